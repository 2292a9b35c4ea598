import PyProof.Rows.All
import Wide.All
import OpenK.AllK
import Wide.FinOn
import HandS.ForMost
import HandS.Wide
import HandS.IsInst
import HandS.Walk
import HandS.Star
import HandS.TupAny
import HandS.Style
import HandS.Deep
import KE.GoesNew
import HandS.SetBool
import HandS.Strs
import HandS.SortInts
import HandS.GenList
import HandS.AnyAll
import HandS.EndBits
import PySem.Challenge.RW_clicktrain_k84_wheels_of_rings
set_option Elab.async false
set_option linter.all false
set_option maxRecDepth 100000
set_option maxHeartbeats 4000000
namespace Ct
open PySem PySem.Spec PyProof.Rows L2
/-! walking a reading, construct by construct -/
section
variable {K : PySem.W.Frag} {H : Hp} {σ : L2.St} {D : Ends} {Q : VK} {QB : Bool → Hp → Prop} {QA : List V → Hp → Prop} {QS : L2.St → Hp → Prop}
theorem w_seq {t u : TS} (h : t { D with nx := u D } σ H) : tSeq t u D σ H := h
theorem w_join {t u : TS} (J : L2.St → Hp → Prop) (h1 : ∀ σ' H', J σ' H' → u D σ' H') (h2 : ∀ N : L2.St → Hp → Prop, (∀ σ' H', J σ' H' → N σ' H') → t { D with nx := N } σ H) : tSeq t u D σ H := h2 (u D) h1
theorem w_asg {te : TE} {g : TG} (h : te σ H fun x H1 => g x σ H1 D.nx) : tAsg te g D σ H := h
theorem w_ret {te : TE} (h : te σ H D.rt) : tRet te D σ H := h
theorem w_ifS {c : TT} {t u : TS} (h : c σ H fun b H1 => if b = true then t D σ H1 else u D σ H1) : tIfS c t u D σ H := h
theorem w_drop {te : TE} (h : te σ H fun _ H1 => D.nx σ H1) : tDrop te D σ H := h
theorem w_next (h : D.nx σ H) : tNext D σ H := h
theorem w_var {i : Nat} {v : V} (e : σ[i]? = some (some v)) (h : Q v H) : tVar i σ H Q := ⟨v, e, h⟩
theorem w_c {v : V} (h : Q v H) : tC v σ H Q := h
theorem w_op {r : R2} {ta tb : TE} (h : ta σ H fun x H1 => tb σ H1 fun y H2 => r x y H2 Q) : tOp r ta tb σ H Q := h
theorem w_chain {r r' : R2} {ta tb tc : TE} (h : ta σ H fun x H1 => tb σ H1 fun y H2 => r x y H2 fun z H3 => ∃ k, z = .bl k ∧ (if k = true then tc σ H3 fun w' H4 => r' y w' H4 Q else Q (.bl false) H3)) : tChain r r' ta tb tc σ H Q := h
theorem w_un {r : V → Hp → VK → Prop} {ta : TE} (h : ta σ H fun x H1 => r x H1 Q) : tUn r ta σ H Q := h
theorem w_test {t : TE} (h : t σ H fun x H' => ∃ k, x = .bl k ∧ QB k H') : tTest t σ H QB := h
theorem w_B {t : TE} (h : t σ H fun x H' => ∃ k, x = .bl k ∧ QB k H') : tB t σ H QB := h
theorem w_and {t u : TT} (h : t σ H fun c H1 => if c = true then u σ H1 QB else QB false H1) : tAnd t u σ H QB := h
theorem w_or {t u : TT} (h : t σ H fun c H1 => if c = true then QB true H1 else u σ H1 QB) : tOr t u σ H QB := h
theorem w_not {t : TT} (h : t σ H fun c H1 => QB (!c) H1) : tNot t σ H QB := h
theorem w_if {t : TT} {ta tb : TE} (h : t σ H fun c H1 => if c = true then ta σ H1 Q else tb σ H1 Q) : tIf t ta tb σ H Q := h
theorem w_nil (h : QA [] H) : tNil σ H QA := h
theorem w_cons {ta : TE} {tr : TA} (h : ta σ H fun x H1 => tr σ H1 fun xs H2 => QA (x :: xs) H2) : tCons ta tr σ H QA := h
theorem w_cb {r : List V → Hp → VK → Prop} {t : TA} (h : t σ H fun vs H1 => r vs H1 Q) : tCB r t σ H Q := h
theorem w_call {sp : Sp} {dvs : List V} {E : XK} {t : TA} (h : t σ H fun vs H1 => sp (vs ++ dvs) H1 Q E) : tCall sp dvs E t σ H Q := h
theorem w_name {i : Nat} {v : V} {σ' : L2.St} (e : σ.set i (some v) = σ') (h : QS σ' H) : gName i v σ H QS := by
  unfold gName
  rw [e]
  exact h
theorem w_rI {C : Int → Int → Prop} {g : Int → Int → V} {i j : Int} (c : C i j) (h : Q (g i j) H) : rI C g (.int i) (.int j) H Q := ⟨i, j, rfl, rfl, c, h⟩
theorem w_rI0 {g : Int → Int → V} {i j : Int} (h : Q (g i j) H) : rI0 g (.int i) (.int j) H Q := ⟨i, j, rfl, rfl, h⟩
theorem w_rU {g : Int → V} {i : Int} (h : Q (g i) H) : rU g (.int i) H Q := ⟨i, rfl, h⟩
theorem w_rEqI {i j : Int} (h : Q (.bl (decide (i = j))) H) : rEq (.int i) (.int j) H Q := by
  refine ⟨rfl, ?_⟩
  rw [show decide (V.int i = V.int j) = decide (i = j) from by
    by_cases e : i = j
    · subst e
      rw [decide_eq_true rfl, decide_eq_true rfl]
    · rw [decide_eq_false e, decide_eq_false fun z => e (V.int.inj z)]]
  exact h
theorem w_rNeI {i j : Int} (h : Q (.bl (!decide (i = j))) H) : rNe (.int i) (.int j) H Q := by
  refine ⟨rfl, ?_⟩
  rw [show decide (V.int i = V.int j) = decide (i = j) from by
    by_cases e : i = j
    · subst e
      rw [decide_eq_true rfl, decide_eq_true rfl]
    · rw [decide_eq_false e, decide_eq_false fun z => e (V.int.inj z)]]
  exact h
theorem w_rEqS {x y : Str} {b : Bool} (e : decide (V.str x = V.str y) = b) (h : Q (.bl b) H) : rEq (.str x) (.str y) H Q := by
  refine ⟨rfl, ?_⟩
  rw [e]
  exact h
theorem w_bl {b : Bool} {QP : Bool → Prop} (h : QP b) : ∃ k, V.bl b = .bl k ∧ QP k := ⟨b, rfl, h⟩
theorem w_in {i : Int} {QP : Int → Prop} (h : QP i) : ∃ k, V.int i = .int k ∧ QP k := ⟨i, rfl, h⟩
theorem w_ixT {p : Addr} {xs : List V} {i : Int} {v : V} (h : SqT K H p xs) (e : atI xs i = some v) (q : Q v H) : rIxT K (.ref p) (.int i) H Q := ⟨p, xs, i, v, rfl, rfl, h, e, q⟩
theorem w_ixL {p : Addr} {xs : List V} {i : Int} {v : V} (h : SqL K H p xs) (e : atI xs i = some v) (q : Q v H) : rIxL K (.ref p) (.int i) H Q := ⟨p, xs, i, v, rfl, rfl, h, e, q⟩
theorem w_tup {t : TA} (h : t σ H fun xs H1 => xs.length ≤ sizeLine ∧ ∀ p, H1 p = none → Q (.ref p) (upd H1 p (.tup xs))) : tTup t σ H Q := h
theorem w_lst {t : TA} (h : t σ H fun xs H1 => xs.length ≤ sizeLine ∧ ∀ p, H1 p = none → Q (.ref p) (upd H1 p (.lst xs))) : tLst t σ H Q := h
theorem w_bm {T : String} {r : V → List V → Hp → VK → Prop} {to : TE} {t : TA} (h : to σ H fun x H1 => tyV K T x H1 ∧ t σ H1 fun xs H2 => r x xs H2 Q) : tBM K T r to t σ H Q := h
theorem w_inT {p : Addr} {x : Int} {ns : List Int} (h : SqT K H p (ns.map V.int)) (q : Q (.bl (decide (x ∈ ns))) H) : rIn K false (.int x) (.ref p) H Q := by
  refine ⟨p, ns.map V.int, rfl, .inr h, rfl, ?_, ?_⟩
  · rw [List.all_map]
    exact List.all_eq_true.mpr fun _ _ => rfl
  · rw [if_neg Bool.false_ne_true]
    rw [show inV (.int x) (ns.map V.int) = decide (x ∈ ns) from by
      unfold inV
      rw [List.any_map]
      by_cases e : x ∈ ns
      · rw [decide_eq_true e, List.any_eq_true]
        exact ⟨x, e, by show (x == x) = true; exact beq_self_eq_true x⟩
      · rw [decide_eq_false e, List.any_eq_false]
        intro y hy
        show ¬ (y == x) = true
        intro z
        have : y = x := eq_of_beq z
        subst this
        exact e hy]
    exact q
theorem w_break (h : D.bk σ H) : tBreak D σ H := h
theorem w_cont (h : D.ct σ H) : tCont D σ H := h
theorem w_nT {A B : Prop} (h : B) : if (!true) = true then A else B := h
theorem w_nF {A B : Prop} (h : A) : if (!false) = true then A else B := h
theorem w_ite {c A B : Prop} [Decidable c] (h1 : c → A) (h2 : ¬ c → B) : if (decide c) = true then A else B := by
  by_cases h : c
  · rw [if_pos (decide_eq_true h)]
    exact h1 h
  · rw [if_neg (by rw [decide_eq_false h]; exact Bool.false_ne_true)]
    exact h2 h
theorem w_iteN {c A B : Prop} [Decidable c] (h1 : ¬ c → A) (h2 : c → B) : if (!decide c) = true then A else B := by
  by_cases h : c
  · rw [decide_eq_true h]
    exact iteF (h2 h)
  · rw [decide_eq_false h]
    exact iteT (h1 h)
theorem w_st {t : TS} {σ' : L2.St} (e : σ = σ') (h : t D σ' H) : t D σ H := by
  rw [e]
  exact h
end
/-! heaps -/
theorem same_new {H0 H : Hp} {p : Addr} {o : HO} (s : Same H0 H) (h : H0 p = none) : Same H0 (upd H p o) := fun b x e => by
  rw [upd_ne (ne_of_none e h)]
  exact s b x e
theorem same_upd {H : Hp} {p : Addr} {o : HO} (h : H p = none) : Same H (upd H p o) := same_new (Same.refl H) h
theorem Same.tup {K : PySem.W.Frag} {H H' : Hp} {a : Addr} {xs : List V} (e : Same H H') (h : SqT K H a xs) : SqT K H' a xs := by
  rcases h with (h | ⟨o, h⟩) | h
  · exact .inl (.inl (e _ _ h))
  · exact .inl (.inr ⟨o, e _ _ h⟩)
  · exact .inr h
theorem Same.new {H H' : Hp} {p : Addr} (s : Same H H') (h : H' p = none) : H p = none := s.free h
mutual
theorem dp_same {K : PySem.W.Frag} {H H' : Hp} (e : Same H H') : ∀ {v : V} {d : PyData}, Dp K H v d → Dp K H' v d
  | _, _, .non => .non
  | _, _, .bl b => .bl b
  | _, _, .int i => .int i
  | _, _, .str x => .str x
  | _, _, .lst h t => .lst (e.seq h) (dpAll_same e t)
  | _, _, .tup h t => .tup (Same.tup e h) (dpAll_same e t)
theorem dpAll_same {K : PySem.W.Frag} {H H' : Hp} (e : Same H H') : ∀ {vs : List V} {ds : List PyData}, DpAll K H vs ds → DpAll K H' vs ds
  | _, _, .nil => .nil
  | _, _, .cons h t => .cons (dp_same e h) (dpAll_same e t)
end
theorem dpAll_len {K : PySem.W.Frag} {H : Hp} : ∀ {vs : List V} {ds : List PyData}, DpAll K H vs ds → vs.length = ds.length
  | _, _, .nil => rfl
  | _, _, .cons _ t => by rw [List.length_cons, List.length_cons, dpAll_len t]
theorem dpAll_get {K : PySem.W.Frag} {H : Hp} : ∀ {vs : List V} {ds : List PyData} {i : Nat} {d : PyData}, DpAll K H vs ds → ds[i]? = some d → ∃ v, vs[i]? = some v ∧ Dp K H v d
  | _, _, _, _, .nil, e => by simp at e
  | _, _, 0, _, .cons h _, e => by
    cases (Option.some.inj e)
    exact ⟨_, rfl, h⟩
  | _, _, i + 1, _, .cons _ t, e => dpAll_get (i := i) t e
theorem dpAll_ints {K : PySem.W.Frag} {H : Hp} : ∀ (ns : List Int), DpAll K H (ns.map V.int) (ns.map PyData.int)
  | [] => .nil
  | n :: r => .cons (.int n) (dpAll_ints r)
theorem dpAll_ints_inv {K : PySem.W.Frag} {H : Hp} : ∀ {vs : List V} (ns : List Int), DpAll K H vs (ns.map PyData.int) → vs = ns.map V.int
  | _, [], .nil => rfl
  | _, n :: r, .cons (.int _) t => by rw [dpAll_ints_inv r t, List.map_cons]
theorem dpAll_app {K : PySem.W.Frag} {H : Hp} : ∀ {vs ws : List V} {ds es : List PyData}, DpAll K H vs ds → DpAll K H ws es → DpAll K H (vs ++ ws) (ds ++ es)
  | _, _, _, _, .nil, h => h
  | _, _, _, _, .cons a t, h => .cons a (dpAll_app t h)
theorem ix_at {n j : Nat} {k : Int} (e : k = (j : Int)) (h : j < n) : ixN n k = some j := by
  subst e
  unfold ixN
  rw [if_pos (Int.natCast_nonneg j), if_pos (by omega)]
  rfl
theorem cutV_map (ms : List Int) (lo hi : Option Int) : cutV (ms.map V.int) lo hi = ((ms.drop (HT.sIx ms.length 0 lo)).take (HT.sIx ms.length ms.length hi - HT.sIx ms.length 0 lo)).map V.int := by
  unfold cutV
  rw [List.length_map, List.map_take, List.map_drop]
theorem at0 {x : V} {r : List V} : atI (x :: r) 0 = some x := atI_nat (xs := x :: r) (j := 0) rfl
theorem at1 {x y : V} {r : List V} : atI (x :: y :: r) 1 = some y := atI_nat (xs := x :: y :: r) (j := 1) rfl
theorem at2 {x y z : V} {r : List V} : atI (x :: y :: z :: r) 2 = some z := atI_nat (xs := x :: y :: z :: r) (j := 2) rfl
theorem len2 {n : Nat} (h : Nat.ble n sizeLine = true) : n ≤ sizeLine := Nat.le_of_ble_eq_true h
/-! sizes of numbers -/
theorem div_ok {i j : Int} (h : 0 < j) (h2 : j < 2 ^ 250) : CDivW i j := wide_div (b := 250) h (by omega) (by decide) (by decide)
theorem mul_ok {i j : Int} (h1 : -(2 ^ 250) < i) (h2 : i < 2 ^ 250) (h3 : -(2 ^ 250) < j) (h4 : j < 2 ^ 250) : CMulW i j := wide_mul (a := 250) (b := 250) (by omega) (by omega) (by decide) (by decide) (by decide)
/-- a power whose bits are few -/
def CPowB (i j : Int) : Prop := 0 ≤ j ∧ (Builtin.Int.intBits i : Int) * j ≤ 2 ^ 27
theorem op_powB {X : Cx} : OpR X (binaryOp .Pow) (rI CPowB fun i j => .int (i ^ j.toNat)) := opI fun _ _ _ _ _ _ _ hc q => pow_int hc.1 hc.2 q
/-! loops, targets, stores -/
section
variable {K : PySem.W.Frag} {H : Hp} {σ : L2.St} {D : Ends} {Q : VK} {QA : List V → Hp → Prop} {QS : L2.St → Hp → Prop} {R : It → Hp → Prop}
def FB (J : It) (g : TG) (tb : TS) (D : Ends) (σ : L2.St) (H : Hp) : Prop := tFor (fun _ H R => R J H) g tb D σ H
theorem w_for {wi : TI} {g : TG} {tb : TS} (h : wi σ H fun J H1 => FB J g tb D σ H1) : tFor wi g tb D σ H := h
def RG1 (vs : List V) (H : Hp) (R : It → Hp → Prop) : Prop := iRng1 (fun _ H Q => Q vs H) [] H R
def RG2 (vs : List V) (H : Hp) (R : It → Hp → Prop) : Prop := iRng2 (fun _ H Q => Q vs H) [] H R
theorem w_rng1 {ta : TA} (h : ta σ H fun vs H1 => RG1 vs H1 R) : iRng1 ta σ H R := h
theorem w_rng2 {ta : TA} (h : ta σ H fun vs H1 => RG2 vs H1 R) : iRng2 ta σ H R := h
theorem w_RG1 {j : Int} (h1 : -(2 ^ 62) ≤ j) (h2 : j < 2 ^ 62) (h : R (Itr 0 j.toNat) H) : RG1 [.int j] H R := ⟨j, rfl, h1, h2, h⟩
theorem w_RG2 {i j : Int} (h1 : -(2 ^ 62) ≤ i) (h2 : i < 2 ^ 62) (h3 : -(2 ^ 62) ≤ j) (h4 : j < 2 ^ 62) (h : R (Itr i (j - i).toNat) H) : RG2 [.int i, .int j] H R := ⟨i, j, rfl, ⟨h1, h2, h3, h4⟩, h⟩
def IL (K : PySem.W.Frag) (v : V) (H : Hp) (R : It → Hp → Prop) : Prop := iList K (tC v) [] H R
def IT (K : PySem.W.Frag) (v : V) (H : Hp) (R : It → Hp → Prop) : Prop := iTup K (tC v) [] H R
theorem w_ilist {tl : TE} (h : tl σ H fun v H1 => IL K v H1 R) : iList K tl σ H R := h
theorem w_itup {tl : TE} (h : tl σ H fun v H1 => IT K v H1 R) : iTup K tl σ H R := h
theorem w_IL {a : Addr} {xs : List V} (h : SqL K H a xs) (q : R (Itl K a) H) : IL K (.ref a) H R := ⟨a, rfl, ⟨xs, h⟩, q⟩
theorem w_IT {a : Addr} {xs : List V} (h : SqT K H a xs) (q : R (Itt K a) H) : IT K (.ref a) H R := ⟨a, rfl, ⟨xs, h⟩, q⟩
theorem fb_range {lo : Int} {n : Nat} {g : TG} {tb : TS} (Pv : Nat → L2.St → Hp → Prop) (h0 : Pv 0 σ H)
    (hs : ∀ i σ H, i < n → Pv i σ H → g (.int (lo + i)) σ H fun σ2 H2 => tb { D with nx := Pv (i + 1), ct := Pv (i + 1), bk := D.nx } σ2 H2) (hd : ∀ σ H, Pv n σ H → D.nx σ H) : FB (Itr lo n) g tb D σ H := for_range Pv h0 hs hd
theorem fb_list {a : Addr} (xs : List V) {g : TG} {tb : TS} (Pv : Nat → L2.St → Hp → Prop) (h0 : Pv 0 σ H) (hl : ∀ i σ H, i ≤ xs.length → Pv i σ H → SqL K H a xs)
    (hs : ∀ i x σ H, xs[i]? = some x → Pv i σ H → g x σ H fun σ2 H2 => tb { D with nx := Pv (i + 1), ct := Pv (i + 1), bk := D.nx } σ2 H2) (hd : ∀ σ H, Pv xs.length σ H → D.nx σ H) : FB (Itl K a) g tb D σ H := for_list Pv h0 hl hs hd
theorem fb_tup {a : Addr} (xs : List V) {g : TG} {tb : TS} (Pv : Nat → L2.St → Hp → Prop) (h0 : Pv 0 σ H) (hl : ∀ i σ H, i ≤ xs.length → Pv i σ H → SqT K H a xs)
    (hs : ∀ i x σ H, xs[i]? = some x → Pv i σ H → g x σ H fun σ2 H2 => tb { D with nx := Pv (i + 1), ct := Pv (i + 1), bk := D.nx } σ2 H2) (hd : ∀ σ H, Pv xs.length σ H → D.nx σ H) : FB (Itt K a) g tb D σ H := for_tup Pv h0 hl hs hd
def LB (J : It) (g : TG) (tt : TT) (te : TE) (vs : List Nat) (σ : L2.St) (H : Hp) (Q : VK) : Prop := tLc (fun _ H R => R J H) g tt te vs σ H Q
theorem w_lc {wi : TI} {g : TG} {tt : TT} {te : TE} {vs : List Nat} (h : wi σ H fun J H1 => LB J g tt te vs σ H1 Q) : tLc wi g tt te vs σ H Q := h
theorem lb_range {lo : Int} {n : Nat} {g : TG} {tt : TT} {te : TE} {vs : List Nat} (Pv : Addr → Nat → Hp → Prop) (h0 : ∀ D, H D = none → Pv D 0 (upd H D (.lst [])))
    (hs : ∀ D, H D = none → ∀ i H1, i < n → Pv D i H1 → g (.int (lo + i)) (wipe σ vs) H1 fun σ2 H2 => wipe σ2 vs = wipe σ vs ∧ tt σ2 H2 fun b H3 =>
      if b = true then te σ2 H3 fun y H4 => ∃ acc, H4 D = some (.lst acc) ∧ acc.length < sizeLine ∧ Pv D (i + 1) (upd H4 D (.lst (acc ++ [y]))) else Pv D (i + 1) H3) (hd : ∀ D, H D = none → ∀ H1, Pv D n H1 → Q (.ref D) H1) : LB (Itr lo n) g tt te vs σ H Q :=
  fun D hD => lc_range (Pv D) (h0 D hD) (hs D hD) (hd D hD)
theorem lb_list {a : Addr} (xs : List V) {g : TG} {tt : TT} {te : TE} {vs : List Nat} (Pv : Addr → Nat → Hp → Prop) (h0 : ∀ D, H D = none → Pv D 0 (upd H D (.lst []))) (hl : ∀ D, H D = none → ∀ i H1, i ≤ xs.length → Pv D i H1 → SqL K H1 a xs)
    (hs : ∀ D, H D = none → ∀ i x H1, xs[i]? = some x → Pv D i H1 → g x (wipe σ vs) H1 fun σ2 H2 => wipe σ2 vs = wipe σ vs ∧ tt σ2 H2 fun b H3 =>
      if b = true then te σ2 H3 fun y H4 => ∃ acc, H4 D = some (.lst acc) ∧ acc.length < sizeLine ∧ Pv D (i + 1) (upd H4 D (.lst (acc ++ [y]))) else Pv D (i + 1) H3) (hd : ∀ D, H D = none → ∀ H1, Pv D xs.length H1 → Q (.ref D) H1) : LB (Itl K a) g tt te vs σ H Q :=
  fun D hD => lc_list (Pv D) (h0 D hD) (hl D hD) (hs D hD) (hd D hD)
def IE (K : PySem.W.Frag) (vs : List V) (H : Hp) (R : It → Hp → Prop) : Prop := iEnum K (fun _ H Q => Q vs H) [] H R
theorem w_enum {ta : TA} (h : ta σ H fun vs H1 => IE K vs H1 R) : iEnum K ta σ H R := h
theorem w_IE {a : Addr} {xs : List V} (h : SqL K H a xs) (q : R (Ite K a) H) : IE K [.ref a] H R := ⟨a, xs, rfl, h, q⟩
theorem lb_enum {a : Addr} (xs : List V) {g : TG} {tt : TT} {te : TE} {vs : List Nat} (Pv : Addr → Nat → Hp → Prop) (h0 : ∀ D, H D = none → Pv D 0 (upd H D (.lst []))) (hl : ∀ D, H D = none → ∀ i H1, i ≤ xs.length → Pv D i H1 → SqL K H1 a xs)
    (hs : ∀ D, H D = none → ∀ i v T H1, xs[i]? = some v → Pv D i H1 → H1 T = none → g (.ref T) (wipe σ vs) (upd H1 T (.tup [.int (i : Nat), v])) fun σ2 H2 => wipe σ2 vs = wipe σ vs ∧ tt σ2 H2 fun b H3 =>
      if b = true then te σ2 H3 fun y H4 => ∃ acc, H4 D = some (.lst acc) ∧ acc.length < sizeLine ∧ Pv D (i + 1) (upd H4 D (.lst (acc ++ [y]))) else Pv D (i + 1) H3) (hd : ∀ D, H D = none → ∀ H1, Pv D xs.length H1 → Q (.ref D) H1) : LB (Ite K a) g tt te vs σ H Q :=
  fun D hD => lc_it (walk_enum (xs := xs)) (Pv D) (h0 D hD) (hl D hD) (fun i x H1 H2 _ p y => by
    obtain ⟨T, u, v, rfl, hT, rfl, e1, e2⟩ := y
    cases Option.some.inj e1
    exact hs D hD i v T H1 e2 p hT) (hd D hD)
theorem w_yes {QB : Bool → Hp → Prop} (h : QB true H) : tYes σ H QB := h
theorem w_gtup {n : Nat} {t : TGs} {a : Addr} {xs : List V} (h : SqT K H a xs) (e : xs.length = n) (q : t xs σ H QS) : gTup K n t (.ref a) σ H QS := ⟨a, xs, rfl, h, e, q⟩
theorem w_gcons {t : TG} {u : TGs} {v : V} {r : List V} (h : t v σ H fun σ' H' => u r σ' H' QS) : gCons t u (v :: r) σ H QS := ⟨v, r, rfl, h⟩
theorem w_gnil (h : QS σ H) : gNil [] σ H QS := ⟨rfl, h⟩
theorem w_gsub {to ti : TE} {t : TSet} {v : V} (h : to σ H fun o H1 => ti σ H1 fun i H2 => t o i v H2 fun H3 => QS σ H3) : gSub to ti t v σ H QS := h
theorem w_setL {p : Addr} {xs : List V} {k : Int} {j : Nat} {v : V} {QH : Hp → Prop} (h : H p = some (.lst xs)) (e : ixN xs.length k = some j) (q : QH (upd H p (.lst (xs.set j v)))) : rSetL (.ref p) (.int k) v H QH := ⟨p, xs, k, j, rfl, rfl, h, e, q⟩
theorem w_aug {i : Nat} {te : TE} {ti : TIp} {x : V} (e : σ[i]? = some (some x)) (h : te σ H fun y H1 => ti x y H1 fun z H2 => D.nx (σ.set i (some z)) H2) : tAug i te ti D σ H := ⟨x, e, h⟩
theorem w_ipI {f : Int → Int → Int} {i j : Int} (h : Q (.int (f i j)) H) : ipI f (.int i) (.int j) H Q := ⟨i, j, rfl, rfl, h⟩
theorem w_append {l : Addr} {xs : List V} {y : V} (h : H l = some (.lst xs)) (hl : xs.length < sizeLine) (q : Q .non (upd H l (.lst (xs ++ [y])))) : rAppend (.ref l) [y] H Q := ⟨l, xs, y, rfl, rfl, h, hl, q⟩
theorem ty_list {l : Addr} {xs : List V} (h : H l = some (.lst xs)) : tyV K "list" (.ref l) H := .inl ⟨rfl, _, .inl (.inl h)⟩
theorem w_mod {i j : Int} (h : 0 < j) (q : ∀ r, 0 ≤ r → r < j → Q (.int r) H) : rI (fun _ j => 0 < j) (fun i j => .int (i % j)) (.int i) (.int j) H Q :=
  ⟨i, j, rfl, rfl, h, q _ (Int.emod_nonneg _ (by omega)) (Int.emod_lt_of_pos _ h)⟩
theorem w_div {i j : Int} (h : CDivW i j) (q : ∀ r, Q (.int r) H) : rI CDivW (fun i j => .int (i / j)) (.int i) (.int j) H Q := ⟨i, j, rfl, rfl, h, q _⟩
theorem w_rIv {C : Int → Int → Prop} {g : Int → Int → V} {i j : Int} (v : V) (c : C i j) (e : g i j = v) (h : Q v H) : rI C g (.int i) (.int j) H Q := ⟨i, j, rfl, rfl, c, by rw [e]; exact h⟩
theorem w_isi {x : V} {n : String} {t : Value} {b : Bool} (ty : TyX K H x t) (k : PySem.W.kitOne K t (.type n) = some b) (q : Q (.bl b) H) : rIsi K [x, .ty n] H Q := ⟨x, .ty n, t, .type n, b, rfl, .ty n, ty, k, q⟩
theorem w_andV {ta tb : TE} (h : ta σ H fun x H1 => ∃ c, x = .bl c ∧ if c = true then tb σ H1 Q else Q (.bl false) H1) : tAndV ta tb σ H Q := h
theorem w_orV {ta tb : TE} (h : ta σ H fun x H1 => ∃ c, x = .bl c ∧ if c = true then Q (.bl true) H1 else tb σ H1 Q) : tOrV ta tb σ H Q := h
theorem w_notV {ta : TE} (h : ta σ H fun x H1 => ∃ c, x = .bl c ∧ Q (.bl (!c)) H1) : tNotV ta σ H Q := h
theorem w_slL {a : Addr} {xs : List V} {lo hi : Option Int} (h : SqL K H a xs) (q : ∀ p, H p = none → Q (.ref p) (upd H p (.lst (cutV xs lo hi)))) : rSlL K (.ref a) lo hi H Q := ⟨a, xs, rfl, h, q⟩
theorem w_sl {r : V → Option Int → Option Int → Hp → VK → Prop} {te : TE} {tl th : TO} (h : te σ H fun x H1 => tl σ H1 fun l H2 => th σ H2 fun u H3 => r x l u H3 Q) : tSl r te tl th σ H Q := h
theorem w_nopart {QO : Option Int → Hp → Prop} (h : QO none H) : tNoPart σ H QO := h
theorem w_part {QO : Option Int → Hp → Prop} {t : TE} (h : t σ H fun x H1 => ∃ i, x = .int i ∧ QO (some i) H1) : tPart t σ H QO := h
end
end Ct

namespace Ct
open PySem PySem.Spec PyProof.Rows L2
/-! parts, stands, what a push does -/
inductive Part where
  | wheel (z : Int) (ms : List Int) | click | rocker | spring (k : Int)
def Part.data : Part → PyData
  | .wheel z ms => .tuple [.str "wheel", .int z, .tuple (ms.map PyData.int)]
  | .click => .tuple [.str "click"]
  | .rocker => .tuple [.str "rocker"]
  | .spring k => .tuple [.str "spring", .int k]
def Part.places : Part → Int
  | .wheel z _ => z
  | .click => 1
  | .rocker => 2
  | .spring k => k
def Rise (z : Int) (ms : List Int) : Prop := ms.Pairwise (· < ·) ∧ ∀ m ∈ ms, 0 ≤ m ∧ m < z
def Part.ok : Part → Prop
  | .wheel z ms => 1 ≤ z ∧ z < 2 ^ 200 ∧ Rise z ms ∧ ms.length ≤ 1000
  | .click => True
  | .rocker => True
  | .spring k => 1 ≤ k ∧ k < 2 ^ 200
theorem Part.ok.pos {p : Part} (h : p.ok) : 1 ≤ p.places ∧ p.places < 2 ^ 200 := by
  cases p with
  | wheel z ms => exact ⟨h.1, h.2.1⟩
  | click => exact ⟨by decide, by decide⟩
  | rocker => exact ⟨by decide, by decide⟩
  | spring k => exact h
/-- the new place and what is given -/
def pp : Part → Int → Int → Int × Int
  | .wheel z ms, x, w => ((x + w) % z, if (if w = 1 then (x + w) % z else x) ∈ ms then w else 0)
  | .click, _, w => (0, if w = 1 then 1 else 0)
  | .rocker, x, w => (if w = 1 then 1 else 0, if w = 1 ∧ x = 0 then 1 else 0)
  | .spring k, x, w => if w = 1 then (if x = k - 1 then (0, 1) else (x + 1, 0)) else (if x - 1 > 0 then x - 1 else 0, 0)
def stands : List Part → Int
  | [] => 1
  | p :: r => p.places * stands r
def Sign (w : Int) : Prop := w = 1 ∨ w = -1
theorem pp_sign (p : Part) (x w : Int) (h : Sign w) : (pp p x w).2 = 0 ∨ Sign (pp p x w).2 := by
  cases p with
  | wheel z ms =>
    by_cases e : (if w = 1 then (x + w) % z else x) ∈ ms
    · rw [show (pp (.wheel z ms) x w).2 = w from if_pos e]
      exact .inr h
    · exact .inl (if_neg e)
  | click =>
    show (if w = 1 then (1 : Int) else 0) = 0 ∨ Sign (if w = 1 then (1 : Int) else 0)
    split
    · exact .inr (.inl rfl)
    · exact .inl rfl
  | rocker =>
    show (if w = 1 ∧ x = 0 then (1 : Int) else 0) = 0 ∨ Sign (if w = 1 ∧ x = 0 then (1 : Int) else 0)
    split
    · exact .inr (.inl rfl)
    · exact .inl rfl
  | spring k =>
    show (if w = 1 then (if x = k - 1 then ((0 : Int), (1 : Int)) else (x + 1, 0)) else (if x - 1 > 0 then x - 1 else 0, 0)).2 = 0 ∨ Sign (if w = 1 then (if x = k - 1 then ((0 : Int), (1 : Int)) else (x + 1, 0)) else (if x - 1 > 0 then x - 1 else 0, 0)).2
    split
    · split
      · exact .inr (.inl rfl)
      · exact .inl rfl
    · exact .inl rfl
/-- one part's turn in a push that goes along a train -/
def stp (ps : List Part) (s : List Int × Int) (n : Nat) : List Int × Int :=
  if s.2 = 0 then s else match ps[n]?, s.1[n]? with
    | some p, some x => (s.1.set n (pp p x s.2).1, (pp p x s.2).2)
    | _, _ => s
def runN (ps : List Part) (i : Nat) (s : List Int × Int) : Nat → List Int × Int
  | 0 => s
  | n + 1 => stp ps (runN ps i s n) (i + n)
theorem stp_zero {ps : List Part} {s : List Int × Int} {n : Nat} (h : s.2 = 0) : stp ps s n = s := by
  unfold stp
  rw [if_pos h]
theorem stp_at {ps : List Part} {s : List Int × Int} {n : Nat} {p : Part} {x : Int} (h : s.2 ≠ 0) (hp : ps[n]? = some p) (hx : s.1[n]? = some x) : stp ps s n = (s.1.set n (pp p x s.2).1, (pp p x s.2).2) := by
  unfold stp
  rw [if_neg h, hp, hx]
theorem runN_zero {ps : List Part} {i : Nat} {s : List Int × Int} {n : Nat} (h : (runN ps i s n).2 = 0) : ∀ m, runN ps i s (n + m) = runN ps i s n
  | 0 => rfl
  | m + 1 => by
    show stp ps (runN ps i s (n + m)) _ = _
    rw [runN_zero h m]
    exact stp_zero h
theorem stp_len (ps : List Part) (s : List Int × Int) (n : Nat) : (stp ps s n).1.length = s.1.length := by
  unfold stp
  split
  · rfl
  · split
    · show (s.1.set n _).length = _
      rw [List.length_set]
    · rfl
theorem runN_len (ps : List Part) (i : Nat) (s : List Int × Int) : ∀ n, (runN ps i s n).1.length = s.1.length
  | 0 => rfl
  | n + 1 => by
    show (stp ps _ _).1.length = _
    rw [stp_len, runN_len ps i s n]
theorem stp_other {ps : List Part} {s : List Int × Int} {n m : Nat} (h : n ≠ m) : (stp ps s n).1[m]? = s.1[m]? := by
  unfold stp
  split
  · rfl
  · split
    · show (s.1.set n _)[m]? = _
      rw [List.getElem?_set_ne h]
    · rfl
/-- parts not come to yet stand as they stood -/
theorem runN_ahead (ps : List Part) (i : Nat) (s : List Int × Int) : ∀ n m, i + n ≤ m → (runN ps i s n).1[m]? = s.1[m]?
  | 0, _, _ => rfl
  | n + 1, m, h => by
    show (stp ps _ _).1[m]? = _
    rw [stp_other (by omega), runN_ahead ps i s n m (by omega)]
theorem runN_sign (ps : List Part) (i : Nat) (s : List Int × Int) (h : Sign s.2) : ∀ n, (runN ps i s n).2 = 0 ∨ Sign (runN ps i s n).2
  | 0 => .inr h
  | n + 1 => by
    show (stp ps _ _).2 = 0 ∨ Sign (stp ps _ _).2
    rcases runN_sign ps i s h n with e | e
    · rw [stp_zero e]
      exact .inl e
    · unfold stp
      split
      · rename_i z
        exact .inl z
      · split
        · exact pp_sign _ _ _ e
        · exact .inr e
def StandOk (ps : List Part) (xs : List Int) : Prop := xs.length = ps.length ∧ ∀ (i : Nat) (p : Part) (x : Int), ps[i]? = some p → xs[i]? = some x → 0 ≤ x ∧ x < p.places
def run (ps : List Part) (xs : List Int) (i : Nat) (w : Int) : List Int × Int := runN ps i (xs, w) (ps.length - i)
/-! what stands for a part -/
section
variable {K : PySem.W.Frag} {H : Hp}
theorem tup_inv {v : V} {ds : List PyData} (h : Dp K H v (.tuple ds)) : ∃ a vs, v = .ref a ∧ SqT K H a vs ∧ DpAll K H vs ds := by
  cases h with
  | tup h t => exact ⟨_, _, rfl, h, t⟩
theorem lst_inv {v : V} {ds : List PyData} (h : Dp K H v (.list ds)) : ∃ a vs, v = .ref a ∧ SqL K H a vs ∧ DpAll K H vs ds := by
  cases h with
  | lst h t => exact ⟨_, _, rfl, h, t⟩
theorem wheel_inv {v : V} {z : Int} {ms : List Int} (h : Dp K H v (Part.wheel z ms).data) : ∃ a b, v = .ref a ∧ SqT K H a [.str "wheel", .int z, .ref b] ∧ SqT K H b (ms.map V.int) := by
  obtain ⟨a, vs, rfl, hs, ht⟩ := tup_inv h
  cases ht with
  | cons h1 t1 => cases h1; cases t1 with
    | cons h2 t2 => cases h2; cases t2 with
      | cons h3 t3 =>
        cases t3
        obtain ⟨b, ws, rfl, hb, hw⟩ := tup_inv h3
        cases dpAll_ints_inv ms hw
        exact ⟨a, b, rfl, hs, hb⟩
theorem spring_inv {v : V} {k : Int} (h : Dp K H v (Part.spring k).data) : ∃ a, v = .ref a ∧ SqT K H a [.str "spring", .int k] := by
  obtain ⟨a, vs, rfl, hs, ht⟩ := tup_inv h
  cases ht with
  | cons h1 t1 => cases h1; cases t1 with
    | cons h2 t2 => cases h2; cases t2; exact ⟨a, rfl, hs⟩
theorem click_inv {v : V} (h : Dp K H v Part.click.data) : ∃ a, v = .ref a ∧ SqT K H a [.str "click"] := by
  obtain ⟨a, vs, rfl, hs, ht⟩ := tup_inv h
  cases ht with
  | cons h1 t1 => cases h1; cases t1; exact ⟨a, rfl, hs⟩
theorem rocker_inv {v : V} (h : Dp K H v Part.rocker.data) : ∃ a, v = .ref a ∧ SqT K H a [.str "rocker"] := by
  obtain ⟨a, vs, rfl, hs, ht⟩ := tup_inv h
  cases ht with
  | cons h1 t1 => cases h1; cases t1; exact ⟨a, rfl, hs⟩
theorem wheel_dp {a b : Addr} {z : Int} {ms : List Int} (h : SqT K H a [.str "wheel", .int z, .ref b]) (hb : SqT K H b (ms.map V.int)) : Dp K H (.ref a) (Part.wheel z ms).data :=
  .tup h (.cons (.str _) (.cons (.int _) (.cons (.tup hb (dpAll_ints ms)) .nil)))
theorem spring_dp {a : Addr} {k : Int} (h : SqT K H a [.str "spring", .int k]) : Dp K H (.ref a) (Part.spring k).data := .tup h (.cons (.str _) (.cons (.int _) .nil))
theorem click_dp {a : Addr} (h : SqT K H a [.str "click"]) : Dp K H (.ref a) Part.click.data := .tup h (.cons (.str _) .nil)
theorem rocker_dp {a : Addr} (h : SqT K H a [.str "rocker"]) : Dp K H (.ref a) Part.rocker.data := .tup h (.cons (.str _) .nil)
/-- a train at a: its parts -/
def TrainAt (K : PySem.W.Frag) (H : Hp) (a : Addr) (ps : List Part) : Prop := ∃ vs, SqL K H a vs ∧ DpAll K H vs (ps.map Part.data)
theorem TrainAt.same {H' : Hp} {a : Addr} {ps : List Part} (e : Same H H') (h : TrainAt K H a ps) : TrainAt K H' a ps := by
  obtain ⟨vs, h1, h2⟩ := h
  exact ⟨vs, e.seq h1, dpAll_same e h2⟩
theorem TrainAt.at {a : Addr} {ps : List Part} {vs : List V} (h2 : DpAll K H vs (ps.map Part.data)) {i : Nat} {p : Part} (e : ps[i]? = some p) : ∃ v, vs[i]? = some v ∧ Dp K H v p.data :=
  dpAll_get h2 (by rw [List.getElem?_map, e]; rfl)
end
/-- a list that is changed leaves the parts as they are -/
theorem sqT_upd {K : PySem.W.Frag} {H : Hp} {a l : Addr} {xs ws : List V} {o : HO} (h : SqT K H a xs) (hl : H l = some (.lst ws)) : SqT K (upd H l o) a xs := by
  rcases h with (h | ⟨u, h⟩) | h
  · exact .inl (.inl (by rw [upd_ne (ne_of h hl (by intro z; cases z))]; exact h))
  · exact .inl (.inr ⟨u, by rw [upd_ne (ne_of h hl (by intro z; cases z))]; exact h⟩)
  · exact .inr h
theorem part_upd {K : PySem.W.Frag} {H : Hp} {l : Addr} {ws : List V} {o : HO} {v : V} {p : Part} (h : Dp K H v p.data) (hl : H l = some (.lst ws)) : Dp K (upd H l o) v p.data := by
  cases p with
  | wheel z ms =>
    obtain ⟨a, b, rfl, ha, hb⟩ := wheel_inv h
    exact wheel_dp (sqT_upd ha hl) (sqT_upd hb hl)
  | click =>
    obtain ⟨a, rfl, ha⟩ := click_inv h
    exact click_dp (sqT_upd ha hl)
  | rocker =>
    obtain ⟨a, rfl, ha⟩ := rocker_inv h
    exact rocker_dp (sqT_upd ha hl)
  | spring k =>
    obtain ⟨a, rfl, ha⟩ := spring_inv h
    exact spring_dp (sqT_upd ha hl)
theorem parts_upd {K : PySem.W.Frag} {H : Hp} {l : Addr} {ws : List V} {o : HO} (hl : H l = some (.lst ws)) : ∀ {vs : List V} (ps : List Part), DpAll K H vs (ps.map Part.data) → DpAll K (upd H l o) vs (ps.map Part.data)
  | _, [], .nil => .nil
  | _, p :: r, .cons h t => .cons (part_upd h hl) (parts_upd hl r t)
theorem stands_app : ∀ (ps : List Part) (p : Part), stands (ps ++ [p]) = stands ps * p.places
  | [], p => by
    show p.places * 1 = 1 * p.places
    rw [Int.mul_one, Int.one_mul]
  | a :: r, p => by
    show a.places * stands (r ++ [p]) = a.places * stands r * p.places
    rw [stands_app r p, Int.mul_assoc]
theorem stands_pos : ∀ (ps : List Part), (∀ p ∈ ps, p.ok) → 1 ≤ stands ps
  | [], _ => Int.le_refl _
  | a :: r, h => by
    have h1 := (h a List.mem_cons_self).pos.1
    have h2 := stands_pos r fun p hp => h p (List.mem_cons_of_mem _ hp)
    show 1 ≤ a.places * stands r
    have := Int.mul_le_mul h1 h2 (by decide) (by omega)
    omega
theorem room_step {s pl room most : Int} (hs : 1 ≤ s) (h1 : 1 ≤ pl) (h2 : pl ≤ room) (h : s * room ≤ most) : 1 ≤ room / pl ∧ s * pl * (room / pl) ≤ most := by
  refine ⟨Int.le_ediv_of_mul_le (by omega) (by omega), ?_⟩
  rw [Int.mul_assoc]
  exact Int.le_trans (Int.mul_le_mul_of_nonneg_left (Int.mul_ediv_self_le (by omega)) (by omega)) h
theorem room_end {s room most : Int} (hs : 1 ≤ s) (h1 : 1 ≤ room) (h : s * room ≤ most) : s ≤ most := by
  have := Int.mul_le_mul_of_nonneg_left h1 (show 0 ≤ s by omega)
  omega
/-! data that can be laid -/
theorem canLay_ints : ∀ ns : List Int, PyData.canLayAll0 (ns.map PyData.int) = true
  | [] => rfl
  | n :: r => by
    rw [List.map_cons, PyData.canLayAll0, canLay_ints r]
    rfl
theorem lay_all {n : Nat} : ∀ ds : List PyData, (∀ d ∈ ds, d.canLay0 = true ∧ d.depth ≤ n) → PyData.canLayAll0 ds = true ∧ PyData.depthAll ds ≤ n
  | [], _ => ⟨rfl, Nat.zero_le _⟩
  | d :: r, h => by
    have h1 := h d List.mem_cons_self
    have h2 := lay_all r fun e he => h e (List.mem_cons_of_mem _ he)
    rw [PyData.canLayAll0, PyData.depthAll, h1.1, h2.1]
    exact ⟨rfl, Nat.max_le.mpr ⟨h1.2, h2.2⟩⟩
theorem lay_tup {n : Nat} {ds : List PyData} (h : ∀ d ∈ ds, d.canLay0 = true ∧ d.depth ≤ n) : (PyData.tuple ds).canLay0 = true ∧ (PyData.tuple ds).depth ≤ n + 1 := by
  obtain ⟨h1, h2⟩ := lay_all ds h
  rw [PyData.canLay0, PyData.depth]
  exact ⟨h1, by omega⟩
theorem lay_lst {n : Nat} {ds : List PyData} (h : ∀ d ∈ ds, d.canLay0 = true ∧ d.depth ≤ n) : (PyData.list ds).canLay0 = true ∧ (PyData.list ds).depth ≤ n + 1 := by
  obtain ⟨h1, h2⟩ := lay_all ds h
  rw [PyData.canLay0, PyData.depth]
  exact ⟨h1, by omega⟩
theorem lay_int (n : Nat) (i : Int) : (PyData.int i).canLay0 = true ∧ (PyData.int i).depth ≤ n := ⟨rfl, Nat.zero_le _⟩
theorem lay_str (n : Nat) (x : Str) (h : (PyData.str x).canLay0 = true := by decide +kernel) : (PyData.str x).canLay0 = true ∧ (PyData.str x).depth ≤ n := ⟨h, Nat.zero_le _⟩
theorem lay_ints (ns : List Int) (n : Nat) : ∀ d ∈ ns.map PyData.int, d.canLay0 = true ∧ d.depth ≤ n := fun d hd => by
  obtain ⟨i, _, rfl⟩ := List.mem_map.mp hd
  exact lay_int n i
theorem lay_mono {d : PyData} {n m : Nat} (h : d.canLay0 = true ∧ d.depth ≤ n) (e : n ≤ m) : d.canLay0 = true ∧ d.depth ≤ m := ⟨h.1, Nat.le_trans h.2 e⟩
theorem lay_part (p : Part) : p.data.canLay0 = true ∧ p.data.depth ≤ 2 := by
  cases p with
  | wheel z ms =>
    refine lay_tup (n := 1) fun d hd => ?_
    rcases List.mem_cons.mp hd with rfl | hd
    · exact lay_str _ _
    rcases List.mem_cons.mp hd with rfl | hd
    · exact lay_int _ _
    rcases List.mem_cons.mp hd with rfl | hd
    · exact lay_tup (lay_ints ms 0)
    · cases hd
  | click => exact lay_mono (lay_tup (n := 0) fun d hd => by
      rcases List.mem_cons.mp hd with rfl | hd
      · exact lay_str _ _
      · cases hd) (by decide)
  | rocker => exact lay_mono (lay_tup (n := 0) fun d hd => by
      rcases List.mem_cons.mp hd with rfl | hd
      · exact lay_str _ _
      · cases hd) (by decide)
  | spring k => exact lay_mono (lay_tup (n := 0) fun d hd => by
      rcases List.mem_cons.mp hd with rfl | hd
      · exact lay_str _ _
      rcases List.mem_cons.mp hd with rfl | hd
      · exact lay_int _ _
      · cases hd) (by decide)
theorem lay_train (ps : List Part) : (PyData.list (ps.map Part.data)).canLay0 = true ∧ (PyData.list (ps.map Part.data)).depth ≤ 3 := lay_lst fun d hd => by
  obtain ⟨p, _, rfl⟩ := List.mem_map.mp hd
  exact lay_part p
theorem shaped_of {d : PyData} {n : Nat} (h : d.canLay0 = true ∧ d.depth ≤ n) (e : n ≤ 64) : SeqAt.shaped d = true := by
  unfold SeqAt.shaped
  rw [h.1, decide_eq_true (Nat.le_trans h.2 e)]
  rfl
theorem lay_told (xs : List Int) (y : Int) : (PyData.tuple [.tuple (xs.map PyData.int), .int y]).canLay0 = true ∧ (PyData.tuple [.tuple (xs.map PyData.int), .int y]).depth ≤ 2 := lay_tup (n := 1) fun d hd => by
  rcases List.mem_cons.mp hd with rfl | hd
  · exact lay_tup (lay_ints xs 0)
  rcases List.mem_cons.mp hd with rfl | hd
  · exact lay_int _ _
  · cases hd
theorem w_neSame {K : PySem.W.Frag} {H : Hp} {Q : VK} {x y : V} (d : PyData) {n : Nat} (hx : Dp K H x d) (hy : Dp K H y d) (h : d.canLay0 = true ∧ d.depth ≤ n) (e : n ≤ 64) (q : Q (.bl false) H) : rNeD K x y H Q :=
  ⟨d, d, hx, hy, shaped_of h e, shaped_of h e, by rw [SeqAt.eqv_refl d h.1]; exact q⟩
theorem tyx_T {K : PySem.W.Frag} {H : Hp} {a : Addr} {xs : List V} (h : SqT K H a xs) : TyX K H (.ref a) (.type "tuple") := by
  rcases h with (h | ⟨o, h⟩) | ⟨o, its, n, hk, hc, _⟩
  · exact .base (.tup h)
  · exact .fTuple h
  · exact .kTuple hk hc
theorem tyx_L {K : PySem.W.Frag} {H : Hp} {a : Addr} {xs : List V} (h : SqL K H a xs) : TyX K H (.ref a) (.type "list") := by
  rcases h with (h | ⟨o, h⟩) | ⟨o, its, n, hk, hc, _⟩
  · exact .base (.lst h)
  · exact .base (.frz h)
  · exact .kList hk hc
end Ct

namespace Ct
open PySem PySem.Spec PyProof.Rows L2
/-! zip of a list and a tuple: the list first -/
def ItM (K : PySem.W.Frag) (a b : Addr) : It where
  go := fun i H => ∃ (xs ys : List V) (x y : V), SqL K H a xs ∧ SqT K H b ys ∧ xs[i]? = some x ∧ ys[i]? = some y
  yld := fun i H v H' => ∃ T x y, v = .ref T ∧ H T = none ∧ H' = upd H T (.tup [x, y]) ∧ (∀ xs, SqL K H a xs → xs[i]? = some x) ∧ ∀ ys, SqT K H b ys → ys[i]? = some y
  stop := fun i H => ∃ xs ys : List V, SqL K H a xs ∧ SqT K H b ys ∧ min xs.length ys.length = i
abbrev ZSt (a b z TI TO i1 i2 : Addr) (i : Nat) (h : Heap) : Prop :=
  IsZip h z TI TO .none ∧ IsTupOf2 h TI (.ref i1) (.ref i2) ∧ (∃ a1 a2, IsTupOf2 h TO a1 a2) ∧ h.IsListIter i1 a i ∧ h.IsTupleIter i2 b i
theorem turnM {P : Program} {w : World} {K : PySem.W.Frag} {es : List Expr} {kk : Nat} {tp : Pos} {a b N : Nat} (ha : a < N) (hb : b < N) :
    Turn P w K (.Tuple es kk tp) (ItM K a b) [N + 4, N + 2, N + 3, N, N + 1] (N + 4) (ZSt a b (N + 4) (N + 2) (N + 3) N (N + 1)) := by
  have five : ∀ {c : Nat}, c ∈ [N + 4, N + 2, N + 3, N, N + 1] → N ≤ c := fun {c} hc => by
    simp only [List.mem_cons, List.not_mem_nil, or_false] at hc
    omega
  have sep : ZipSep2 (N + 4) (N + 2) (N + 3) N (N + 1) [N, a] [N + 1, b] := zip_sep2 (fun c hc => by rw [List.mem_singleton] at hc; rw [hc]; exact ha) fun c hc => by rw [List.mem_singleton] at hc; rw [hc]; exact hb
  have wrfp : ∀ {c : Nat}, c ∉ [N + 4, N + 2, N + 3, N, N + 1] → c ∉ [N + 4, N + 3, N, N + 1] := fun {c} hc hm => hc (by
    simp only [List.mem_cons, List.not_mem_nil, or_false] at hm ⊢
    omega)
  refine ⟨List.mem_cons_self, fun i h st c hc => ?_, fun i h h' st k => ?_, ?_, ?_, fun A i s Q E st h => wpAny_pyIter_zip st.1 h⟩
  · obtain ⟨s1, s2, ⟨u, v, s3⟩, ⟨o1, g1, _, d1⟩, ⟨o2, g2, _, d2⟩⟩ := st
    simp only [List.mem_cons, List.not_mem_nil, or_false] at hc
    rcases hc with e | e | e | e | e <;> subst e
    · exact ⟨_, s1, fun v q => nomatch q⟩
    · exact ⟨_, s2, fun v q => nomatch q⟩
    · exact ⟨_, s3, fun v q => nomatch q⟩
    · exact ⟨o1, g1, fun v q => by rw [d1] at q; cases q⟩
    · exact ⟨o2, g2, fun v q => by rw [d2] at q; cases q⟩
  · obtain ⟨s1, s2, ⟨u, v, s3⟩, s4, s5⟩ := st
    exact ⟨k _ (by simp) _ s1, k _ (by simp) _ s2, ⟨u, v, k _ (by simp) _ s3⟩, s4.at fun o q => k N (by simp) o q, s5.at fun o q => k (N + 1) (by simp) o q⟩
  · intro X eP ew eK calm i pins s σ H E I hf st hg
    subst eP ew eK
    obtain ⟨xs, ys, x, y, lx, ty, gx, gy⟩ := hg
    obtain ⟨us, rx, px, _⟩ := I.list lx
    obtain ⟨vs, ry, py, _⟩ := I.tuple ty
    obtain ⟨s1, s2, s3, s4, s5⟩ := st
    have hh : X.A.in1.handled = none := I.ok.hd calm
    have G := GoesN.zip2 (elts := es) (x1 := kk) (pos := tp) sep (Draws.list (prog := X.prog) (w := X.w) hh N a (Nat.ne_of_lt ha) us.toArray) (Draws.tuple (prog := X.prog) (w := X.w) hh (N + 1) b (Nat.ne_of_lt (Nat.lt_succ_of_lt hb)) vs.toArray)
    have lu := rx.length
    have lv := ry.length
    have ix : i < xs.length := (List.getElem?_eq_some_iff.mp gx).1
    have iy : i < ys.length := (List.getElem?_eq_some_iff.mp gy).1
    refine G.goes i s _ E (by rw [List.size_toArray, List.size_toArray]; omega) ⟨s1, s2, s3, ⟨s4, px.isList⟩, ⟨s5, py⟩⟩ fun v h' tk hY st' hk _ => ?_
    obtain ⟨T, u1, u2, rfl, hT, q1, q2, hTu⟩ := hY
    obtain ⟨w1, e1, r1⟩ := rx.get gx
    obtain ⟨w2, e2, r2⟩ := ry.get gy
    have f1 : w1 = u1 := Option.some.inj (e1.symm.trans (by simpa using q1))
    have f2 : w2 = u2 := Option.some.inj (e2.symm.trans (by simpa using q2))
    subst f1 f2
    have new : ObjOk X.prog X.w (upd H T (.tup [x, y])) h' T (.tup [x, y]) := ⟨len2 rfl, [w1, w2], .cons r1 (.cons r2 .nil), hTu⟩
    refine ⟨.ref T, _, I.turnedNew (t' := tk) (fun c o hc e => hk c o (wrfp hc) e) hf hT new, rfl, ⟨T, x, y, rfl, I.hok.fresh hT, rfl, fun l hl => by rw [I.list_inj hl lx]; exact gx, fun l hl => by rw [I.tuple_inj hl ty]; exact gy⟩, ⟨st'.1, st'.2.1, st'.2.2.1, st'.2.2.2.1.1, st'.2.2.2.2.1⟩, fun c hc => ?_⟩
    obtain ⟨o, g, _⟩ : ∃ o, s.heap.get? c = some o ∧ True := by
      obtain ⟨u, v, s3⟩ := s3
      obtain ⟨o1, g1, _⟩ := s4
      obtain ⟨o2, g2, _⟩ := s5
      simp only [List.mem_cons, List.not_mem_nil, or_false] at hc
      rcases hc with e | e | e | e | e <;> subst e
      · exact ⟨_, s1, trivial⟩
      · exact ⟨_, s2, trivial⟩
      · exact ⟨_, s3, trivial⟩
      · exact ⟨_, g1, trivial⟩
      · exact ⟨_, g2, trivial⟩
    rw [upd_ne (Nat.ne_of_lt (Nat.lt_of_lt_of_le (Heap.lt_size g) hT))]
    exact (hf c hc).1
  · intro X eP ew eK calm i pins s σ H E I hf st hg
    subst eP ew eK
    obtain ⟨xs, ys, lx, ty, hm⟩ := hg
    obtain ⟨us, rx, px, _⟩ := I.list lx
    obtain ⟨vs, ry, py, _⟩ := I.tuple ty
    obtain ⟨s1, s2, s3, s4, s5⟩ := st
    have hh : X.A.in1.handled = none := I.ok.hd calm
    have G := GoesN.zip2 (elts := es) (x1 := kk) (pos := tp) sep (Draws.list (prog := X.prog) (w := X.w) hh N a (Nat.ne_of_lt ha) us.toArray) (Draws.tuple (prog := X.prog) (w := X.w) hh (N + 1) b (Nat.ne_of_lt (Nat.lt_succ_of_lt hb)) vs.toArray)
    have lu := rx.length
    have lv := ry.length
    have hn : min us.toArray.size vs.toArray.size = i := by rw [List.size_toArray, List.size_toArray]; omega
    rw [hn] at G
    exact G.stops s _ E ⟨s1, s2, s3, ⟨s4, px.isList⟩, ⟨s5, py⟩⟩ fun h' tk hk _ => I.turnedL (t' := tk) (fun c o hc e => hk c o (wrfp hc) e) hf
def iM (K : PySem.W.Frag) (ta : TA) : TI := fun σ H R => ta σ H fun vs H1 => ∃ a b xs ys, vs = [.ref a, .ref b] ∧ SqL K H1 a xs ∧ SqT K H1 b ys ∧ R (ItM K a b) H1
theorem pi_zipM {X : Cx} {e e2 : Expr} {ta : TA} {p pos tp : Pos} {es : List Expr} {kk : Nat} (gl : Gl X "zip") (mz : X.mg "zip" = none) (pa : PA X [e, e2] ta)
    (se : starEach [e, e2] X.env = (false, eval e X.env) :: starEach [e2] X.env := by rfl) (bk : (backTo pos (starEach [e2] X.env)).any (·.1) = false := by rfl) : PI X (.Tuple es kk tp) (.Call (.Name "zip" p) [e, e2] [] pos) (iM X.K ta) := by
  refine ⟨fun pins s σ H R I h => Call_ (ld_blt I gl mz boot_zip (callWith_type1 (thn (pa.run pos pins s σ H _ I h) fun us s1 ⟨vs, H1, I1, r1, q1⟩ => ?_) se bk))⟩
  obtain ⟨a, b, xs, ys, rfl, lx, ty, q⟩ := q1
  cases r1 with
  | cons ra rr => cases rr with
    | cons rb rn =>
      cases rn
      cases ra
      cases rb
      obtain ⟨us, rx, px, _⟩ := I1.list lx
      obtain ⟨vs, ry, py, _⟩ := I1.tuple ty
      obtain ⟨ob, gb, _⟩ := id py
      refine zip_begins2 (begins_list a us.toArray) (begins_tuple b vs.toArray) px.isList py fun h' z1 z2 z3 g1 g2 _ hk => wpAny_pyIter_zip z1 ?_
      have I2 : Inv X pins σ H1 { s1 with heap := h' } := I1.kept (t' := s1.toks) hk
      refine ⟨_, _, _, _, H1, rfl, I2, turnM px.lt (Heap.lt_size gb), ⟨z1, z2, ⟨_, _, z3⟩, ⟨_, g1, rfl, rfl⟩, ⟨_, g2, rfl, rfl⟩⟩, fun c hc => ?_, q⟩
      have hle : s1.heap.objs.size ≤ c := by
        simp only [List.mem_cons, List.not_mem_nil, or_false] at hc
        rcases hc with e | e | e | e | e <;> subst e <;> first | exact Nat.le_add_right _ _ | exact Nat.le_refl _
      exact I1.fpOk hle (I1.hok.fresh hle)
section
variable {K : PySem.W.Frag} {H : Hp} {σ : L2.St} {D : Ends} {R : It → Hp → Prop}
def IM (K : PySem.W.Frag) (vs : List V) (H : Hp) (R : It → Hp → Prop) : Prop := iM K (fun _ H Q => Q vs H) [] H R
theorem w_im {ta : TA} (h : ta σ H fun vs H1 => IM K vs H1 R) : iM K ta σ H R := h
theorem w_IM {a b : Addr} {xs ys : List V} (h1 : SqL K H a xs) (h2 : SqT K H b ys) (q : R (ItM K a b) H) : IM K [.ref a, .ref b] H R := ⟨a, b, xs, ys, rfl, h1, h2, q⟩
theorem fb_zipM {a b : Addr} (xs ys : List V) (hl : xs.length = ys.length) {g : TG} {tb : TS} (Pv : Nat → L2.St → Hp → Prop) (h0 : Pv 0 σ H) (hq : ∀ i σ H, i ≤ xs.length → Pv i σ H → SqL K H a xs ∧ SqT K H b ys)
    (hs : ∀ i x y T σ H, xs[i]? = some x → ys[i]? = some y → Pv i σ H → H T = none → g (.ref T) σ (upd H T (.tup [x, y])) fun σ2 H2 => tb { D with nx := Pv (i + 1), ct := Pv (i + 1), bk := D.nx } σ2 H2) (hd : ∀ σ H, Pv xs.length σ H → D.nx σ H) : FB (ItM K a b) g tb D σ H := by
  refine ⟨fun i m σ H => m = xs.length - i ∧ i ≤ xs.length ∧ Pv i σ H, ⟨xs.length, rfl, Nat.zero_le _, h0⟩, ?_⟩
  rintro i m σ H ⟨rfl, hi, p⟩
  obtain ⟨q1, q2⟩ := hq i σ H hi p
  by_cases hlt : i < xs.length
  · refine .inr ⟨⟨xs, ys, _, _, q1, q2, List.getElem?_eq_getElem hlt, List.getElem?_eq_getElem (hl ▸ hlt)⟩, Pv (i + 1), fun σ' H' p' => ⟨xs.length - (i + 1), by omega, rfl, hlt, p'⟩, fun v H' y => ?_⟩
    obtain ⟨T, x1, x2, rfl, hT, rfl, f1, f2⟩ := y
    exact hs i x1 x2 T σ H (f1 _ q1) (f2 _ q2) p hT
  · exact .inl ⟨⟨xs, ys, q1, q2, by omega⟩, hd σ H (by rw [show xs.length = i by omega]; exact p)⟩
end
end Ct

namespace Ct
open PySem PySem.Spec PyProof.Rows L2
/-! pushes of one deed, reckoned at once -/
def cnt (ms : List Int) (r : Int) : Int := ((ms.filter fun m => decide (m ≤ r)).length : Int)
theorem cnt_nil (r : Int) : cnt [] r = 0 := rfl
theorem cnt_cons (m : Int) (ms : List Int) (r : Int) : cnt (m :: ms) r = (if m ≤ r then 1 else 0) + cnt ms r := by
  unfold cnt
  rw [List.filter_cons]
  by_cases h : m ≤ r
  · rw [if_pos h, if_pos (decide_eq_true h), List.length_cons]
    omega
  · rw [if_neg h, if_neg (by rw [decide_eq_false h]; exact Bool.false_ne_true)]
    omega
theorem cnt_all : ∀ {ms : List Int} {r : Int}, (∀ m ∈ ms, m ≤ r) → cnt ms r = ms.length
  | [], _, _ => rfl
  | m :: ms, r, h => by
    rw [cnt_cons, if_pos (h m List.mem_cons_self), cnt_all fun x hx => h x (List.mem_cons_of_mem _ hx), List.length_cons]
    omega
theorem cnt_zero : ∀ {ms : List Int} {r : Int}, (∀ m ∈ ms, r < m) → cnt ms r = 0
  | [], _, _ => rfl
  | m :: ms, r, h => by
    have h1 := h m List.mem_cons_self
    rw [cnt_cons, if_neg (by omega), cnt_zero fun x hx => h x (List.mem_cons_of_mem _ hx)]
    rfl
theorem cnt_split : ∀ (ms : List Int) (k : Nat) (r : Int), k ≤ ms.length → (∀ (j : Nat) (m : Int), j < k → ms[j]? = some m → m ≤ r) → (∀ (j : Nat) (m : Int), k ≤ j → ms[j]? = some m → r < m) → cnt ms r = k
  | ms, 0, r, _, _, h => cnt_zero fun m hm => by
    obtain ⟨j, hj, e⟩ := List.mem_iff_getElem.mp hm
    exact h j m (Nat.zero_le _) (by rw [List.getElem?_eq_getElem hj, e])
  | [], k + 1, r, hk, _, _ => absurd hk (by simp)
  | m :: ms, k + 1, r, hk, h1, h2 => by
    rw [cnt_cons, if_pos (h1 0 m (Nat.succ_pos k) rfl), cnt_split ms k r (by rw [List.length_cons] at hk; omega) (fun j x hj hx => h1 (j + 1) x (by omega) hx) fun j x hj hx => h2 (j + 1) x (by omega) hx]
    omega
theorem cnt_step : ∀ {ms : List Int} (r : Int), ms.Pairwise (· < ·) → cnt ms r = cnt ms (r - 1) + (if r ∈ ms then 1 else 0)
  | [], _, _ => rfl
  | m :: ms, r, h => by
    obtain ⟨h1, h2⟩ := List.pairwise_cons.mp h
    have ih := cnt_step r h2
    rw [cnt_cons, cnt_cons, ih]
    by_cases e : r = m
    · subst e
      have hn : r ∉ ms := fun z => by
        have := h1 r z
        omega
      rw [if_neg hn, if_pos List.mem_cons_self, if_pos (Int.le_refl _), if_neg (by omega)]
      omega
    · have hm : (r ∈ m :: ms) ↔ r ∈ ms := ⟨fun z => (List.mem_cons.mp z).resolve_left e, fun z => List.mem_cons_of_mem _ z⟩
      by_cases hr : r ∈ ms
      · rw [if_pos hr, if_pos (hm.mpr hr)]
        by_cases h3 : m ≤ r
        · rw [if_pos h3, if_pos (by omega)]
          omega
        · rw [if_neg h3, if_neg (by omega)]
          omega
      · rw [if_neg hr, if_neg (fun z => hr (hm.mp z))]
        by_cases h3 : m ≤ r
        · rw [if_pos h3, if_pos (by omega)]
          omega
        · rw [if_neg h3, if_neg (by omega)]
          omega
/-- marks up to a tooth, over all turns -/
def mah (z : Int) (ms : List Int) (y : Int) : Int := y / z * (ms.length : Int) + cnt ms (y % z)
theorem mah_step {z : Int} {ms : List Int} (hz : 1 ≤ z) (rs : Rise z ms) (y : Int) : mah z ms y = mah z ms (y - 1) + (if y % z ∈ ms then 1 else 0) := by
  unfold mah
  have e := Int.emod_add_mul_ediv y z
  have r0 := Int.emod_nonneg y (show z ≠ 0 by omega)
  have r1 := Int.emod_lt_of_pos y (show 0 < z by omega)
  by_cases h : y % z = 0
  · obtain ⟨e1, e2⟩ := (Int.ediv_emod_unique (a := y - 1) (b := z) (r := z - 1) (q := y / z - 1) (by omega)).mpr ⟨by rw [Int.mul_sub]; omega, by omega, by omega⟩
    rw [e1, e2, h, cnt_all (ms := ms) (r := z - 1) (fun m hm => by have := (rs.2 m hm).2; omega), cnt_step 0 rs.1, cnt_zero (ms := ms) (r := 0 - 1) (fun m hm => by have := (rs.2 m hm).1; omega), Int.sub_mul]
    omega
  · obtain ⟨e1, e2⟩ := (Int.ediv_emod_unique (a := y - 1) (b := z) (r := y % z - 1) (q := y / z) (by omega)).mpr ⟨by omega, by omega, by omega⟩
    rw [e1, e2, cnt_step (y % z) rs.1]
    omega
theorem mah_up {z : Int} {ms : List Int} (hz : 1 ≤ z) (rs : Rise z ms) (y : Int) : ∀ t : Nat, mah z ms y ≤ mah z ms (y + t)
  | 0 => by rw [show y + ((0 : Nat) : Int) = y by omega]; exact Int.le_refl _
  | t + 1 => by
    have h := mah_step hz rs (y + ((t + 1 : Nat) : Int))
    rw [show y + ((t + 1 : Nat) : Int) - 1 = y + t by omega] at h
    have ih := mah_up hz rs y t
    rw [h]
    split <;> omega
/-- so many pushes one way at a part: its place, and how many it gives -/
def pt (p : Part) (x w t : Int) : Int × Int := match p with
  | .wheel z ms => ((x + w * t) % z, if mah z ms (x + w * t) - mah z ms x < 0 then -(mah z ms (x + w * t) - mah z ms x) else mah z ms (x + w * t) - mah z ms x)
  | .click => (x, if w = 1 then t else 0)
  | .rocker => if t = 0 then (x, 0) else if w = -1 then (0, 0) else (1, 1 - x)
  | .spring k => if w = -1 then (if x - t > 0 then x - t else 0, 0) else ((x + t) % k, (x + t) / k)
theorem pt_zero {p : Part} {x w : Int} (ok : p.ok) (h0 : 0 ≤ x) (h1 : x < p.places) : pt p x w 0 = (x, 0) := by
  cases p with
  | wheel z ms =>
    have h2 : x < z := h1
    simp only [pt, Int.mul_zero, Int.add_zero, Int.emod_eq_of_lt h0 h2, Int.sub_self]
    rfl
  | click =>
    simp only [pt]
    split <;> rfl
  | rocker => rfl
  | spring k =>
    have h2 : x < k := h1
    simp only [pt]
    split
    · rw [show (if x - 0 > 0 then x - 0 else 0) = x by split <;> omega]
    · rw [Int.add_zero, Int.emod_eq_of_lt h0 h2, Int.ediv_eq_zero_of_lt h0 h2]
theorem pp_way (p : Part) (x w : Int) (h : Sign w) : (pp p x w).2 = 0 ∨ (pp p x w).2 = w := by
  cases p with
  | wheel z ms =>
    by_cases e : (if w = 1 then (x + w) % z else x) ∈ ms
    · exact .inr (if_pos e)
    · exact .inl (if_neg e)
  | click =>
    by_cases e : w = 1
    · exact .inr (by simp only [pp, if_pos e]; exact e.symm)
    · exact .inl (if_neg e)
  | rocker =>
    by_cases e : w = 1 ∧ x = 0
    · exact .inr (by simp only [pp, if_pos e]; exact e.1.symm)
    · exact .inl (if_neg e)
  | spring k =>
    by_cases e : w = 1
    · by_cases e2 : x = k - 1
      · exact .inr (by simp only [pp, if_pos e, if_pos e2]; exact e.symm)
      · exact .inl (by simp only [pp, if_pos e, if_neg e2])
    · exact .inl (by simp only [pp, if_neg e])
theorem neg_abs {d : Int} (h : 0 ≤ d) : (if d < 0 then -d else d) = d := if_neg (by omega)
theorem abs_neg {d : Int} (h : d ≤ 0) : (if d < 0 then -d else d) = -d := by
  split <;> omega
/-- one push more -/
theorem pt_step {p : Part} {x w : Int} (ok : p.ok) (h0 : 0 ≤ x) (h1 : x < p.places) (hw : Sign w) (t : Nat) :
    pt p x w ((t + 1 : Nat) : Int) = ((pp p (pt p x w t).1 w).1, (pt p x w t).2 + if (pp p (pt p x w t).1 w).2 = 0 then 0 else 1) := by
  cases p with
  | wheel z ms =>
    have hz : 1 ≤ z := ok.1
    have rs : Rise z ms := ok.2.2.1
    rcases hw with rfl | rfl
    · have u1 := mah_up hz rs x t
      have u2 := mah_up hz rs x (t + 1)
      have st := mah_step hz rs (x + ((t + 1 : Nat) : Int))
      rw [show x + ((t + 1 : Nat) : Int) - 1 = x + t by omega] at st
      simp only [pt, pp, Int.one_mul, if_true]
      rw [neg_abs (by omega), neg_abs (by omega)]
      have em : ((x + (t : Int)) % z + 1) % z = (x + ((t + 1 : Nat) : Int)) % z := by
        rw [Int.emod_add_emod]
        congr 1
        omega
      rw [em]
      by_cases hm : (x + ((t + 1 : Nat) : Int)) % z ∈ ms
      · rw [if_pos hm] at st ⊢
        rw [if_neg (by decide)]
        exact Prod.ext rfl (by show mah z ms _ - mah z ms x = mah z ms _ - mah z ms x + 1; omega)
      · rw [if_neg hm] at st ⊢
        rw [if_pos rfl]
        exact Prod.ext rfl (by show mah z ms _ - mah z ms x = mah z ms _ - mah z ms x + 0; omega)
    · have v1 := mah_up hz rs (x - t) t
      have v2 := mah_up hz rs (x - ((t + 1 : Nat) : Int)) (t + 1)
      have st := mah_step hz rs (x - t)
      rw [show x - t + t = x by omega] at v1
      rw [show x - ((t + 1 : Nat) : Int) + ((t + 1 : Nat) : Int) = x by omega] at v2
      simp only [pt, pp, show ∀ y : Int, x + -1 * y = x - y from fun y => by omega, if_neg (show ¬ (-1 : Int) = 1 by decide)]
      rw [abs_neg (by omega), abs_neg (by omega)]
      have em : ((x - (t : Int)) % z + -1) % z = (x - ((t + 1 : Nat) : Int)) % z := by
        rw [Int.emod_add_emod]
        congr 1
        omega
      rw [em]
      rw [show x - (t : Int) - 1 = x - ((t + 1 : Nat) : Int) by omega] at st
      by_cases hm : (x - (t : Int)) % z ∈ ms
      · rw [if_pos hm] at st ⊢
        rw [if_neg (by decide)]
        exact Prod.ext rfl (by show -(mah z ms _ - mah z ms x) = -(mah z ms _ - mah z ms x) + 1; omega)
      · rw [if_neg hm] at st ⊢
        rw [if_pos rfl]
        exact Prod.ext rfl (by show -(mah z ms _ - mah z ms x) = -(mah z ms _ - mah z ms x) + 0; omega)
  | click =>
    have h2 : x < 1 := h1
    have ex : x = 0 := by omega
    subst ex
    rcases hw with rfl | rfl
    · simp only [pt, pp, if_true]
      rw [if_neg (by decide)]
      exact Prod.ext rfl (by show ((t + 1 : Nat) : Int) = (t : Int) + 1; omega)
    · rfl
  | rocker =>
    have h2 : x < 2 := h1
    rcases hw with rfl | rfl
    · simp only [pt, pp, if_neg (show ¬ ((t + 1 : Nat) : Int) = 0 by omega), if_neg (show ¬ (1 : Int) = -1 by decide), if_true]
      by_cases ht : (t : Int) = 0
      · rw [if_pos ht]
        by_cases hx : x = 0
        · subst hx
          rfl
        · have hx1 : x = 1 := by omega
          subst hx1
          rfl
      · rw [if_neg ht]
        simp
    · simp only [pt, pp, if_neg (show ¬ ((t + 1 : Nat) : Int) = 0 by omega), if_true]
      by_cases ht : (t : Int) = 0
      · rw [if_pos ht]
        rfl
      · rw [if_neg ht]
        rfl
  | spring k =>
    have h2 : x < k := h1
    have hk : 1 ≤ k := ok.1
    rcases hw with rfl | rfl
    · simp only [pt, pp, if_neg (show ¬ (1 : Int) = -1 by decide), if_true]
      have e := Int.emod_add_mul_ediv (x + t) k
      have r0 := Int.emod_nonneg (x + t) (show k ≠ 0 by omega)
      have r1 := Int.emod_lt_of_pos (x + t) (show 0 < k by omega)
      by_cases hx : (x + (t : Int)) % k = k - 1
      · obtain ⟨e1, e2⟩ := (Int.ediv_emod_unique (a := x + ((t + 1 : Nat) : Int)) (b := k) (r := 0) (q := (x + t) / k + 1) (by omega)).mpr ⟨by rw [Int.mul_add]; omega, by omega, by omega⟩
        rw [if_pos hx, e1, e2]
        rfl
      · obtain ⟨e1, e2⟩ := (Int.ediv_emod_unique (a := x + ((t + 1 : Nat) : Int)) (b := k) (r := (x + t) % k + 1) (q := (x + t) / k) (by omega)).mpr ⟨by omega, by omega, by omega⟩
        rw [if_neg hx, e1, e2]
        exact Prod.ext rfl (by show (x + (t : Int)) / k = (x + (t : Int)) / k + 0; omega)
    · simp only [pt, pp, if_true, if_neg (show ¬ (-1 : Int) = 1 by decide)]
      refine Prod.ext ?_ rfl
      show (if x - ((t + 1 : Nat) : Int) > 0 then x - ((t + 1 : Nat) : Int) else 0) = (if (if x - (t : Int) > 0 then x - (t : Int) else 0) - 1 > 0 then (if x - (t : Int) > 0 then x - (t : Int) else 0) - 1 else 0)
      by_cases hx : x - (t : Int) > 0
      · rw [if_pos hx]
        split <;> split <;> omega
      · rw [if_neg hx]
        split <;> split <;> omega
theorem pt_nn {p : Part} {x w : Int} (ok : p.ok) (h0 : 0 ≤ x) (h1 : x < p.places) (hw : Sign w) : ∀ t : Nat, 0 ≤ (pt p x w t).2
  | 0 => by
    show 0 ≤ (pt p x w 0).2
    rw [pt_zero ok h0 h1]
    exact Int.le_refl _
  | t + 1 => by
    rw [pt_step ok h0 h1 hw t]
    have := pt_nn ok h0 h1 hw t
    show 0 ≤ (pt p x w t).2 + _
    split <;> omega
theorem pt_le {p : Part} {x w : Int} (ok : p.ok) (h0 : 0 ≤ x) (h1 : x < p.places) (hw : Sign w) : ∀ t : Nat, (pt p x w t).2 ≤ t
  | 0 => by
    show (pt p x w 0).2 ≤ 0
    rw [pt_zero ok h0 h1]
    exact Int.le_refl _
  | t + 1 => by
    rw [pt_step ok h0 h1 hw t]
    have := pt_le ok h0 h1 hw t
    show (pt p x w t).2 + _ ≤ _
    split <;> omega
theorem pp_place {p : Part} {x w : Int} (ok : p.ok) (h0 : 0 ≤ x) (h1 : x < p.places) (hw : Sign w) : 0 ≤ (pp p x w).1 ∧ (pp p x w).1 < p.places := by
  cases p with
  | wheel z ms =>
    have hz : 1 ≤ z := ok.1
    exact ⟨Int.emod_nonneg _ (by omega), Int.emod_lt_of_pos _ (by omega)⟩
  | click => exact ⟨Int.le_refl _, show (0 : Int) < 1 by decide⟩
  | rocker =>
    rcases hw with rfl | rfl
    · exact ⟨show (0 : Int) ≤ 1 by decide, show (1 : Int) < 2 by decide⟩
    · exact ⟨show (0 : Int) ≤ 0 by decide, show (0 : Int) < 2 by decide⟩
  | spring k =>
    have h2 : x < k := h1
    rcases hw with rfl | rfl
    · simp only [pp, if_true]
      by_cases e : x = k - 1
      · rw [if_pos e]
        exact ⟨Int.le_refl _, show (0 : Int) < k by omega⟩
      · rw [if_neg e]
        exact ⟨show 0 ≤ x + 1 by omega, show x + 1 < k by omega⟩
    · simp only [pp, if_neg (show ¬ (-1 : Int) = 1 by decide)]
      refine ⟨?_, ?_⟩
      · show 0 ≤ (if x - 1 > 0 then x - 1 else 0)
        split <;> omega
      · show (if x - 1 > 0 then x - 1 else 0) < k
        split <;> omega
theorem pt_place {p : Part} {x w : Int} (ok : p.ok) (h0 : 0 ≤ x) (h1 : x < p.places) (hw : Sign w) : ∀ t : Nat, 0 ≤ (pt p x w t).1 ∧ (pt p x w t).1 < p.places
  | 0 => by
    show 0 ≤ (pt p x w 0).1 ∧ (pt p x w 0).1 < p.places
    rw [pt_zero ok h0 h1]
    exact ⟨h0, h1⟩
  | t + 1 => by
    rw [pt_step ok h0 h1 hw t]
    obtain ⟨a, b⟩ := pt_place ok h0 h1 hw t
    exact pp_place ok a b hw
/-! along a train -/
def gen (f : Part → Int → Int → Int × Int) : List Part → List Int → Int → List Int × Int
  | p :: ps, x :: xs, a => ((f p x a).1 :: (gen f ps xs (f p x a).2).1, (gen f ps xs (f p x a).2).2)
  | _, xs, a => (xs, a)
def stF (f : Part → Int → Int → Int × Int) (ps : List Part) (s : List Int × Int) (n : Nat) : List Int × Int := match ps[n]?, s.1[n]? with
  | some p, some x => (s.1.set n (f p x s.2).1, (f p x s.2).2)
  | _, _ => s
def rnF (f : Part → Int → Int → Int × Int) (ps : List Part) (i : Nat) (s : List Int × Int) : Nat → List Int × Int
  | 0 => s
  | n + 1 => stF f ps (rnF f ps i s n) (i + n)
theorem stF_at {f : Part → Int → Int → Int × Int} {ps : List Part} {s : List Int × Int} {n : Nat} {p : Part} {x : Int} (hp : ps[n]? = some p) (hx : s.1[n]? = some x) : stF f ps s n = (s.1.set n (f p x s.2).1, (f p x s.2).2) := by
  unfold stF
  rw [hp, hx]
theorem rnF_first (f : Part → Int → Int → Int × Int) (ps : List Part) (i : Nat) (s : List Int × Int) : ∀ n, rnF f ps i s (n + 1) = rnF f ps (i + 1) (stF f ps s i) n
  | 0 => rfl
  | n + 1 => by
    show stF f ps (rnF f ps i s (n + 1)) (i + (n + 1)) = stF f ps (rnF f ps (i + 1) (stF f ps s i) n) (i + 1 + n)
    rw [rnF_first f ps i s n, show i + (n + 1) = i + 1 + n by omega]
theorem rnF_len (f : Part → Int → Int → Int × Int) (ps : List Part) (i : Nat) (s : List Int × Int) : ∀ n, (rnF f ps i s n).1.length = s.1.length
  | 0 => rfl
  | n + 1 => by
    show (stF f ps _ _).1.length = _
    rw [← rnF_len f ps i s n]
    unfold stF
    split
    · show (List.set _ _ _).length = _
      rw [List.length_set]
    · rfl
theorem rnF_ahead (f : Part → Int → Int → Int × Int) (ps : List Part) (i : Nat) (s : List Int × Int) : ∀ n m, i + n ≤ m → (rnF f ps i s n).1[m]? = s.1[m]?
  | 0, _, _ => rfl
  | n + 1, m, h => by
    rw [← rnF_ahead f ps i s n m (by omega)]
    show (stF f ps _ _).1[m]? = _
    unfold stF
    split
    · show (List.set _ _ _)[m]? = _
      rw [List.getElem?_set_ne (by omega)]
    · rfl
/-- places one by one, by number, or by going down the train -/
theorem rnF_gen (f : Part → Int → Int → Int × Int) (ps : List Part) : ∀ (n i : Nat) (xs : List Int) (a : Int), xs.length = ps.length → i + n = ps.length →
    rnF f ps i (xs, a) n = (xs.take i ++ (gen f (ps.drop i) (xs.drop i) a).1, (gen f (ps.drop i) (xs.drop i) a).2)
  | 0, i, xs, a, hl, hn => by
    have e1 : ps.drop i = [] := List.drop_of_length_le (by omega)
    have e2 : xs.drop i = [] := List.drop_of_length_le (by omega)
    rw [e1, e2]
    show (xs, a) = (xs.take i ++ [], a)
    rw [List.append_nil, List.take_of_length_le (by omega)]
  | n + 1, i, xs, a, hl, hn => by
    have hi : i < ps.length := by omega
    have hx : i < xs.length := by omega
    rw [rnF_first, stF_at (List.getElem?_eq_getElem hi) (List.getElem?_eq_getElem hx), rnF_gen f ps n (i + 1) _ _ (by rw [List.length_set]; exact hl) (by omega)]
    rw [List.drop_eq_getElem_cons hi, List.drop_eq_getElem_cons hx]
    show (List.take (i + 1) (xs.set i _) ++ (gen f _ (List.drop (i + 1) (xs.set i _)) _).1, _) = (xs.take i ++ ((f ps[i] xs[i] a).1 :: (gen f (ps.drop (i + 1)) (xs.drop (i + 1)) (f ps[i] xs[i] a).2).1), (gen f (ps.drop (i + 1)) (xs.drop (i + 1)) (f ps[i] xs[i] a).2).2)
    rw [List.drop_set_of_lt (by omega), show List.take (i + 1) (xs.set i (f ps[i] xs[i] a).1) = xs.take i ++ [(f ps[i] xs[i] a).1] by
      rw [List.take_set, List.take_add_one, List.getElem?_eq_getElem hx, List.set_append_right _ _ (by rw [List.length_take]; omega), List.length_take, show i - min i xs.length = 0 by omega]
      rfl, List.append_assoc]
    rfl
/-- a push that may be none -/
def ppz (p : Part) (x g : Int) : Int × Int := if g = 0 then (x, 0) else pp p x g
theorem stp_stF (ps : List Part) (s : List Int × Int) (n : Nat) : stp ps s n = stF ppz ps s n := by
  unfold stp stF
  split
  · rename_i h
    cases e1 : ps[n]? with
    | none => rfl
    | some p =>
      cases e2 : s.1[n]? with
      | none => rfl
      | some x =>
        obtain ⟨hn, hx⟩ := List.getElem?_eq_some_iff.mp e2
        show s = (s.1.set n (ppz p x s.2).1, (ppz p x s.2).2)
        unfold ppz
        rw [if_pos h]
        show s = (s.1.set n x, 0)
        rw [← hx, List.set_getElem_self, ← h]
  · rename_i h
    cases e1 : ps[n]? with
    | none => rfl
    | some p =>
      cases e2 : s.1[n]? with
      | none => rfl
      | some x =>
        show _ = (s.1.set n (ppz p x s.2).1, (ppz p x s.2).2)
        unfold ppz
        rw [if_neg h]
theorem runN_rnF (ps : List Part) (i : Nat) (s : List Int × Int) : ∀ n, runN ps i s n = rnF ppz ps i s n
  | 0 => rfl
  | n + 1 => by
    show stp ps _ _ = stF ppz ps _ _
    rw [stp_stF, runN_rnF ps i s n]
theorem run_gen {ps : List Part} {xs : List Int} {i : Nat} {w : Int} (hl : xs.length = ps.length) (hi : i ≤ ps.length) : Ct.run ps xs i w = (xs.take i ++ (gen ppz (ps.drop i) (xs.drop i) w).1, (gen ppz (ps.drop i) (xs.drop i) w).2) := by
  unfold Ct.run
  rw [runN_rnF, rnF_gen ppz ps _ _ _ _ hl (by omega)]
/-- pushes one by one -/
def itP (ps : List Part) (w : Int) : Nat → List Int → List Int × Int
  | 0, xs => (xs, 0)
  | t + 1, xs => ((gen ppz ps (itP ps w t xs).1 w).1, (itP ps w t xs).2 + (gen ppz ps (itP ps w t xs).1 w).2)
def ptw (w : Int) (p : Part) (x t : Int) : Int × Int := pt p x w t
theorem gen_ppz_zero : ∀ (ps : List Part) (xs : List Int), gen ppz ps xs 0 = (xs, 0)
  | [], _ => rfl
  | _ :: _, [] => rfl
  | p :: ps, x :: xs => by
    show ((ppz p x 0).1 :: (gen ppz ps xs (ppz p x 0).2).1, (gen ppz ps xs (ppz p x 0).2).2) = _
    rw [show ppz p x 0 = (x, 0) from rfl, gen_ppz_zero ps xs]
def StandL : List Part → List Int → Prop
  | [], [] => True
  | p :: ps, x :: xs => p.ok ∧ 0 ≤ x ∧ x < p.places ∧ StandL ps xs
  | _, _ => False
theorem itP_cons {p : Part} {x : Int} (ps : List Part) (xs : List Int) {w : Int} (ok : p.ok) (h0 : 0 ≤ x) (h1 : x < p.places) (hw : Sign w) : ∀ t : Nat,
    itP (p :: ps) w t (x :: xs) = ((pt p x w t).1 :: (itP ps w (pt p x w t).2.toNat xs).1, (itP ps w (pt p x w t).2.toNat xs).2)
  | 0 => by
    show (x :: xs, (0 : Int)) = ((pt p x w 0).1 :: (itP ps w (pt p x w 0).2.toNat xs).1, (itP ps w (pt p x w 0).2.toNat xs).2)
    rw [pt_zero ok h0 h1]
    rfl
  | t + 1 => by
    have w0 : w ≠ 0 := by rcases hw with rfl | rfl <;> decide
    have nn := pt_nn ok h0 h1 hw t
    show ((gen ppz (p :: ps) (itP (p :: ps) w t (x :: xs)).1 w).1, (itP (p :: ps) w t (x :: xs)).2 + (gen ppz (p :: ps) (itP (p :: ps) w t (x :: xs)).1 w).2) = _
    rw [itP_cons ps xs ok h0 h1 hw t, pt_step ok h0 h1 hw t]
    generalize hy : (pt p x w t).1 = y
    generalize hn : (pt p x w t).2 = n at nn
    show ((ppz p y w).1 :: (gen ppz ps (itP ps w n.toNat xs).1 (ppz p y w).2).1, (itP ps w n.toNat xs).2 + (gen ppz ps (itP ps w n.toNat xs).1 (ppz p y w).2).2) = _
    rw [show ppz p y w = pp p y w from if_neg w0]
    rcases pp_way p y w hw with e | e
    · rw [e, gen_ppz_zero, if_pos rfl]
      show ((pp p y w).1 :: (itP ps w n.toNat xs).1, (itP ps w n.toNat xs).2 + 0) = ((pp p y w).1 :: (itP ps w (n + 0).toNat xs).1, (itP ps w (n + 0).toNat xs).2)
      rw [Int.add_zero, Int.add_zero]
    · rw [e, if_neg w0]
      show ((pp p y w).1 :: (gen ppz ps (itP ps w n.toNat xs).1 w).1, (itP ps w n.toNat xs).2 + (gen ppz ps (itP ps w n.toNat xs).1 w).2) = ((pp p y w).1 :: (itP ps w (n + 1).toNat xs).1, (itP ps w (n + 1).toNat xs).2)
      rw [show (n + 1).toNat = n.toNat + 1 by omega]
      rfl
theorem itP_nil (w : Int) : ∀ (t : Nat), itP [] w t [] = ([], w * t)
  | 0 => by
    show (([] : List Int), (0 : Int)) = ([], w * ((0 : Nat) : Int))
    rw [show ((0 : Nat) : Int) = 0 from rfl, Int.mul_zero]
  | t + 1 => by
    show ((gen ppz [] (itP [] w t []).1 w).1, (itP [] w t []).2 + (gen ppz [] (itP [] w t []).1 w).2) = _
    rw [itP_nil w t]
    refine Prod.ext rfl ?_
    show w * t + w = w * ((t + 1 : Nat) : Int)
    rw [show ((t + 1 : Nat) : Int) = (t : Int) + 1 by omega, Int.mul_add, Int.mul_one]
/-- THE promise: reckoned at once is as pushed one by one -/
theorem itP_gen {w : Int} (hw : Sign w) : ∀ (ps : List Part) (xs : List Int) (t : Nat), StandL ps xs → itP ps w t xs = ((gen (ptw w) ps xs t).1, w * (gen (ptw w) ps xs t).2)
  | [], [], t, _ => itP_nil w t
  | p :: ps, x :: xs, t, ⟨ok, h0, h1, h⟩ => by
    rw [itP_cons ps xs ok h0 h1 hw t, itP_gen hw ps xs _ h]
    have nn := pt_nn ok h0 h1 hw t
    show _ = ((pt p x w t).1 :: (gen (ptw w) ps xs (pt p x w t).2).1, w * (gen (ptw w) ps xs (pt p x w t).2).2)
    rw [show (((pt p x w t).2.toNat : Nat) : Int) = (pt p x w t).2 by omega]
theorem gen_stand {w : Int} (hw : Sign w) : ∀ (ps : List Part) (xs : List Int) (t : Int), 0 ≤ t → StandL ps xs → StandL ps (gen (ptw w) ps xs t).1 ∧ 0 ≤ (gen (ptw w) ps xs t).2
  | [], [], t, ht, _ => ⟨trivial, ht⟩
  | p :: ps, x :: xs, t, ht, ⟨ok, h0, h1, h⟩ => by
    have e : ((t.toNat : Nat) : Int) = t := by omega
    have a := pt_place ok h0 h1 hw t.toNat
    have n := pt_nn ok h0 h1 hw t.toNat
    rw [e] at a n
    have ih := gen_stand hw ps xs (pt p x w t).2 n h
    exact ⟨⟨ok, a.1, a.2, ih.1⟩, ih.2⟩
theorem stand_drop : ∀ {ps : List Part} {xs : List Int} (i : Nat), StandL ps xs → StandL (ps.drop i) (xs.drop i)
  | [], [], i, _ => by rw [List.drop_nil, List.drop_nil]; trivial
  | p :: ps, x :: xs, 0, h => h
  | p :: ps, x :: xs, i + 1, ⟨_, _, _, h⟩ => stand_drop (ps := ps) (xs := xs) i h
theorem stand_join : ∀ {ps : List Part} {xs ys : List Int} (i : Nat), StandL ps xs → StandL (ps.drop i) ys → StandL ps (xs.take i ++ ys)
  | ps, xs, ys, 0, _, h => h
  | [], [], ys, i + 1, _, h => by
    rw [List.drop_nil] at h
    exact h
  | p :: ps, x :: xs, ys, i + 1, ⟨a, b, c, d⟩, h => ⟨a, b, c, stand_join (ps := ps) (xs := xs) i d h⟩
theorem StandL.len : ∀ {ps : List Part} {xs : List Int}, StandL ps xs → xs.length = ps.length
  | [], [], _ => rfl
  | p :: ps, x :: xs, ⟨_, _, _, h⟩ => by rw [List.length_cons, List.length_cons, StandL.len (ps := ps) (xs := xs) h]
theorem StandL.okp : ∀ {ps : List Part} {xs : List Int}, StandL ps xs → ∀ p ∈ ps, p.ok
  | [], [], _, p, hp => by cases hp
  | a :: ps, x :: xs, ⟨h, _, _, hr⟩, p, hp => by
    rcases List.mem_cons.mp hp with rfl | hp
    · exact h
    · exact StandL.okp (ps := ps) (xs := xs) hr p hp
theorem standL_of : ∀ {ps : List Part} {xs : List Int}, (∀ p ∈ ps, p.ok) → StandOk ps xs → StandL ps xs
  | [], [], _, _ => trivial
  | [], _ :: _, _, h => by have := h.1; simp at this
  | _ :: _, [], _, h => by have := h.1; simp at this
  | p :: ps, x :: xs, hp, h => by
    have a := h.2 0 p x rfl rfl
    exact ⟨hp p List.mem_cons_self, a.1, a.2, standL_of (fun q hq => hp q (List.mem_cons_of_mem _ hq)) ⟨by have := h.1; rw [List.length_cons, List.length_cons] at this; omega, fun i q y hq hy => h.2 (i + 1) q y hq hy⟩⟩
theorem StandL.ok : ∀ {ps : List Part} {xs : List Int}, StandL ps xs → StandOk ps xs
  | [], [], _ => ⟨rfl, fun i p x h _ => by simp at h⟩
  | p :: ps, x :: xs, ⟨_, a, b, h⟩ => by
    have ih := StandL.ok (ps := ps) (xs := xs) h
    refine ⟨by rw [List.length_cons, List.length_cons, ih.1], fun i q y hq hy => ?_⟩
    cases i with
    | zero =>
      cases Option.some.inj hq
      cases Option.some.inj hy
      exact ⟨a, b⟩
    | succ i => exact ih.2 i q y hq hy
/-! rows -/
structure Deed where
  i : Nat
  w : Int
  t : Nat
def Deed.ok (d : Deed) (n : Nat) : Prop := d.i < n ∧ Sign d.w
def Deed.data (d : Deed) : PyData := .tuple [.int d.i, .int d.w, .int d.t]
/-- one deed, at once -/
def deedL (ps : List Part) (xs : List Int) (d : Deed) : List Int × Int := (xs.take d.i ++ (gen (ptw d.w) (ps.drop d.i) (xs.drop d.i) d.t).1, d.w * (gen (ptw d.w) (ps.drop d.i) (xs.drop d.i) d.t).2)
def rowL (ps : List Part) : List Deed → List Int × Int → List Int × Int
  | [], s => s
  | d :: ds, s => rowL ps ds ((deedL ps s.1 d).1, s.2 + (deedL ps s.1 d).2)
theorem rowL_app (ps : List Part) : ∀ (ds es : List Deed) (s : List Int × Int), rowL ps (ds ++ es) s = rowL ps es (rowL ps ds s)
  | [], _, _ => rfl
  | d :: ds, es, s => rowL_app ps ds es _
theorem deedL_stand {ps : List Part} {xs : List Int} {d : Deed} (h : StandL ps xs) (hd : d.ok ps.length) : StandL ps (deedL ps xs d).1 :=
  stand_join d.i h (gen_stand hd.2 _ _ d.t (by omega) (stand_drop d.i h)).1
theorem rowL_stand {ps : List Part} : ∀ {ds : List Deed} {s : List Int × Int}, StandL ps s.1 → (∀ d ∈ ds, d.ok ps.length) → StandL ps (rowL ps ds s).1
  | [], _, h, _ => h
  | d :: ds, s, h, hd => rowL_stand (ds := ds) (deedL_stand h (hd d List.mem_cons_self)) fun e he => hd e (List.mem_cons_of_mem _ he)
/-- a deed, push by push: each push goes along the train from part i -/
def pushes (ps : List Part) (i : Nat) (w : Int) : Nat → List Int × Int → List Int × Int
  | 0, s => s
  | t + 1, s => ((Ct.run ps (pushes ps i w t s).1 i w).1, (pushes ps i w t s).2 + (Ct.run ps (pushes ps i w t s).1 i w).2)
theorem pushes_itP {ps : List Part} {xs : List Int} {i : Nat} {w : Int} (hl : xs.length = ps.length) (hi : i ≤ ps.length) (a : Int) : ∀ t, pushes ps i w t (xs, a) = (xs.take i ++ (itP (ps.drop i) w t (xs.drop i)).1, a + (itP (ps.drop i) w t (xs.drop i)).2) ∧ (itP (ps.drop i) w t (xs.drop i)).1.length = ps.length - i
  | 0 => by
    refine ⟨Prod.ext ?_ ?_, ?_⟩
    · show xs = xs.take i ++ xs.drop i
      rw [List.take_append_drop]
    · show a = a + 0
      omega
    · show (xs.drop i).length = _
      rw [List.length_drop, hl]
  | t + 1 => by
    obtain ⟨ih, il⟩ := pushes_itP hl hi a t
    have tl : (xs.take i).length = i := by rw [List.length_take]; omega
    have gl : ∀ (qs : List Part) (ys : List Int) (g : Int), (gen ppz qs ys g).1.length = ys.length := fun qs => by
      induction qs with
      | nil => intro ys g; rfl
      | cons q qs ih =>
        intro ys g
        cases ys with
        | nil => rfl
        | cons y ys =>
          show ((ppz q y g).1 :: (gen ppz qs ys (ppz q y g).2).1).length = _
          rw [List.length_cons, List.length_cons, ih]
    refine ⟨?_, ?_⟩
    · show ((Ct.run ps (pushes ps i w t (xs, a)).1 i w).1, (pushes ps i w t (xs, a)).2 + (Ct.run ps (pushes ps i w t (xs, a)).1 i w).2) = _
      rw [ih]
      rw [run_gen (by show (xs.take i ++ _).length = _; rw [List.length_append, tl, il]; omega) hi]
      show (List.take i (xs.take i ++ _) ++ (gen ppz (ps.drop i) (List.drop i (xs.take i ++ _)) w).1, a + _ + (gen ppz (ps.drop i) (List.drop i (xs.take i ++ _)) w).2) = _
      rw [List.take_left' tl, List.drop_left' tl]
      refine Prod.ext rfl ?_
      show a + (itP (ps.drop i) w t (xs.drop i)).2 + (gen ppz (ps.drop i) (itP (ps.drop i) w t (xs.drop i)).1 w).2 = a + ((itP (ps.drop i) w t (xs.drop i)).2 + (gen ppz (ps.drop i) (itP (ps.drop i) w t (xs.drop i)).1 w).2)
      omega
    · show (gen ppz (ps.drop i) (itP (ps.drop i) w t (xs.drop i)).1 w).1.length = _
      rw [gl, il]
theorem pushes_deed {ps : List Part} {xs : List Int} {d : Deed} (h : StandL ps xs) (hd : d.ok ps.length) (a : Int) : pushes ps d.i d.w d.t (xs, a) = ((deedL ps xs d).1, a + (deedL ps xs d).2) := by
  rw [(pushes_itP h.len (Nat.le_of_lt hd.1) a d.t).1, itP_gen hd.2 _ _ _ (stand_drop d.i h)]
  rfl
theorem pushes_stand {ps : List Part} {xs : List Int} {i : Nat} {w : Int} (h : StandL ps xs) (hi : i < ps.length) (hw : Sign w) (a : Int) (t : Nat) : StandL ps (pushes ps i w t (xs, a)).1 := by
  have := deedL_stand (d := ⟨i, w, t⟩) h ⟨hi, hw⟩
  rw [pushes_deed (d := ⟨i, w, t⟩) h ⟨hi, hw⟩ a]
  exact this
section
variable {K : PySem.W.Frag} {H : Hp}
theorem deed_inv {v : V} {d : Deed} (h : Dp K H v d.data) : ∃ a, v = .ref a ∧ SqT K H a [.int d.i, .int d.w, .int d.t] := by
  obtain ⟨a, vs, rfl, hs, ht⟩ := tup_inv h
  cases ht with
  | cons h1 t1 => cases h1; cases t1 with
    | cons h2 t2 => cases h2; cases t2 with
      | cons h3 t3 => cases h3; cases t3; exact ⟨a, rfl, hs⟩
theorem deed_dp {a : Addr} {d : Deed} (h : SqT K H a [.int d.i, .int d.w, .int d.t]) : Dp K H (.ref a) d.data := .tup h (.cons (.int _) (.cons (.int _) (.cons (.int _) .nil)))
theorem deeds_upd {l : Addr} {ws : List V} {o : HO} (hl : H l = some (.lst ws)) : ∀ {vs : List V} (ds : List Deed), DpAll K H vs (ds.map Deed.data) → DpAll K (upd H l o) vs (ds.map Deed.data)
  | _, [], .nil => .nil
  | _, d :: r, .cons h t => by
    obtain ⟨a, rfl, ha⟩ := deed_inv h
    exact .cons (deed_dp (sqT_upd ha hl)) (deeds_upd hl r t)
def RowAt (K : PySem.W.Frag) (H : Hp) (a : Addr) (ds : List Deed) : Prop := ∃ vs, SqL K H a vs ∧ DpAll K H vs (ds.map Deed.data)
theorem RowAt.same {H' : Hp} {a : Addr} {ds : List Deed} (e : Same H H') (h : RowAt K H a ds) : RowAt K H' a ds := by
  obtain ⟨vs, h1, h2⟩ := h
  exact ⟨vs, e.seq h1, dpAll_same e h2⟩
theorem deed_get {ds : List Deed} {vs : List V} (h2 : DpAll K H vs (ds.map Deed.data)) {i : Nat} {d : Deed} (e : ds[i]? = some d) : ∃ v, vs[i]? = some v ∧ Dp K H v d.data :=
  dpAll_get h2 (by rw [List.getElem?_map, e]; rfl)
end
theorem lay_deed (d : Deed) : d.data.canLay0 = true ∧ d.data.depth ≤ 1 := lay_tup (n := 0) (lay_ints [(d.i : Int), d.w, (d.t : Int)] 0)
theorem lay_row (ds : List Deed) : (PyData.list (ds.map Deed.data)).canLay0 = true ∧ (PyData.list (ds.map Deed.data)).depth ≤ 2 := lay_lst fun d hd => by
  obtain ⟨e, _, rfl⟩ := List.mem_map.mp hd
  exact lay_deed e
/-! what the checks look at -/
def isW : PyData → Bool
  | .int _ => true
  | _ => false
def risesD (last z : Int) : List PyData → Bool
  | [] => true
  | .int m :: r => if m ≤ last ∨ z ≤ m then false else risesD m z r
  | _ :: _ => false
def areM (d : PyData) (z : Int) : Bool := match d with
  | .tuple ds => risesD (-1) z ds
  | _ => false
def wheelT : List PyData → Bool
  | [.int z, m] => decide (1 ≤ z) && areM m z
  | _ => false
def springT : List PyData → Bool
  | [.int k] => decide (1 ≤ k)
  | _ => false
def isP : PyData → Bool
  | .tuple (h :: t) =>
    if PyData.eqv h (.str "wheel") = true then wheelT t
    else if PyData.eqv h (.str "spring") = true then springT t
    else PyData.eqv (.tuple (h :: t)) (.tuple [.str "click"]) || PyData.eqv (.tuple (h :: t)) (.tuple [.str "rocker"])
  | _ => false
theorem rises_of : ∀ {ms : List Int} {last z : Int}, ms.Pairwise (· < ·) → (∀ m ∈ ms, last < m ∧ m < z) → risesD last z (ms.map PyData.int) = true
  | [], _, _, _, _ => rfl
  | m :: ms, last, z, h, hm => by
    obtain ⟨h1, h2⟩ := List.pairwise_cons.mp h
    have hm1 := hm m List.mem_cons_self
    show (if m ≤ last ∨ z ≤ m then false else risesD m z (ms.map PyData.int)) = true
    rw [if_neg (by omega)]
    exact rises_of h2 fun x hx => ⟨h1 x hx, (hm x (List.mem_cons_of_mem _ hx)).2⟩
theorem isP_of {p : Part} (ok : p.ok) : isP p.data = true := by
  cases p with
  | wheel z ms =>
    simp only [isP, Part.data, wheelT, areM]
    rw [if_pos (by decide +kernel), decide_eq_true ok.1, rises_of ok.2.2.1.1 fun m hm => ?_]
    · rfl
    · have := ok.2.2.1.2 m hm
      omega
  | click => decide +kernel
  | rocker => decide +kernel
  | spring k =>
    simp only [isP, Part.data, springT]
    rw [if_neg (by decide +kernel), if_pos (by decide +kernel)]
    exact decide_eq_true ok.1
def isD (d : PyData) (n : Int) : Bool := match d with
  | .tuple [.int i, .int w, .int t] => decide (0 ≤ i) && decide (i < n) && (decide (w = 1) || decide (w = -1)) && decide (0 ≤ t)
  | _ => false
theorem dpAll_drop {K : PySem.W.Frag} {H : Hp} : ∀ {vs : List V} {ds : List PyData} (k : Nat), DpAll K H vs ds → DpAll K H (vs.drop k) (ds.drop k)
  | _, _, 0, h => h
  | _, _, _ + 1, .nil => .nil
  | _, _, k + 1, .cons _ t => dpAll_drop k t
theorem dpAll_take {K : PySem.W.Frag} {H : Hp} : ∀ {vs : List V} {ds : List PyData} (k : Nat), DpAll K H vs ds → DpAll K H (vs.take k) (ds.take k)
  | _, _, 0, _ => .nil
  | _, _, _ + 1, .nil => .nil
  | _, _, k + 1, .cons h t => .cons h (dpAll_take k t)
theorem dpAll_cut {K : PySem.W.Frag} {H : Hp} {vs : List V} {ds : List Deed} (lo hi : Option Int) (h : DpAll K H vs (ds.map Deed.data)) : ∃ es : List Deed, DpAll K H (cutV vs lo hi) (es.map Deed.data) ∧ ∀ d ∈ es, d ∈ ds := by
  refine ⟨(ds.drop (HT.sIx vs.length 0 lo)).take (HT.sIx vs.length vs.length hi - HT.sIx vs.length 0 lo), ?_, fun d hd => List.mem_of_mem_drop (List.mem_of_mem_take hd)⟩
  rw [List.map_take, List.map_drop]
  exact dpAll_take _ (dpAll_drop _ h)
/-! how often each mark is met -/
def wsum (z : Int) : List Int → Int → Int
  | [], _ => 0
  | m :: r, y => (y - m) / z + wsum z r y
theorem wsum_app (z y : Int) : ∀ (ms : List Int) (m : Int), wsum z (ms ++ [m]) y = wsum z ms y + (y - m) / z
  | [], m => by
    show (y - m) / z + 0 = 0 + (y - m) / z
    omega
  | a :: r, m => by
    show (y - a) / z + wsum z (r ++ [m]) y = (y - a) / z + wsum z r y + (y - m) / z
    rw [wsum_app z y r m]
    omega
theorem wsum_mah {z : Int} (hz : 1 ≤ z) (y : Int) : ∀ {ms : List Int}, (∀ m ∈ ms, 0 ≤ m ∧ m < z) → wsum z ms y = mah z ms y - ms.length
  | [], _ => by
    show (0 : Int) = y / z * ((0 : Nat) : Int) + 0 - ((0 : Nat) : Int)
    rw [show ((0 : Nat) : Int) = 0 from rfl, Int.mul_zero]
    rfl
  | m :: r, h => by
    have hm := h m List.mem_cons_self
    have ih := wsum_mah hz y (ms := r) fun x hx => h x (List.mem_cons_of_mem _ hx)
    have e := Int.emod_add_mul_ediv y z
    have r0 := Int.emod_nonneg y (show z ≠ 0 by omega)
    have r1 := Int.emod_lt_of_pos y (show 0 < z by omega)
    show (y - m) / z + wsum z r y = _
    rw [ih]
    unfold mah
    rw [cnt_cons, List.length_cons, show ((r.length + 1 : Nat) : Int) = (r.length : Int) + 1 by omega, Int.mul_add, Int.mul_one]
    by_cases hmr : m ≤ y % z
    · obtain ⟨e1, _⟩ := (Int.ediv_emod_unique (a := y - m) (b := z) (r := y % z - m) (q := y / z) (by omega)).mpr ⟨by omega, by omega, by omega⟩
      rw [e1, if_pos hmr]
      omega
    · obtain ⟨e1, _⟩ := (Int.ediv_emod_unique (a := y - m) (b := z) (r := y % z - m + z) (q := y / z - 1) (by omega)).mpr ⟨by rw [Int.mul_sub]; omega, by omega, by omega⟩
      rw [e1, if_neg hmr]
      omega
theorem wsum_up {z : Int} {ms : List Int} {x : Int} (ok : (Part.wheel z ms).ok) (t : Nat) : wsum z ms (x + t) - wsum z ms x = (pt (.wheel z ms) x 1 t).2 := by
  have rs : Rise z ms := ok.2.2.1
  have u := mah_up ok.1 rs x t
  rw [wsum_mah ok.1 _ rs.2, wsum_mah ok.1 _ rs.2]
  simp only [pt, Int.one_mul]
  rw [neg_abs (by omega)]
  omega
theorem wsum_down {z : Int} {ms : List Int} {x : Int} (ok : (Part.wheel z ms).ok) (t : Nat) : wsum z ms x - wsum z ms (x - t) = (pt (.wheel z ms) x (-1) t).2 := by
  have rs : Rise z ms := ok.2.2.1
  have u := mah_up ok.1 rs (x - t) t
  rw [show x - (t : Int) + t = x by omega] at u
  rw [wsum_mah ok.1 _ rs.2, wsum_mah ok.1 _ rs.2]
  simp only [pt, show x + -1 * (t : Int) = x - t by omega]
  rw [abs_neg (by omega)]
  omega
/-! a deed in two -/
theorem pushes_add (ps : List Part) (i : Nat) (w : Int) (a : Nat) (s : List Int × Int) : ∀ b, pushes ps i w (a + b) s = pushes ps i w b (pushes ps i w a s)
  | 0 => rfl
  | b + 1 => by
    show ((Ct.run ps (pushes ps i w (a + b) s).1 i w).1, (pushes ps i w (a + b) s).2 + (Ct.run ps (pushes ps i w (a + b) s).1 i w).2) = _
    rw [pushes_add ps i w a s b]
    rfl
theorem rowL_one {ps : List Part} {s : List Int × Int} {d : Deed} (h : StandL ps s.1) (hd : d.ok ps.length) : rowL ps [d] s = pushes ps d.i d.w d.t s := (pushes_deed h hd s.2).symm
def halves : List Deed → List Deed
  | [] => []
  | d :: r => ⟨d.i, d.w, d.t / 2⟩ :: ⟨d.i, d.w, d.t - d.t / 2⟩ :: halves r
theorem halves_app : ∀ (ds es : List Deed), halves (ds ++ es) = halves ds ++ halves es
  | [], _ => rfl
  | d :: r, es => by
    show _ :: _ :: halves (r ++ es) = _ :: _ :: (halves r ++ halves es)
    rw [halves_app r es]
theorem halves_ok {n : Nat} {b : Nat} : ∀ {ds : List Deed}, (∀ d ∈ ds, d.ok n ∧ d.t < b) → ∀ d ∈ halves ds, d.ok n ∧ d.t < b
  | [], _, d, hd => by cases hd
  | e :: r, h, d, hd => by
    have he := h e List.mem_cons_self
    rcases List.mem_cons.mp hd with rfl | hd
    · exact ⟨he.1, Nat.lt_of_le_of_lt (Nat.div_le_self _ _) he.2⟩
    rcases List.mem_cons.mp hd with rfl | hd
    · exact ⟨he.1, Nat.lt_of_le_of_lt (Nat.sub_le _ _) he.2⟩
    · exact halves_ok (fun d hd => h d (List.mem_cons_of_mem _ hd)) d hd
theorem rowL_halves {ps : List Part} : ∀ {ds : List Deed} {s : List Int × Int}, StandL ps s.1 → (∀ d ∈ ds, d.ok ps.length) → rowL ps (halves ds) s = rowL ps ds s
  | [], _, _, _ => rfl
  | d :: r, s, h, hd => by
    have hd0 := hd d List.mem_cons_self
    have k1 : Deed.ok ⟨d.i, d.w, d.t / 2⟩ ps.length := hd0
    have k2 : Deed.ok ⟨d.i, d.w, d.t - d.t / 2⟩ ps.length := hd0
    show rowL ps ([⟨d.i, d.w, d.t / 2⟩] ++ ([⟨d.i, d.w, d.t - d.t / 2⟩] ++ halves r)) s = rowL ps ([d] ++ r) s
    have h1 : StandL ps (rowL ps [⟨d.i, d.w, d.t / 2⟩] s).1 := rowL_stand h fun e he => by rw [List.mem_singleton] at he; rw [he]; exact k1
    have h2 : StandL ps (rowL ps [⟨d.i, d.w, d.t - d.t / 2⟩] (rowL ps [⟨d.i, d.w, d.t / 2⟩] s)).1 := rowL_stand h1 fun e he => by rw [List.mem_singleton] at he; rw [he]; exact k2
    rw [rowL_app, rowL_app, rowL_app, rowL_halves h2 fun e he => hd e (List.mem_cons_of_mem _ he)]
    rw [rowL_one h1 k2, rowL_one h k1, rowL_one h hd0, ← pushes_add, show d.t / 2 + (d.t - d.t / 2) = d.t by omega]
theorem run_deed {ps : List Part} {xs : List Int} {i : Nat} {w : Int} (h : StandL ps xs) (hi : i < ps.length) (hw : Sign w) : deedL ps xs ⟨i, w, 1⟩ = Ct.run ps xs i w := by
  have e : ((Ct.run ps xs i w).1, 0 + (Ct.run ps xs i w).2) = ((deedL ps xs ⟨i, w, 1⟩).1, 0 + (deedL ps xs ⟨i, w, 1⟩).2) := pushes_deed (d := ⟨i, w, 1⟩) h ⟨hi, hw⟩ 0
  obtain ⟨e1, e2⟩ := Prod.mk.inj e
  exact Prod.ext e1.symm (by omega)
theorem rowL_snoc (ps : List Part) (ds : List Deed) (d : Deed) (s : List Int × Int) : rowL ps (ds ++ [d]) s = ((deedL ps (rowL ps ds s).1 d).1, (rowL ps ds s).2 + (deedL ps (rowL ps ds s).1 d).2) := rowL_app ps ds [d] s
theorem told_dp {K : PySem.W.Frag} {H : Hp} {q u : Addr} {xs : List Int} {y : Int} (h : SqT K H q [.ref u, .int y]) (hu : SqT K H u (xs.map V.int)) : Dp K H (.ref q) (.tuple [.tuple (xs.map PyData.int), .int y]) :=
  .tup h (.cons (.tup hu (dpAll_ints xs)) (.cons (.int y) .nil))
end Ct

namespace Ct
open PySem PySem.Spec PyProof.Rows L2
/-! all stands of a train -/
theorem ip_mul {X : Cx} : PIp X .Mult (rI CMul fun i j => .int (i * j)) := iop_mul
def rowS (s : List Int) (k : Nat) : List (List Int) := (List.range k).map fun (x : Nat) => s ++ [(x : Int)]
def grow (ss : List (List Int)) (p : Part) : List (List Int) := ss.flatMap fun s => rowS s p.places.toNat
def allS (ps : List Part) : List (List Int) := ps.foldl grow [[]]
def tupD (s : List Int) : PyData := .tuple (s.map PyData.int)
theorem rowS_len (s : List Int) (k : Nat) : (rowS s k).length = k := by
  unfold rowS
  rw [List.length_map, List.length_range]
theorem rowS_succ (s : List Int) (k : Nat) : rowS s (k + 1) = rowS s k ++ [s ++ [(k : Int)]] := by
  unfold rowS
  rw [List.range_succ, List.map_append]
  rfl
theorem flat_len (k : Nat) : ∀ ss : List (List Int), (ss.flatMap fun s => rowS s k).length = ss.length * k
  | [] => by simp
  | s :: r => by
    rw [List.flatMap_cons, List.length_append, rowS_len, flat_len k r, List.length_cons, Nat.add_mul, Nat.one_mul]
    omega
theorem allS_snoc (ps : List Part) (p : Part) : allS (ps ++ [p]) = grow (allS ps) p := by
  unfold allS
  rw [List.foldl_append]
  rfl
theorem allS_take {ps : List Part} {n : Nat} {p : Part} (h : ps[n]? = some p) : allS (ps.take (n + 1)) = grow (allS (ps.take n)) p := by
  rw [List.take_add_one, h]
  exact allS_snoc _ _
theorem stands_take {ps : List Part} {n : Nat} {p : Part} (h : ps[n]? = some p) : stands (ps.take (n + 1)) = stands (ps.take n) * p.places := by
  rw [List.take_add_one, h]
  exact stands_app _ _
theorem allS_len {ps : List Part} (hok : ∀ p ∈ ps, p.ok) : ∀ n, n ≤ ps.length → ((allS (ps.take n)).length : Int) = stands (ps.take n)
  | 0, _ => rfl
  | n + 1, hn => by
    obtain ⟨p, hp⟩ : ∃ p, ps[n]? = some p := ⟨_, List.getElem?_eq_getElem (by omega)⟩
    have po := (hok p (List.mem_of_getElem? hp)).pos.1
    rw [allS_take hp, stands_take hp, ← allS_len hok n (by omega)]
    unfold grow
    rw [flat_len, Int.natCast_mul, Int.toNat_of_nonneg (by omega)]
theorem stands_le {ps : List Part} (hok : ∀ p ∈ ps, p.ok) : ∀ n, n ≤ ps.length → stands (ps.take (ps.length - n)) ≤ stands ps
  | 0, _ => by
    rw [Nat.sub_zero, List.take_length]
    exact Int.le_refl _
  | n + 1, hn => by
    have ih := stands_le hok n (by omega)
    obtain ⟨p, hp⟩ : ∃ p, ps[ps.length - (n + 1)]? = some p := ⟨_, List.getElem?_eq_getElem (by omega)⟩
    have po := (hok p (List.mem_of_getElem? hp)).pos.1
    have e := stands_take hp
    rw [show ps.length - (n + 1) + 1 = ps.length - n by omega] at e
    have sp := stands_pos (ps.take (ps.length - (n + 1))) fun q hq => hok q (List.mem_of_mem_take hq)
    rw [e] at ih
    have := Int.mul_le_mul_of_nonneg_left po (show 0 ≤ stands (ps.take (ps.length - (n + 1))) by omega)
    omega
theorem stands_le' {ps : List Part} (hok : ∀ p ∈ ps, p.ok) {n : Nat} (hn : n ≤ ps.length) : stands (ps.take n) ≤ stands ps := by
  have := stands_le hok (ps.length - n) (by omega)
  rw [show ps.length - (ps.length - n) = n by omega] at this
  exact this
theorem place_le {ps : List Part} (hok : ∀ p ∈ ps, p.ok) {n : Nat} {p : Part} (hp : ps[n]? = some p) : p.places ≤ stands ps := by
  have hn : n < ps.length := (List.getElem?_eq_some_iff.mp hp).1
  have po := (hok p (List.mem_of_getElem? hp)).pos.1
  have h3 := stands_le' hok (n := n + 1) hn
  have sp := stands_pos (ps.take n) fun q hq => hok q (List.mem_of_mem_take hq)
  rw [stands_take hp] at h3
  have := Int.mul_le_mul_of_nonneg_right sp (show 0 ≤ p.places by omega)
  omega
theorem fold_each {k : Nat} : ∀ (ps : List Part) (ss : List (List Int)), (∀ s ∈ ss, s.length = k) → ∀ s ∈ ps.foldl grow ss, s.length = k + ps.length
  | [], ss, h, s, hs => h s hs
  | p :: ps, ss, h, s, hs => by
    have := fold_each (k := k + 1) ps (grow ss p) (fun t ht => by
      obtain ⟨u, hu, hr⟩ := List.mem_flatMap.mp ht
      obtain ⟨x, _, rfl⟩ := List.mem_map.mp hr
      rw [List.length_append, h u hu]
      rfl) s hs
    rw [List.length_cons]
    omega
theorem allS_each (ps : List Part) (s : List Int) (h : s ∈ allS ps) : s.length = ps.length := by
  have := fold_each (k := 0) ps [[]] (fun t ht => by rw [List.mem_singleton] at ht; rw [ht]; rfl) s h
  omega
theorem grow_le {ps : List Part} (hok : ∀ p ∈ ps, p.ok) {n : Nat} {p : Part} (hp : ps[n]? = some p) {i : Nat} : (((allS (ps.take n)).take i).flatMap fun s => rowS s p.places.toNat).length ≤ (stands ps).toNat := by
  have hn : n < ps.length := (List.getElem?_eq_some_iff.mp hp).1
  have h1 : (((allS (ps.take n)).take i).flatMap fun s => rowS s p.places.toNat).length ≤ (grow (allS (ps.take n)) p).length := by
    unfold grow
    rw [flat_len, flat_len, List.length_take]
    exact Nat.mul_le_mul_right _ (Nat.min_le_right _ _)
  rw [← allS_take hp] at h1
  have h2 := allS_len hok (n + 1) hn
  have h3 := stands_le' hok (n := n + 1) hn
  omega
section
variable {K : PySem.W.Frag} {H : Hp}
theorem tupD_inv {v : V} {s : List Int} (h : Dp K H v (tupD s)) : ∃ a, v = .ref a ∧ SqT K H a (s.map V.int) := by
  obtain ⟨a, vs, rfl, hs, ht⟩ := tup_inv h
  cases dpAll_ints_inv s ht
  exact ⟨a, rfl, hs⟩
theorem tupD_dp {a : Addr} {s : List Int} (h : SqT K H a (s.map V.int)) : Dp K H (.ref a) (tupD s) := .tup h (dpAll_ints s)
theorem tups_upd {l : Addr} {ws : List V} {o : HO} (hl : H l = some (.lst ws)) : ∀ {vs : List V} (ss : List (List Int)), DpAll K H vs (ss.map tupD) → DpAll K (upd H l o) vs (ss.map tupD)
  | _, [], .nil => .nil
  | _, s :: r, .cons h t => by
    obtain ⟨a, rfl, ha⟩ := tupD_inv h
    exact .cons (tupD_dp (sqT_upd ha hl)) (tups_upd hl r t)
theorem tup_get {ss : List (List Int)} {vs : List V} (h2 : DpAll K H vs (ss.map tupD)) {i : Nat} {s : List Int} (e : ss[i]? = some s) : ∃ a, vs[i]? = some (.ref a) ∧ SqT K H a (s.map V.int) := by
  obtain ⟨v, hv, hd⟩ := dpAll_get h2 (d := tupD s) (by rw [List.getElem?_map, e]; rfl)
  obtain ⟨a, rfl, ha⟩ := tupD_inv hd
  exact ⟨a, hv, ha⟩
end
theorem lay_tupD (s : List Int) : (tupD s).canLay0 = true ∧ (tupD s).depth ≤ 1 := lay_tup (lay_ints s 0)
theorem lay_tups (ss : List (List Int)) : (PyData.list (ss.map tupD)).canLay0 = true ∧ (PyData.list (ss.map tupD)).depth ≤ 2 := lay_lst fun d hd => by
  obtain ⟨s, _, rfl⟩ := List.mem_map.mp hd
  exact lay_tupD s
theorem stands_rev : ∀ ps : List Part, stands ps.reverse = stands ps
  | [] => rfl
  | p :: r => by
    rw [List.reverse_cons, stands_app, stands_rev r]
    exact Int.mul_comm _ _
theorem dpAll_rev {K : PySem.W.Frag} {H : Hp} : ∀ {vs : List V} {ds : List PyData}, DpAll K H vs ds → DpAll K H vs.reverse ds.reverse
  | _, _, .nil => .nil
  | _, _, .cons h t => by
    rw [List.reverse_cons, List.reverse_cons]
    exact dpAll_app (dpAll_rev t) (.cons h .nil)
/-! two fors in one list -/
section
variable {K : PySem.W.Frag} {H : Hp} {σ : L2.St} {Q : VK}
def LB2 (J : It) (g : TG) (tt : TT) (wi1 : TI) (g1 : TG) (tt1 : TT) (te : TE) (vs vs1 : List Nat) (σ : L2.St) (H : Hp) (Q : VK) : Prop := tLc2 (fun _ H R => R J H) g tt wi1 g1 tt1 te vs vs1 σ H Q
theorem w_lc2 {wi wi1 : TI} {g g1 : TG} {tt tt1 : TT} {te : TE} {vs vs1 : List Nat} (h : wi σ H fun J H1 => LB2 J g tt wi1 g1 tt1 te vs vs1 σ H1 Q) : tLc2 wi g tt wi1 g1 tt1 te vs vs1 σ H Q := h
/-- the inner loop, from which Nx is reached -/
def IB (J : It) (g : TG) (tt : TT) (te : TE) (vs : List Nat) (D : Addr) (σ : L2.St) (H : Hp) (Nx : Hp → Prop) : Prop :=
  ∃ U : Nat → Nat → Hp → Prop, (∃ m, U 0 m H) ∧
    ∀ j k H, U j k H → (J.stop j H ∧ Nx H) ∨
      (J.go j H ∧ ∃ Z : Hp → Prop, (∀ H', Z H' → ∃ k', k' < k ∧ U (j + 1) k' H') ∧
        ∀ x H', J.yld j H x H' →
          g x (wipe σ vs) H' fun σ3 H5 => wipe σ3 vs = wipe σ vs ∧ tt σ3 H5 fun b H6 =>
            if b = true then te σ3 H6 fun y H7 => ∃ acc, H7 D = some (.lst acc) ∧ acc.length < sizeLine ∧ Z (upd H7 D (.lst (acc ++ [y]))) else Z H6)
theorem ib_range {lo : Int} {n : Nat} {g : TG} {tt : TT} {te : TE} {vs : List Nat} {D : Addr} {Nx : Hp → Prop} (Pi : Nat → Hp → Prop) (h0 : Pi 0 H)
    (hs : ∀ j H, j < n → Pi j H → g (.int (lo + j)) (wipe σ vs) H fun σ3 H5 => wipe σ3 vs = wipe σ vs ∧ tt σ3 H5 fun b H6 =>
      if b = true then te σ3 H6 fun y H7 => ∃ acc, H7 D = some (.lst acc) ∧ acc.length < sizeLine ∧ Pi (j + 1) (upd H7 D (.lst (acc ++ [y]))) else Pi (j + 1) H6) (hd : ∀ H, Pi n H → Nx H) : IB (Itr lo n) g tt te vs D σ H Nx := by
  refine ⟨fun j k H => k = n - j ∧ j ≤ n ∧ Pi j H, ⟨n, rfl, Nat.zero_le _, h0⟩, ?_⟩
  rintro j k H ⟨rfl, hj, p⟩
  by_cases hlt : j < n
  · refine .inr ⟨hlt, Pi (j + 1), fun H' p' => ⟨n - (j + 1), by omega, rfl, hlt, p'⟩, fun x H' y => ?_⟩
    obtain ⟨e1, e2⟩ := y
    subst e1 e2
    exact hs j _ hlt p
  · have e : j = n := by omega
    subst e
    exact .inl ⟨Nat.le_refl _, hd H p⟩
theorem lb2_list {a : Addr} (xs : List V) {wi1 : TI} {g g1 : TG} {tt tt1 : TT} {te : TE} {vs vs1 : List Nat} (Pv : Addr → Nat → Hp → Prop) (h0 : ∀ D, H D = none → Pv D 0 (upd H D (.lst []))) (hl : ∀ D, H D = none → ∀ i H1, i ≤ xs.length → Pv D i H1 → SqL K H1 a xs)
    (hs : ∀ D, H D = none → ∀ i x H1, xs[i]? = some x → Pv D i H1 → g x (wipe σ vs) H1 fun σ2 H2 => wipe σ2 vs = wipe σ vs ∧ tt σ2 H2 fun b H3 =>
      if b = true then wi1 σ2 H3 fun J1 H4 => IB J1 g1 tt1 te vs1 D σ2 H4 (Pv D (i + 1)) else Pv D (i + 1) H3) (hd : ∀ D, H D = none → ∀ H1, Pv D xs.length H1 → Q (.ref D) H1) : LB2 (Itl K a) g tt wi1 g1 tt1 te vs vs1 σ H Q := by
  intro D hD
  refine ⟨fun i m H1 => m = xs.length - i ∧ i ≤ xs.length ∧ Pv D i H1, ⟨xs.length, rfl, Nat.zero_le _, h0 D hD⟩, ?_⟩
  rintro i m H1 ⟨rfl, hi, p⟩
  have q := hl D hD i H1 hi p
  by_cases hlt : i < xs.length
  · refine .inr ⟨⟨xs, _, q, List.getElem?_eq_getElem hlt⟩, Pv D (i + 1), fun H' p' => ⟨xs.length - (i + 1), by omega, rfl, hlt, p'⟩, fun x H' y => ?_⟩
    obtain ⟨e, y⟩ := y
    subst e
    exact hs D hD i x _ (y xs q) p
  · have e : i = xs.length := by omega
    subst e
    exact .inl ⟨⟨xs, q, Nat.le_refl _⟩, hd D hD H1 p⟩
theorem w_star {te : TE} {t : TA} {QA : List V → Hp → Prop} (h : te σ H fun x H1 => ∃ p xs, x = V.ref p ∧ (SqT K H1 p xs ∨ SqL K H1 p xs) ∧ t σ H1 fun ys H2 => QA (xs ++ ys) H2) : StX.tStar K te t σ H QA := h
theorem lb_tup {a : Addr} (xs : List V) {g : TG} {tt : TT} {te : TE} {vs : List Nat} (Pv : Addr → Nat → Hp → Prop) (h0 : ∀ D, H D = none → Pv D 0 (upd H D (.lst []))) (hl : ∀ D, H D = none → ∀ i H1, i ≤ xs.length → Pv D i H1 → SqT K H1 a xs)
    (hs : ∀ D, H D = none → ∀ i x H1, xs[i]? = some x → Pv D i H1 → g x (wipe σ vs) H1 fun σ2 H2 => wipe σ2 vs = wipe σ vs ∧ tt σ2 H2 fun b H3 =>
      if b = true then te σ2 H3 fun y H4 => ∃ acc, H4 D = some (.lst acc) ∧ acc.length < sizeLine ∧ Pv D (i + 1) (upd H4 D (.lst (acc ++ [y]))) else Pv D (i + 1) H3) (hd : ∀ D, H D = none → ∀ H1, Pv D xs.length H1 → Q (.ref D) H1) : LB (Itt K a) g tt te vs σ H Q :=
  fun D hD => lc_tup (Pv D) (h0 D hD) (hl D hD) (hs D hD) (hd D hD)
theorem w_revL {te : TE} (h : te σ H fun x H1 => ∃ a xs, x = .ref a ∧ SqL K H1 a xs ∧ ∀ p, H1 p = none → Q (.ref p) (upd H1 p (.lst xs.reverse))) : tRevL K te σ H Q := h
end
end Ct
namespace Ct
open PySem PySem.Spec PyProof.Rows L2
theorem w_catA {K : PySem.W.Frag} {H : Hp} {Q : VK} {a b : Addr} {xs ys : List V} (ha : SqT K H a xs) (hb : SqT K H b ys) (l : xs.length + ys.length ≤ 1000) (q : ∀ u H', Same H H' → SqT K H' u (xs ++ ys) → Q (.ref u) H') : rCatA K (.ref a) (.ref b) H Q := by
  refine ⟨a, b, xs, ys, rfl, rfl, ha, hb, Nat.le_of_lt (small1000 l), fun hx => ?_, fun _ hy => ?_, fun _ _ p np => ?_⟩
  · refine q b H (Same.refl H) ?_
    rw [hx, List.nil_append]
    exact hb
  · refine q a H (Same.refl H) ?_
    rw [hy, List.append_nil]
    exact ha
  · exact q p _ (same_upd np) (.of upd_same)
end Ct
namespace Ct
open PySem PySem.Spec PyProof.Rows L2
theorem standL_app : ∀ {ps qs : List Part} {xs ys : List Int}, StandL ps xs → StandL qs ys → StandL (ps ++ qs) (xs ++ ys)
  | [], _, [], _, _, h => h
  | _ :: _, _, _ :: _, _, ⟨a, b, c, d⟩, h => ⟨a, b, c, standL_app d h⟩
end Ct
namespace Ct
open PySem PySem.Spec PyProof.Rows L2
/-! signs fed to a train -/
def isSg : PyData → Bool
  | .int i => decide (i ∈ [(1 : Int), -1, 0])
  | _ => false
theorem isSg_of {s : Int} (h : s = 0 ∨ Sign s) : isSg (.int s) = true := by
  rcases h with h | h | h <;> rw [h] <;> decide
theorem run_zero (ps : List Part) (xs : List Int) (i : Nat) : Ct.run ps xs i 0 = (xs, 0) := by
  unfold Ct.run
  have z := runN_zero (ps := ps) (i := i) (s := (xs, 0)) (n := 0) rfl (ps.length - i)
  rw [Nat.zero_add] at z
  exact z
theorem run_stand {ps : List Part} {xs : List Int} {i : Nat} {w : Int} (h : StandL ps xs) (hi : i < ps.length) (hw : w = 0 ∨ Sign w) : StandL ps (Ct.run ps xs i w).1 := by
  rcases hw with e | e
  · rw [e, run_zero]
    exact h
  · rw [← run_deed h hi e]
    exact deedL_stand h ⟨hi, e⟩
def fedS (ps : List Part) : List Int → List Int → List Int × List Int
  | xs, [] => (xs, [])
  | xs, s :: r => ((fedS ps (Ct.run ps xs 0 s).1 r).1, (Ct.run ps xs 0 s).2 :: (fedS ps (Ct.run ps xs 0 s).1 r).2)
theorem fedS_snoc (ps : List Part) (s : Int) : ∀ (ss : List Int) (xs : List Int), fedS ps xs (ss ++ [s]) = ((Ct.run ps (fedS ps xs ss).1 0 s).1, (fedS ps xs ss).2 ++ [(Ct.run ps (fedS ps xs ss).1 0 s).2])
  | [], xs => rfl
  | a :: r, xs => by
    rw [List.cons_append, fedS, fedS_snoc ps s r, fedS]
    rfl
theorem fedS_take {ps : List Part} {ss : List Int} {k : Nat} {s : Int} (xs : List Int) (h : ss[k]? = some s) : fedS ps xs (ss.take (k + 1)) = ((Ct.run ps (fedS ps xs (ss.take k)).1 0 s).1, (fedS ps xs (ss.take k)).2 ++ [(Ct.run ps (fedS ps xs (ss.take k)).1 0 s).2]) := by
  rw [← fedS_snoc, List.take_add_one, h]
  rfl
theorem fedS_stand {ps : List Part} (h1 : 1 ≤ ps.length) : ∀ {ss : List Int} {xs : List Int}, StandL ps xs → (∀ s ∈ ss, s = 0 ∨ Sign s) → StandL ps (fedS ps xs ss).1
  | [], _, h, _ => h
  | s :: r, _, h, hs => fedS_stand (ss := r) h1 (run_stand h h1 (hs s List.mem_cons_self)) fun t ht => hs t (List.mem_cons_of_mem s ht)
theorem fedS_len (ps : List Part) : ∀ (ss : List Int) (xs : List Int), (fedS ps xs ss).2.length = ss.length
  | [], _ => rfl
  | s :: r, xs => by
    rw [fedS, List.length_cons, List.length_cons, fedS_len ps r]
end Ct
namespace Ct
open PySem PySem.Spec PyProof.Rows L2
theorem fold_mem : ∀ (ps : List Part) (ss : List (List Int)) (xs : List Int), (∀ p ∈ ps, p.ok) → (xs ∈ ps.foldl grow ss ↔ ∃ s ∈ ss, ∃ ys, xs = s ++ ys ∧ StandL ps ys)
  | [], ss, xs, _ => by
    constructor
    · intro h
      exact ⟨xs, h, [], (List.append_nil xs).symm, trivial⟩
    · rintro ⟨s, hs, ys, rfl, hy⟩
      cases ys with
      | nil => rw [List.append_nil]; exact hs
      | cons _ _ => exact nomatch hy
  | p :: ps, ss, xs, ok => by
    have po := (ok p List.mem_cons_self).pos.1
    rw [List.foldl_cons, fold_mem ps (grow ss p) xs fun q hq => ok q (List.mem_cons_of_mem _ hq)]
    constructor
    · rintro ⟨s', hs', ys, rfl, hy⟩
      obtain ⟨s, hs, hin⟩ := List.mem_flatMap.mp hs'
      obtain ⟨k, hk, rfl⟩ := List.mem_map.mp hin
      rw [List.mem_range] at hk
      exact ⟨s, hs, (k : Int) :: ys, by rw [List.append_assoc]; rfl, ok p List.mem_cons_self, by omega, by omega, hy⟩
    · rintro ⟨s, hs, ys, rfl, hy⟩
      cases ys with
      | nil => exact nomatch hy
      | cons y ys =>
        obtain ⟨_, y0, y1, hy⟩ := hy
        refine ⟨s ++ [y], List.mem_flatMap.mpr ⟨s, hs, List.mem_map.mpr ⟨y.toNat, List.mem_range.mpr (by omega), by rw [Int.toNat_of_nonneg y0]⟩⟩, ys, by rw [List.append_assoc]; rfl, hy⟩
theorem allS_mem {ps : List Part} (ok : ∀ p ∈ ps, p.ok) (xs : List Int) : xs ∈ allS ps ↔ StandL ps xs := by
  rw [allS, fold_mem ps [[]] xs ok]
  constructor
  · rintro ⟨s, hs, ys, rfl, hy⟩
    rw [List.mem_singleton] at hs
    rw [hs]
    exact hy
  · intro h
    exact ⟨[], List.mem_singleton.mpr rfl, xs, rfl, h⟩
/-! one-way trains -/
def gvb : Part → Bool
  | .wheel _ ms => decide (0 < ms.length)
  | _ => false
theorem pp_back {p : Part} {x w : Int} (hw : Sign w) (h : (pp p x w).2 = -1) : w = -1 ∧ gvb p = true := by
  have e := pp_way p x w hw
  rw [h] at e
  have hw1 : w = -1 := by
    rcases e with e | e
    · exact absurd e (by decide)
    · exact e.symm
  refine ⟨hw1, ?_⟩
  subst hw1
  cases p with
  | wheel z ms =>
    have h : (if (if (-1 : Int) = 1 then (x + -1) % z else x) ∈ ms then (-1 : Int) else 0) = -1 := h
    by_cases e2 : (if (-1 : Int) = 1 then (x + -1) % z else x) ∈ ms
    · exact decide_eq_true (List.length_pos_of_mem e2)
    · rw [if_neg e2] at h
      exact absurd h (by decide)
  | click => exact absurd (show (if (-1 : Int) = 1 then (1 : Int) else 0) = -1 from h) (by decide)
  | rocker =>
    have h : (if (-1 : Int) = 1 ∧ x = 0 then (1 : Int) else 0) = -1 := h
    rw [if_neg (by intro z; exact absurd z.1 (by decide))] at h
    exact absurd h (by decide)
  | spring k => exact absurd (show (0 : Int) = -1 from h) (by decide)
/-- what is shown below nought comes through all parts -/
theorem gen_back : ∀ {ps : List Part} {xs : List Int} {w : Int}, w = 0 ∨ Sign w → xs.length = ps.length → (gen ppz ps xs w).2 = -1 → w = -1 ∧ ps.all gvb = true
  | [], [], w, _, _, h => ⟨h, rfl⟩
  | p :: ps, x :: xs, w, hw, hl, h => by
    have hl' : xs.length = ps.length := Nat.succ.inj hl
    have h' : (gen ppz ps xs (ppz p x w).2).2 = -1 := h
    have hz : (ppz p x w).2 = 0 ∨ Sign (ppz p x w).2 := by
      unfold ppz
      split
      · exact .inl rfl
      · rename_i e
        exact pp_sign p x w (hw.resolve_left e)
    obtain ⟨h1, h2⟩ := gen_back hz hl' h'
    have e : w ≠ 0 := fun z => by
      rw [show ppz p x w = (x, 0) from if_pos z] at h1
      exact absurd (show (0 : Int) = -1 from h1) (by decide)
    unfold ppz at h1
    rw [if_neg e] at h1
    obtain ⟨h3, h4⟩ := pp_back (hw.resolve_left e) h1
    exact ⟨h3, by rw [List.all_cons, h4, h2]; rfl⟩
/-- a stand at which each wheel stands at a mark -/
def atMarks : List Part → List Int
  | [] => []
  | .wheel _ (m :: _) :: r => m :: atMarks r
  | _ :: r => 0 :: atMarks r
theorem marks_back : ∀ {ps : List Part}, (∀ p ∈ ps, p.ok) → ps.all gvb = true → StandL ps (atMarks ps) ∧ (gen ppz ps (atMarks ps) (-1)).2 = -1
  | [], _, _ => ⟨trivial, rfl⟩
  | .wheel z (m :: ms) :: r, ok, h => by
    rw [List.all_cons, Bool.and_eq_true] at h
    have o := ok _ List.mem_cons_self
    obtain ⟨h1, h2⟩ := marks_back (fun p hp => ok p (List.mem_cons_of_mem _ hp)) h.2
    have hm := o.2.2.1.2 m List.mem_cons_self
    refine ⟨⟨o, hm.1, hm.2, h1⟩, ?_⟩
    show (gen ppz r (atMarks r) (ppz (.wheel z (m :: ms)) m (-1)).2).2 = -1
    rw [show (ppz (.wheel z (m :: ms)) m (-1)).2 = -1 from if_pos List.mem_cons_self]
    exact h2
  | .wheel z [] :: r, _, h => by
    rw [List.all_cons, Bool.and_eq_true] at h
    exact absurd (show false = true from h.1) (by decide)
  | .click :: r, _, h => by
    rw [List.all_cons, Bool.and_eq_true] at h
    exact absurd h.1 (by decide)
  | .rocker :: r, _, h => by
    rw [List.all_cons, Bool.and_eq_true] at h
    exact absurd h.1 (by decide)
  | .spring k :: r, _, h => by
    rw [List.all_cons, Bool.and_eq_true] at h
    exact absurd (show false = true from h.1) (by decide)
theorem run_back {ps : List Part} {xs : List Int} {w : Int} (hl : xs.length = ps.length) (hw : Sign w) (h : (Ct.run ps xs 0 w).2 = -1) : w = -1 ∧ ps.all gvb = true := by
  rw [run_gen hl (Nat.zero_le _)] at h
  exact gen_back (.inr hw) hl h
theorem run_marks {ps : List Part} (ok : ∀ p ∈ ps, p.ok) (h : ps.all gvb = true) : StandL ps (atMarks ps) ∧ (Ct.run ps (atMarks ps) 0 (-1)).2 = -1 := by
  obtain ⟨h1, h2⟩ := marks_back ok h
  refine ⟨h1, ?_⟩
  rw [run_gen h1.len (Nat.zero_le _)]
  exact h2
/-! worn teeth -/
def offMark (ms : List Int) (m : Int) : List Int := ms.filter fun k => !decide (k = m)
def wornP (ps : List Part) : Option (Nat × Int) → List Part
  | none => ps
  | some (i, m) => match ps[i]? with
    | some (.wheel z ms) => ps.set i (.wheel z (offMark ms m))
    | _ => ps
theorem offMark_ok {z : Int} {ms : List Int} {m : Int} (h : (Part.wheel z ms).ok) : (Part.wheel z (offMark ms m)).ok :=
  ⟨h.1, h.2.1, ⟨h.2.2.1.1.filter _, fun k hk => h.2.2.1.2 k (List.mem_filter.mp hk).1⟩, Nat.le_trans (List.length_filter_le _ _) h.2.2.2⟩
theorem wornP_ok {ps : List Part} (h : ∀ p ∈ ps, p.ok) (w : Option (Nat × Int)) : ∀ p ∈ wornP ps w, p.ok := by
  unfold wornP
  split
  · exact h
  · split
    · rename_i i m z ms e
      intro p hp
      rcases List.mem_or_eq_of_mem_set hp with hp | hp
      · exact h p hp
      · rw [hp]
        exact offMark_ok (h _ (List.mem_of_getElem? e))
    · exact h
theorem wornP_len (ps : List Part) (w : Option (Nat × Int)) : (wornP ps w).length = ps.length := by
  unfold wornP
  split
  · rfl
  · split
    · rw [List.length_set]
    · rfl
/-- a wear as it is handed in -/
def WearAt (K : PySem.W.Frag) (H : Hp) (v : V) : Option (Nat × Int) → Prop
  | none => v = .non
  | some (i, m) => ∃ g, v = .ref g ∧ SqT K H g [.int i, .int m]
end Ct
namespace Ct
open PySem PySem.Spec PyProof.Rows L2
theorem dpAll_set {K : PySem.W.Frag} {H : Hp} : ∀ {vs : List V} {ds : List PyData} {i : Nat} {v : V} {d : PyData}, DpAll K H vs ds → Dp K H v d → DpAll K H (vs.set i v) (ds.set i d)
  | _, _, _, _, _, .nil, _ => .nil
  | _, _, 0, _, _, .cons _ t, h => .cons h t
  | _, _, _ + 1, _, _, .cons a t, h => .cons a (dpAll_set t h)
theorem WearAt.same {K : PySem.W.Frag} {H H' : Hp} {v : V} {w : Option (Nat × Int)} (s : Same H H') (h : WearAt K H v w) : WearAt K H' v w := by
  cases w with
  | none => exact h
  | some im =>
    obtain ⟨g, e, hg⟩ := h
    exact ⟨g, e, Same.tup s hg⟩
end Ct
namespace Ct
open PySem PySem.Spec PyProof.Rows L2
/-! trains behind one another -/
theorem gen_app (f : Part → Int → Int → Int × Int) (qs : List Part) (ys : List Int) : ∀ (ps : List Part) (xs : List Int) (a : Int), xs.length = ps.length →
    gen f (ps ++ qs) (xs ++ ys) a = ((gen f ps xs a).1 ++ (gen f qs ys (gen f ps xs a).2).1, (gen f qs ys (gen f ps xs a).2).2)
  | [], [], _, _ => rfl
  | p :: ps, x :: xs, a, h => by
    have ih := gen_app f qs ys ps xs (f p x a).2 (Nat.succ.inj h)
    show ((f p x a).1 :: (gen f (ps ++ qs) (xs ++ ys) (f p x a).2).1, (gen f (ps ++ qs) (xs ++ ys) (f p x a).2).2) = _
    rw [ih]
    rfl
theorem run0 {ps : List Part} {xs : List Int} (w : Int) (hx : xs.length = ps.length) : Ct.run ps xs 0 w = gen ppz ps xs w := by
  rw [run_gen hx (Nat.zero_le _)]
  rfl
theorem run_len (ps : List Part) (xs : List Int) (w : Int) : (Ct.run ps xs 0 w).1.length = xs.length := runN_len ps 0 (xs, w) _
theorem run_app {ps qs : List Part} {xs ys : List Int} (w : Int) (hx : xs.length = ps.length) (hy : ys.length = qs.length) :
    Ct.run (ps ++ qs) (xs ++ ys) 0 w = ((Ct.run ps xs 0 w).1 ++ (Ct.run qs ys 0 (Ct.run ps xs 0 w).2).1, (Ct.run qs ys 0 (Ct.run ps xs 0 w).2).2) := by
  rw [run0 w (by rw [List.length_append, List.length_append, hx, hy]), gen_app ppz qs ys ps xs w hx, run0 w hx, run0 _ hy]
theorem run_sg {ps : List Part} {xs : List Int} {w : Int} (hw : w = 0 ∨ Sign w) : (Ct.run ps xs 0 w).2 = 0 ∨ Sign (Ct.run ps xs 0 w).2 := by
  rcases hw with e | e
  · rw [e, run_zero]
    exact .inl rfl
  · exact runN_sign ps 0 (xs, w) e _
theorem fedS_sg {ps : List Part} : ∀ {ss : List Int} {xs : List Int}, (∀ s ∈ ss, s = 0 ∨ Sign s) → ∀ s ∈ (fedS ps xs ss).2, s = 0 ∨ Sign s
  | [], _, _, _, h => by cases h
  | s :: r, xs, hs, t, h => by
    rcases List.mem_cons.mp h with h | h
    · rw [h]
      exact run_sg (hs s List.mem_cons_self)
    · exact fedS_sg (ss := r) (fun u hu => hs u (List.mem_cons_of_mem s hu)) t h
theorem fedS_len1 (ps : List Part) : ∀ (ss : List Int) (xs : List Int), (fedS ps xs ss).1.length = xs.length
  | [], _ => rfl
  | s :: r, xs => by rw [fedS, fedS_len1 ps r, run_len]
theorem fed_app {ps qs : List Part} : ∀ {ss : List Int} {xs ys : List Int}, xs.length = ps.length → ys.length = qs.length →
    fedS (ps ++ qs) (xs ++ ys) ss = ((fedS ps xs ss).1 ++ (fedS qs ys (fedS ps xs ss).2).1, (fedS qs ys (fedS ps xs ss).2).2)
  | [], _, _, _, _ => rfl
  | s :: r, xs, ys, hx, hy => by
    have ih := fed_app (ss := r) (xs := (Ct.run ps xs 0 s).1) (ys := (Ct.run qs ys 0 (Ct.run ps xs 0 s).2).1) (by rw [run_len, hx]) (by rw [run_len, hy])
    rw [fedS, run_app s hx hy, fedS]
    show ((fedS (ps ++ qs) ((Ct.run ps xs 0 s).1 ++ (Ct.run qs ys 0 (Ct.run ps xs 0 s).2).1) r).1, (Ct.run qs ys 0 (Ct.run ps xs 0 s).2).2 :: (fedS (ps ++ qs) ((Ct.run ps xs 0 s).1 ++ (Ct.run qs ys 0 (Ct.run ps xs 0 s).2).1) r).2) = _
    rw [ih]
    rfl
theorem gen_nought {w : Int} : ∀ {ps : List Part} {xs : List Int}, StandL ps xs → gen (ptw w) ps xs 0 = (xs, 0)
  | [], [], _ => rfl
  | p :: ps, x :: xs, h => by
    obtain ⟨ok, x0, x1, hr⟩ := h
    show ((ptw w p x 0).1 :: (gen (ptw w) ps xs (ptw w p x 0).2).1, (gen (ptw w) ps xs (ptw w p x 0).2).2) = _
    rw [show ptw w p x 0 = (x, 0) from pt_zero ok x0 x1, gen_nought hr]
theorem gen_upto {w : Int} (hw : Sign w) : ∀ {ps : List Part} {xs : List Int} {t : Int}, 0 ≤ t → StandL ps xs → 0 ≤ (gen (ptw w) ps xs t).2 ∧ (gen (ptw w) ps xs t).2 ≤ t
  | [], [], t, h, _ => ⟨h, Int.le_refl _⟩
  | p :: ps, x :: xs, t, h, hs => by
    obtain ⟨ok, x0, x1, hr⟩ := hs
    have e : ((t.toNat : Nat) : Int) = t := Int.toNat_of_nonneg h
    have h1 := pt_nn ok x0 x1 hw t.toNat
    have h2 := pt_le ok x0 x1 hw t.toNat
    rw [e] at h1 h2
    have ih := gen_upto (ps := ps) (xs := xs) (t := (ptw w p x t).2) hw h1 hr
    exact ⟨ih.1, Int.le_trans ih.2 h2⟩
/-- a deed at a part of the first train: what it gives comes to the second one -/
theorem deed_front {ps qs : List Part} {xs ys : List Int} {d : Deed} (hx : StandL ps xs) (hy : StandL qs ys) (hd : d.ok ps.length) {w' : Int} {t' : Nat} (hw' : w' = if (deedL ps xs d).2 < 0 then -1 else 1) (ht' : (t' : Int) = if (deedL ps xs d).2 < 0 then -(deedL ps xs d).2 else (deedL ps xs d).2) :
    t' ≤ d.t ∧ deedL (ps ++ qs) (xs ++ ys) d = ((deedL ps xs d).1 ++ (deedL qs ys ⟨0, w', t'⟩).1, (deedL qs ys ⟨0, w', t'⟩).2) := by
  have hl := hx.len
  have e1 : (xs ++ ys).take d.i = xs.take d.i := List.take_append_of_le_length (by have := hd.1; omega)
  have e2 : (xs ++ ys).drop d.i = xs.drop d.i ++ ys := List.drop_append_of_le_length (by have := hd.1; omega)
  have e3 : (ps ++ qs).drop d.i = ps.drop d.i ++ qs := List.drop_append_of_le_length (by have := hd.1; omega)
  have hg := gen_upto (t := (d.t : Int)) hd.2 (by omega) (stand_drop d.i hx)
  have ga := gen_app (ptw d.w) qs ys (ps.drop d.i) (xs.drop d.i) d.t (by rw [List.length_drop, List.length_drop, hl])
  unfold deedL at hw' ht' ⊢
  rw [e1, e2, e3, ga]
  generalize gen (ptw d.w) (ps.drop d.i) (xs.drop d.i) d.t = r at *
  have hw' : w' = if d.w * r.2 < 0 then -1 else 1 := hw'
  have ht' : (t' : Int) = if d.w * r.2 < 0 then -(d.w * r.2) else d.w * r.2 := ht'
  have et : (t' : Int) = r.2 := by
    rcases hd.2 with e | e <;> rw [e] at ht' <;> split at ht' <;> omega
  refine ⟨by omega, ?_⟩
  show (xs.take d.i ++ (r.1 ++ (gen (ptw d.w) qs ys r.2).1), d.w * (gen (ptw d.w) qs ys r.2).2) = ((xs.take d.i ++ r.1) ++ ([] ++ (gen (ptw w') qs ys (t' : Int)).1), w' * (gen (ptw w') qs ys (t' : Int)).2)
  rw [et, List.nil_append, List.append_assoc]
  by_cases h0 : r.2 = 0
  · rw [h0, gen_nought hy, gen_nought hy, Int.mul_zero, Int.mul_zero]
  · have ew : w' = d.w := by
      rcases hd.2 with e | e <;> rw [e] at hw' ⊢ <;> rw [hw'] <;> split <;> omega
    rw [ew]
theorem deed_behind {ps qs : List Part} {xs ys : List Int} {d : Deed} {j : Nat} (hx : xs.length = ps.length) (hi : d.i = ps.length + j) : deedL (ps ++ qs) (xs ++ ys) d = (xs ++ (deedL qs ys ⟨j, d.w, d.t⟩).1, (deedL qs ys ⟨j, d.w, d.t⟩).2) := by
  unfold deedL
  rw [hi]
  have e1 : (xs ++ ys).take (ps.length + j) = xs ++ ys.take j := by rw [← hx, List.take_length_add_append]
  have e2 : (xs ++ ys).drop (ps.length + j) = ys.drop j := by rw [← hx, List.drop_length_add_append]
  have e3 : (ps ++ qs).drop (ps.length + j) = qs.drop j := by rw [List.drop_length_add_append]
  rw [e1, e2, e3, List.append_assoc]
end Ct

namespace Ct
open PySem PySem.Spec PyProof.Rows L2
/-! a row done often -/
def itR (ps : List Part) (ds : List Deed) : Nat → List Int → List Int × Int
  | 0, xs => (xs, 0)
  | n + 1, xs => ((rowL ps ds ((itR ps ds n xs).1, 0)).1, (itR ps ds n xs).2 + (rowL ps ds ((itR ps ds n xs).1, 0)).2)
theorem itR_stand {ps : List Part} {ds : List Deed} {xs : List Int} (h : StandL ps xs) (hd : ∀ d ∈ ds, d.ok ps.length) : ∀ n, StandL ps (itR ps ds n xs).1
  | 0 => h
  | n + 1 => rowL_stand (s := ((itR ps ds n xs).1, 0)) (itR_stand h hd n) hd
theorem itR_round {ps : List Part} {ds : List Deed} {xs : List Int} {j k : Nat} (e : (itR ps ds j xs).1 = (itR ps ds k xs).1) : ∀ m, (itR ps ds (k + m) xs).1 = (itR ps ds (j + m) xs).1 ∧ (itR ps ds (k + m) xs).2 - (itR ps ds (j + m) xs).2 = (itR ps ds k xs).2 - (itR ps ds j xs).2
  | 0 => ⟨e.symm, rfl⟩
  | m + 1 => by
    obtain ⟨h1, h2⟩ := itR_round e m
    show (rowL ps ds ((itR ps ds (k + m) xs).1, 0)).1 = (rowL ps ds ((itR ps ds (j + m) xs).1, 0)).1 ∧ (itR ps ds (k + m) xs).2 + (rowL ps ds ((itR ps ds (k + m) xs).1, 0)).2 - ((itR ps ds (j + m) xs).2 + (rowL ps ds ((itR ps ds (j + m) xs).1, 0)).2) = _
    rw [h1]
    exact ⟨rfl, by omega⟩
theorem itR_rounds {ps : List Part} {ds : List Deed} {xs : List Int} {j k : Nat} (hjk : j ≤ k) (e : (itR ps ds j xs).1 = (itR ps ds k xs).1) (m : Nat) : ∀ r : Nat, itR ps ds (j + m + r * (k - j)) xs = ((itR ps ds (j + m) xs).1, (itR ps ds (j + m) xs).2 + (r : Int) * ((itR ps ds k xs).2 - (itR ps ds j xs).2))
  | 0 => by
    rw [Nat.zero_mul, Nat.add_zero, show ((0 : Nat) : Int) = 0 from rfl, Int.zero_mul, Int.add_zero]
  | r + 1 => by
    have ih := itR_rounds hjk e m r
    have hr := itR_round e (m + r * (k - j))
    rw [← Nat.add_assoc j m, ih] at hr
    rw [show j + m + (r + 1) * (k - j) = k + (m + r * (k - j)) by rw [Nat.add_mul, Nat.one_mul]; omega]
    refine Prod.ext hr.1 ?_
    have h2 : (itR ps ds (k + (m + r * (k - j))) xs).2 - ((itR ps ds (j + m) xs).2 + (r : Int) * ((itR ps ds k xs).2 - (itR ps ds j xs).2)) = (itR ps ds k xs).2 - (itR ps ds j xs).2 := hr.2
    show (itR ps ds (k + (m + r * (k - j))) xs).2 = (itR ps ds (j + m) xs).2 + ((r + 1 : Nat) : Int) * ((itR ps ds k xs).2 - (itR ps ds j xs).2)
    rw [show ((r + 1 : Nat) : Int) = (r : Int) + 1 by omega, Int.add_mul, Int.one_mul]
    omega
/-- the way round, reckoned -/
theorem itR_at {ps : List Part} {ds : List Deed} {xs : List Int} {j k n : Nat} (hjk : j < k) (hn : j ≤ n) (e : (itR ps ds j xs).1 = (itR ps ds k xs).1) :
    itR ps ds n xs = ((itR ps ds (j + (n - j) % (k - j)) xs).1, (itR ps ds (j + (n - j) % (k - j)) xs).2 + (((n - j) / (k - j) : Nat) : Int) * ((itR ps ds k xs).2 - (itR ps ds j xs).2)) := by
  have h := itR_rounds (Nat.le_of_lt hjk) e ((n - j) % (k - j)) ((n - j) / (k - j))
  rw [show j + (n - j) % (k - j) + (n - j) / (k - j) * (k - j) = n by
    have := Nat.mod_add_div (n - j) (k - j)
    rw [Nat.mul_comm (k - j)] at this
    omega] at h
  exact h
/-! no more unlike stands than there are -/
theorem filt_len {N : Nat} : ∀ {l : List Nat}, l.Nodup → (∀ x ∈ l, x < N + 1) → l.length ≤ (l.filter fun x => decide (x < N)).length + 1
  | [], _, _ => Nat.zero_le _
  | a :: r, hn, h => by
    obtain ⟨h1, h2⟩ := List.nodup_cons.mp hn
    by_cases ha : a < N
    · rw [List.filter_cons, if_pos (decide_eq_true ha), List.length_cons, List.length_cons]
      have := filt_len h2 fun x hx => h x (List.mem_cons_of_mem _ hx)
      omega
    · have ea : a = N := by
        have := h a List.mem_cons_self
        omega
      have : (r.filter fun x => decide (x < N)) = r := List.filter_eq_self.mpr fun x hx => decide_eq_true (by
        have h3 := h x (List.mem_cons_of_mem _ hx)
        have h4 : x ≠ N := fun z => h1 (by rw [ea, ← z]; exact hx)
        omega)
      rw [List.filter_cons, if_neg (by rw [decide_eq_false ha]; exact Bool.false_ne_true), this, List.length_cons]
      omega
theorem holes : ∀ (N : Nat) (l : List Nat), l.Nodup → (∀ x ∈ l, x < N) → l.length ≤ N
  | 0, [], _, _ => Nat.le_refl _
  | 0, a :: _, _, h => absurd (h a List.mem_cons_self) (Nat.not_lt_zero a)
  | N + 1, l, hn, h => by
    have h1 := filt_len hn h
    have h2 := holes N (l.filter fun x => decide (x < N)) (hn.filter _) fun x hx => of_decide_eq_true (List.mem_filter.mp hx).2
    omega
def code : List Part → List Int → Nat
  | _ :: ps, x :: xs => x.toNat * (stands ps).toNat + code ps xs
  | _, _ => 0
theorem code_lt : ∀ {ps : List Part} {xs : List Int}, StandL ps xs → code ps xs < (stands ps).toNat
  | [], [], _ => by decide
  | p :: ps, x :: xs, ⟨ok, h0, h1, h⟩ => by
    have ih := code_lt (ps := ps) (xs := xs) h
    have po := ok.pos.1
    show x.toNat * (stands ps).toNat + code ps xs < (p.places * stands ps).toNat
    have sp : 1 ≤ stands ps := stands_pos ps h.okp
    have e : (p.places * stands ps).toNat = p.places.toNat * (stands ps).toNat := by
      rw [Int.toNat_mul (by omega) (by omega)]
    rw [e]
    have hx : x.toNat + 1 ≤ p.places.toNat := by omega
    have := Nat.mul_le_mul_right (stands ps).toNat hx
    rw [Nat.add_mul, Nat.one_mul] at this
    omega
theorem code_inj : ∀ {ps : List Part} {xs ys : List Int}, StandL ps xs → StandL ps ys → code ps xs = code ps ys → xs = ys
  | [], [], [], _, _, _ => rfl
  | p :: ps, x :: xs, y :: ys, ⟨_, a0, _, ha⟩, ⟨_, b0, _, hb⟩, e => by
    have la := code_lt ha
    have lb := code_lt hb
    have e2 : x.toNat * (stands ps).toNat + code ps xs = y.toNat * (stands ps).toNat + code ps ys := e
    generalize (stands ps).toNat = N at *
    have d1 : (x.toNat * N + code ps xs) / N = x.toNat := by
      rw [Nat.mul_comm, Nat.mul_add_div (by omega), Nat.div_eq_of_lt la, Nat.add_zero]
    have d2 : (y.toNat * N + code ps ys) / N = y.toNat := by
      rw [Nat.mul_comm, Nat.mul_add_div (by omega), Nat.div_eq_of_lt lb, Nat.add_zero]
    rw [e2, d2] at d1
    have ex : x = y := by omega
    subst ex
    rw [code_inj ha hb (by omega)]
theorem few_stands {ps : List Part} {ds : List Deed} {xs : List Int} (h : StandL ps xs) (hd : ∀ d ∈ ds, d.ok ps.length) {k : Nat} (dist : ∀ i j, i < j → j < k → (itR ps ds i xs).1 ≠ (itR ps ds j xs).1) : k ≤ (stands ps).toNat := by
  have := holes (stands ps).toNat ((List.range k).map fun i => code ps (itR ps ds i xs).1) ?_ ?_
  · rw [List.length_map, List.length_range] at this
    exact this
  · rw [List.nodup_iff_pairwise_ne, List.pairwise_map]
    refine List.Pairwise.imp_of_mem (fun {a b} ha hb hab => ?_) (List.pairwise_lt_range (n := k))
    rw [List.mem_range] at ha hb
    exact fun z => dist a b hab hb (code_inj (itR_stand h hd a) (itR_stand h hd b) z)
  · intro x hx
    obtain ⟨i, _, rfl⟩ := List.mem_map.mp hx
    exact code_lt (itR_stand h hd i)
/-! how great a sum may be -/
theorem gen_le {w : Int} (hw : Sign w) : ∀ (ps : List Part) (xs : List Int) (t : Int), 0 ≤ t → StandL ps xs → (gen (ptw w) ps xs t).2 ≤ t
  | [], [], t, _, _ => Int.le_refl _
  | p :: ps, x :: xs, t, ht, ⟨ok, h0, h1, h⟩ => by
    have e : ((t.toNat : Nat) : Int) = t := by omega
    have a := pt_le ok h0 h1 hw t.toNat
    have n := pt_nn ok h0 h1 hw t.toNat
    rw [e] at a n
    exact Int.le_trans (gen_le hw ps xs (pt p x w t).2 n h) a
theorem deedL_sum {ps : List Part} {xs : List Int} {d : Deed} (h : StandL ps xs) (hd : d.ok ps.length) : -(d.t : Int) ≤ (deedL ps xs d).2 ∧ (deedL ps xs d).2 ≤ d.t := by
  have g1 := (gen_stand hd.2 _ _ (d.t : Int) (by omega) (stand_drop d.i h)).2
  have g2 := gen_le hd.2 _ _ (d.t : Int) (by omega) (stand_drop d.i h)
  show -(d.t : Int) ≤ d.w * (gen (ptw d.w) (ps.drop d.i) (xs.drop d.i) d.t).2 ∧ d.w * (gen (ptw d.w) (ps.drop d.i) (xs.drop d.i) d.t).2 ≤ d.t
  generalize (gen (ptw d.w) (ps.drop d.i) (xs.drop d.i) d.t).2 = g at *
  rcases hd.2 with e | e
  · rw [e, Int.one_mul]
    exact ⟨by omega, g2⟩
  · rw [e]
    exact ⟨by omega, by omega⟩
theorem rowL_sum {ps : List Part} : ∀ {ds : List Deed} {s : List Int × Int}, StandL ps s.1 → (∀ d ∈ ds, d.ok ps.length ∧ d.t < 2 ^ 200) → s.2 - ds.length * 2 ^ 200 ≤ (rowL ps ds s).2 ∧ (rowL ps ds s).2 ≤ s.2 + ds.length * 2 ^ 200
  | [], s, _, _ => by
    show s.2 - ((0 : Nat) : Int) * 2 ^ 200 ≤ s.2 ∧ s.2 ≤ s.2 + ((0 : Nat) : Int) * 2 ^ 200
    rw [show ((0 : Nat) : Int) = 0 from rfl, Int.zero_mul]
    omega
  | d :: ds, s, h, hd => by
    have d0 := hd d List.mem_cons_self
    have a := deedL_sum h d0.1
    have ih := rowL_sum (ds := ds) (s := ((deedL ps s.1 d).1, s.2 + (deedL ps s.1 d).2)) (deedL_stand h d0.1) fun e he => hd e (List.mem_cons_of_mem _ he)
    have i1 : s.2 + (deedL ps s.1 d).2 - (ds.length : Int) * 2 ^ 200 ≤ (rowL ps (d :: ds) s).2 := ih.1
    have i2 : (rowL ps (d :: ds) s).2 ≤ s.2 + (deedL ps s.1 d).2 + (ds.length : Int) * 2 ^ 200 := ih.2
    have dt := d0.2
    rw [List.length_cons, show ((ds.length + 1 : Nat) : Int) = (ds.length : Int) + 1 by omega, Int.add_mul, Int.one_mul]
    omega
theorem itR_sum {ps : List Part} {ds : List Deed} {xs : List Int} (h : StandL ps xs) (hd : ∀ d ∈ ds, d.ok ps.length ∧ d.t < 2 ^ 200) (hl : ds.length ≤ 1000) : ∀ n : Nat, -(n : Int) * 2 ^ 210 ≤ (itR ps ds n xs).2 ∧ (itR ps ds n xs).2 ≤ (n : Int) * 2 ^ 210
  | 0 => by
    show -((0 : Nat) : Int) * 2 ^ 210 ≤ 0 ∧ (0 : Int) ≤ ((0 : Nat) : Int) * 2 ^ 210
    decide
  | n + 1 => by
    have ih := itR_sum h hd hl n
    have r := rowL_sum (s := ((itR ps ds n xs).1, 0)) (itR_stand h (fun d hm => (hd d hm).1) n) hd
    have r1 : (0 : Int) - ds.length * 2 ^ 200 ≤ (rowL ps ds ((itR ps ds n xs).1, 0)).2 := r.1
    have r2 : (rowL ps ds ((itR ps ds n xs).1, 0)).2 ≤ 0 + ds.length * 2 ^ 200 := r.2
    show -((n + 1 : Nat) : Int) * 2 ^ 210 ≤ (itR ps ds n xs).2 + (rowL ps ds ((itR ps ds n xs).1, 0)).2 ∧ (itR ps ds n xs).2 + (rowL ps ds ((itR ps ds n xs).1, 0)).2 ≤ ((n + 1 : Nat) : Int) * 2 ^ 210
    rw [show ((n + 1 : Nat) : Int) = (n : Int) + 1 by omega]
    omega
theorem inl_inj : ∀ {xs ys : List Int}, xs.map (Sum.inl : Int → Key) = ys.map Sum.inl → xs = ys
  | [], [], _ => rfl
  | [], _ :: _, h => nomatch h
  | _ :: _, [], h => nomatch h
  | x :: xs, y :: ys, h => by
    injection h with h1 h2
    injection h1 with h3
    rw [h3, inl_inj h2]
theorem key_map (xs : List Int) : (xs.map (Sum.inl : Int → Key)).map kV = xs.map V.int := by
  rw [List.map_map]
  rfl
theorem units65 {k : Nat} {A : Around} (r : Room k A) : A.units + 65 < cLine := by
  have := r.un
  omega
theorem eqv_ints : ∀ (xs ys : List Int), PyData.eqvAll (xs.map PyData.int) (ys.map PyData.int) = decide (xs = ys)
  | [], [] => rfl
  | [], _ :: _ => rfl
  | _ :: _, [] => rfl
  | x :: xs, y :: ys => by
    rw [List.map_cons, List.map_cons, PyData.eqvAll, eqv_ints xs ys, PyData.eqv]
    by_cases e : x = y
    · subst e
      by_cases e2 : xs = ys
      · subst e2
        simp
      · rw [decide_eq_false e2, decide_eq_false (fun z => e2 (List.cons.inj z).2), Bool.and_false]
    · rw [decide_eq_false (fun z => e (List.cons.inj z).1), show (x == y) = false from beq_eq_false_iff_ne.mpr e, Bool.false_and]
theorem eqv_tupD (xs ys : List Int) : PyData.eqv (tupD xs) (tupD ys) = decide (xs = ys) := by
  unfold tupD
  rw [PyData.eqv]
  exact eqv_ints xs ys
theorem itR_one {ps : List Part} {xs : List Int} {i : Nat} {w : Int} (h : StandL ps xs) (hi : i < ps.length) (hw : Sign w) : ∀ n, itR ps [⟨i, w, 1⟩] n xs = pushes ps i w n (xs, 0)
  | 0 => rfl
  | n + 1 => by
    have ih := itR_one h hi hw n
    have hs : StandL ps (pushes ps i w n (xs, 0)).1 := pushes_stand h hi hw 0 n
    have e : rowL ps [⟨i, w, 1⟩] ((pushes ps i w n (xs, 0)).1, 0) = pushes ps i w 1 ((pushes ps i w n (xs, 0)).1, 0) := rowL_one (s := ((pushes ps i w n (xs, 0)).1, 0)) (d := ⟨i, w, 1⟩) hs ⟨hi, hw⟩
    show ((rowL ps [⟨i, w, 1⟩] ((itR ps [⟨i, w, 1⟩] n xs).1, 0)).1, (itR ps [⟨i, w, 1⟩] n xs).2 + (rowL ps [⟨i, w, 1⟩] ((itR ps [⟨i, w, 1⟩] n xs).1, 0)).2) = _
    rw [ih, e]
    refine Prod.ext rfl ?_
    show (pushes ps i w n (xs, 0)).2 + (0 + (Ct.run ps (pushes ps i w n (xs, 0)).1 i w).2) = (pushes ps i w n (xs, 0)).2 + (Ct.run ps (pushes ps i w n (xs, 0)).1 i w).2
    omega
theorem itR_deed {ps : List Part} {xs : List Int} {i : Nat} {w : Int} (h : StandL ps xs) (hi : i < ps.length) (hw : Sign w) (n : Nat) : itR ps [⟨i, w, 1⟩] n xs = rowL ps [⟨i, w, n⟩] (xs, 0) := by
  rw [itR_one h hi hw n, rowL_one (s := (xs, 0)) (d := ⟨i, w, n⟩) h ⟨hi, hw⟩]
theorem itR_add {ps : List Part} {ds : List Deed} (a : Nat) (xs : List Int) : ∀ b, itR ps ds (a + b) xs = ((itR ps ds b (itR ps ds a xs).1).1, (itR ps ds a xs).2 + (itR ps ds b (itR ps ds a xs).1).2)
  | 0 => Prod.ext rfl (Int.add_zero _).symm
  | b + 1 => by
    have ih := itR_add (ps := ps) (ds := ds) a xs b
    show ((rowL ps ds ((itR ps ds (a + b) xs).1, 0)).1, (itR ps ds (a + b) xs).2 + (rowL ps ds ((itR ps ds (a + b) xs).1, 0)).2) = _
    rw [ih]
    refine Prod.ext rfl ?_
    show (itR ps ds a xs).2 + (itR ps ds b (itR ps ds a xs).1).2 + _ = (itR ps ds a xs).2 + ((itR ps ds b (itR ps ds a xs).1).2 + _)
    rw [Int.add_assoc]
section
variable {K : PySem.W.Frag} {H : Hp} {σ : L2.St} {Q : VK} {D : Ends}
theorem w_dnewT (h : ∀ p, H p = none → Q (.ref p) (upd H p (.dT []))) : tDNewT σ H Q := h
theorem w_dnotin {ty td : TE} (h : ty σ H fun y H1 => td σ H1 fun x H2 => ∃ a o, x = .ref a ∧ DGet H2 a y o ∧ Q (.bl (!o.isSome)) H2) : tDNotIn ty td σ H Q := h
theorem w_dget {td ty : TE} (h : td σ H fun x H1 => ty σ H1 fun y H2 => ∃ a v, x = .ref a ∧ DGet H2 a y (some v) ∧ Q v H2) : tDGet td ty σ H Q := h
theorem w_dput {td ty tv : TE} (h : tv σ H fun v H1 => td σ H1 fun x H2 => ty σ H2 fun y H3 => ∃ a H4, x = .ref a ∧ DPut H3 a y v H4 ∧ D.nx σ H4) : sDPut td ty tv D σ H := h
end
end Ct

namespace Ct
open PySem PySem.Spec PyProof.Rows L2
/-! what stays, found by looking -/
section
variable {K : PySem.W.Frag} {H G : Hp} {a p : Addr} {o : HO} {xs : List V} {v : V} {d : PyData} {ds : List PyData} {ps : List Part}
theorem mv_get (s : Same H G) (h : H a = some o) : G a = some o := s _ _ h
theorem mv_lst (s : Same H G) (h : H a = some (.lst xs)) : SqL K G a xs := .of (s _ _ h)
theorem mv_sql (s : Same H G) (h : SqL K H a xs) : SqL K G a xs := s.seq h
theorem mv_tup (s : Same H G) (h : H a = some (.tup xs)) : SqT K G a xs := .of (s _ _ h)
theorem mv_sqt (s : Same H G) (h : SqT K H a xs) : SqT K G a xs := Same.tup s h
theorem mv_dp (s : Same H G) (h : Dp K H v d) : Dp K G v d := dp_same s h
theorem mv_dpa (s : Same H G) (h : DpAll K H xs ds) : DpAll K G xs ds := dpAll_same s h
theorem mv_train (s : Same H G) (h : TrainAt K H a ps) : TrainAt K G a ps := h.same s
theorem mv_free (s : Same H G) (h : G a = none) : H a = none := s.free h
theorem upd_new (h : upd H p o = G) (n : H p = none) : Same H G ∧ G p = some o := by
  subst h
  exact ⟨same_upd n, upd_same⟩
variable {Q : VK} {b : Addr} {ys : List V} {n : Nat} {ms : List Int}
theorem w_slLu (h : SqL K H a xs) (hn : n ≤ xs.length) (q : ∀ p G, H p = none → Same H G → G p = some (.lst (xs.take n)) → Q (.ref p) G) : rSlL K (.ref a) none (some (n : Int)) H Q := by
  refine w_slL h fun p np => ?_
  have e : cutV xs none (some (n : Int)) = xs.take n := by
    unfold cutV
    rw [HT.sIx_none, HT.sIx_nat, List.drop_zero, Nat.min_eq_left (by omega), Nat.sub_zero]
  rw [e]
  exact q p _ np (same_upd np) upd_same
theorem w_slLf (h : SqL K H a xs) (hn : n ≤ xs.length) (q : ∀ p G, H p = none → Same H G → G p = some (.lst (xs.drop n)) → Q (.ref p) G) : rSlL K (.ref a) (some (n : Int)) none H Q := by
  refine w_slL h fun p np => ?_
  have e : cutV xs (some (n : Int)) none = xs.drop n := by
    unfold cutV
    rw [HT.sIx_none, HT.sIx_nat, Nat.min_eq_left (by omega), List.take_of_length_le (by rw [List.length_drop]; exact Nat.le_refl _)]
  rw [e]
  exact q p _ np (same_upd np) upd_same
theorem w_cat (h : H a = some (.lst xs)) (h2 : H b = some (.lst ys)) (l : xs.length + ys.length ≤ sizeLine) (q : ∀ p G, H p = none → Same H G → G p = some (.lst (xs ++ ys)) → Q (.ref p) G) : rCat (.ref a) (.ref b) H Q :=
  ⟨a, b, xs, ys, rfl, rfl, h, h2, l, fun p np => q p _ np (same_upd np) upd_same⟩
theorem w_rNs {x y : Str} {c : Bool} (e : (!decide (V.str x = V.str y)) = c) (h : Q (.bl c) H) : rNe (.str x) (.str y) H Q := by
  refine ⟨rfl, ?_⟩
  rw [e]
  exact h
variable {σ : L2.St}
theorem walk_zipM {n : Nat} (hn : n = min xs.length ys.length) : Walk (ItM K a b) n (fun H => SqL K H a xs ∧ SqT K H b ys) (YPair (fun i => xs[i]?) (fun i => ys[i]?)) := by
  subst hn
  refine ⟨fun i _ hi q => ?_, fun _ q => ⟨xs, ys, q.1, q.2, by omega⟩, fun i H v H' _ q y => ?_⟩
  · have h1 : i < xs.length := by omega
    have h2 : i < ys.length := by omega
    exact ⟨xs, ys, xs[i], ys[i], q.1, q.2, by simp [h1], by simp [h2]⟩
  · obtain ⟨T, x, z, h1, h2, h3, h4, h5⟩ := y
    exact ⟨T, x, z, h1, h2, h3, h4 xs q.1, h5 ys q.2⟩
theorem lb_zipM (xs ys : List V) (hl : xs.length = ys.length) {g : TG} {tt : TT} {te : TE} {vs : List Nat} (Pv : Addr → Nat → Hp → Prop) (h0 : ∀ D, H D = none → Pv D 0 (upd H D (.lst []))) (hq : ∀ D, H D = none → ∀ i H1, i ≤ xs.length → Pv D i H1 → SqL K H1 a xs ∧ SqT K H1 b ys)
    (hs : ∀ D, H D = none → ∀ i x y T H1 G, xs[i]? = some x → ys[i]? = some y → Pv D i H1 → H1 T = none → Same H1 G → G T = some (.tup [x, y]) → g (.ref T) (wipe σ vs) G fun σ2 H2 => wipe σ2 vs = wipe σ vs ∧ tt σ2 H2 fun b H3 =>
      if b = true then te σ2 H3 fun y H4 => ∃ acc, H4 D = some (.lst acc) ∧ acc.length < sizeLine ∧ Pv D (i + 1) (upd H4 D (.lst (acc ++ [y]))) else Pv D (i + 1) H3) (hd : ∀ D, H D = none → ∀ H1, Pv D xs.length H1 → Q (.ref D) H1) : LB (ItM K a b) g tt te vs σ H Q :=
  fun D hD => lc_it (walk_zipM (xs := xs) (ys := ys) (n := xs.length) (by omega)) (Pv D) (h0 D hD) (hq D hD) (fun i x H1 H2 _ p y => by
    obtain ⟨T, u, v, rfl, hT, rfl, e1, e2⟩ := y
    exact hs D hD i u v T H1 _ e1 e2 p hT (same_upd hT) upd_same) (hd D hD)
theorem ne_new {H : Hp} {a p : Addr} {o : HO} (e : H a = some o) (n : H p = none) : p ≠ a := fun z => by rw [z, e] at n; cases n
theorem keepU {H : Hp} {a p : Addr} {o o' : HO} (e : H p = some o) (n : p ≠ a) : (upd H a o') p = some o := by rw [upd_ne n]; exact e
end
end Ct
/-! zip of two lists -/
namespace Ct
open PySem PySem.Spec PyProof.Rows L2
section
variable {K : PySem.W.Frag} {H : Hp} {σ : L2.St} {D : Ends} {R : It → Hp → Prop} {a b : Addr} {xs ys : List V}
def IZw (K : PySem.W.Frag) (vs : List V) (H : Hp) (R : It → Hp → Prop) : Prop := iZip K (fun _ H Q => Q vs H) [] H R
theorem w_izipw {ta : TA} (h : ta σ H fun vs H1 => IZw K vs H1 R) : iZip K ta σ H R := h
theorem w_IZw (h1 : SqL K H a xs) (h2 : SqL K H b ys) (q : R (Itz K a b) H) : IZw K [.ref a, .ref b] H R := ⟨a, b, xs, ys, rfl, h1, h2, q⟩
theorem fb_zipw (xs ys : List V) (hl : xs.length = ys.length) {g : TG} {tb : TS} (Pv : Nat → L2.St → Hp → Prop) (h0 : Pv 0 σ H) (hq : ∀ i σ H, i ≤ xs.length → Pv i σ H → SqL K H a xs ∧ SqL K H b ys)
    (hs : ∀ i x y T σ H G, xs[i]? = some x → ys[i]? = some y → Pv i σ H → H T = none → Same H G → G T = some (.tup [x, y]) → g (.ref T) σ G fun σ2 H2 => tb { D with nx := Pv (i + 1), ct := Pv (i + 1), bk := D.nx } σ2 H2) (hd : ∀ σ H, Pv xs.length σ H → D.nx σ H) : FB (Itz K a b) g tb D σ H :=
  for_it (walk_zip (xs := xs) (ys := ys) (n := xs.length) (by omega)) Pv h0 hq (fun i x σ H H' _ p y => by
    obtain ⟨T, u, v, rfl, hT, rfl, e1, e2⟩ := y
    exact hs i u v T σ H _ e1 e2 p hT (same_upd hT) upd_same) hd
end
end Ct

/-! all(.. for .. in ..), any(.. for .. in ..): the generator's own frame -/
namespace Ct
open PySem PySem.Spec PyProof.Rows L2 GenW
/-- the table of a def's code objects, whatever it holds -/
def TabX (P : Addr) : HO := .ext fun h => ∃ ps : Array Value, h.get? P = some { cls := .none, data := .fields ps } ∧ TriplesOk ps.toList
theorem over_gen {A : Around} {elt : Expr} {gs : List Comprehension} {scope : Scope} {pos : Pos} {it acc : Value} {env : Env} : A.over (.compLoop (.GeneratorExp elt gs scope pos) 0 it acc env) [] = A.deeper env := by
  first
    | rfl
    | (obtain ⟨hd, d, fr, gu, u⟩ := A; simp [Around.over, Around.deeper, marksOver, frameCount, unitsOf, envsOf, guardsOf, pushEnvs, pushGuards, Code.envs, Code.env?, Code.isFrame, Code.guards, Code.isGuard, Code.weight, Code.frames, Code.isCreation, Code.isCaller, Code.cUnits])
theorem over_genS {A : Around} {elt : Expr} {gs : List Comprehension} {scope : Scope} {pos : Pos} {it acc : Value} {env : Env} : A.over (.compStart (.GeneratorExp elt gs scope pos) 0 it acc env) [] = A.deeper env := by
  first
    | rfl
    | (obtain ⟨hd, d, fr, gu, u⟩ := A; simp [Around.over, Around.deeper, marksOver, frameCount, unitsOf, envsOf, guardsOf, pushEnvs, pushGuards, Code.envs, Code.env?, Code.isFrame, Code.guards, Code.isGuard, Code.weight, Code.frames, Code.isCreation, Code.isCaller, Code.cUnits])
section
variable {X : Cx} {pins : List (Addr × Obj)} {σ : L2.St} {H : Hp} {s : Shared}
theorem tabx_ok {P0 : Program} {w : World} {H : Hp} {h : Heap} {P : Addr} {ps : Array Value} (hm : h.get? P = some { cls := .none, data := .fields ps }) (ht : TriplesOk ps.toList) : ObjOk P0 w H h P (TabX P) :=
  ⟨⟨ps, hm, ht⟩, ⟨_, hm⟩, fun h1 h2 ⟨qs, a, b⟩ st => ⟨qs, st _ a, b⟩⟩
/-- the table has grown, all else is kept -/
theorem inv_tabX {P : Addr} {ps : Array Value} {h' : Heap} {g' : Array GenState} {d' : Drawn} {t' : Nat} (I : Inv X pins σ H s) (hP : H P = some (TabX P)) (k : ∀ b o, b ≠ P → s.heap.get? b = some o → h'.get? b = some o)
    (hm : h'.get? P = some { cls := .none, data := .fields ps }) (ht : TriplesOk ps.toList) (hg : AllBare g') : Inv X pins σ H { s with heap := h', gens := g', drawn := d', toks := t' } := by
  have nP : ∀ b u, H b = some u → u ≠ TabX P → b ≠ P := fun b u e q z => by
    rw [z, hP] at e
    exact q (Option.some.inj e).symm
  have nN : ∀ b, H b = none → b ≠ P := fun b e z => by
    rw [z, hP] at e
    cases e
  refine I.step (g' := g') (d' := d') (ch := []) (fun b hb => absurd hb (by simp)) (fun b o _ _ _ e n => k b o (nN b n) e) (fun b o _ _ _ e n => ⟨o.slots, k b o (nN b n) e⟩)
    (fun b o _ e n => n) (fun b o _ e => ?_) (fun b xs e => e) (fun b o u e => e) (fun b qs e => ⟨#[], by rw [e]; simp⟩) (fun m hn => ?_) (fun b u e => ?_) hg
  · by_cases hb : b = P
    · rw [hb]
      exact ⟨_, hm⟩
    · exact ⟨o, k b o hb e⟩
  · obtain ⟨ob, es, ep, ho, r⟩ := hn
    exact ⟨ob, es, ep, k _ ob (nN _ I.free) ho, r⟩
  · by_cases hb2 : b = P
    · rw [hb2, hP] at e
      cases e
      rw [hb2]
      exact tabx_ok hm ht
    · refine (I.hok b u e).stay (fun d v hd q => k d v ?_ q) (fun d q => q) fun d xs q => q
      rcases hd with z | z
      · rw [z]
        exact hb2
      · exact nP d _ z (fun q => by unfold TabX at q; cases q)
/-- the context of a generator expression's frame: its iterator's objects at fp, what stands at pn -/
abbrev gxc (X : Cx) (B : Around) (s : Shared) (H : Hp) (scope : Scope) (cenv : Env) (fp : List Addr) (pn : List (Addr × Obj)) : Cx :=
  { X with A := B.deeper cenv, s_0 := s, H_0 := H, env := cenv, outer := X.stack, stack := cenv :: X.stack, ex := fp, fn := fun x => scope.names.lookup x == some .cell, pn := pn, xe := fun _ _ => False }
theorem lookup_clo {cells : List (Str × Addr)} {names : List (Str × NameKind)} {y : Str} {c : Addr} (e : (cloFrom cells names []).lookup y = some c) : (y, NameKind.free) ∈ names ∧ c = (cells.lookup y).getD 0 := by
  rcases cloFrom_mem (PySem.mem_of_lookup e) with z | z
  · cases z
  · exact z
/-- the frame is made -/
theorem gx_start {B : Around} {scope : Scope} {own : List (Str × Nat)} {fp : List Addr} {code : Value} {itv : Value} {h5 : Heap} {g5 : Array GenState} {t5 : Nat} {d5 : Drawn} {a : Addr} {go : Obj}
    (I : Inv X pins σ H s) (hB : B.frames = some X.stack) (hBh : B.handled = none) (ok : BlkOk X.N X.env.scope scope own) (hN : X.N.Nodup) (hcell : ∀ y ∈ scope.names, y.2 ≠ .cell) (hfp : ∀ b ∈ fp, FpOk X pins H b ∧ b < s.heap.objs.size)
    (hns : h5.Ns s.heap.objs.size (fun y => if y = ".0" then some itv else none)) (kp : ∀ b o, s.heap.get? b = some o → h5.get? b = some o)
    (ha : s.heap.objs.size < a) (hgo : h5.get? a = some go) (hgc : ∀ v, go.data ≠ .cell v) (hg5 : AllBare g5) :
    Inv (gxc X B s H scope (genEnv scope (cloFrom X.env.cells scope.names []) s.heap.objs.size code builtinsNs X.env) fp [(a, go)]) [] (wipe σ (own.map (·.2))) H { s with heap := h5, gens := g5, toks := t5, drawn := d5 } := by
  have hfree : ∀ y ∈ scope.names, y.2 = .free → ∃ c, X.env.cells.lookup y.1 = some c := fun y hy e => by
    rcases ok.free y hy e with k | k
    · exact I.ok.has _ (.inl k)
    · exact I.ok.has _ (.inr k)
  generalize hcenv : genEnv scope (cloFrom X.env.cells scope.names []) s.heap.objs.size code builtinsNs X.env = cenv
  have hL : cenv.locals = s.heap.objs.size := by rw [← hcenv]; rfl
  have hcl : cenv.cells = cloFrom X.env.cells scope.names [] := by rw [← hcenv]; rfl
  have hsc : cenv.scope = scope := by rw [← hcenv]; rfl
  have mem : ∀ {y c}, cenv.cells.lookup y = some c → X.env.cells.lookup y = some c ∧ c < s.heap.objs.size := fun {y c} e => by
    rw [hcl] at e
    obtain ⟨h1, rfl⟩ := lookup_clo e
    obtain ⟨c, hc⟩ := hfree _ h1 rfl
    rw [hc]
    obtain ⟨w, z⟩ := I.cell _ _ hc
    exact ⟨rfl, z.lt⟩
  have look : ∀ {y}, scope.names.lookup y = some .free → ∃ c, cenv.cells.lookup y = some c ∧ X.env.cells.lookup y = some c := fun {y} hl => by
    have hy : (y, NameKind.free) ∈ scope.names := PySem.mem_of_lookup hl
    obtain ⟨c', e'⟩ := mem_lookup (cloFrom_has (cells := X.env.cells) (acc := []) hy)
    rw [← hcl] at e'
    exact ⟨c', e', (mem e').1⟩
  have okB : (gxc X B s H scope cenv fp [(a, go)]).Ok := by
    refine ⟨I.ok.mod, by show cenv.scope.kind = _; rw [hsc]; exact ok.kind, by show cenv.globals = _; rw [← hcenv]; exact I.ok.glob, by show cenv.builtins = _; rw [← hcenv]; rfl, by show s.heap.objs.size ≤ cenv.locals; rw [hL]; exact Nat.le_refl _,
      fun y z c e1 e2 => I.ok.inj y z c (mem e1).1 (mem e2).1, fun y hy => ?_, fun y c z e => ?_, fun _ => hBh, Around.frames_deeper hB, .inr ⟨rfl, ?_⟩, fun b hb => ⟨?_, fun y c e z => ?_⟩, I.bs, Nat.le_trans I.ok.bsz I.sz, fun b o e hb => ?_, fun b hb z => ?_, I.stack, I.stkFree⟩
    · have hy : cenv.scope.names.lookup y = some .cell ∨ cenv.scope.names.lookup y = some .free := hy
      rw [hsc] at hy
      rcases hy with hy | hy
      · exact absurd rfl (hcell _ (PySem.mem_of_lookup hy))
      · obtain ⟨c, h1, _⟩ := look hy
        exact ⟨c, h1⟩
    · have z : (scope.names.lookup y == some NameKind.cell) = true := z
      have z : scope.names.lookup y = some .cell := by simpa using z
      exact absurd rfl (hcell _ (PySem.mem_of_lookup z))
    · show cenv.frame = some cenv.locals
      rw [← hcenv]
      rfl
    · show b ≠ cenv.locals
      rw [hL]
      exact Nat.ne_of_lt (hfp b hb).2
    · exact (hfp b hb).1.2.2.2.2.1 y c (mem e).1 z
    · rcases (hfp b hb).1.2.2.2.1 with z | z
      · exact I.ok.noex b o e z
      · exact absurd (Nat.lt_of_lt_of_le (Heap.lt_size e) (Nat.le_trans I.ok.bsz z)) (Nat.lt_irrefl _)
    · rcases List.mem_cons.mp (I.stkSub b z) with z | z
      · exact (hfp b hb).1.2.1 z
      · exact (hfp b hb).1.2.2.1 z
  refine ⟨okB, rfl, hg5, Un.kept kp, ⟨fun y => if y = ".0" then some itv else none, ?_, fun i y av e1 e2 e3 => ?_⟩, fun y c e => ?_, ?_, fun y c e => ?_, fun p hp => ?_, I.hok.kept kp, by rw [wipe_length]; exact I.len⟩
  · show Heap.Ns _ cenv.locals _
    rw [hL]
    exact hns
  · obtain ⟨e2, hne⟩ := wipe_some e2
    have hfr : scope.names.lookup y = some .free := by
      have e3 : Vis cenv.scope y := e3
      rw [hsc] at e3
      have no : ∀ k, scope.names.lookup y = some k → ¬ (k = .local ∨ k = .cell) := fun k e hh => by
        rcases ok.own _ (PySem.mem_of_lookup e) hh with e' | e'
        · obtain ⟨p, hp, hpy⟩ := List.mem_map.mp e'
          have e3 := ok.ix p hp
          have : p.1 = y := hpy
          rw [this] at e3
          exact hne (List.mem_map.mpr ⟨p, hp, nodup_ix hN e3 e1⟩)
        · exact e' (List.mem_of_getElem? e1)
      rcases e3 with e3 | e3 | e3
      · exact absurd (.inl rfl) (no _ e3)
      · exact absurd (.inr rfl) (no _ e3)
      · exact e3
    obtain ⟨m, hn, hl⟩ := I.loc
    have hvis : Vis X.env.scope y := (ok.free _ (PySem.mem_of_lookup hfr) rfl).elim (fun k => .inr (.inl k)) (fun k => .inr (.inr k))
    obtain ⟨w, r, q⟩ := hl i y av e1 e2 hvis
    refine ⟨w, r, .inr ⟨.inr (by show cenv.scope.names.lookup y = _; rw [hsc]; exact hfr), ?_⟩⟩
    obtain ⟨c, h1, h2⟩ := look hfr
    rcases q with ⟨k, _⟩ | ⟨_, c', e', z⟩
    · have k : X.env.scope.names.lookup y = some .local := k
      rcases ok.free _ (PySem.mem_of_lookup hfr) rfl with k' | k' <;> rw [show X.env.scope.names.lookup y = _ from k'] at k <;> cases k
    · rw [h2] at e'
      cases e'
      exact ⟨c, h1, z.keeps kp⟩
  · obtain ⟨w, z⟩ := I.cell y c (mem e).1
    exact ⟨w, z.keeps kp⟩
  · show H cenv.locals = none
    rw [hL]
    exact I.hok.fresh (Nat.le_refl _)
  · exact I.freeC y c (mem e).1
  · have hp : p ∈ [(a, go)] ++ [] := hp
    rw [List.append_nil, List.mem_singleton] at hp
    subst hp
    refine ⟨hgo, I.hok.fresh (Nat.le_of_lt ha), ?_, ?_, hgc⟩
    · show a ≠ cenv.locals
      rw [hL]
      exact Nat.ne_of_gt ha
    · show a ∉ frs X.stack
      intro z
      rcases List.mem_cons.mp (I.stkSub a z) with z | z
      · have h1 := I.lt
        rw [← z] at h1
        exact Nat.lt_irrefl _ (Nat.lt_trans h1 ha)
      · exact I.nofs (Nat.le_of_lt ha) z
end
end Ct
namespace Ct
open PySem PySem.Spec PyProof.Rows L2 GenW
section
variable {X : Cx}
/-- what is known where the whole is done: b the answer -/
def GFin (P : Program) (w : World) (fr fp : List Addr) (H4 : Hp) (h4 : Heap) (Q : VK) (b : Bool) (h : Heap) : Prop := ∃ H', Un fr fp H4 H' h4 h ∧ HOk P w H' h ∧ Q (.bl b) H'
def GDone (P : Program) (w : World) (fr fp : List Addr) (H4 : Hp) (s4 : Shared) (Q : VK) (st : Bool) : Nat → Shared → Shared → Prop := fun _ _ s1 => s1.os = s4.os ∧ AllBare s1.gens ∧ GFin P w fr fp H4 s4.heap Q (!st) s1.heap
/-- the generator hands out a truth: the one that ends the walk, or another one, and goes on -/
def GYld (P : Program) (w : World) (fr fp : List Addr) (H4 : Hp) (s4 : Shared) (Q : VK) (st : Bool) (a : Addr) (g : Nat) : Protocol := fun _ _ v s1 kap =>
  ∃ b, v = .bool b ∧ s1.os = s4.os ∧ AllBare s1.gens ∧ s1.heap.NoLimit ∧ s1.heap.IsGen a g ∧ (if b = st then GFin P w fr fp H4 s4.heap Q st s1.heap else ∀ s' : Shared, s'.heap = s1.heap → s'.os = s1.os → AllBare s'.gens → kap (.send .none) s')
/-- all(..) with st = false, any(..) with st = true -/
def tGen (P : Addr) (st : Bool) (wi : TI) (g : TG) (te : TE) (vs : List Nat) : TE := fun σ H Q => wi σ H fun J H1 => H1 P = some (TabX P) ∧ ∃ W : Nat → Nat → Hp → Prop, (∃ m, W 0 m H1) ∧ ∀ i m H, W i m H →
  (J.stop i H ∧ Q (.bl (!st)) H) ∨ (J.go i H ∧ ∃ Nx : Hp → Prop, (∀ H', Nx H' → ∃ m', m' < m ∧ W (i + 1) m' H') ∧ ∀ x H', J.yld i H x H' → g x (wipe σ vs) H' fun σ2 H2 => wipe σ2 vs = wipe σ vs ∧ te σ2 H2 fun y H3 => ∃ b, y = .bl b ∧ if b = st then Q (.bl st) H3 else Nx H3)

theorem seg_gx {B : Around} {scope : Scope} {own : List (Str × Nat)} {fp : List Addr} {s4 : Shared} {H4 : Hp} {cenv : Env} {a : Addr} {go : Obj} {gn : Nat} {elt tg iter : Expr} {pos : Pos} {it : Addr} {tn : Nat → Heap → Prop} {J : It} {g : TG} {te : TE} {σ : L2.St} {Q : VK} {st : Bool} {W : Nat → Nat → Hp → Prop}
    (hc : X.calm = true) (hco : cenv.scope.isCoroutine = false) (hgn : ∀ h : Heap, h.get? a = some go → h.IsGen a gn)
    (T : Turn X.prog X.w X.K tg J fp it tn) (pg : PG (gxc X B s4 H4 scope cenv fp [(a, go)]) tg g) (pe : PE (gxc X B s4 H4 scope cenv fp [(a, go)]) elt te) (hfa : ∀ b ∈ fp, b ≠ a)
    (turn : ∀ i m H, W i m H → (J.stop i H ∧ Q (.bl (!st)) H) ∨ (J.go i H ∧ ∃ Nx : Hp → Prop, (∀ H', Nx H' → ∃ m', m' < m ∧ W (i + 1) m' H') ∧ ∀ x H', J.yld i H x H' → g x (wipe σ (own.map (·.2))) H' fun σ2 H2 => wipe σ2 (own.map (·.2)) = wipe σ (own.map (·.2)) ∧ te σ2 H2 fun y H3 => ∃ b, y = .bl b ∧ if b = st then Q (.bl st) H3 else Nx H3)) :
    ∀ (m n : Nat), m < n → ∀ (i : Nat) (s₀ s : Shared) (H : Hp), W i m H → Inv (gxc X B s4 H4 scope cenv fp [(a, go)]) [] (wipe σ (own.map (·.2))) H s → tn i s.heap → (∀ b ∈ fp, H b = none) →
      Seg (model X.prog X.w) B (fun n s₀ r s₁ => r = .ok .next ∧ GDone X.prog X.w (frs X.stack) fp H4 s4 Q st n s₀ s₁) (GYld X.prog X.w (frs X.stack) fp H4 s4 Q st a gn) n s₀
        (.compLoop (.GeneratorExp elt [⟨tg, iter, [], 0⟩] scope pos) 0 (.ref it) .none cenv)
        ((model X.prog X.w).den (.compLoop (.GeneratorExp elt [⟨tg, iter, [], 0⟩] scope pos) 0 (.ref it) .none cenv)) [] s := by
  intro m
  induction m using Nat.strongRecOn with
  | ind m ih =>
    intro n hmn i s₀ s H w I st5 n5
    have stat : ∀ {σ' : L2.St} {H' : Hp} {s' : Shared}, Inv (gxc X B s4 H4 scope cenv fp [(a, go)]) [] σ' H' s' → (∀ b ∈ fp, H' b = none) → ∀ b ∈ fp, FpOk (gxc X B s4 H4 scope cenv fp [(a, go)]) [] H' b := fun {σ' H' s'} I' hn b hb =>
      ⟨hn b hb, (I'.ok.exf b hb).1, I'.ok.exfs b hb, .inl hb, fun x c e => (I'.ok.exf b hb).2 x c e, fun p hp => by
        have hp : p ∈ [(a, go)] ++ [] := hp
        rw [List.append_nil, List.mem_singleton] at hp
        subst hp
        exact fun z => hfa b hb z.symm⟩
    have pinned : ∀ {pins' : List (Addr × Obj)} {σ' : L2.St} {H' : Hp} {s' : Shared}, Inv (gxc X B s4 H4 scope cenv fp [(a, go)]) pins' σ' H' s' → s'.heap.IsGen a gn := fun {pins' σ' H' s'} I' =>
      hgn _ (I'.pin (a, go) (List.mem_append_left _ (List.mem_singleton.mpr rfl))).1
    show Seg _ B _ _ _ s₀ _ ((compTurn (.GeneratorExp elt [⟨tg, iter, [], 0⟩] scope pos) 0 (.ref it) .none cenv).onRaise (leaving cenv)) [] s
    rw [compTurn_gen, Sem.onRaise_eq_wrap]
    refine seg_bind_wrap (wpAny_standAt ?_)
    rcases turn i m H w with ⟨stop, qq⟩ | ⟨goes, Nx, hNx, step⟩
    · refine seg_bind_wrap ?_
      rw [over_gen]
      refine wpAny_mono (T.done (gxc X B s4 H4 scope cenv fp [(a, go)]) rfl rfl rfl hc i [] s _ H (fun _ _ => False) I (stat I n5) st5 stop) (fun r s6 hr => ?_) (fun _ _ z => z.elim)
      obtain ⟨rfl, I6⟩ := hr
      exact seg_end (.ok .next) ⟨rfl, I6.os, I6.bare, H, I6.base, I6.hok, qq⟩
    · refine seg_bind_wrap ?_
      rw [over_gen]
      refine wpAny_mono (T.item (gxc X B s4 H4 scope cenv fp [(a, go)]) rfl rfl rfl hc i [] s _ H (fun _ _ => False) I (stat I n5) st5 goes) (fun r s6 hr => ?_) (fun _ _ z => z.elim)
      obtain ⟨u, rfl, h6⟩ := hr
      refine seg_bind_wrap ?_
      rw [over_gen]
      refine wpAny_mono h6 (fun _ s7 h7 => ?_) (fun _ _ z => z.elim)
      obtain ⟨x, H7, I7, r7, y7, st7, n7⟩ := h7
      have I7' := I7.pinned (stat I7 n7) (T.obj _ _ st7)
      refine seg_bind_wrap ?_
      rw [over_gen]
      refine wpAny_mono (pg.run _ s7 _ H7 x u _ I7' r7 (step x H7 y7)) (fun _ s8 h8 => ?_) (fun _ _ z => z.elim)
      obtain ⟨σ8, H8, I8, hw8, q8⟩ := h8
      refine seg_bind_wrap (wpAny_tests_nil ?_)
      simp only [if_true]
      have hy : ∀ v, yieldOut cenv v = yieldValue v := fun v => by simp only [yieldOut, hco, Bool.false_eq_true, if_false]
      simp only [hy]
      rw [Sem.bind_eq_wrap', Sem.bind_eq_wrap', Sem.wrap_wrap, Sem.wrap_wrap]
      refine seg_wrap ?_
      rw [over_gen]
      refine wpAny_mono (pe.run _ s8 σ8 H8 _ I8 q8) (fun z s9 h9 => ?_) (fun _ _ z => z.elim)
      obtain ⟨y, H9, I9, r9, b, rfl, q9⟩ := h9
      have r9 : z = Value.bool b := r9
      subst r9
      have hlim : s9.heap.NoLimit := I9.nolimit
      by_cases hb : b = st
      · obtain ⟨k, rfl⟩ : ∃ k, n = k + 1 := ⟨n - 1, by omega⟩
        rw [if_pos hb] at q9
        refine seg_at (seg_yield rfl rfl rfl ⟨b, rfl, I9.os, I9.bare, hlim, pinned I9, ?_⟩)
        rw [if_pos hb]
        exact ⟨H9, I9.base, I9.hok, q9⟩
      · rw [if_neg hb] at q9
        obtain ⟨m', hm, w'⟩ := hNx H9 q9
        obtain ⟨k, rfl⟩ : ∃ k, n = k + 1 := ⟨n - 1, by omega⟩
        refine seg_at (seg_yield rfl rfl rfl ⟨b, rfl, I9.os, I9.bare, hlim, pinned I9, ?_⟩)
        rw [if_neg hb]
        intro s' e1 e2 e3
        have pin' : ∀ b ∈ fp, ∀ o, s7.heap.get? b = some o → s9.heap.get? b = some o ∧ H9 b = none := fun b hb o e =>
          let z := I9.pin (b, o) (List.mem_append_right _ (List.mem_append_right _ (mem_pinsAt hb e)))
          ⟨z.1, z.2.1⟩
        have hl : (wipe σ (own.map (·.2))).length = σ8.length := by rw [← hw8, wipe_length]
        have I10 : Inv (gxc X B s4 H4 scope cenv fp [(a, go)]) [] (wipe σ (own.map (·.2))) H9 s9 := (I9.unpinned (pins := [])).weak hl (fun j v e => by
          rw [← hw8] at e
          exact (wipe_some e).1)
        have I11 : Inv (gxc X B s4 H4 scope cenv fp [(a, go)]) [] (wipe σ (own.map (·.2))) H9 s' := by
          refine I10.call' (ch := []) e2 (Un.kept fun b o e => by rw [e1]; exact e) (by rw [e1]; exact I10.hok) e3 fun b z => by simp at z
        refine seg_again rfl (ih m' hm k (by omega) (i + 1) s' s' H9 w' I11 ?_ fun b hb => ?_)
        · rw [e1]
          exact T.keep _ _ _ st7 fun b hb o e => (pin' b hb o e).1
        · obtain ⟨o, e, _⟩ := T.obj _ _ st7 b hb
          exact (pin' b hb o e).2
end
end Ct
namespace Ct
open PySem PySem.Spec PyProof.Rows L2 GenW
section
variable {P : Program} {w : World} {A : Around} {fr fp : List Addr} {H4 : Hp} {s4 : Shared} {Q : VK} {a : Addr} {g : Nat} {R : Result → Shared → Prop}
theorem all_gx (hh : A.handled = none) (hd : A.depth < recursionLimit) (hend : ∀ b (s' : Shared), s'.os = s4.os → AllBare s'.gens → GFin P w fr fp H4 s4.heap Q b s'.heap → R (.ok (.ret (.bool b))) s') :
    ∀ (m : Nat) (s : Shared), s.heap.IsGen a g → s.heap.NoLimit →
      (∃ gs, s.gens[g]? = some gs ∧ gs.Goes (model P w) A.in1.in1 (fun n s₀ r s₁ => r = .ok .next ∧ GDone P w fr fp H4 s4 Q false n s₀ s₁) (GYld P w fr fp H4 s4 Q false a g) m (.send .none) (s.setGen g .running)) →
      codeAny (model P w) A (.builtin "all.loop" ⟨[.ref a], []⟩) R s := by
  intro m
  induction m with
  | zero =>
    intro s hg hl ⟨gs, hgs, hgo⟩
    refine codeAny_builtin F.entry_all_loop ?_
    rw [Around.under_plainId F.plain_all_loop _]
    show wpAny _ A.in1 (pyNext (.ref a) >>= _) _ _ s
    refine wpAny_bind (wpAny_pyNext_genexpQ (A := A.in1) hh hl hd hg hgs hgo (fun v s₁ gs' hbare hv => ?_) (fun s₁ hp h' hk => ?_))
    · obtain ⟨b, rfl, os1, hb1, hl1, hg1, q⟩ := hv
      refine wpAny_bind (wpAny_holding (wpAny_truthy_bool ?_))
      refine wpAny_bind (wpAny_letGo ?_)
      by_cases hb : b = false
      · rw [if_pos hb] at q
        subst hb
        simp only [Bool.false_eq_true, if_false]
        refine wpAny_bind (wpAny_rule (wpAny_pure ?_))
        exact hend false _ os1 (allBare_setGen hb1 hbare) q
      · rw [if_neg hb] at q
        exact False.elim (q s₁ rfl rfl hb1)
    · obtain ⟨os1, hb1, H', un, hok, hQ⟩ := hp
      refine wpAny_bind (wpAny_rule (wpAny_pure ?_))
      exact hend true _ os1 (allBare_setGen hb1 rfl) ⟨H', un.trans (Un.kept hk), hok.kept hk, hQ⟩
  | succ m ih =>
    intro s hg hl ⟨gs, hgs, hgo⟩
    have hgl : g < s.gens.size := (Array.getElem?_eq_some_iff.mp hgs).1
    refine codeAny_builtin F.entry_all_loop ?_
    rw [Around.under_plainId F.plain_all_loop _]
    show wpAny _ A.in1 (pyNext (.ref a) >>= _) _ _ s
    refine wpAny_bind (wpAny_gsz (n := g + 1) hgl (wpAny_pyNext_genexpQ (A := A.in1) hh hl hd hg hgs hgo (fun v s₁ gs' hbare hv => ?_) (fun s₁ hp h' hk => ?_)))
    · intro hsz
      obtain ⟨b, rfl, os1, hb1, hl1, hg1, q⟩ := hv
      refine wpAny_bind (wpAny_holding (wpAny_truthy_bool ?_))
      refine wpAny_bind (wpAny_letGo ?_)
      have hsz1 : g < s₁.gens.size := by
        have q : (s₁.setGen g gs').gens.size = s₁.gens.size := setGen_size _ _ _
        have hsz' : g + 1 ≤ (s₁.setGen g gs').gens.size := hsz
        omega
      by_cases hb : b = false
      · rw [if_pos hb] at q
        subst hb
        simp only [Bool.false_eq_true, if_false]
        refine wpAny_bind (wpAny_rule (wpAny_pure ?_))
        exact hend false _ os1 (allBare_setGen hb1 hbare) q
      · rw [if_neg hb] at q
        have hb2 : b = true := by
          cases b with
          | true => rfl
          | false => exact absurd rfl hb
        subst hb2
        simp only [if_true]
        refine wpAny_pure ⟨plainId_quiet F.plain_all_loop _, ?_⟩
        exact ih (s₁.setGen g gs') hg1 hl1 ⟨gs', setGen_at hsz1, q _ rfl rfl (allBare_setGen (allBare_setGen hb1 hbare) rfl)⟩
    · intro _
      obtain ⟨os1, hb1, H', un, hok, hQ⟩ := hp
      refine wpAny_bind (wpAny_rule (wpAny_pure ?_))
      exact hend true _ os1 (allBare_setGen hb1 rfl) ⟨H', un.trans (Un.kept hk), hok.kept hk, hQ⟩
theorem any_gx (hh : A.handled = none) (hd : A.depth < recursionLimit) (hend : ∀ b (s' : Shared), s'.os = s4.os → AllBare s'.gens → GFin P w fr fp H4 s4.heap Q b s'.heap → R (.ok (.ret (.bool b))) s') :
    ∀ (m : Nat) (s : Shared), s.heap.IsGen a g → s.heap.NoLimit →
      (∃ gs, s.gens[g]? = some gs ∧ gs.Goes (model P w) A.in1.in1 (fun n s₀ r s₁ => r = .ok .next ∧ GDone P w fr fp H4 s4 Q true n s₀ s₁) (GYld P w fr fp H4 s4 Q true a g) m (.send .none) (s.setGen g .running)) →
      codeAny (model P w) A (.builtin "any.loop" ⟨[.ref a], []⟩) R s := by
  intro m
  induction m with
  | zero =>
    intro s hg hl ⟨gs, hgs, hgo⟩
    refine codeAny_builtin F.entry_any_loop ?_
    rw [Around.under_plainId F.plain_any_loop _]
    show wpAny _ A.in1 (pyNext (.ref a) >>= _) _ _ s
    refine wpAny_bind (wpAny_pyNext_genexpQ (A := A.in1) hh hl hd hg hgs hgo (fun v s₁ gs' hbare hv => ?_) (fun s₁ hp h' hk => ?_))
    · obtain ⟨b, rfl, os1, hb1, hl1, hg1, q⟩ := hv
      refine wpAny_bind (wpAny_holding (wpAny_truthy_bool ?_))
      refine wpAny_bind (wpAny_letGo ?_)
      by_cases hb : b = true
      · rw [if_pos hb] at q
        subst hb
        simp only [if_true]
        refine wpAny_bind (wpAny_rule (wpAny_pure ?_))
        exact hend true _ os1 (allBare_setGen hb1 hbare) q
      · rw [if_neg hb] at q
        exact False.elim (q s₁ rfl rfl hb1)
    · obtain ⟨os1, hb1, H', un, hok, hQ⟩ := hp
      refine wpAny_bind (wpAny_rule (wpAny_pure ?_))
      exact hend false _ os1 (allBare_setGen hb1 rfl) ⟨H', un.trans (Un.kept hk), hok.kept hk, hQ⟩
  | succ m ih =>
    intro s hg hl ⟨gs, hgs, hgo⟩
    have hgl : g < s.gens.size := (Array.getElem?_eq_some_iff.mp hgs).1
    refine codeAny_builtin F.entry_any_loop ?_
    rw [Around.under_plainId F.plain_any_loop _]
    show wpAny _ A.in1 (pyNext (.ref a) >>= _) _ _ s
    refine wpAny_bind (wpAny_gsz (n := g + 1) hgl (wpAny_pyNext_genexpQ (A := A.in1) hh hl hd hg hgs hgo (fun v s₁ gs' hbare hv => ?_) (fun s₁ hp h' hk => ?_)))
    · intro hsz
      obtain ⟨b, rfl, os1, hb1, hl1, hg1, q⟩ := hv
      refine wpAny_bind (wpAny_holding (wpAny_truthy_bool ?_))
      refine wpAny_bind (wpAny_letGo ?_)
      have hsz1 : g < s₁.gens.size := by
        have q : (s₁.setGen g gs').gens.size = s₁.gens.size := setGen_size _ _ _
        have hsz' : g + 1 ≤ (s₁.setGen g gs').gens.size := hsz
        omega
      by_cases hb : b = true
      · rw [if_pos hb] at q
        subst hb
        simp only [if_true]
        refine wpAny_bind (wpAny_rule (wpAny_pure ?_))
        exact hend true _ os1 (allBare_setGen hb1 hbare) q
      · rw [if_neg hb] at q
        have hb2 : b = false := by
          cases b with
          | false => rfl
          | true => exact absurd rfl hb
        subst hb2
        simp only [Bool.false_eq_true, if_false]
        refine wpAny_pure ⟨plainId_quiet F.plain_any_loop _, ?_⟩
        exact ih (s₁.setGen g gs') hg1 hl1 ⟨gs', setGen_at hsz1, q _ rfl rfl (allBare_setGen (allBare_setGen hb1 hbare) rfl)⟩
    · intro _
      obtain ⟨os1, hb1, H', un, hok, hQ⟩ := hp
      refine wpAny_bind (wpAny_rule (wpAny_pure ?_))
      exact hend false _ os1 (allBare_setGen hb1 rfl) ⟨H', un.trans (Un.kept hk), hok.kept hk, hQ⟩
end
end Ct
namespace Ct
open PySem PySem.Spec PyProof.Rows L2 GenW
section
variable {X : Cx}
theorem gen_eval {pins : List (Addr × Obj)} {σ : L2.St} {H : Hp} {s : Shared} {Q : VK} {c P : Addr} {elt tg iter : Expr} {scope : Scope} {own : List (Str × Nat)} {pos : Pos} {wi : TI} {g : TG} {te : TE} {st : Bool} {k : Nat} {Q' : Value → Shared → Prop}
    (hr : Room (k + 1) X.A) (hc : X.calm = true) (hN : X.N.Nodup) (TB : GxR.TabB X.base X.mg c P) (hcode : X.env.code = .ref c) (hi : PI X tg iter wi) (ok : BlkOk X.N X.env.scope scope own) (hcell : ∀ y ∈ scope.names, y.2 ≠ .cell) (hco : scope.isCoroutine = false) (hdot : scope.names.lookup (".0" : Str) = some NameKind.local)
    (hg : ∀ (s : Shared) (H : Hp) (C : Addr) (cl : List (Str × Addr)) (cd : Value) (fp : List Addr) (pn : List (Addr × Obj)) (B : Around), PG (gxc X B s H scope (genEnv scope cl C cd builtinsNs X.env) fp pn) tg g)
    (he : ∀ (s : Shared) (H : Hp) (C : Addr) (cl : List (Str × Addr)) (cd : Value) (fp : List Addr) (pn : List (Addr × Obj)) (B : Around), Room k (B.deeper (genEnv scope cl C cd builtinsNs X.env)) → PE (gxc X B s H scope (genEnv scope cl C cd builtinsNs X.env) fp pn) elt te)
    (hs : ∀ x, genFold iter X.env x = pure x) (I : Inv X pins σ H s) (h : tGen P st wi g te (own.map (·.2)) σ H Q)
    (hQ : ∀ (a : Addr) (gn : Nat) (s4 s5 : Shared) (H4 : Hp) (fp : List Addr) (m : Nat) (gs : GenState), Inv X pins σ H4 s4 → (∀ b ∈ fp, FpOk X pins H4 b) → s5.heap.IsGen a gn → s5.heap.NoLimit → s5.gens[gn]? = some gs →
      gs.Goes (model X.prog X.w) X.A.in1.in1 (fun n s₀ r s₁ => r = .ok .next ∧ GDone X.prog X.w (frs X.stack) fp H4 s4 Q st n s₀ s₁) (GYld X.prog X.w (frs X.stack) fp H4 s4 Q st a gn) m (.send .none) (s5.setGen gn .running) → Q' (.ref a) s5) :
    wpAny (model X.prog X.w) X.A (eval (.GeneratorExp elt [⟨tg, iter, [], 0⟩] scope pos) X.env) Q' X.xe s := by
  have hfree : ∀ y ∈ scope.names, y.2 = .free → ∃ c, X.env.cells.lookup y.1 = some c := fun y hy e => by
    rcases ok.free y hy e with k | k
    · exact I.ok.has _ (.inl k)
    · exact I.ok.has _ (.inr k)
  refine wpAny_GeneratorExp_make hco (closure_ok hfree) hcell hdot ok.kind hr.depth (thn (hi.run pins s σ H _ I h) fun xv s1 hx => thn hx fun itv s2 h2 => ?_) hs
  obtain ⟨it, fp, tn, J, H2, rfl, I2, T, st2, f2, hTab, W, ⟨m0, w0⟩, turn⟩ := h2
  obtain ⟨⟨ps, hP2, ht⟩, _, _⟩ := I2.hok P _ hTab
  have hPlt : P < s2.heap.objs.size := Heap.lt_size hP2
  have cd : PySem.W.CodeHd s2.heap c P := TB.code.keeps I2.bk
  have nP : ∀ b, H2 b = none → b ≠ P := fun b e z => by
    rw [z, hTab] at e
    cases e
  have cont : ∀ (code : Value) (h3 : Heap) (tk : Nat) (ps' : Array Value), Heap.ExtBut P s2.heap h3 → s2.heap.objs.size ≤ h3.objs.size → h3.get? P = some { cls := .none, data := .fields ps' } → TriplesOk ps'.toList →
      wpAny (model X.prog X.w) X.A (builtinsFor X.env.globals X.env.builtins) (fun bi s₄ =>
        ∀ h', h'.Ns s₄.heap.objs.size (fun y => if y = ".0" then some (Value.ref it) else none) → Heap.SameBut s₄.heap.objs.size (s₄.heap.push { cls := .type "frame", data := .dict #[] }) h' →
          Q' (.ref h'.objs.size) { s₄ with
            gens := s₄.gens.push (.fresh (.compStart (.GeneratorExp elt [⟨tg, iter, [], 0⟩] scope pos) 0 (.ref it) .none (genEnv scope (cloFrom X.env.cells scope.names []) s₄.heap.objs.size code bi X.env))),
            toks := s₄.toks + 1 + 1 + 1,
            heap := h'.push { cls := .type "generator", data := .fields #[.int s₄.gens.size 0, .str "<genexpr>" (s₄.toks + 1), .str (X.env.qual ++ "<genexpr>") (s₄.toks + 1 + 1)] } }) X.xe { s2 with heap := h3, toks := tk } := by
    intro code h3 tk ps' hx hsz hP3 ht3
    obtain ⟨bm, ob, e1, e2, e3, e4, e5, e6, e7, e8⟩ := TB.bm
    have keep3 : ∀ b u, b ≠ P → s2.heap.get? b = some u → h3.get? b = some u := fun b u hb e => hx b u hb e
    refine wpAny_builtinsFor (m := X.mg) (by rw [I2.ok.glob]; exact (I2.mod.glob.keeps I2.bk).extBut hx TB.gP) e1 e2 (keep3 _ _ e4 (I2.bk _ _ e5)) e6 e7 e8 ?_
    intro h' hn' hs'
    have I4 : Inv X pins σ H2 { s2 with heap := h3, toks := tk } := inv_tabX (g' := s2.gens) (d' := s2.drawn) (t' := tk) I2 hTab keep3 hP3 ht3 I2.bare
    generalize hs4 : ({ s2 with heap := h3, toks := tk } : Shared) = s4 at *
    have h4 : s4.heap = h3 := by rw [← hs4]
    have keep' : ∀ b o, s4.heap.get? b = some o → h'.get? b = some o := fun b o e => hs'.extBut b o (Nat.ne_of_lt (Heap.lt_size e)) (Heap.get?_push_of_some _ e)
    have hsz' : h'.objs.size = s4.heap.objs.size + 1 := by rw [hs'.1, Heap.size_push]
    generalize hgo : ({ cls := .type "generator", data := .fields #[.int s4.gens.size 0, .str "<genexpr>" (s4.toks + 1), .str (X.env.qual ++ "<genexpr>") (s4.toks + 1 + 1)] } : Obj) = go
    have hgn : ∀ h : Heap, h.get? h'.objs.size = some go → h.IsGen h'.objs.size s4.gens.size := fun h e => ⟨go, _, _, e, by rw [← hgo], by rw [← hgo], by rw [← hgo]⟩
    have keep5 : ∀ b o, s4.heap.get? b = some o → (h'.push go).get? b = some o := fun b o e => Heap.get?_push_of_some _ (keep' b o e)
    have hgoat : (h'.push go).get? h'.objs.size = some go := Heap.get?_push_size _ (by rw [← hgo]; rfl)
    have f4 : ∀ b ∈ fp, FpOk X pins H2 b ∧ b < s4.heap.objs.size := fun b hb => by
      obtain ⟨o, e, _⟩ := T.obj _ _ st2 b hb
      refine ⟨f2 b hb, ?_⟩
      rw [h4]
      exact Heap.lt_size (keep3 b o (nP b (f2 b hb).1) e)
    have kfp : ∀ b ∈ fp, ∀ o, s2.heap.get? b = some o → (h'.push go).get? b = some o := fun b hb o e => keep5 b o (by rw [h4]; exact keep3 b o (nP b (f2 b hb).1) e)
    have lim5 : (h'.push go).NoLimit := I4.nolimit.keeps keep5
    refine hQ h'.objs.size s4.gens.size s4 _ H2 fp (m0 + 1) _ I4 f2 (hgn _ hgoat) lim5 (Array.getElem?_push_size ..) ?_
    have hns5 : (h'.push go).Ns s4.heap.objs.size (fun y => if y = ".0" then some (Value.ref it) else none) := hn'.push _
    have hfa : ∀ b ∈ fp, b ≠ h'.objs.size := fun b hb => by
      have := (f4 b hb).2
      intro z
      rw [z, hsz'] at this
      exact absurd (Nat.lt_trans (Nat.lt_succ_self _) this) (Nat.lt_irrefl _)
    have J5 : ∀ (g5 : Array GenState), AllBare g5 → Inv (gxc X X.A.in1.in1 s4 H2 scope (genEnv scope (cloFrom X.env.cells scope.names []) s4.heap.objs.size code builtinsNs X.env) fp [(h'.objs.size, go)]) [] (wipe σ (own.map (·.2))) H2 { s4 with heap := h'.push go, gens := g5, toks := s4.toks + 1 + 1 + 1, drawn := s4.drawn } := fun g5 b5 =>
      gx_start (B := X.A.in1.in1) I4 I4.ok.frames hr.hd ok hN hcell f4 hns5 keep5 (by rw [hsz']; exact Nat.lt_succ_self _) hgoat (fun v z => by rw [← hgo] at z; cases z) b5
    have room : Room k (X.A.in1.in1.deeper (genEnv scope (cloFrom X.env.cells scope.names []) s4.heap.objs.size code builtinsNs X.env)) :=
      ⟨hr.hd, by have := hr.dp; show X.A.depth + 1 + 3 * k + 5 < _; omega, by have := hr.un; show X.A.units + 1 + 1 + 3 + 16 * k + 200 < _; omega⟩
    have b5 : AllBare ((s4.gens.push (.fresh (.compStart (.GeneratorExp elt [⟨tg, iter, [], 0⟩] scope pos) 0 (.ref it) .none (genEnv scope (cloFrom X.env.cells scope.names []) s4.heap.objs.size code builtinsNs X.env)))).setIfInBounds s4.gens.size .running) :=
      allBare_setGen (s := { s4 with gens := s4.gens.push (.fresh (.compStart (.GeneratorExp elt [⟨tg, iter, [], 0⟩] scope pos) 0 (.ref it) .none (genEnv scope (cloFrom X.env.cells scope.names []) s4.heap.objs.size code builtinsNs X.env))) }) (g := s4.gens.size) (AllBare.push I4.bare rfl) rfl
    have loop := seg_gx (iter := iter) (pos := pos) (σ := σ) (own := own) (Q := Q) (st := st) hc hco hgn T (hg s4 H2 _ _ code fp [(h'.objs.size, go)] X.A.in1.in1) (he s4 H2 _ _ code fp [(h'.objs.size, go)] X.A.in1.in1 room) hfa turn m0 (m0 + 1) (Nat.lt_succ_self _) 0
      (Shared.setGen { s4 with heap := h'.push go, gens := s4.gens.push (.fresh (.compStart (.GeneratorExp elt [⟨tg, iter, [], 0⟩] scope pos) 0 (.ref it) .none (genEnv scope (cloFrom X.env.cells scope.names []) s4.heap.objs.size code builtinsNs X.env))), toks := s4.toks + 1 + 1 + 1 } s4.gens.size .running)
      (Shared.setGen { s4 with heap := h'.push go, gens := s4.gens.push (.fresh (.compStart (.GeneratorExp elt [⟨tg, iter, [], 0⟩] scope pos) 0 (.ref it) .none (genEnv scope (cloFrom X.env.cells scope.names []) s4.heap.objs.size code builtinsNs X.env))), toks := s4.toks + 1 + 1 + 1 } s4.gens.size .running)
      H2 w0 (J5 _ b5) (T.keep _ _ _ st2 kfp) (fun b hb => (f2 b hb).1)
    refine ⟨rfl, ?_⟩
    show Seg _ X.A.in1.in1 _ _ _ _ _ ((compStart (.GeneratorExp elt [⟨tg, iter, [], 0⟩] scope pos) 0 (.ref it) .none (genEnv scope (cloFrom X.env.cells scope.names []) s4.heap.objs.size code builtinsNs X.env)).onRaise (leaving (genEnv scope (cloFrom X.env.cells scope.names []) s4.heap.objs.size code builtinsNs X.env))) [] _
    unfold compStart
    rw [Sem.onRaise_eq_wrap]
    show Seg _ X.A.in1.in1 _ _ _ _ _ ((ask >>= _).wrap _ _ _ _) [] _
    refine seg_bind_wrap (wpAny_askSetting ?_)
    split
    · exact seg_again rfl loop
    · first
        | exact seg_bind_wrap (wpAny_rule (seg_bind_wrap (wpAny_standAt (seg_bind_wrap (T.self _ 0 _ _ _ (T.keep _ _ _ st2 kfp) (seg_again rfl loop))))))
        | (refine seg_bind_wrap (wpAny_rule ?_); show Seg _ _ _ _ _ _ _ ((standAt iter.pos >>= _).wrap _ _ _ _) [] _; exact seg_bind_wrap (wpAny_standAt (seg_bind_wrap (T.self _ 0 _ _ _ (T.keep _ _ _ st2 kfp) (seg_again rfl loop)))))
  refine ⟨I2.nolimit, ?_⟩
  cases hf : codeAmong pos ps.toList with
  | none =>
    refine wpAny_genexprCodeX hcode (cd.code hP2 ht) (cd.tab hP2) hf fun c' h' tk hx hge hlt hco' _ htab' _ => ?_
    obtain ⟨o1, vs, f1, tf, fl, tg, inF, tx, tt, op, _, _, _, _, _, _, _, _, _, htr, _⟩ := hco'
    exact cont _ h' tk _ hx (Nat.le_trans hge (Nat.le_of_lt hlt)) htab'.2 htr
  | some cv =>
    refine wpAny_genexprCode_hit hcode (cd.code hP2 ht) hf ?_
    exact cont cv s2.heap s2.toks ps (Heap.ExtBut.refl _ _) (Nat.le_refl _) hP2 ht
end
end Ct
namespace Ct
open PySem PySem.Spec PyProof.Rows L2 GenW
section
variable {X : Cx}
theorem gx_end {pins : List (Addr × Obj)} {σ : L2.St} {H4 : Hp} {s4 s' : Shared} {fp : List Addr} {Q : VK} {b : Bool} (I4 : Inv X pins σ H4 s4) (f4 : ∀ b ∈ fp, FpOk X pins H4 b) (os : s'.os = s4.os) (bare : AllBare s'.gens) (h : GFin X.prog X.w (frs X.stack) fp H4 s4.heap Q b s'.heap) : EP X pins σ Q (.bool b) s' := by
  obtain ⟨H', un, hok, q⟩ := h
  exact ⟨.bl b, H', I4.call' (ch := fp) os un hok bare fun b hb => ⟨(f4 b hb).2.2.2.1, (f4 b hb).2.1, (f4 b hb).2.2.2.2.1, (f4 b hb).2.2.2.2.2⟩, rfl, q⟩
/-- all(elt for tg in iter) -/
theorem pe_allX {c P : Addr} {elt tg iter : Expr} {scope : Scope} {own : List (Str × Nat)} {p pos gpos : Pos} {wi : TI} {g : TG} {te : TE} {k : Nat}
    (hr : Room (k + 1) X.A) (hgl : Gl X "all") (hm : X.mg "all" = none) (hc : X.calm = true) (hN : X.N.Nodup) (TB : GxR.TabB X.base X.mg c P) (hcode : X.env.code = .ref c) (hi : PI X tg iter wi) (ok : BlkOk X.N X.env.scope scope own) (hcell : ∀ y ∈ scope.names, y.2 ≠ .cell) (hco : scope.isCoroutine = false) (hdot : scope.names.lookup (".0" : Str) = some NameKind.local)
    (hg : ∀ (s : Shared) (H : Hp) (C : Addr) (cl : List (Str × Addr)) (cd : Value) (fp : List Addr) (pn : List (Addr × Obj)) (B : Around), PG (gxc X B s H scope (genEnv scope cl C cd builtinsNs X.env) fp pn) tg g)
    (he : ∀ (s : Shared) (H : Hp) (C : Addr) (cl : List (Str × Addr)) (cd : Value) (fp : List Addr) (pn : List (Addr × Obj)) (B : Around), Room k (B.deeper (genEnv scope cl C cd builtinsNs X.env)) → PE (gxc X B s H scope (genEnv scope cl C cd builtinsNs X.env) fp pn) elt te)
    (hs : ∀ x, genFold iter X.env x = pure x := by intro _; rfl) (hb : bootBuiltins "all" = some (.builtin "all") := by decide +kernel)
    (hst : starEach [.GeneratorExp elt [⟨tg, iter, [], 0⟩] scope gpos] X.env = (false, eval (.GeneratorExp elt [⟨tg, iter, [], 0⟩] scope gpos) X.env) :: starEach [] X.env := by rfl) :
    PE X (.Call (.Name "all" p) [.GeneratorExp elt [⟨tg, iter, [], 0⟩] scope gpos] [] pos) (tGen P false wi g te (own.map (·.2))) := by
  refine ⟨fun pins s σ H Q I h => ?_⟩
  refine wpAny_Call_Name_kw (ld_blt I hgl hm hb ?_)
  refine PyProof.Rows.callWith_builtin1 ?_ hst (by rfl)
  rw [hst]
  show wpAny _ _ (spliced ((false, eval (.GeneratorExp elt [⟨tg, iter, [], 0⟩] scope gpos) X.env) :: backTo pos (starEach [] X.env))) _ _ s
  refine Calls.spliced_cons (gen_eval hr hc hN TB hcode hi ok hcell hco hdot hg he hs I h fun a gn s4 s5 H4 fp m gs I4 f4 hgen hlim hgs hgo => ?_)
  refine Calls.spliced_nil ?_
  refine call_function_tree F.kind_all F.plain_all F.entry_all (F.args_all1 _) ?_
  unfold Builtin.«all»
  refine wpAny_bind (m := oneArg "all" _) (wpAny_pure ?_)
  refine wpAny_bind (wpAny_pyIter_gen hgen ?_)
  exact wpAny_pure ⟨plainId_quiet F.plain_all_loop _, all_gx hr.hd hr.depth (fun b s' os bare fin => gx_end I4 f4 os bare fin) m s5 hgen hlim ⟨gs, hgs, hgo⟩⟩
/-- any(elt for tg in iter) -/
theorem pe_anyX {c P : Addr} {elt tg iter : Expr} {scope : Scope} {own : List (Str × Nat)} {p pos gpos : Pos} {wi : TI} {g : TG} {te : TE} {k : Nat}
    (hr : Room (k + 1) X.A) (hgl : Gl X "any") (hm : X.mg "any" = none) (hc : X.calm = true) (hN : X.N.Nodup) (TB : GxR.TabB X.base X.mg c P) (hcode : X.env.code = .ref c) (hi : PI X tg iter wi) (ok : BlkOk X.N X.env.scope scope own) (hcell : ∀ y ∈ scope.names, y.2 ≠ .cell) (hco : scope.isCoroutine = false) (hdot : scope.names.lookup (".0" : Str) = some NameKind.local)
    (hg : ∀ (s : Shared) (H : Hp) (C : Addr) (cl : List (Str × Addr)) (cd : Value) (fp : List Addr) (pn : List (Addr × Obj)) (B : Around), PG (gxc X B s H scope (genEnv scope cl C cd builtinsNs X.env) fp pn) tg g)
    (he : ∀ (s : Shared) (H : Hp) (C : Addr) (cl : List (Str × Addr)) (cd : Value) (fp : List Addr) (pn : List (Addr × Obj)) (B : Around), Room k (B.deeper (genEnv scope cl C cd builtinsNs X.env)) → PE (gxc X B s H scope (genEnv scope cl C cd builtinsNs X.env) fp pn) elt te)
    (hs : ∀ x, genFold iter X.env x = pure x := by intro _; rfl) (hb : bootBuiltins "any" = some (.builtin "any") := by decide +kernel)
    (hst : starEach [.GeneratorExp elt [⟨tg, iter, [], 0⟩] scope gpos] X.env = (false, eval (.GeneratorExp elt [⟨tg, iter, [], 0⟩] scope gpos) X.env) :: starEach [] X.env := by rfl) :
    PE X (.Call (.Name "any" p) [.GeneratorExp elt [⟨tg, iter, [], 0⟩] scope gpos] [] pos) (tGen P true wi g te (own.map (·.2))) := by
  refine ⟨fun pins s σ H Q I h => ?_⟩
  refine wpAny_Call_Name_kw (ld_blt I hgl hm hb ?_)
  refine PyProof.Rows.callWith_builtin1 ?_ hst (by rfl)
  rw [hst]
  show wpAny _ _ (spliced ((false, eval (.GeneratorExp elt [⟨tg, iter, [], 0⟩] scope gpos) X.env) :: backTo pos (starEach [] X.env))) _ _ s
  refine Calls.spliced_cons (gen_eval hr hc hN TB hcode hi ok hcell hco hdot hg he hs I h fun a gn s4 s5 H4 fp m gs I4 f4 hgen hlim hgs hgo => ?_)
  refine Calls.spliced_nil ?_
  refine call_function_tree F.kind_any F.plain_any F.entry_any (F.args_any1 _) ?_
  unfold Builtin.«any»
  refine wpAny_bind (m := oneArg "any" _) (wpAny_pure ?_)
  refine wpAny_bind (wpAny_pyIter_gen hgen ?_)
  exact wpAny_pure ⟨plainId_quiet F.plain_any_loop _, any_gx hr.hd hr.depth (fun b s' os bare fin => gx_end I4 f4 os bare fin) m s5 hgen hlim ⟨gs, hgs, hgo⟩⟩
end
end Ct
namespace Ct
open PySem PySem.Spec PyProof.Rows L2
/-! walking it -/
def GB (P : Addr) (st : Bool) (J : It) (g : TG) (te : TE) (vs : List Nat) (σ : L2.St) (H : Hp) (Q : VK) : Prop := tGen P st (fun _ H R => R J H) g te vs σ H Q
theorem w_gen {P : Addr} {st : Bool} {wi : TI} {g : TG} {te : TE} {vs : List Nat} {σ : L2.St} {H : Hp} {Q : VK} (h : wi σ H fun J H1 => GB P st J g te vs σ H1 Q) : tGen P st wi g te vs σ H Q := h
theorem gb_it {P : Addr} {st : Bool} {J : It} {n : Nat} {G : Hp → Prop} {Y : Nat → Hp → V → Hp → Prop} (w : Walk J n G Y) {g : TG} {te : TE} {vs : List Nat} {σ : L2.St} {H : Hp} {Q : VK} (Pv : Nat → Hp → Prop) (hT : H P = some (TabX P)) (h0 : Pv 0 H) (hG : ∀ i H1, i ≤ n → Pv i H1 → G H1)
    (hs : ∀ i x H1 H2, i < n → Pv i H1 → Y i H1 x H2 → g x (wipe σ vs) H2 fun σ3 H3 => wipe σ3 vs = wipe σ vs ∧ te σ3 H3 fun y H4 => ∃ b, y = .bl b ∧ if b = st then Q (.bl st) H4 else Pv (i + 1) H4) (hd : ∀ H1, Pv n H1 → Q (.bl (!st)) H1) : GB P st J g te vs σ H Q := by
  refine ⟨hT, fun i m H1 => m = n - i ∧ i ≤ n ∧ Pv i H1, ⟨n, by simp, Nat.zero_le _, h0⟩, ?_⟩
  rintro i m H1 ⟨rfl, hi, p⟩
  have q := hG i H1 hi p
  by_cases hlt : i < n
  · exact .inr ⟨w.goes i H1 hlt q, Pv (i + 1), fun H' p' => ⟨n - (i + 1), by omega, rfl, hlt, p'⟩, fun x H' y => hs i x H1 H' hlt p (w.yields i H1 x H' hlt q y)⟩
  · have e : i = n := by omega
    subst e
    exact .inl ⟨w.stops H1 q, hd H1 p⟩
theorem gb_list {K : PySem.W.Frag} {P : Addr} {st : Bool} {a : Addr} (xs : List V) {g : TG} {te : TE} {vs : List Nat} {σ : L2.St} {H : Hp} {Q : VK} (Pv : Nat → Hp → Prop) (hT : H P = some (TabX P)) (h0 : Pv 0 H) (hl : ∀ i H1, i ≤ xs.length → Pv i H1 → SqL K H1 a xs)
    (hs : ∀ i x H1, xs[i]? = some x → Pv i H1 → g x (wipe σ vs) H1 fun σ3 H3 => wipe σ3 vs = wipe σ vs ∧ te σ3 H3 fun y H4 => ∃ b, y = .bl b ∧ if b = st then Q (.bl st) H4 else Pv (i + 1) H4) (hd : ∀ H1, Pv xs.length H1 → Q (.bl (!st)) H1) : GB P st (Itl K a) g te vs σ H Q :=
  gb_it (walk_list (xs := xs)) Pv hT h0 hl (fun i x H1 H2 _ p y => by
    obtain ⟨e, y⟩ := y
    subst e
    exact hs i x _ y p) hd
theorem gb_tup {K : PySem.W.Frag} {P : Addr} {st : Bool} {a : Addr} (xs : List V) {g : TG} {te : TE} {vs : List Nat} {σ : L2.St} {H : Hp} {Q : VK} (Pv : Nat → Hp → Prop) (hT : H P = some (TabX P)) (h0 : Pv 0 H) (hl : ∀ i H1, i ≤ xs.length → Pv i H1 → SqT K H1 a xs)
    (hs : ∀ i x H1, xs[i]? = some x → Pv i H1 → g x (wipe σ vs) H1 fun σ3 H3 => wipe σ3 vs = wipe σ vs ∧ te σ3 H3 fun y H4 => ∃ b, y = .bl b ∧ if b = st then Q (.bl st) H4 else Pv (i + 1) H4) (hd : ∀ H1, Pv xs.length H1 → Q (.bl (!st)) H1) : GB P st (Itt K a) g te vs σ H Q :=
  gb_it (walk_tup (xs := xs)) Pv hT h0 hl (fun i x H1 H2 _ p y => by
    obtain ⟨e, y⟩ := y
    subst e
    exact hs i x _ y p) hd
/-- the tables of the defs that hold generator expressions -/
def Tb (T : List Addr) (H : Hp) : Prop := ∀ P ∈ T, H P = some (TabX P)
theorem Tb.same {T : List Addr} {H H' : Hp} (h : Tb T H) (s : Same H H') : Tb T H' := fun P hP => s _ _ (h P hP)
/-- a def whose own code object is known -/
theorem okC {P : Program} {w : World} {K : PySem.W.Frag} {mg : Str → Option Value} {base : Heap} {x qual : Str} {st : Stmt} {f : Addr} {fd : FuncData} {N ps : List Str} {k : Nat} {sp : Sp} (F : Fun K x qual st f fd) (S : FnScope N ps (defScope st)) (len : ∀ vs H Q E, sp vs H Q E → vs.length = ps.length)
    (hbody : ∀ (A : Around) (outer : List Env) (s : Shared) (H : Hp) (vs : List V) (Q : VK) (E : XK), Room k (A.deeper (envOfC qual (defScope st) s.heap.objs.size f fd.code)) → sp vs H Q E →
      ∃ t, PSs (cxOf CX0 P w K mg base N qual (defScope st) f fd.code A outer s H E).nox (defBody st) t ∧ t { nx := fun _ H' => Q .non H', rt := Q } (start N vs) H) : FnOk P w K mg base CX0 (k + 1) f fd ps sp := by
  obtain ⟨oc, od, kV, doc, pm, an, cdv, ct, osl, rfl, lk, hcd⟩ := F.ex
  refine fn_of lk hcd S len fun A outer s H vs Q E hr hsp => ?_
  obtain ⟨t, h, q⟩ := hbody A outer s H vs Q E hr hsp
  exact ⟨t, h.nox, q⟩
end Ct

/-! the end of a law whose defs hold generator expressions -/
namespace Ct
open PySem PySem.Spec PyProof.Rows L2
def codeOf : Value → Addr
  | .ref c => c
  | _ => 0
/-- where the table of a code object stands -/
def tabOf (K : PySem.W.Frag) (cd : Value) : Addr := match K.lookup (codeOf cd) with
  | some ⟨_, _, .fields vs, _⟩ => (match (vs : Array Value)[11]? with | some (Value.ref P) => P | _ => 0)
  | _ => 0
def tabOkB (K : PySem.W.Frag) (cd : Value) : Bool := match cd with
  | .ref c => (match K.lookup c with
    | some ⟨_, _, .fields vs, _⟩ => (match (vs : Array Value)[11]? with | some (Value.ref P) => (K.lookup P).isNone | _ => false)
    | _ => false)
  | _ => false
theorem tab_inv {K : PySem.W.Frag} {cd : Value} (h : tabOkB K cd = true) : ∃ e dd vs sl, cd = .ref (codeOf cd) ∧ K.lookup (codeOf cd) = some ⟨e, dd, .fields vs, sl⟩ ∧ vs[11]? = some (.ref (tabOf K cd)) ∧ K.lookup (tabOf K cd) = none := by
  unfold tabOkB at h
  cases cd with
  | ref c =>
    cases q : K.lookup c with
    | none =>
      simp only [q] at h
      cases h
    | some o =>
      obtain ⟨e, dd, dt, sl⟩ := o
      cases dt with
      | fields vs =>
        simp only [q] at h
        cases r : vs[11]? with
        | none =>
          simp only [r] at h
          cases h
        | some u =>
          cases u with
          | ref P =>
            simp only [r] at h
            have t : tabOf K (.ref c) = P := by
              unfold tabOf codeOf
              simp only [q, r]
            refine ⟨e, dd, vs, sl, rfl, q, ?_, ?_⟩
            · rw [t]
              exact r
            · rw [t]
              exact Option.isNone_iff_eq_none.mp h
          | _ =>
            simp only [r] at h
            cases h
      | _ =>
        simp only [q] at h
        cases h
  | _ => cases h
/-- a def that is called on the script -/
def RunOk (P : Program) (w : World) (K : PySem.W.Frag) (mg : Str → Option Value) (base : Heap) (fa : Addr) (fd : FuncData) (x : Str) (sp : Sp) : Prop :=
  ∀ (z : Shared) (H : Hp) (ws : List Value) (vs : List V) (Q : VK) (E : XK), Env0 P w K mg base callerA [] z H → BindsTo z fd ⟨ws, []⟩ ([x].zip ws) → Vals vs ws → sp vs H Q E → codeAny (model P w) callerA (.call (.ref fa) ⟨ws, []⟩) (CR CX0 [] P w H z Q E) z
theorem law_callX {P : Program} {w : World} {K : PySem.W.Frag} {mg mb : Str → Option Value} {fa a : Addr} {cs : List (Addr × Addr)} {fd : FuncData} {x : Str} {sp : Sp} {s₁ : Shared} {vs : List Value} {ns : List Int}
    (KX : K.In s₁.heap) (hns : s₁.heap.Ns mainGlobals mg) (hb : s₁.heap.Ns builtinsNs mb) (hbb : ∀ x : Str, x ≠ "__name__" → mb x = bootBuiltins x) (hlim : s₁.heap.NoLimit) (hg : s₁.gens = #[])
    (hT : ∀ p ∈ cs, s₁.heap.get? p.2 = some { cls := .none, data := .fields #[] }) (nT : ∀ p ∈ cs, K.lookup p.2 = none) (C : ∀ p ∈ cs, PySem.W.CodeHd s₁.heap p.1 p.2)
    (hbm : ∃ (bm : Addr) (ob : Obj), mg "__builtins__" = some (.ref bm) ∧ bm ≠ builtinsNs ∧ s₁.heap.get? bm = some ob ∧ ob.cls = .type "module" ∧ ob.dict = some builtinsNs ∧ ob.data = .plain)
    (ha : s₁.heap.get? a = some { cls := .type "list", data := .seq vs.toArray }) (hi : IntsAre vs ns) (hl : ns.length ≤ sizeLine)
    (F : ∀ base : Heap, K.In base → base.Ns mainGlobals mg → (∀ p ∈ cs, GxR.TabB base mg p.1 p.2) → RunOk P w K mg base fa fd x sp) (hbind : ∀ (s : Shared) (u : Value), BindsTo s fd ⟨[u], []⟩ [(x, u)])
    (hsp : ∀ H : Hp, (∀ p ∈ cs, H p.2 = some (TabX p.2)) → SqL K H a (ns.map V.int) → sp [.ref a] H (fun v H' => v = .bl true ∧ Same H H') fun _ _ _ => False) :
    codeAny (model P w) callerA (.call (.ref fa) ⟨[.ref a], []⟩) (fun r s' => r = .ok (.ret (.bool true)) ∧ OldK s₁.heap s'.heap ∧ s'.os = s₁.os ∧ AllBare s'.gens) s₁ := by
  have rv := vals_ints hi
  have lenV := hi.length
  have isT : ∀ b : Addr, b ∈ cs.map (·.2) → s₁.heap.get? b = some { cls := .none, data := .fields #[] } := fun b hb => by
    obtain ⟨p, hp, e⟩ := List.mem_map.mp hb
    rw [← e]
    exact hT p hp
  have aT : a ∉ cs.map (·.2) := fun z => by
    have q := isT a z
    rw [ha] at q
    have z' : Data.seq vs.toArray _ = Data.fields #[] := congrArg Obj.data (Option.some.inj q)
    cases z'
  have memT : ∀ p ∈ cs, p.2 ∈ cs.map (·.2) := fun p hp => List.mem_map.mpr ⟨p, hp, rfl⟩
  have core : ∀ H : Hp, (∀ b, b ∈ cs.map (·.2) → H b = some (TabX b)) → (∀ b, H b = none ∨ b ∈ cs.map (·.2) ∨ ∃ o xs, H b = some (.frz o (.lst xs))) → SqL K H a (ns.map V.int) → HOk P w H s₁.heap → (∀ b, H b ≠ none → b = a ∨ b ∈ cs.map (·.2)) → (H a ≠ none → K.lookup a = none) →
      codeAny (model P w) callerA (.call (.ref fa) ⟨[.ref a], []⟩) (fun r s' => r = .ok (.ret (.bool true)) ∧ OldK s₁.heap s'.heap ∧ s'.os = s₁.os ∧ AllBare s'.gens) s₁ := by
    intro H hH hO hS hok hA hK
    have base_of : ∀ {b : Addr} {o : Obj}, s₁.heap.get? b = some o → H b = none → (hidT s₁.heap H).get? b = some o := fun e n => hidT_get e n
    have noD : ∀ {b : Addr} {o : Obj}, s₁.heap.get? b = some o → (∀ vs n, o.data ≠ .seq vs n) → o.data ≠ .fields #[] → H b = none := fun {b o} e h1 h2 => by
      cases q : H b with
      | none => rfl
      | some u =>
        rcases hA b (by rw [q]; simp) with e' | e'
        · rw [e', ha] at e
          cases e
          exact (h1 _ _ rfl).elim
        · rw [isT b e'] at e
          cases e
          exact (h2 rfl).elim
    have noA : ∀ {b : Addr} {o : Obj} {es : Array DictEntry} {ep : Nat}, s₁.heap.get? b = some o → o.data = .dict es ep → H b = none := fun {b o es ep} e d => by
      refine noD e (fun vs n z => ?_) fun z => ?_
      · rw [d] at z
        cases z
      · rw [d] at z
        cases z
    have nsK : ∀ {b : Addr} {m : Str → Option Value}, s₁.heap.Ns b m → (hidT s₁.heap H).Ns b m := fun {b m} ⟨o, es, ep, e, d, r⟩ => ⟨o, es, ep, base_of e (noA e d), d, r⟩
    have hKb : K.In (hidT s₁.heap H) := fun b o e => base_of (KX b o e) (by
      cases q : H b with
      | none => rfl
      | some u =>
        rcases hA b (by rw [q]; simp) with e' | e'
        · rw [e'] at e q
          rw [hK (by rw [q]; simp)] at e
          cases e
        · obtain ⟨p, hp, ep⟩ := List.mem_map.mp e'
          rw [← ep, nT p hp] at e
          cases e)
    have hM : L2.Mod K mg (hidT s₁.heap H) := ⟨hKb, nsK hns, ⟨mb, nsK hb, hbb⟩, let ⟨mc, h1, h2⟩ := hlim; ⟨mc, nsK h1, h2⟩⟩
    have TB : ∀ p ∈ cs, GxR.TabB (hidT s₁.heap H) mg p.1 p.2 := fun p hp => by
      have hTp := hT p hp
      refine ⟨?_, ?_, fun z => ?_⟩
      · obtain ⟨o, us, file, tf, flags, tg, inF, text, tt, e1, r1, r2, r3, r4, r5, r6, r7, r8, hne⟩ := C p hp
        refine ⟨o, us, file, tf, flags, tg, inF, text, tt, base_of e1 (noD e1 (fun vs n z => ?_) fun z => ?_), r1, r2, r3, r4, r5, r6, r7, r8, hne⟩
        · rw [r2] at z
          cases z
        · rw [r2] at z
          cases z
          simp at r3
      · obtain ⟨bm, ob, b1, b2, b3, b4, b5, b6⟩ := hbm
        have nG : bm ≠ mainGlobals := fun q => by
          obtain ⟨o, es, ep, e, hd, _⟩ := hns
          rw [q, e] at b3
          cases b3
          rw [hd] at b6
          cases b6
        have nP : bm ≠ p.2 := fun q => by
          rw [q, hTp] at b3
          cases b3
          cases b6
        refine ⟨bm, ob, b1, b2, nG, nP, base_of b3 (noD b3 (fun vs n z => ?_) fun z => ?_), b4, b5, b6⟩
        · rw [b6] at z
          cases z
        · rw [b6] at z
          cases z
      · obtain ⟨o, es, ep, e, hd, _⟩ := hns
        rw [z, hTp] at e
        cases e
        cases hd
    have e0 : Env0 P w K mg (hidT s₁.heap H) callerA [] s₁ H := ⟨rfl, hM, fun b o e => of_hidT e, Nat.le_of_eq (hidT_size _ _), trivial, fun b hb => absurd (show b ∈ ([] : List Addr) from hb) (by simp), hok, .of_eq hg⟩
    refine codeAny_mono (F _ hKb (nsK hns) TB s₁ H [.ref a] [.ref a] _ _ e0 (hbind s₁ (.ref a)) (.cons rfl .nil) (hsp H (fun p hp => hH _ (memT p hp)) hS)) fun r s' h => ?_
    cases r with
    | error e => exact (show False from h).elim
    | ok fl =>
      cases fl with
      | next => exact False.elim h
      | brk => exact False.elim h
      | cont => exact False.elim h
      | ret u =>
        obtain ⟨v, H', os, bare, un, hok', r', q, sm⟩ := h
        subst q
        obtain rfl : u = Value.bool true := r'
        have key : ∀ b o, b ∉ cs.map (·.2) → s₁.heap.get? b = some o → s'.heap.get? b = some o := fun b o nb e => by
          cases q : H b with
          | none => exact un.keep b o e q (by intro z; exact absurd (show b ∈ ([] : List Addr) from z) (by simp)) (by simp)
          | some u =>
            rcases hO b with z | z | ⟨ob, xs, z⟩
            · rw [q] at z; cases z
            · exact absurd z nb
            · have z2 := un.frzs b ob _ z
              obtain ⟨e1, _⟩ := hok b _ z
              obtain ⟨e2, _⟩ := hok' b _ z2
              rw [e] at e1; cases e1
              exact e2
        have grown : ∀ p ∈ cs, ∃ more : Array Value, s'.heap.get? p.2 = some { cls := .none, data := .fields more } := fun p hp => by
          obtain ⟨⟨more, z, _⟩, _⟩ := hok' p.2 _ (sm _ _ (hH _ (memT p hp)))
          exact ⟨_, z⟩
        refine ⟨rfl, ⟨fun b o e => ?_, fun b o e => ?_⟩, os, bare⟩
        · by_cases hb : b ∈ cs.map (·.2)
          · obtain ⟨p, hp, ep⟩ := List.mem_map.mp hb
            obtain ⟨more, hm⟩ := grown p hp
            rw [← ep] at e ⊢
            rw [hT p hp] at e
            cases e
            exact .inr (.inl ⟨((C p hp).tab (hT p hp)).isCodeTable, rfl, #[], more, rfl, by rw [Array.empty_append]; exact hm⟩)
          · exact .inl (key b o hb e)
        · by_cases hb : b ∈ cs.map (·.2)
          · obtain ⟨p, hp, ep⟩ := List.mem_map.mp hb
            obtain ⟨more, hm⟩ := grown p hp
            rw [← ep]
            exact ⟨_, hm⟩
          · exact ⟨o, key b o hb e⟩
  cases hk : K.lookup a with
  | some o =>
    have e := KX a o hk
    rw [ha] at e
    cases e
    refine core (fun b => if b ∈ cs.map (·.2) then some (TabX b) else none) (fun b hb => if_pos hb) (fun b => ?_) (.inr ⟨_, vs.toArray, _, hk, rfl, rfl, rfl, by rw [List.size_toArray, lenV]; exact hl, by simpa using rv⟩) (fun b u z => ?_) (fun b z => ?_) fun z => absurd (show (if a ∈ cs.map (·.2) then some (TabX a) else none) = none from if_neg aT) z
    · by_cases hb : b ∈ cs.map (·.2)
      · exact .inr (.inl hb)
      · exact .inl (if_neg hb)
    · by_cases hb : b ∈ cs.map (·.2)
      · have z' := (if_pos hb).symm.trans z
        cases z'
        exact tabx_ok (isT b hb) True.intro
      · have z' := (if_neg hb).symm.trans z
        cases z'
    · by_cases hb : b ∈ cs.map (·.2)
      · exact .inr hb
      · exact absurd (if_neg hb) z
  | none =>
    refine core (fun b => if b = a then some (.frz { cls := .type "list", data := .seq vs.toArray } (.lst (ns.map V.int))) else if b ∈ cs.map (·.2) then some (TabX b) else none) (fun b hb => (if_neg (show ¬ b = a from fun z => aT (by rw [← z]; exact hb))).trans (if_pos hb)) (fun b => ?_)
      (.inl (.inr ⟨{ cls := .type "list", data := .seq vs.toArray }, if_pos rfl⟩)) (fun b u z => ?_) (fun b z => ?_) fun _ => hk
    · by_cases hb : b = a
      · exact .inr (.inr ⟨_, _, if_pos hb⟩)
      · by_cases hb2 : b ∈ cs.map (·.2)
        · exact .inr (.inl hb2)
        · exact .inl ((if_neg hb).trans (if_neg hb2))
    · by_cases hb : b = a
      · have z' := (if_pos hb).symm.trans z
        cases z'
        rw [hb]
        exact ⟨ha, by rw [List.length_map]; exact hl, vs, _, rv, ha⟩
      · have z1 := (if_neg hb).symm.trans z
        by_cases hb2 : b ∈ cs.map (·.2)
        · have z' := (if_pos hb2).symm.trans z1
          cases z'
          exact tabx_ok (isT b hb2) True.intro
        · have z' := (if_neg hb2).symm.trans z1
          cases z'
    · by_cases hb : b = a
      · exact .inl hb
      · by_cases hb2 : b ∈ cs.map (·.2)
        · exact .inr hb2
        · exact absurd ((if_neg hb).trans (if_neg hb2)) z
/-- what is known of the law's promise: cs, the defs that hold generator expressions and their code objects -/
def LawAtX (l : PySem.W.OpenLaw) (w : World) (K : PySem.W.Frag) (n : Nat) (x : Str) (mg : Str → Option Value) (fa : Addr) (defs : List Str) : Prop :=
  ∃ (fd : FuncData) (cs : List (Str × Value)) (sp : Sp), (∀ p ∈ cs, p.1 ∈ defs ∧ ∃ (f : Addr) (oc : Value) (od : Option Addr) (fdx : FuncData) (osl : Array (Option Value)), mg p.1 = some (.ref f) ∧ K.lookup f = some ⟨oc, od, .func fdx, osl⟩ ∧ fdx.code = p.2 ∧ tabOkB K p.2 = true) ∧ (∀ (s : Shared) (u : Value), BindsTo s fd ⟨[u], []⟩ [(x, u)]) ∧
    (∀ (H : Hp) (a : Addr) (ns : List Int), ns.length ≤ n → (∀ p ∈ cs, H (tabOf K p.2) = some (TabX (tabOf K p.2))) → SqL K H a (ns.map V.int) → sp [.ref a] H (fun v H' => v = .bl true ∧ Same H H') fun _ _ _ => False) ∧
    ∀ base : Heap, K.In base → base.Ns mainGlobals mg → (∀ p ∈ cs, GxR.TabB base mg (codeOf p.2) (tabOf K p.2)) → RunOk l.prog w K mg base fa fd x sp
theorem walk_ofX {l : PySem.W.OpenLaw} {n : Nat} {q : Program} {loose : List Str} {XP : (Str → Option Value) → Heap → Prop} {YP : World → Heap → Prop} {d : DefRec} {K : Params → PySem.W.Frag} {x : Str} {defs : List Str}
    (hn : l.most = some n) (hn2 : n ≤ sizeLine) (hdf : d.params.defaults = []) (hrec : (defs.all fun y => (recsOf q).any fun e => e.name == y) = true) (hY : ∀ (w : World) (h : Heap), YP w h → (K w.params).In h)
    (F : ∀ (w : World) (mg : Str → Option Value) (fa : Addr) (h : Heap), (K w.params).In h → h.Ns mainGlobals mg → mg d.name = some (.ref fa) → LawAtX l w (K w.params) n x mg fa defs) :
    PySem.W.WalkO q loose XP YP l.row.toRowW d [] (fun f vs => PySem.call f vs) := by
  refine Att.attach_callB hn hdf fun w s₀ s₁ mg mb fa o pm cd doc a vs ns G Y ho hd hcd hmg hobj hints hlen hbits hg => ?_
  have KX := hY w _ Y
  obtain ⟨fd, cs, sp, hcs, hb, hsp, hF⟩ := F w mg fa _ KX G.T.g hmg
  have facts : ∀ p ∈ cs, s₁.heap.get? (tabOf (K w.params) p.2) = some { cls := .none, data := .fields #[] } ∧ (K w.params).lookup (tabOf (K w.params) p.2) = none ∧ PySem.W.CodeHd s₁.heap (codeOf p.2) (tabOf (K w.params) p.2) := fun p hp => by
    obtain ⟨hm, f, oc, od, fdx, osl, g1, g2, g3, g4⟩ := hcs p hp
    obtain ⟨e, dd, us, sl, t1, t2, t3, t4⟩ := tab_inv g4
    obtain ⟨dL, hdm, hn1⟩ := List.any_eq_true.mp (List.all_eq_true.mp hrec _ hm)
    have hn2 : dL.name = p.1 := beq_iff_eq.mp hn1
    obtain ⟨a', o', fd', c', P', h1, h2, h3, h4, h5, h6⟩ := G.T.tab dL hdm
    rw [hn2, g1] at h1
    cases h1
    rw [KX _ _ g2] at h2
    cases h2
    cases h3
    rw [g3, t1] at h4
    cases h4
    obtain ⟨⟨ob, vc, e1, e2, e3, e4⟩, hP⟩ := id h6
    rw [KX _ _ t2] at e1
    cases e1
    cases e3
    rw [t3] at e4
    cases e4
    exact ⟨hP, t4, .of h5 h6⟩
  refine law_callX (cs := cs.map fun p => (codeOf p.2, tabOf (K w.params) p.2)) KX G.T.g G.T.b G.T.builtins G.T.nolimit hg ?_ ?_ ?_ G.T.bmain hobj hints (Nat.le_trans hlen hn2) (fun base h1 h2 h3 => hF base h1 h2 fun p hp => h3 _ (List.mem_map.mpr ⟨p, hp, rfl⟩)) hb fun H hH hS => hsp H a ns hlen (fun p hp => hH _ (List.mem_map.mpr ⟨p, hp, rfl⟩)) hS
  · intro p hp
    obtain ⟨q, hq, rfl⟩ := List.mem_map.mp hp
    exact (facts q hq).1
  · intro p hp
    obtain ⟨q, hq, rfl⟩ := List.mem_map.mp hp
    exact (facts q hq).2.1
  · intro p hp
    obtain ⟨q, hq, rfl⟩ := List.mem_map.mp hp
    exact (facts q hq).2.2
theorem RunOk.of {P : Program} {w : World} {K : PySem.W.Frag} {mg : Str → Option Value} {base : Heap} {k : Nat} {fa : Addr} {fd : FuncData} {x : Str} {sp : Sp} (hr : Room k callerA) (F : FnOk P w K mg base CX0 k fa fd [x] sp) : RunOk P w K mg base fa fd x sp :=
  fun z H ws vs Q E e b r h => F.run callerA [] z H ⟨ws, []⟩ ws vs Q E hr e b r h
end Ct

/-! set comprehensions, sorted(set) of any number of whole numbers -/
namespace Ct
open PySem PySem.Spec PyProof.Rows L2
/-- the sets that a comprehension may make: what is tracked of one, how it begins, what one member more makes of it -/
structure SetKd (X : Cx) (α : Type) where
  O : Addr → α → HO
  nil : α
  more : Hp → α → V → α → Prop
  laid : ∀ (H : Hp) (h : Heap), ObjOk X.prog X.w H (h.push { cls := .type "set", dict := none, data := .set #[] 0 (.fresh 0 0 (!X.w.params.followText "set-order")) }) h.objs.size (O h.objs.size nil)
  add : ∀ (Y : Cx), Y.prog = X.prog → Y.w = X.w → Y.A = X.A → Y.calm = X.calm → Y.K = X.K → ∀ {pins : List (Addr × Obj)} {σ : L2.St} {H : Hp} {s : Shared} {E : Value → Shared → Prop} {D : Addr} {x x' : α} {y : V} {u : Value} {Q : Value → Shared → Prop}, Inv Y pins σ H s → H D = some (O D x) → RelV y u → more H x y x' →
    (∀ z, Inv Y pins σ (upd H D (O D x')) z → Q .none z) → wpAny (model Y.prog Y.w) Y.A (call (.builtin "set.add") [.ref D, u]) Q E s
section
variable {X : Cx} {α : Type}
/-- {elt for target in iter if ..}; D the new set -/
def tScG (O : Addr → α → HO) (nil : α) (more : Hp → α → V → α → Prop) (wi : TI) (g : TG) (tt : TT) (te : TE) (vs : List Nat) : TE := fun σ H Q => wi σ H fun J H1 => ∀ D, H1 D = none → ∃ W : Nat → Nat → Hp → Prop, (∃ m, W 0 m (upd H1 D (O D nil))) ∧ ∀ i m Hi, W i m Hi →
  (J.stop i Hi ∧ Q (.ref D) Hi) ∨ (J.go i Hi ∧ ∃ Nx : Hp → Prop, (∀ H', Nx H' → ∃ m', m' < m ∧ W (i + 1) m' H') ∧ ∀ x H', J.yld i Hi x H' → g x (wipe σ vs) H' fun σ2 H2 => wipe σ2 vs = wipe σ vs ∧ tt σ2 H2 fun yes H3 =>
    if yes = true then te σ2 H3 fun y H4 => ∃ x x' : α, H4 D = some (O D x) ∧ more H4 x y x' ∧ Nx (upd H4 D (O D x')) else Nx H3)
theorem scG_core (kd : SetKd X α) {pins : List (Addr × Obj)} {s : Shared} {σ : L2.St} {H : Hp} {Q : VK} {use : Option (Value → Sem Unit)} {Qf : Value → Shared → Prop} {ex tg iter : Expr} {ifs : List Expr} {scope : Scope} {own : List (Str × Nat)} {pos pos' : Pos} {wi : TI} {g : TG} {tt : TT} {te : TE} (calm : X.calm = true) (nd : X.N.Nodup) (src : PI X tg iter wi) (blk : BlkOk X.N X.env.scope scope own)
    (pG : ∀ (z : Shared) (G : Hp) (C : Addr) (cl : List (Str × Addr)) (fp : List Addr), PG (X.blk z G scope (compEnvC scope cl C X.env) fp) tg g) (pT : ∀ (z : Shared) (G : Hp) (C : Addr) (cl : List (Str × Addr)) (fp : List Addr), PTs (X.blk z G scope (compEnvC scope cl C X.env) fp) ifs tt)
    (pE : ∀ (z : Shared) (G : Hp) (C : Addr) (cl : List (Str × Addr)) (fp : List Addr), PE (X.blk z G scope (compEnvC scope cl C X.env) fp) ex te) (plain : ∀ x, foldedSetIterable iter X.env x = pure x)
    (inv : Inv X pins σ H s) (wish : tScG kd.O kd.nil kd.more wi g tt te (own.map (·.2)) σ H Q)
    (post : ∀ D C z m G, Inv X pins σ G z → Q (.ref D) G → z.heap.Ns C m → FpOk X pins G C → compPost (model X.prog X.w) X.A X.xe use Qf (.ref D) C (.ok .next) z) :
    wpAny (model X.prog X.w) X.A (comprehension (.SetComp ex [⟨tg, iter, ifs, 0⟩] scope pos) scope X.env pos' (newSet (.type "set")) false (eval iter X.env) use) Qf X.xe s := by
  have cells : ∀ y ∈ scope.names, y.2 = .free → ∃ c, X.env.cells.lookup y.1 = some c := fun y hy e => (blk.free y hy e).elim (fun k => inv.ok.has _ (.inl k)) fun k => inv.ok.has _ (.inr k)
  refine wpAny_comprehension_free (use := use) rfl plain (closure_ok cells) blk.kind (fun y hy e => by rw [blk.uniq y hy, e]) ?_
  refine thn (src.run pins s σ H _ inv wish) fun _ sA hA => thn hA fun _ sB hB => ?_
  obtain ⟨it, fp, at_, walk, HB, rfl, invB, T, stB, fpB, told⟩ := hB
  refine PpSet.newSet_ok (newEnv_comp ?_)
  have free : HB sB.heap.objs.size = none := invB.hok.fresh (Nat.le_refl _)
  obtain ⟨W, ⟨m0, w0⟩, turn⟩ := told sB.heap.objs.size free
  have below : ∀ b ∈ fp, b < sB.heap.objs.size := fun b hb => let ⟨_, e, _⟩ := T.obj _ _ stB b hb; Heap.lt_size e
  generalize hD : sB.heap.objs.size = D at *
  generalize hC : ({ sB with heap := sB.heap.push { cls := .type "set", dict := none, data := .set #[] 0 (.fresh 0 0 (!X.w.params.followText "set-order")) } } : Shared) = sC
  have heapC : sC.heap = sB.heap.push { cls := .type "set", dict := none, data := .set #[] 0 (.fresh 0 0 (!X.w.params.followText "set-order")) } := by rw [← hC]
  have invC : Inv X pins σ (upd HB D (kd.O D kd.nil)) sC := by
    subst hC
    refine invB.laid (t' := sB.toks) (fun b o e => Heap.get?_push_of_some _ e) (Nat.le_of_eq hD) ?_
    subst hD
    exact kd.laid _ _
  have oldC : ∀ b o, sB.heap.get? b = some o → sC.heap.get? b = some o := fun b o e => by rw [heapC]; exact Heap.get?_push_of_some _ e
  have fpC : ∀ b ∈ fp, FpOk X pins (upd HB D (kd.O D kd.nil)) b ∧ b < sC.heap.objs.size := fun b hb => by
    have lt := below b hb
    have l2 : b < sC.heap.objs.size := by
      rw [heapC, Heap.size_push, hD]
      exact Nat.lt_succ_of_lt lt
    exact ⟨⟨by rw [upd_ne (Nat.ne_of_lt lt)]; exact (fpB b hb).1, (fpB b hb).2⟩, l2⟩
  have invD := block_start invC blk nd fpC
  generalize hcl : cellsFrom (sC.heap.objs.size + 1) scope.names (cloFrom X.env.cells scope.names []) = cl at *
  show codeAny _ _ (.compStart (.SetComp ex [⟨tg, iter, ifs, 0⟩] scope pos) 0 (.ref it) (.ref D) (compEnvC scope cl sC.heap.objs.size X.env)) (compPost (model X.prog X.w) X.A X.xe use Qf (.ref D) sC.heap.objs.size) { sC with heap := pushCells (sC.heap.push { cls := .type "dict", data := .dict #[] }) scope.names }
  have loc : (compEnvC scope cl sC.heap.objs.size X.env).locals = sC.heap.objs.size := rfl
  have qG := pG sC (upd HB D (kd.O D kd.nil)) sC.heap.objs.size cl fp
  have qT := pT sC (upd HB D (kd.O D kd.nil)) sC.heap.objs.size cl fp
  have qE := pE sC (upd HB D (kd.O D kd.nil)) sC.heap.objs.size cl fp
  have noneC : ∀ b ∈ fp, (upd HB D (kd.O D kd.nil)) b = none := fun b hb => (fpC b hb).1.1
  generalize hE : compEnvC scope cl sC.heap.objs.size X.env = ce at invD qG qT qE loc ⊢
  generalize hG : upd HB D (kd.O D kd.nil) = HC at invC invD qG qT qE w0 noneC fpC
  generalize hZ : ({ sC with heap := pushCells (sC.heap.push { cls := .type "dict", data := .dict #[] }) scope.names } : Shared) = sD at invD ⊢
  have stD : at_ 0 sD.heap := T.keep _ _ _ stB fun b _ o e => by rw [← hZ]; exact pushCells_keeps _ _ _ _ (Heap.get?_push_of_some _ (oldC b o e))
  have calmly : ∀ {τ : L2.St} {G : Hp} {z : Shared}, Inv (X.blk sC HC scope ce fp) [] τ G z → (∀ b ∈ fp, G b = none) → ∀ b ∈ fp, FpOk (X.blk sC HC scope ce fp) [] G b := fun {τ G z} i n b hb =>
    ⟨n b hb, (i.ok.exf b hb).1, i.ok.exfs b hb, .inl hb, fun x c e => (i.ok.exf b hb).2 x c e, fun p hp => absurd (show p ∈ ([] : List (Addr × Obj)) ++ [] from hp) (by simp)⟩
  refine (fun loop => PpSet.codeAny_compStart_set loop (T.self X.A 0 _ _ _ stD loop)) ?_
  refine PpSet.compLoopS_any (fun n z => ∃ i G, Inv (X.blk sC HC scope ce fp) [] (wipe σ (own.map (·.2))) G z ∧ at_ i z.heap ∧ (∀ b ∈ fp, G b = none) ∧ W i n G) ?_ m0 ⟨0, HC, invD, stD, noneC, w0⟩
  rintro n z5 ⟨i, G5, inv5, st5, n5, w5⟩
  rcases turn i n G5 w5 with ⟨stop, fin⟩ | ⟨go, Nx, less, step⟩
  · refine thnF (T.done (X.blk sC HC scope ce fp) rfl rfl rfl calm i [] z5 _ G5 (fun _ _ => False) inv5 (calmly inv5 n5) st5 stop) ?_
    rintro r z6 ⟨rfl, inv6⟩
    have back : Inv X pins σ G5 z6 := invC.call' (ch := fp) inv6.os inv6.base inv6.hok inv6.bare fun b hb => ⟨(fpC b hb).1.2.2.2.1, (fpC b hb).1.2.1, (fpC b hb).1.2.2.2.2.1, (fpC b hb).1.2.2.2.2.2⟩
    have nL : G5 sC.heap.objs.size = none := by
      rw [← loc]
      exact inv6.free
    obtain ⟨m, names, _⟩ := inv6.loc
    have names' : z6.heap.Ns sC.heap.objs.size m := by
      rw [← loc]
      exact names
    exact post D sC.heap.objs.size z6 m G5 back fin names' (invC.fpOk (Nat.le_refl _) nL)
  · refine thnF (T.item (X.blk sC HC scope ce fp) rfl rfl rfl calm i [] z5 _ G5 (fun _ _ => False) inv5 (calmly inv5 n5) st5 go) ?_
    rintro r z6 ⟨u, rfl, h6⟩
    refine thnF h6 ?_
    rintro _ z7 ⟨x, G7, inv7, r7, y7, st7, n7⟩
    refine thnF (qG.run _ z7 _ G7 x u _ (inv7.pinned (calmly inv7 n7) (T.obj _ _ st7)) r7 (step x G7 y7)) ?_
    rintro _ z8 ⟨σ8, G8, inv8, same8, q8⟩
    refine thnF (qT.run _ z8 σ8 G8 _ inv8 q8) ?_
    rintro yes z9 ⟨G9, inv9, q9⟩
    have next : ∀ {z : Shared} {G : Hp}, Inv (X.blk sC HC scope ce fp) ([] ++ pinsAt fp z7.heap) σ8 G z → Nx G → ∃ m, m < n ∧ ∃ i G, Inv (X.blk sC HC scope ce fp) [] (wipe σ (own.map (·.2))) G z ∧ at_ i z.heap ∧ (∀ b ∈ fp, G b = none) ∧ W i m G := fun {z G} i' nx => by
      obtain ⟨m', lt, w'⟩ := less G nx
      have pinned : ∀ b ∈ fp, ∀ o, z7.heap.get? b = some o → z.heap.get? b = some o ∧ G b = none := fun b hb o e =>
        let p := i'.pin (b, o) (List.mem_append_right _ (List.mem_append_right _ (mem_pinsAt hb e)))
        ⟨p.1, p.2.1⟩
      refine ⟨m', lt, i + 1, G, (i'.unpinned (pins := [])).weak (by rw [← same8, wipe_length]) (fun j v e => ?_), T.keep _ _ _ st7 fun b hb o e => (pinned b hb o e).1, fun b hb => ?_, w'⟩
      · rw [← same8] at e
        exact (wipe_some e).1
      · obtain ⟨o, e, _⟩ := T.obj _ _ st7 b hb
        exact (pinned b hb o e).2
    cases yes with
    | false =>
      simp only [Bool.false_eq_true, if_false] at q9 ⊢
      exact next inv9 q9
    | true =>
      simp only [if_true] at q9 ⊢
      refine thnF (qE.run _ z9 σ8 G9 _ inv9 q9) ?_
      rintro eu z10 ⟨ye, G10, inv10, r10, x0, x1, hD10, mo, nx⟩
      exact kd.add (X.blk sC HC scope ce fp) rfl rfl rfl rfl rfl inv10 hD10 r10 mo fun z12 inv12 => next inv12 nx
theorem pe_scG (kd : SetKd X α) {ex tg iter : Expr} {ifs : List Expr} {scope : Scope} {own : List (Str × Nat)} {pos : Pos} {wi : TI} {g : TG} {tt : TT} {te : TE} (calm : X.calm = true) (nd : X.N.Nodup) (src : PI X tg iter wi) (blk : BlkOk X.N X.env.scope scope own)
    (pG : ∀ (z : Shared) (G : Hp) (C : Addr) (cl : List (Str × Addr)) (fp : List Addr), PG (X.blk z G scope (compEnvC scope cl C X.env) fp) tg g) (pT : ∀ (z : Shared) (G : Hp) (C : Addr) (cl : List (Str × Addr)) (fp : List Addr), PTs (X.blk z G scope (compEnvC scope cl C X.env) fp) ifs tt)
    (pE : ∀ (z : Shared) (G : Hp) (C : Addr) (cl : List (Str × Addr)) (fp : List Addr), PE (X.blk z G scope (compEnvC scope cl C X.env) fp) ex te) (plain : ∀ x, foldedSetIterable iter X.env x = pure x := by intro _; rfl) :
    PE X (.SetComp ex [⟨tg, iter, ifs, 0⟩] scope pos) (tScG kd.O kd.nil kd.more wi g tt te (own.map (·.2))) := by
  constructor
  intro pins s σ H Q inv wish
  rw [PpSet.eval_SetComp]
  refine scG_core kd calm nd src blk pG pT pE plain inv wish ?_
  intro D C z m G back fin names ⟨f0, f1, f2, f3, f4, f5⟩
  exact ⟨m, names, fun h'' sb => ⟨.ref D, G, back.turned (t' := z.toks) (fun b o hb e => (sb.2 b hb).trans e) f0 f1 f3 f4 f5, rfl, fin⟩⟩
theorem pe_scW (kd : SetKd X α) {O : Addr → α → HO} {nil : α} {more : Hp → α → V → α → Prop} (eO : kd.O = O) (en : kd.nil = nil) (em : kd.more = more) {ex tg iter : Expr} {ifs : List Expr} {scope : Scope} {own : List (Str × Nat)} {pos : Pos} {wi : TI} {g : TG} {tt : TT} {te : TE} (calm : X.calm = true) (nd : X.N.Nodup) (src : PI X tg iter wi) (blk : BlkOk X.N X.env.scope scope own)
    (pG : ∀ (z : Shared) (G : Hp) (C : Addr) (cl : List (Str × Addr)) (fp : List Addr), PG (X.blk z G scope (compEnvC scope cl C X.env) fp) tg g) (pT : ∀ (z : Shared) (G : Hp) (C : Addr) (cl : List (Str × Addr)) (fp : List Addr), PTs (X.blk z G scope (compEnvC scope cl C X.env) fp) ifs tt)
    (pE : ∀ (z : Shared) (G : Hp) (C : Addr) (cl : List (Str × Addr)) (fp : List Addr), PE (X.blk z G scope (compEnvC scope cl C X.env) fp) ex te) (plain : ∀ x, foldedSetIterable iter X.env x = pure x := by intro _; rfl) :
    PE X (.SetComp ex [⟨tg, iter, ifs, 0⟩] scope pos) (tScG O nil more wi g tt te (own.map (·.2))) := by
  subst eO en em
  exact pe_scG kd calm nd src blk pG pT pE plain
/-- sets of whole numbers: the members told by S, n of them -/
def IntSet (w : World) (a : Addr) (x : (Int → Bool) × Nat) : HO := SetO w a x.1 x.2
def moreI (_ : Hp) (x : (Int → Bool) × Nat) (y : V) (x' : (Int → Bool) × Nat) : Prop := ∃ k : Int, y = .int k ∧ x.2 + 1 < scanBound ∧ x' = (fun j => x.1 j || decide (j = k), if x.1 k = true then x.2 else x.2 + 1)
theorem add_int {Y : Cx} {pins : List (Addr × Obj)} {σ : L2.St} {H : Hp} {s : Shared} {E : Value → Shared → Prop} {D : Addr} {x x' : (Int → Bool) × Nat} {y : V} {u : Value} {Q : Value → Shared → Prop} (J : Inv Y pins σ H s) (hD : H D = some (IntSet Y.w D x)) (r : RelV y u) (mo : moreI H x y x')
    (q : ∀ z, Inv Y pins σ (upd H D (IntSet Y.w D x')) z → Q .none z) : wpAny (model Y.prog Y.w) Y.A (call (.builtin "set.add") [.ref D, u]) Q E s := by
  obtain ⟨k, rfl, room, rfl⟩ := mo
  obtain ⟨tk, rfl⟩ := r
  refine setR_add (setO_get J hD) room fun h' sb made => ?_
  obtain ⟨o, _, _, _, ho, _⟩ := id made
  refine q _ (J.write (e := D) (t' := s.toks + 1) ?_ (.inl rfl) (fun b u hb hu => (sb.2 b hb).trans hu) ⟨o, ho⟩ (setO_new made))
  rw [hD]
  exact True.intro
def kdI (X : Cx) : SetKd X ((Int → Bool) × Nat) where
  O := IntSet X.w
  nil := (fun _ => false, 0)
  more := moreI
  laid := fun _ _ => setO_new (setR_fresh X.w)
  add := fun Y e1 e2 _ _ _ {_ _ _ _ _ _ _ _ _ _ _} J hD r mo q => by
    rw [← e2] at hD q
    exact add_int J hD r mo q
theorem pe_scI {w0 : World} (hw : X.w = w0) {ex tg iter : Expr} {ifs : List Expr} {scope : Scope} {own : List (Str × Nat)} {pos : Pos} {wi : TI} {g : TG} {tt : TT} {te : TE} (calm : X.calm = true) (nd : X.N.Nodup) (src : PI X tg iter wi) (blk : BlkOk X.N X.env.scope scope own)
    (pG : ∀ (z : Shared) (G : Hp) (C : Addr) (cl : List (Str × Addr)) (fp : List Addr), PG (X.blk z G scope (compEnvC scope cl C X.env) fp) tg g) (pT : ∀ (z : Shared) (G : Hp) (C : Addr) (cl : List (Str × Addr)) (fp : List Addr), PTs (X.blk z G scope (compEnvC scope cl C X.env) fp) ifs tt)
    (pE : ∀ (z : Shared) (G : Hp) (C : Addr) (cl : List (Str × Addr)) (fp : List Addr), PE (X.blk z G scope (compEnvC scope cl C X.env) fp) ex te) (plain : ∀ x, foldedSetIterable iter X.env x = pure x := by intro _; rfl) :
    PE X (.SetComp ex [⟨tg, iter, ifs, 0⟩] scope pos) (tScG (IntSet w0) (fun _ => false, 0) moreI wi g tt te (own.map (·.2))) := by
  subst hw
  exact pe_scW (kdI X) rfl rfl rfl calm nd src blk pG pT pE plain
theorem lt_of_le_nd : ∀ {l : List Int}, l.Pairwise (· ≤ ·) → l.Nodup → l.Pairwise (· < ·) := fun {l} h d => lt_of_le_nodup l h d
/-- sorted(found), any number of them -/
theorem sorted_setI {P : Program} {w : World} {A : Around} {E : Value → Shared → Prop} {s : Shared} {a : Addr} {S : Int → Bool} {n : Nat} {Q : Value → Shared → Prop} (R : SetR w s.heap a S n) (calm : A.handled = none)
    (q : ∀ (z : Shared) (p : Addr) (out : List Value) (c : Nat) (ns : List Int), (∀ b o, s.heap.get? b = some o → z.heap.get? b = some o) → z.gens = s.gens → z.os = s.os → s.heap.objs.size ≤ p → z.heap.get? p = some (seqObj "list" out.toArray c) → IntsAre out ns → ns.Pairwise (· < ·) → (∀ k, k ∈ ns ↔ S k = true) → ns.length = n → Q (.ref p) z) :
    wpAny (model P w) A (call (.builtin "sorted") [.ref a]) Q E s := by
  obtain ⟨o, es, ep, tb, at_, exact_, data, good, apart, mem, few, fits, size, rises, order⟩ := R
  refine Calls.call_function_entry kind_sorted plain_sorted entry_sorted (args_sorted1 _) ?_
  unfold Builtin.«sorted»; refine wpAny_bind (m := checkCount "sorted" 1 1 _) (wpAny_pure ?_)
  refine wpAny_bind (collect_set (A := A.in1) calm ⟨o, at_, exact_.1, data⟩ fits few rises order ?_)
  intro z vs keep big gens os perm
  have vl : vs.length = n := by
    rw [perm.length_eq, List.length_map, Array.length_toList]
    exact size
  have small : vs.length ≤ sizeLine := by
    rw [vl, ← size]
    exact fits_of_scanBound few
  have nums : IntsAre vs (vs.map Builtin.Re.reRawOf) := ints_of vs fun v hv => by
    obtain ⟨e, he, rfl⟩ := List.mem_map.mp (perm.mem_iff.mp hv)
    obtain ⟨k, tk, h1, _⟩ := good e he
    exact ⟨k, tk, h1⟩
  have keys : (vs.map Builtin.Re.reRawOf).Perm (es.toList.map keyOf) := by
    have := perm.map Builtin.Re.reRawOf
    rw [List.map_map] at this
    exact this
  refine wpAny_bind (wpAny_newList ?_ small)
  have list : (z.heap.push (seqObj "list" vs.toArray 0)).get? z.heap.objs.size = some (seqObj "list" vs.toArray 0) := Heap.get?_push_size _ rfl
  refine wpAny_bind (wpAny_holding (wpAny_call_entry slot_list_sort ⟨_, list, rfl⟩ entry_list_sort ?_ (args_list_sort _)))
  refine SrtO.list_sort_ord SrtO.swo_int list small (fun two => SrtO.ints_sortable nums two) fun out sorted stable => ⟨_, rfl, ?_⟩
  obtain ⟨i1, i2, i3⟩ := SrtO.ints_out nums sorted stable
  obtain ⟨c, made⟩ := sortedHeap_at (vs := vs) (out := out.toArray) list
  have all : (out.map SrtO.iv).Perm (es.toList.map keyOf) := i2.trans keys
  refine wpAny_pure ⟨_, rfl, q _ z.heap.objs.size out c (out.map SrtO.iv) (fun b u e => ?_) gens os big made i1 (lt_of_le_nd i3 (all.nodup_iff.mpr apart)) (fun k => by rw [all.mem_iff, ← mem k]) ?_⟩
  · have old := keep b u e
    have lt := Heap.lt_size old
    show (sortedHeap (z.heap.push (seqObj "list" vs.toArray 0)) z.heap.objs.size vs out.toArray).get? b = some u
    rw [sortedHeap_old (Nat.ne_of_lt lt) (by rw [size_push']; exact Nat.lt_succ_of_lt lt)]
    exact Heap.get?_push_of_some _ old
  · rw [all.length_eq, List.length_map, Array.length_toList]
    exact size
def rSrtI (w : World) : List V → Hp → VK → Prop := fun vs H Q => ∃ (a : Addr) (x : (Int → Bool) × Nat), vs = [V.ref a] ∧ H a = some (IntSet w a x) ∧
  ∀ (ns : List Int) (p : Addr), ns.Pairwise (· < ·) → (∀ k : Int, k ∈ ns ↔ x.1 k = true) → ns.length = x.2 → H p = none → Q (.ref p) (upd H p (.lst (ns.map V.int)))
theorem cr_srtI (calm : X.calm = true) : CallR X (.builtin "sorted") (rSrtI X.w) := by
  rintro pins s σ H vs us Q J r ⟨a, x, rfl, ha, q⟩
  have R := setO_get J ha
  have few : x.2 ≤ sizeLine := by
    obtain ⟨_, es, _, _, _, _, _, _, _, _, lt, _, n, _⟩ := id R
    rw [← n]
    exact fits_of_scanBound lt
  rw [Vals.ref1 r]
  refine sorted_setI R (J.ok.hd calm) ?_
  intro z p out c ns keep gens os big made nums up mem len
  have free : H p = none := J.hok.fresh big
  have K' : Inv X pins σ (upd H p (.lst (ns.map V.int))) { s with heap := z.heap, gens := z.gens, drawn := z.drawn, toks := z.toks } :=
    J.call (ch := []) (Un.laid keep big free) (J.hok.laid keep big ⟨by rw [List.length_map, len]; exact few, out, c, vals_of_ints nums, made⟩) (by rw [gens]; exact J.bare) (fun _ y => nomatch y)
  have same : z = { s with heap := z.heap, gens := z.gens, drawn := z.drawn, toks := z.toks } := by
    cases z; cases s
    cases os
    rfl
  rw [same]
  exact ⟨.ref p, _, K', rfl, q ns p up mem len free⟩
end
section
variable {α : Type} {K : PySem.W.Frag} {H : Hp} {σ : L2.St} {Q : VK} {O : Addr → α → HO} {nil : α} {more : Hp → α → V → α → Prop}
def SB (O : Addr → α → HO) (nil : α) (more : Hp → α → V → α → Prop) (J : It) (g : TG) (tt : TT) (te : TE) (vs : List Nat) (σ : L2.St) (H : Hp) (Q : VK) : Prop := tScG O nil more (fun _ H R => R J H) g tt te vs σ H Q
theorem w_scG {wi : TI} {g : TG} {tt : TT} {te : TE} {vs : List Nat} (h : wi σ H fun J H1 => SB O nil more J g tt te vs σ H1 Q) : tScG O nil more wi g tt te vs σ H Q := h
theorem sb_list {a : Addr} (xs : List V) {g : TG} {tt : TT} {te : TE} {vs : List Nat} (Pv : Addr → Nat → Hp → Prop) (h0 : ∀ D, H D = none → Pv D 0 (upd H D (O D nil))) (hl : ∀ D, H D = none → ∀ i H1, i ≤ xs.length → Pv D i H1 → SqL K H1 a xs)
    (hs : ∀ D, H D = none → ∀ i x H1, xs[i]? = some x → Pv D i H1 → g x (wipe σ vs) H1 fun σ2 H2 => wipe σ2 vs = wipe σ vs ∧ tt σ2 H2 fun yes H3 =>
      if yes = true then te σ2 H3 fun y H4 => ∃ x x' : α, H4 D = some (O D x) ∧ more H4 x y x' ∧ Pv D (i + 1) (upd H4 D (O D x')) else Pv D (i + 1) H3) (hd : ∀ D, H D = none → ∀ H1, Pv D xs.length H1 → Q (.ref D) H1) : SB O nil more (Itl K a) g tt te vs σ H Q := by
  intro D hD
  refine ⟨fun i m G => m = xs.length - i ∧ i ≤ xs.length ∧ Pv D i G, ⟨_, rfl, Nat.zero_le _, h0 D hD⟩, ?_⟩
  rintro i m G ⟨rfl, le, p⟩
  have seq := hl D hD i G le p
  rcases Nat.lt_or_ge i xs.length with lt | ge
  · refine .inr ⟨⟨xs, xs[i], seq, by simp [lt]⟩, Pv D (i + 1), fun G' p' => ⟨xs.length - (i + 1), by omega, rfl, lt, p'⟩, ?_⟩
    rintro x G' ⟨rfl, is⟩
    exact hs D hD i x _ (is xs seq) p
  · have e : i = xs.length := by omega
    subst e
    exact .inl ⟨⟨xs, seq, Nat.le_refl _⟩, hd D hD G p⟩
end
end Ct

/-! the least turn of what comes round -/
namespace Ct
open PySem PySem.Spec PyProof.Rows L2
theorem st_leastL {p : Nat → Prop} : ∀ n, p n → ∃ k, k ≤ n ∧ p k ∧ ∀ j, j < k → ¬ p j := by
  intro n
  induction n using Nat.strongRecOn with
  | _ n ih =>
    intro h
    by_cases c : ∃ m, m < n ∧ p m
    · obtain ⟨m, hm, pm⟩ := c
      obtain ⟨k, a, b, d⟩ := ih m hm pm
      exact ⟨k, by omega, b, d⟩
    · exact ⟨n, Nat.le_refl _, h, fun j hj pj => c ⟨j, hj, pj⟩⟩
def cntP (P : Nat → Bool) : Nat → Nat
  | 0 => 0
  | n + 1 => cntP P n + (if P (n + 1) = true then 1 else 0)
def PerP (P : Nat → Bool) (t : Nat) : Prop := 1 ≤ t ∧ ∀ n, 1 ≤ n → P (n + t) = P n
def bts (P : Nat → Bool) : Nat → List Nat
  | 0 => []
  | n + 1 => bts P n ++ (if P (n + 1) = true then [n + 1] else [])
section
variable {P : Nat → Bool} {t T : Nat}
theorem cnt_per (h : PerP P t) : ∀ n, cntP P (n + t) = cntP P n + cntP P t
  | 0 => by
    rw [Nat.zero_add]
    show _ = 0 + _
    rw [Nat.zero_add]
  | n + 1 => by
    rw [show n + 1 + t = (n + t) + 1 by omega]
    show cntP P (n + t) + (if P (n + t + 1) = true then 1 else 0) = cntP P n + (if P (n + 1) = true then 1 else 0) + cntP P t
    rw [cnt_per h n, show n + t + 1 = (n + 1) + t by omega, h.2 (n + 1) (by omega)]
    omega
theorem per_add (h : PerP P t) : ∀ k n, 1 ≤ n → P (n + k * t) = P n
  | 0, n, _ => by rw [Nat.zero_mul, Nat.add_zero]
  | k + 1, n, hn => by
    rw [Nat.succ_mul, ← Nat.add_assoc, h.2 (n + k * t) (by omega)]
    exact per_add h k n hn
theorem cnt_add (h : PerP P t) (r : Nat) : ∀ k, cntP P (r + k * t) = cntP P r + k * cntP P t
  | 0 => by rw [Nat.zero_mul, Nat.zero_mul]; rfl
  | k + 1 => by
    rw [Nat.succ_mul, Nat.succ_mul, ← Nat.add_assoc, cnt_per h, cnt_add h r k]
    omega
theorem per_mod (h : PerP P t) (g : PerP P T) (r : 1 ≤ T % t) : PerP P (T % t) := by
  refine ⟨r, fun n hn => ?_⟩
  have e : n + T % t + T / t * t = n + T := by
    have := Nat.mod_add_div T t
    rw [Nat.mul_comm] at this
    omega
  rw [← per_add h (T / t) (n + T % t) (by omega), e, g.2 n hn]
/-- the least period, which parts each other -/
theorem per_least (g : PerP P T) : ∃ t, PerP P t ∧ (∀ u, PerP P u → t ≤ u) ∧ T % t = 0 := by
  obtain ⟨N, _, n2, n3⟩ := st_leastL (p := fun t => PerP P t) T g
  have least : ∀ u, PerP P u → N ≤ u := fun u hu => by
    apply Classical.byContradiction
    intro c
    exact n3 u (by omega) hu
  refine ⟨N, n2, least, ?_⟩
  apply Classical.byContradiction
  intro c
  have := least _ (per_mod n2 g (by omega))
  have := Nat.mod_lt T (show 0 < N from n2.1)
  omega
theorem bts_len (P : Nat → Bool) : ∀ n, (bts P n).length = cntP P n
  | 0 => rfl
  | n + 1 => by
    show (bts P n ++ _).length = cntP P n + _
    rw [List.length_append, bts_len P n]
    by_cases c : P (n + 1) = true
    · rw [if_pos c, if_pos c]; rfl
    · rw [if_neg c, if_neg c]; rfl
theorem bts_mem (P : Nat → Bool) {m : Nat} : ∀ n, m ∈ bts P n ↔ 1 ≤ m ∧ m ≤ n ∧ P m = true
  | 0 => ⟨(fun h => nomatch h), fun h => by omega⟩
  | n + 1 => by
    show m ∈ bts P n ++ _ ↔ _
    rw [List.mem_append, bts_mem P n]
    by_cases c : P (n + 1) = true
    · rw [if_pos c, List.mem_singleton]
      constructor
      · rintro (⟨h1, h2, h3⟩ | rfl)
        · exact ⟨h1, by omega, h3⟩
        · exact ⟨by omega, Nat.le_refl _, c⟩
      · rintro ⟨h1, h2, h3⟩
        by_cases d : m = n + 1
        · exact .inr d
        · exact .inl ⟨h1, by omega, h3⟩
    · rw [if_neg c]
      constructor
      · rintro (⟨h1, h2, h3⟩ | h)
        · exact ⟨h1, by omega, h3⟩
        · cases h
      · rintro ⟨h1, h2, h3⟩
        refine .inl ⟨h1, ?_, h3⟩
        by_cases d : m = n + 1
        · rw [d] at h3; exact absurd h3 c
        · omega
theorem bts_up (P : Nat → Bool) : ∀ n, (bts P n).Pairwise (· < ·)
  | 0 => .nil
  | n + 1 => by
    show (bts P n ++ _).Pairwise _
    rw [List.pairwise_append]
    refine ⟨bts_up P n, ?_, fun a ha b hb => ?_⟩
    · by_cases c : P (n + 1) = true
      · rw [if_pos c]; exact List.pairwise_singleton _ _
      · rw [if_neg c]; exact .nil
    · by_cases c : P (n + 1) = true
      · rw [if_pos c, List.mem_singleton] at hb
        have := ((bts_mem P n).mp ha).2.1
        omega
      · rw [if_neg c] at hb; cases hb
theorem bts_get (P : Nat → Bool) {i m : Nat} : ∀ n, (bts P n)[i]? = some m → cntP P m = i + 1
  | 0, h => by cases h
  | n + 1, h => by
    rw [show bts P (n + 1) = bts P n ++ (if P (n + 1) = true then [n + 1] else []) from rfl] at h
    by_cases c : i < (bts P n).length
    · rw [List.getElem?_append_left c] at h
      exact bts_get P n h
    · rw [List.getElem?_append_right (by omega)] at h
      by_cases d : P (n + 1) = true
      · rw [if_pos d] at h
        have z : i - (bts P n).length = 0 := by
          have := (List.getElem?_eq_some_iff.mp h).1
          have : i - (bts P n).length < 1 := this
          omega
        rw [z] at h
        cases Option.some.inj h
        show cntP P n + (if P (n + 1) = true then 1 else 0) = _
        rw [if_pos d, ← bts_len P n]
        omega
      · rw [if_neg d] at h
        cases h
theorem bts_app (P : Nat → Bool) (n : Nat) : ∀ k, ∃ l, bts P (n + k) = bts P n ++ l
  | 0 => ⟨[], (List.append_nil _).symm⟩
  | k + 1 => by
    obtain ⟨l, e⟩ := bts_app P n k
    refine ⟨l ++ (if P (n + k + 1) = true then [n + k + 1] else []), ?_⟩
    show bts P (n + k) ++ _ = _
    rw [e, List.append_assoc]
    rfl
/-- one list alone rises and holds just these -/
theorem up_uniq {a b : List Nat} (ha : a.Pairwise (· < ·)) (hb : b.Pairwise (· < ·)) (e : ∀ m, m ∈ a ↔ m ∈ b) : a = b := by
  have p : List.Perm a b := (List.perm_ext_iff_of_nodup (ha.imp fun h => Nat.ne_of_lt h) (hb.imp fun h => Nat.ne_of_lt h)).mpr e
  exact List.Perm.eq_of_pairwise (le := fun a b => a < b) (fun a b _ _ h1 h2 => by omega) ha hb p
theorem cnt_bound (P : Nat → Bool) : ∀ n, cntP P n ≤ n
  | 0 => Nat.le_refl _
  | n + 1 => by
    have := cnt_bound P n
    show cntP P n + (if P (n + 1) = true then 1 else 0) ≤ n + 1
    split <;> omega
theorem cnt_le (P : Nat → Bool) {n : Nat} : ∀ {m}, n ≤ m → cntP P n ≤ cntP P m
  | 0, h => by rw [Nat.le_zero.mp h]; exact Nat.le_refl _
  | m + 1, h => by
    show _ ≤ cntP P m + _
    by_cases c : n = m + 1
    · rw [c]; exact Nat.le_refl _
    · have := cnt_le P (n := n) (m := m) (by omega)
      omega
theorem cnt_lt {n m : Nat} (h : n < m) (hm : P m = true) : cntP P n < cntP P m := by
  obtain ⟨k, rfl⟩ : ∃ k, m = k + 1 := ⟨m - 1, by omega⟩
  have := cnt_le P (n := n) (m := k) (by omega)
  show _ < cntP P k + (if P (k + 1) = true then 1 else 0)
  rw [if_pos hm]
  omega
theorem cnt_uniq {n m : Nat} (hn : P n = true) (hm : P m = true) (e : cntP P n = cntP P m) : n = m := by
  rcases Nat.lt_trichotomy n m with h | h | h
  · have := cnt_lt h hm; omega
  · exact h
  · have := cnt_lt h hn; omega
/-- when the beat number k comes -/
def timeP (P : Nat → Bool) (T k : Nat) : Nat := k / cntP P T * T + ((bts P T)[k % cntP P T]?).getD 0
theorem time_ok (g : PerP P T) (m1 : 1 ≤ cntP P T) (k : Nat) : cntP P (timeP P T k) = k + 1 ∧ P (timeP P T k) = true ∧ k / cntP P T * T + 1 ≤ timeP P T k ∧ timeP P T k ≤ k / cntP P T * T + T := by
  have il : k % cntP P T < (bts P T).length := by rw [bts_len]; exact Nat.mod_lt _ m1
  obtain ⟨b, hb⟩ : ∃ b, (bts P T)[k % cntP P T]? = some b := ⟨_, List.getElem?_eq_getElem il⟩
  have h1 := bts_get P T hb
  obtain ⟨h2, h3, h4⟩ := (bts_mem P T).mp (List.mem_of_getElem? hb)
  unfold timeP
  rw [hb]
  show cntP P (k / cntP P T * T + b) = _ ∧ P (k / cntP P T * T + b) = true ∧ _ ≤ k / cntP P T * T + b ∧ k / cntP P T * T + b ≤ _
  rw [Nat.add_comm (k / cntP P T * T) b, cnt_add g, per_add g _ _ h2, h1]
  have := Nat.mod_add_div k (cntP P T)
  rw [Nat.mul_comm] at this
  exact ⟨by omega, h4, by omega, by omega⟩
theorem time_is (g : PerP P T) (m1 : 1 ≤ cntP P T) {n k : Nat} (h : P n = true) (e : cntP P n = k + 1) : timeP P T k = n :=
  cnt_uniq (time_ok g m1 k).2.1 h ((time_ok g m1 k).1.trans e.symm)
theorem time_up (g : PerP P T) (m1 : 1 ≤ cntP P T) {j k : Nat} (h : j < k) : timeP P T j < timeP P T k := by
  apply Classical.byContradiction
  intro c
  have := cnt_le P (n := timeP P T k) (m := timeP P T j) (by omega)
  rw [(time_ok g m1 k).1, (time_ok g m1 j).1] at this
  omega
theorem time_turn (g : PerP P T) (m1 : 1 ≤ cntP P T) (k : Nat) : timeP P T (k + cntP P T) = timeP P T k + T := by
  have a := time_ok g m1 k
  refine time_is g m1 ?_ ?_
  · rw [g.2 _ (by omega)]; exact a.2.1
  · rw [cnt_per g, a.1]; omega
def gapP (P : Nat → Bool) (T k : Nat) : Nat := timeP P T (k + 1) - timeP P T k
theorem gap_turn (g : PerP P T) (m1 : 1 ≤ cntP P T) (k : Nat) : gapP P T (k + cntP P T) = gapP P T k := by
  unfold gapP
  rw [show k + cntP P T + 1 = (k + 1) + cntP P T by omega, time_turn g m1, time_turn g m1]
  omega
/-- where the least turn is looked for: after how many beats it comes round -/
def RoundP (P : Nat → Bool) (T part : Nat) : Prop := cntP P T % part = 0 ∧ ∀ i, i + part < cntP P T → gapP P T (i + part) = gapP P T i
theorem round_all (g : PerP P T) (m1 : 1 ≤ cntP P T) {part : Nat} (p1 : 1 ≤ part) (r : RoundP P T part) : ∀ k, gapP P T (k + part) = gapP P T k := by
  have small : ∀ i, i < cntP P T → gapP P T i = gapP P T (i % part) := fun i => by
    induction i using Nat.strongRecOn with
    | _ i ih =>
      intro hi
      by_cases c : i < part
      · rw [Nat.mod_eq_of_lt c]
      · have e := r.2 (i - part) (by omega)
        rw [show i - part + part = i by omega] at e
        rw [e, ih (i - part) (by omega) (by omega), ← Nat.mod_eq_sub_mod (by omega)]
  have turns : ∀ q i, gapP P T (i + q * cntP P T) = gapP P T i := fun q => by
    induction q with
    | zero => intro i; rw [Nat.zero_mul, Nat.add_zero]
    | succ q ih => intro i; rw [Nat.succ_mul, ← Nat.add_assoc, gap_turn g m1, ih]
  have all : ∀ k, gapP P T k = gapP P T (k % part) := fun k => by
    have e : k % cntP P T + k / cntP P T * cntP P T = k := by
      have := Nat.mod_add_div k (cntP P T)
      rw [Nat.mul_comm] at this
      exact this
    have h := turns (k / cntP P T) (k % cntP P T)
    rw [e] at h
    rw [h, small _ (Nat.mod_lt _ m1), Nat.mod_mod_of_dvd _ (Nat.dvd_of_mod_eq_zero r.1)]
  intro k
  rw [all (k + part), all k, Nat.add_mod_right]
theorem round_time (g : PerP P T) (m1 : 1 ≤ cntP P T) {part : Nat} (p1 : 1 ≤ part) (r : RoundP P T part) : ∀ k, timeP P T (k + part) = timeP P T k + (timeP P T part - timeP P T 0)
  | 0 => by
    have := time_up g m1 (show 0 < part from p1)
    rw [Nat.zero_add]
    omega
  | k + 1 => by
    have ih := round_time g m1 p1 r k
    have e := round_all g m1 p1 r k
    unfold gapP at e
    have u1 := time_up g m1 (show k < k + 1 by omega)
    have u2 := time_up g m1 (show k + part < k + part + 1 by omega)
    rw [show k + 1 + part = k + part + 1 by omega]
    omega
/-- the turn that is found is a turn, and the least -/
theorem round_is (g : PerP P T) (m1 : 1 ≤ cntP P T) {part : Nat} (p1 : 1 ≤ part) (r : RoundP P T part) (least : ∀ q, 1 ≤ q → q < part → ¬ RoundP P T q) :
    PerP P (timeP P T part - timeP P T 0) ∧ (∀ t, PerP P t → timeP P T part - timeP P T 0 ≤ t) ∧ (bts P T).take part = bts P (timeP P T part - timeP P T 0) ∧ timeP P T part - timeP P T 0 ≤ T := by
  have up := time_up g m1 (show 0 < part from p1)
  have rt := round_time g m1 p1 r
  generalize hS : timeP P T part - timeP P T 0 = S at *
  have fwd : ∀ n, 1 ≤ n → P n = true → P (n + S) = true := fun n hn h => by
    obtain ⟨k, hk⟩ : ∃ k, cntP P n = k + 1 := ⟨cntP P n - 1, by
      have := cnt_lt (P := P) (n := 0) (m := n) hn h
      omega⟩
    rw [← time_is g m1 h hk, ← rt k]
    exact (time_ok g m1 _).2.1
  have fwds : ∀ d n, 1 ≤ n → P n = true → P (n + d * S) = true := fun d => by
    induction d with
    | zero => intro n _ h; rw [Nat.zero_mul]; exact h
    | succ d ih =>
      intro n hn h
      rw [Nat.succ_mul, ← Nat.add_assoc]
      exact fwd _ (by omega) (ih n hn h)
  have times : ∀ d, timeP P T (0 + d * part) = timeP P T 0 + d * S := fun d => by
    induction d with
    | zero => rw [Nat.zero_mul, Nat.zero_mul]; rfl
    | succ d ih => rw [Nat.succ_mul, Nat.succ_mul, ← Nat.add_assoc, rt, ih]; omega
  obtain ⟨d, hd⟩ : ∃ d, cntP P T = d * part := ⟨cntP P T / part, (Nat.div_mul_cancel (Nat.dvd_of_mod_eq_zero r.1)).symm⟩
  have hT : T = d * S := by
    have a := time_turn g m1 0
    rw [hd, times d] at a
    omega
  have d1 : 1 ≤ d := by
    rcases Nat.eq_zero_or_pos d with z | z
    · rw [z, Nat.zero_mul] at hd; omega
    · exact z
  have per : PerP P S := by
    refine ⟨by omega, fun n hn => ?_⟩
    cases h : P n with
    | true => exact fwd n hn h
    | false =>
      cases h2 : P (n + S) with
      | false => rfl
      | true =>
        have b := fwds (d - 1) (n + S) (by omega) h2
        rw [Nat.add_assoc, show S + (d - 1) * S = d * S by
          obtain ⟨e, rfl⟩ : ∃ e, d = e + 1 := ⟨d - 1, by omega⟩
          rw [Nat.add_sub_cancel, Nat.succ_mul]
          omega, ← hT, g.2 n hn, h] at b
        cases b
  have ST : S ≤ T := by
    rw [hT]
    exact Nat.le_mul_of_pos_left _ d1
  have cS : cntP P S = part := by
    have a := cnt_per per (timeP P T 0)
    have b := rt 0
    rw [Nat.zero_add] at b
    rw [← b, (time_ok g m1 _).1, (time_ok g m1 _).1] at a
    omega
  refine ⟨per, fun t ht => ?_, ?_, ST⟩
  · obtain ⟨t0, p0, l0, z0⟩ := per_least g
    refine Nat.le_trans ?_ (l0 t ht)
    obtain ⟨c, hc⟩ : ∃ c, T = c * t0 := ⟨T / t0, (Nat.div_mul_cancel (Nat.dvd_of_mod_eq_zero z0)).symm⟩
    have cT : cntP P T = c * cntP P t0 := by
      have a := cnt_add p0 0 c
      rw [Nat.zero_add, ← hc] at a
      rw [a]
      show 0 + _ = _
      omega
    have q1 : 1 ≤ cntP P t0 := by
      rcases Nat.eq_zero_or_pos (cntP P t0) with z | z
      · rw [z, Nat.mul_zero] at cT; omega
      · exact z
    have tm : ∀ k, timeP P T (k + cntP P t0) = timeP P T k + t0 := fun k => by
      have a := time_ok g m1 k
      refine time_is g m1 ?_ ?_
      · rw [p0.2 _ (by omega)]; exact a.2.1
      · rw [cnt_per p0, a.1]; omega
    have rd : RoundP P T (cntP P t0) := by
      refine ⟨by rw [cT, Nat.mul_mod_left], fun i _ => ?_⟩
      unfold gapP
      rw [show i + cntP P t0 + 1 = (i + 1) + cntP P t0 by omega, tm, tm]
      omega
    have pq : part ≤ cntP P t0 := by
      apply Classical.byContradiction
      intro z
      exact least _ q1 (by omega) rd
    have a := tm 0
    rw [Nat.zero_add] at a
    rcases Nat.lt_or_ge part (cntP P t0) with z | z
    · have := time_up g m1 z
      omega
    · rw [show part = cntP P t0 by omega] at hS
      omega
  · obtain ⟨l, e⟩ := bts_app P S (T - S)
    rw [show S + (T - S) = T by omega] at e
    rw [e, List.take_left' (by rw [bts_len, cS])]
end
/-! behind a wheel -/
def behP (P : Nat → Bool) (z x : Int) (ms : List Int) (n : Nat) : Bool := P n && decide ((x + (cntP P n : Int)) % z ∈ ms)
def stepN (a b c : Int) : Nat := if a < b then ((b - a - 1) / c).toNat + 1 else 0
theorem step_mem {a b c k : Int} (c1 : 1 ≤ c) : (∃ j : Nat, j < stepN a b c ∧ k = a + j * c) ↔ a ≤ k ∧ k < b ∧ (k - a) % c = 0 := by
  unfold stepN
  constructor
  · rintro ⟨j, hj, rfl⟩
    by_cases h : a < b
    · rw [if_pos h] at hj
      have d0 : 0 ≤ (b - a - 1) / c := Int.ediv_nonneg (by omega) (by omega)
      have h1 : (j : Int) ≤ (b - a - 1) / c := by omega
      have h2 : (j : Int) * c ≤ b - a - 1 := by
        have := Int.mul_le_mul_of_nonneg_right h1 (show 0 ≤ c by omega)
        have := Int.ediv_mul_le (b - a - 1) (show c ≠ 0 by omega)
        omega
      have h3 : 0 ≤ (j : Int) * c := Int.mul_nonneg (by omega) (by omega)
      refine ⟨by omega, by omega, ?_⟩
      rw [show a + (j : Int) * c - a = (j : Int) * c by omega, Int.mul_emod_left]
    · rw [if_neg h] at hj
      omega
  · rintro ⟨h1, h2, h3⟩
    have e : (k - a) / c * c = k - a := Int.ediv_mul_cancel (Int.dvd_of_emod_eq_zero h3)
    have d0 : 0 ≤ (k - a) / c := Int.ediv_nonneg (by omega) (by omega)
    refine ⟨((k - a) / c).toNat, ?_, ?_⟩
    · rw [if_pos (by omega)]
      have : (k - a) / c ≤ (b - a - 1) / c := Int.ediv_le_ediv (by omega) (by omega)
      omega
    · rw [Int.toNat_of_nonneg d0, e]
      omega
def loP (z x m : Int) : Int := (m - x - 1) % z
def hitP (P : Nat → Bool) (T : Nat) (z x come m : Int) : List Nat := (List.range (stepN (loP z x m) come z)).map fun j : Nat => timeP P T (loP z x m + (j : Int) * z).toNat
section
variable {P : Nat → Bool} {T : Nat} {z x : Int} {ms : List Int}
theorem beh_per (g : PerP P T) {c : Nat} (c1 : 1 ≤ c) (cz : ((c * cntP P T : Nat) : Int) % z = 0) : PerP (behP P z x ms) (c * T) := by
  refine ⟨Nat.mul_pos c1 g.1, fun n hn => ?_⟩
  unfold behP
  rw [per_add g c n hn, cnt_add g n c]
  have e : (x + ((cntP P n + c * cntP P T : Nat) : Int)) % z = (x + (cntP P n : Int)) % z := by
    rw [show x + ((cntP P n + c * cntP P T : Nat) : Int) = x + (cntP P n : Int) + ((c * cntP P T : Nat) : Int) by omega, Int.add_emod, cz, Int.add_zero, Int.emod_emod]
  rw [e]
theorem hit_mem (z1 : 1 ≤ z) {come m : Int} {n : Nat} : n ∈ hitP P T z x come m ↔ ∃ k : Nat, (k : Int) < come ∧ ((k : Int) - (m - x - 1)) % z = 0 ∧ timeP P T k = n := by
  have l0 : 0 ≤ loP z x m := Int.emod_nonneg _ (by omega)
  have l1 : loP z x m < z := Int.emod_lt_of_pos _ (by omega)
  have cong : ∀ k : Int, (k - loP z x m) % z = (k - (m - x - 1)) % z := fun k => by
    unfold loP
    rw [Int.sub_emod_emod]
  unfold hitP
  rw [List.mem_map]
  constructor
  · rintro ⟨j, hj, rfl⟩
    obtain ⟨h1, h2, h3⟩ := (step_mem (a := loP z x m) (b := come) z1).mp ⟨j, List.mem_range.mp hj, rfl⟩
    refine ⟨(loP z x m + (j : Int) * z).toNat, by omega, ?_, rfl⟩
    rw [← cong, Int.toNat_of_nonneg (by omega)]
    exact h3
  · rintro ⟨k, h1, h2, rfl⟩
    rw [← cong] at h2
    have lk : loP z x m ≤ k := by
      apply Classical.byContradiction
      intro c
      have e : ((k : Int) - loP z x m + z) % z = 0 := by rw [Int.add_emod_right]; exact h2
      rw [Int.emod_eq_of_lt (by omega) (by omega)] at e
      omega
    obtain ⟨j, hj, e⟩ := (step_mem (a := loP z x m) (b := come) (k := k) z1).mpr ⟨lk, h1, h2⟩
    exact ⟨j, List.mem_range.mpr hj, by rw [← e]; rfl⟩
theorem found_mem (g : PerP P T) (m1 : 1 ≤ cntP P T) (z1 : 1 ≤ z) (rs : ∀ m ∈ ms, 0 ≤ m ∧ m < z) {c n : Nat} : n ∈ ms.flatMap (hitP P T z x ((c * cntP P T : Nat) : Int)) ↔ n ∈ bts (behP P z x ms) (c * T) := by
  rw [List.mem_flatMap, bts_mem]
  have cm : ∀ (k : Nat) (m : Int), 0 ≤ m ∧ m < z → (((k : Int) - (m - x - 1)) % z = 0 ↔ (x + ((k + 1 : Nat) : Int)) % z = m) := fun k m hm => by
    have e : (k : Int) - (m - x - 1) = x + ((k + 1 : Nat) : Int) - m := by omega
    rw [e, ← Int.emod_eq_emod_iff_emod_sub_eq_zero, Int.emod_eq_of_lt hm.1 hm.2]
  constructor
  · rintro ⟨m, hm, h⟩
    obtain ⟨k, h1, h2, rfl⟩ := (hit_mem z1).mp h
    have a := time_ok g m1 k
    refine ⟨by omega, ?_, ?_⟩
    · have q : k / cntP P T + 1 ≤ c := (Nat.div_lt_iff_lt_mul m1).mpr (by omega)
      have := Nat.mul_le_mul_right T q
      rw [Nat.succ_mul] at this
      omega
    · unfold behP
      rw [a.2.1, a.1, (cm k m (rs m hm)).mp h2, decide_eq_true hm]
      rfl
  · rintro ⟨h1, h2, h3⟩
    unfold behP at h3
    rw [Bool.and_eq_true] at h3
    have hm := of_decide_eq_true h3.2
    have c1 := cnt_lt (P := P) (n := 0) (m := n) h1 h3.1
    obtain ⟨k, hk⟩ : ∃ k, cntP P n = k + 1 := ⟨cntP P n - 1, by omega⟩
    have le := cnt_le P (n := n) (m := 0 + c * T) (by omega)
    rw [cnt_add g 0 c, show cntP P 0 = 0 from rfl, Nat.zero_add] at le
    rw [hk] at hm
    exact ⟨_, hm, (hit_mem z1).mpr ⟨k, by omega, (cm k _ (rs _ hm)).mpr rfl, time_is g m1 h3.1 hk⟩⟩
theorem found_nodup (g : PerP P T) (m1 : 1 ≤ cntP P T) (z1 : 1 ≤ z) (rs : ∀ m ∈ ms, 0 ≤ m ∧ m < z) (up : ms.Pairwise (· < ·)) (come : Int) : (ms.flatMap (hitP P T z x come)).Nodup := by
  refine List.pairwise_flatMap.mpr ⟨fun m _ => ?_, up.imp_of_mem fun {a b} ha hb ab y hy w hw e => ?_⟩
  · refine List.pairwise_map.mpr ((List.pairwise_lt_range (n := _)).imp fun {i j} ij e => ?_)
    have l0 : 0 ≤ loP z x m := Int.emod_nonneg _ (by omega)
    have h1 : (i : Int) * z < (j : Int) * z := Int.mul_lt_mul_of_pos_right (by omega) (by omega)
    have h0 : 0 ≤ (i : Int) * z := Int.mul_nonneg (by omega) (by omega)
    have := time_up g m1 (show (loP z x m + (i : Int) * z).toNat < (loP z x m + (j : Int) * z).toNat by omega)
    omega
  · obtain ⟨k, _, h2, rfl⟩ := (hit_mem z1).mp hy
    obtain ⟨k2, _, h4, e2⟩ := (hit_mem z1).mp hw
    have ek : k = k2 := by
      rcases Nat.lt_trichotomy k k2 with h | h | h
      · have := time_up g m1 h; omega
      · exact h
      · have := time_up g m1 h; omega
    subst ek
    have r1 := rs a ha
    have r2 := rs b hb
    have e3 := Int.emod_eq_emod_iff_emod_sub_eq_zero.mpr (show (b - a) % z = 0 by
      rw [show b - a = ((k : Int) - (a - x - 1)) - ((k : Int) - (b - x - 1)) by omega, Int.sub_emod, h2, h4]
      rfl)
    rw [Int.emod_eq_of_lt r2.1 r2.2, Int.emod_eq_of_lt r1.1 r1.2] at e3
    omega
/-- what is sorted is told by what it holds -/
theorem sorted_nat {ns : List Int} {a b : List Nat} (pm : List.Perm ns (a.map fun n : Nat => (n : Int))) (so : ns.Pairwise (· ≤ ·)) (nd : a.Nodup) (ub : b.Pairwise (· < ·)) (e : ∀ n, n ∈ a ↔ n ∈ b) : ns = b.map fun n : Nat => (n : Int) := by
  have p2 : List.Perm a b := (List.perm_ext_iff_of_nodup nd (ub.imp fun h => Nat.ne_of_lt h)).mpr e
  exact List.Perm.eq_of_pairwise (le := fun a b => a ≤ b) (fun a b _ _ h1 h2 => by omega) so (List.pairwise_map.mpr (ub.imp fun h => by omega)) (pm.trans (p2.map _))
def RingP (P : Nat → Bool) (T : Nat) : Prop := PerP P T ∧ ∀ t, PerP P t → T ≤ t
theorem ring_uniq {a b : Nat} (h : RingP P a) (g : RingP P b) : a = b := by
  have := h.2 b g.1
  have := g.2 a h.1
  omega
theorem none_P (g : PerP P T) (m0 : cntP P T = 0) : ∀ n, 1 ≤ n → P n = false := fun n hn => by
  cases h : P n with
  | false => rfl
  | true =>
    have a := cnt_lt (P := P) (n := 0) (m := n) hn h
    have b := cnt_le P (n := n) (m := 0 + n * T) (by have := Nat.le_mul_of_pos_right n g.1; omega)
    rw [cnt_add g 0 n, m0, Nat.mul_zero] at b
    have : cntP P 0 = 0 := rfl
    omega
theorem ring_none (h : ∀ n, 1 ≤ n → P n = false) : RingP P 1 ∧ bts P 1 = [] := by
  refine ⟨⟨⟨Nat.le_refl _, fun n hn => by rw [h n hn, h (n + 1) (by omega)]⟩, fun t ht => ht.1⟩, ?_⟩
  show [] ++ (if P 1 = true then [1] else []) = []
  rw [if_neg (by rw [h 1 (Nat.le_refl _)]; decide)]
  rfl
/-! what wheels show -/
def lastP : List Part → List Int → (Nat → Bool) → Nat → Bool
  | .wheel z ms :: ps, x :: xs, P => lastP ps xs (behP P z x ms)
  | _, _, P => P
def standN : List Part → List Int → (Nat → Bool) → Nat → List Int
  | .wheel z ms :: ps, x :: xs, P, n => (x + (cntP P n : Int)) % z :: standN ps xs (behP P z x ms) n
  | _, xs, _, _ => xs
def oneB (b : Bool) : Int := if b = true then 1 else 0
theorem gen_wheels {n : Nat} : ∀ (ps : List Part) (xs : List Int) (P : Nat → Bool), (∀ p ∈ ps, ∃ z ms, p = .wheel z ms) → xs.length = ps.length → gen ppz ps (standN ps xs P n) (oneB (P (n + 1))) = (standN ps xs P (n + 1), oneB (lastP ps xs P (n + 1)))
  | [], [], P, _, _ => rfl
  | p :: ps, x :: xs, P, hw, hl => by
    obtain ⟨z, ms, rfl⟩ := hw p List.mem_cons_self
    have ih := gen_wheels (n := n) ps xs (behP P z x ms) (fun q hq => hw q (List.mem_cons_of_mem _ hq)) (Nat.succ.inj hl)
    have e : ppz (.wheel z ms) ((x + (cntP P n : Int)) % z) (oneB (P (n + 1))) = ((x + (cntP P (n + 1) : Int)) % z, oneB (behP P z x ms (n + 1))) := by
      unfold behP oneB ppz
      cases h : P (n + 1) with
      | false =>
        have c : cntP P (n + 1) = cntP P n := by
          show cntP P n + (if P (n + 1) = true then 1 else 0) = _
          rw [h]; rfl
        rw [c]
        rfl
      | true =>
        have c : cntP P (n + 1) = cntP P n + 1 := by
          show cntP P n + (if P (n + 1) = true then 1 else 0) = _
          rw [h]; rfl
        have d : ((x + (cntP P n : Int)) % z + 1) % z = (x + ((cntP P n + 1 : Nat) : Int)) % z := by
          rw [Int.emod_add_emod]
          congr 1
          omega
        rw [c]
        show (((x + (cntP P n : Int)) % z + 1) % z, if ((x + (cntP P n : Int)) % z + 1) % z ∈ ms then (1 : Int) else 0) = _
        rw [d]
        by_cases k : (x + ((cntP P n + 1 : Nat) : Int)) % z ∈ ms
        · rw [if_pos k, decide_eq_true k]; rfl
        · rw [if_neg k, decide_eq_false k]; rfl
    show ((ppz (.wheel z ms) ((x + (cntP P n : Int)) % z) (oneB (P (n + 1)))).1 :: (gen ppz ps (standN ps xs (behP P z x ms) n) (ppz (.wheel z ms) ((x + (cntP P n : Int)) % z) (oneB (P (n + 1)))).2).1, (gen ppz ps (standN ps xs (behP P z x ms) n) (ppz (.wheel z ms) ((x + (cntP P n : Int)) % z) (oneB (P (n + 1)))).2).2) = ((x + (cntP P (n + 1) : Int)) % z :: standN ps xs (behP P z x ms) (n + 1), oneB (lastP ps xs (behP P z x ms) (n + 1)))
    rw [e]
    show (_ :: (gen ppz ps (standN ps xs (behP P z x ms) n) (oneB (behP P z x ms (n + 1)))).1, (gen ppz ps (standN ps xs (behP P z x ms) n) (oneB (behP P z x ms (n + 1)))).2) = _
    rw [ih]
/-! the marks of the wheel that is told -/
def mksP (P : Nat → Bool) (S : Nat) : List Nat := (List.range S).filter fun p => P (p + S)
theorem mks_sorted {S : Nat} (g : PerP P S) {ns : List Int} (pm : List.Perm ns ((bts P S).map fun n : Nat => (n : Int) % (S : Int))) (so : ns.Pairwise (· ≤ ·)) : ns = (mksP P S).map fun n : Nat => (n : Int) := by
  have e0 : ((bts P S).map fun n : Nat => (n : Int) % (S : Int)) = ((bts P S).map (· % S)).map fun n : Nat => (n : Int) := by
    rw [List.map_map]
    rfl
  rw [e0] at pm
  refine sorted_nat pm so ?_ ((List.pairwise_lt_range (n := S)).filter _) fun n => ?_
  · refine List.pairwise_map.mpr ((bts_up P S).imp_of_mem fun {a b} ha hb ab e => ?_)
    have h1 := (bts_mem P S).mp ha
    have h2 := (bts_mem P S).mp hb
    rw [Nat.mod_eq_of_lt (show a < S by omega)] at e
    by_cases c : b = S
    · rw [c, Nat.mod_self] at e; omega
    · rw [Nat.mod_eq_of_lt (show b < S by omega)] at e; omega
  · unfold mksP
    rw [List.mem_map, List.mem_filter, List.mem_range]
    constructor
    · rintro ⟨b, hb, rfl⟩
      obtain ⟨h1, h2, h3⟩ := (bts_mem P S).mp hb
      refine ⟨Nat.mod_lt _ g.1, ?_⟩
      by_cases c : b = S
      · rw [c, Nat.mod_self, Nat.zero_add, ← c]; exact h3
      · rw [Nat.mod_eq_of_lt (by omega), g.2 b h1]; exact h3
    · rintro ⟨h1, h2⟩
      by_cases c : n = 0
      · rw [c, Nat.zero_add] at h2
        exact ⟨S, (bts_mem P S).mpr ⟨g.1, Nat.le_refl _, h2⟩, by rw [Nat.mod_self, c]⟩
      · rw [g.2 n (by omega)] at h2
        exact ⟨n, (bts_mem P S).mpr ⟨by omega, by omega, h2⟩, Nat.mod_eq_of_lt h1⟩
/-- found by what is shown twice about -/
theorem due_ring {M t : Nat} (g : PerP P M) (t1 : 1 ≤ t) (w : ∀ j, j + t < 2 * M → P (j + t + 1) = P (j + 1)) (least : ∀ q, 1 ≤ q → q < t → ¬ ∀ j, j + q < 2 * M → P (j + q + 1) = P (j + 1)) : RingP P t ∧ t ≤ M := by
  have win : ∀ u, PerP P u → ∀ j, j + u < 2 * M → P (j + u + 1) = P (j + 1) := fun u hu j _ => by
    rw [show j + u + 1 = (j + 1) + u by omega]
    exact hu.2 (j + 1) (by omega)
  have le : ∀ u, PerP P u → t ≤ u := fun u hu => by
    apply Classical.byContradiction
    intro c
    exact least u hu.1 (by omega) (win u hu)
  have tM := le M g
  refine ⟨⟨⟨t1, fun n hn => ?_⟩, le⟩, tM⟩
  have e : n = ((n - 1) % M + 1) + (n - 1) / M * M := by
    have := Nat.mod_add_div (n - 1) M
    rw [Nat.mul_comm] at this
    omega
  have lt := Nat.mod_lt (n - 1) (show 0 < M from g.1)
  have a := w ((n - 1) % M) (by omega)
  have b := per_add g ((n - 1) / M) ((n - 1) % M + 1) (by omega)
  have c := per_add g ((n - 1) / M) ((n - 1) % M + t + 1) (by omega)
  rw [show n + t = (n - 1) % M + t + 1 + (n - 1) / M * M by omega, c, a, ← b, ← e]
end
end Ct
/-! walking -/
namespace Ct
open PySem PySem.Spec PyProof.Rows L2
section
variable {K : PySem.W.Frag} {H : Hp} {σ : L2.St} {D : Ends} {Q : VK} {a b : Addr}
theorem lb_zipw (xs ys : List V) (hl : xs.length = ys.length) {g : TG} {tt : TT} {te : TE} {vs : List Nat} (Pv : Addr → Nat → Hp → Prop) (h0 : ∀ D, H D = none → Pv D 0 (upd H D (.lst []))) (hq : ∀ D, H D = none → ∀ i H1, i ≤ xs.length → Pv D i H1 → SqL K H1 a xs ∧ SqL K H1 b ys)
    (hs : ∀ D, H D = none → ∀ i x y T H1 G, xs[i]? = some x → ys[i]? = some y → Pv D i H1 → H1 T = none → Same H1 G → G T = some (.tup [x, y]) → g (.ref T) (wipe σ vs) G fun σ2 H2 => wipe σ2 vs = wipe σ vs ∧ tt σ2 H2 fun b H3 =>
      if b = true then te σ2 H3 fun y H4 => ∃ acc, H4 D = some (.lst acc) ∧ acc.length < sizeLine ∧ Pv D (i + 1) (upd H4 D (.lst (acc ++ [y]))) else Pv D (i + 1) H3) (hd : ∀ D, H D = none → ∀ H1, Pv D xs.length H1 → Q (.ref D) H1) : LB (Itz K a b) g tt te vs σ H Q :=
  fun D hD => lc_it (walk_zip (xs := xs) (ys := ys) (n := xs.length) (by omega)) (Pv D) (h0 D hD) (hq D hD) (fun i x H1 H2 _ p y => by
    obtain ⟨T, u, v, rfl, hT, rfl, e1, e2⟩ := y
    exact hs D hD i u v T H1 _ e1 e2 p hT (same_upd hT) upd_same) (hd D hD)
theorem tru_list {xs : List V} {k : Bool} (h : SqL K H a xs) (e : (!xs.isEmpty) = k) : TruV K (.ref a) H k := .inl ⟨xs, h, e.symm⟩
def RG3 (vs : List V) (H : Hp) (R : It → Hp → Prop) : Prop := iRng3 (fun _ H Q => Q vs H) [] H R
theorem w_rng3 {ta : TA} {R : It → Hp → Prop} (h : ta σ H fun vs H1 => RG3 vs H1 R) : iRng3 ta σ H R := h
theorem w_neInts {is js : List Int} (ha : SqL K H a (is.map V.int)) (hb : SqL K H b (js.map V.int)) (q : Q (.bl (!decide (is = js))) H) : rNeD K (.ref a) (.ref b) H Q := by
  have h : ∀ ks : List Int, (PyData.list (ks.map PyData.int)).canLay0 = true ∧ (PyData.list (ks.map PyData.int)).depth ≤ 1 := fun ks => lay_lst (lay_ints ks 0)
  refine ⟨_, _, .lst ha (dpAll_ints is), .lst hb (dpAll_ints js), shaped_of (h is) (by decide), shaped_of (h js) (by decide), ?_⟩
  rw [PyData.eqv, eqv_ints]
  exact q
end
section
variable {P : Nat → Bool} {T : Nat}
def btsI (P : Nat → Bool) (T : Nat) : List Int := (bts P T).map fun n : Nat => (n : Int)
def gapsI (P : Nat → Bool) (T : Nat) : List Int := (List.range (cntP P T)).map fun i => (gapP P T i : Int)
theorem btsI_len : (btsI P T).length = cntP P T := by unfold btsI; rw [List.length_map, bts_len]
theorem gapsI_len : (gapsI P T).length = cntP P T := by unfold gapsI; rw [List.length_map, List.length_range]
theorem beat_at {i : Nat} (hi : i < cntP P T) : (btsI P T)[i]? = some (timeP P T i : Int) := by
  obtain ⟨b, hb⟩ : ∃ b, (bts P T)[i]? = some b := ⟨_, List.getElem?_eq_getElem (by rw [bts_len]; exact hi)⟩
  unfold btsI timeP
  rw [List.getElem?_map, Nat.div_eq_of_lt hi, Nat.mod_eq_of_lt hi, hb, Nat.zero_mul, Nat.zero_add]
  rfl
theorem next_at (g : PerP P T) (m1 : 1 ≤ cntP P T) {i : Nat} (hi : i < cntP P T) : ((btsI P T).drop 1 ++ [(timeP P T 0 : Int) + T])[i]? = some (timeP P T (i + 1) : Int) := by
  have dl : ((btsI P T).drop 1).length = cntP P T - 1 := by rw [List.length_drop, btsI_len]
  by_cases c : i + 1 < cntP P T
  · rw [List.getElem?_append_left (by omega), List.getElem?_drop, Nat.add_comm 1 i]
    exact beat_at c
  · rw [List.getElem?_append_right (by omega), show i - ((btsI P T).drop 1).length = 0 by omega]
    have e := time_turn g m1 0
    rw [show 0 + cntP P T = i + 1 by omega] at e
    rw [e]
    rfl
theorem gap_at (g : PerP P T) (m1 : 1 ≤ cntP P T) (i : Nat) : (timeP P T (i + 1) : Int) - timeP P T i = gapP P T i := by
  have := time_up g m1 (show i < i + 1 by omega)
  unfold gapP
  omega
theorem gap_sum (g : PerP P T) (m1 : 1 ≤ cntP P T) : ∀ k, k ≤ cntP P T → ((gapsI P T).take k).sum = (timeP P T k : Int) - timeP P T 0
  | 0, _ => by
    rw [List.take_zero]
    show (0 : Int) = _
    omega
  | k + 1, h => by
    have e : (gapsI P T)[k]? = some (gapP P T k : Int) := by
      unfold gapsI
      rw [List.getElem?_map, List.getElem?_range (by omega)]
      rfl
    rw [List.take_add_one, e, List.sum_append, gap_sum g m1 k (by omega), ← gap_at g m1 k]
    show _ + (_ + 0) = _
    omega
theorem round_iff {part : Nat} (hp : part ≤ cntP P T) : (gapsI P T).drop part = (gapsI P T).take (cntP P T - part) ↔ ∀ i, i + part < cntP P T → gapP P T (i + part) = gapP P T i := by
  have at_ : ∀ i, i < cntP P T → (gapsI P T)[i]? = some (gapP P T i : Int) := fun i hi => by
    unfold gapsI
    rw [List.getElem?_map, List.getElem?_range hi]
    rfl
  constructor
  · intro h i hi
    have e := congrArg (fun l => l[i]?) h
    rw [List.getElem?_drop, List.getElem?_take, if_pos (by omega), at_ i (by omega), Nat.add_comm part i, at_ _ hi] at e
    have := Option.some.inj e
    omega
  · intro h
    refine List.ext_getElem? fun i => ?_
    rw [List.getElem?_drop, List.getElem?_take]
    by_cases c : i < cntP P T - part
    · rw [if_pos c, Nat.add_comm part i, at_ _ (by omega), at_ i (by omega), h i (by omega)]
    · rw [if_neg c]
      exact List.getElem?_eq_none (by rw [gapsI_len]; omega)
end
end Ct
/-! what is asked in a while, and more -/
namespace Ct
open PySem PySem.Spec PyProof.Rows L2
def MoE (t : TE) : Prop := ∀ σ H Q Q', (∀ v H1, Q v H1 → Q' v H1) → t σ H Q → t σ H Q'
def MoT (t : TT) : Prop := ∀ σ H Q Q', (∀ v H1, Q v H1 → Q' v H1) → t σ H Q → t σ H Q'
def MoO (t : TO) : Prop := ∀ σ H Q Q', (∀ v H1, Q v H1 → Q' v H1) → t σ H Q → t σ H Q'
def MoR (r : R2) : Prop := ∀ x y H Q Q', (∀ v H1, Q v H1 → Q' v H1) → r x y H Q → r x y H Q'
theorem mo_var {i : Nat} : MoE (tVar i) := fun _ _ _ _ h ⟨v, e, q⟩ => ⟨v, e, h _ _ q⟩
theorem mo_c {v : V} : MoE (tC v) := fun _ _ _ _ h q => h _ _ q
theorem mo_op {r : R2} {ta tb : TE} (hr : MoR r) (ha : MoE ta) (hb : MoE tb) : MoE (tOp r ta tb) := fun σ H Q Q' h q => ha _ _ _ _ (fun x H1 z => hb _ _ _ _ (fun y H2 z2 => hr _ _ _ _ _ h z2) z) q
theorem mo_test {t : TE} (h : MoE t) : MoT (tTest t) := fun _ _ _ _ hq q => h _ _ _ _ (fun _ _ ⟨k, e, z⟩ => ⟨k, e, hq _ _ z⟩) q
theorem mo_or {t u : TT} (ht : MoT t) (hu : MoT u) : MoT (tOr t u) := fun _ _ _ _ hq q => ht _ _ _ _ (fun c H1 z => by
  cases c with
  | true => exact hq _ _ z
  | false => exact hu _ _ _ _ hq z) q
theorem mo_and {t u : TT} (ht : MoT t) (hu : MoT u) : MoT (tAnd t u) := fun _ _ _ _ hq q => ht _ _ _ _ (fun c H1 z => by
  cases c with
  | true => exact hu _ _ _ _ hq z
  | false => exact hq _ _ z) q
theorem mo_none : MoO tNoPart := fun _ _ _ _ h q => h _ _ q
theorem mo_part {t : TE} (h : MoE t) : MoO (tPart t) := fun _ _ _ _ hq q => h _ _ _ _ (fun _ _ ⟨i, e, z⟩ => ⟨i, e, hq _ _ z⟩) q
theorem mo_slL {K : PySem.W.Frag} {te : TE} {tl th : TO} (h : MoE te) (h1 : MoO tl) (h2 : MoO th) : MoE (tSl (rSlL K) te tl th) := fun σ H Q Q' hq q => h _ _ _ _ (fun x H1 z => h1 _ _ _ _ (fun l H2 z2 => h2 _ _ _ _ (fun u H3 ⟨a, xs, e, hx, z3⟩ => ⟨a, xs, e, hx, fun p np => hq _ _ (z3 p np)⟩) z2) z) q
theorem mo_rI {C : Int → Int → Prop} {g : Int → Int → V} : MoR (rI C g) := fun _ _ _ _ _ h ⟨i, j, a, b, c, q⟩ => ⟨i, j, a, b, c, h _ _ q⟩
theorem mo_rI0 {g : Int → Int → V} : MoR (rI0 g) := fun _ _ _ _ _ h ⟨i, j, a, b, q⟩ => ⟨i, j, a, b, h _ _ q⟩
theorem mo_rNe : MoR rNe := fun _ _ _ _ _ h ⟨a, q⟩ => ⟨a, h _ _ q⟩
theorem mo_rEq : MoR rEq := fun _ _ _ _ _ h ⟨a, q⟩ => ⟨a, h _ _ q⟩
theorem mo_rNeD {K : PySem.W.Frag} : MoR (rNeD K) := fun _ _ _ _ _ h ⟨d, e, a, b, c, f, q⟩ => ⟨d, e, a, b, c, f, h _ _ q⟩
theorem mo_rEqD {K : PySem.W.Frag} : MoR (rEqD K) := fun _ _ _ _ _ h ⟨d, e, a, b, c, f, q⟩ => ⟨d, e, a, b, c, f, h _ _ q⟩
theorem fb_rangeC {σ : L2.St} {H : Hp} {D : Ends} {lo c : Int} {n : Nat} {g : TG} {tb : TS} (Pv : Nat → L2.St → Hp → Prop) (h0 : Pv 0 σ H)
    (hs : ∀ i σ H, i < n → Pv i σ H → g (.int (lo + (i : Nat) * c)) σ H fun σ2 H2 => tb { D with nx := Pv (i + 1), ct := Pv (i + 1), bk := D.nx } σ2 H2) (hd : ∀ σ H, Pv n σ H → D.nx σ H) : FB (Itc lo c n) g tb D σ H := for_rangeC Pv h0 hs hd
theorem rgC_step {lo come z : Int} (l0 : 0 ≤ lo) (l1 : lo < 2 ^ 30) (c0 : 0 ≤ come) (c1 : come < 2 ^ 30) (z1 : 1 ≤ z) (z2 : z < 2 ^ 30) : RgC lo come z (stepN lo come z) := by
  have sz : 0 ≤ Builtin.Range.rangeSize lo come z ∧ Builtin.Range.rangeSize lo come z ≤ 2 ^ 30 := by
    unfold Builtin.Range.rangeSize
    rw [if_pos (by omega)]
    by_cases h : lo < come
    · rw [if_pos h]
      have := Int.ediv_le_self z (show 0 ≤ come - lo - 1 by omega)
      have := Int.ediv_nonneg (show 0 ≤ come - lo - 1 by omega) (show 0 ≤ z by omega)
      omega
    · rw [if_neg h]; decide
  refine ⟨by omega, by omega, ?_, ?_⟩
  · unfold Builtin.Range.small
    simp only [Builtin.Range.rangeFitsLong, Bool.and_eq_true, Bool.or_eq_true, decide_eq_true_eq, beq_iff_eq]
    refine ⟨by omega, .inr ?_⟩
    rw [if_pos (by omega), Bool.and_eq_true, decide_eq_true_eq, decide_eq_true_eq]
    omega
  · unfold Builtin.Range.rangeSize stepN
    rw [if_pos (by omega)]
    by_cases h : lo < come
    · rw [if_pos h, if_pos h]
      have := Int.ediv_nonneg (show 0 ≤ come - lo - 1 by omega) (show 0 ≤ z by omega)
      omega
    · rw [if_neg h, if_neg h]
      rfl
theorem w_RG3 {H : Hp} {R : It → Hp → Prop} {lo come z : Int} (l0 : 0 ≤ lo) (l1 : lo < 2 ^ 30) (c0 : 0 ≤ come) (c1 : come < 2 ^ 30) (z1 : 1 ≤ z) (z2 : z < 2 ^ 30) (q : R (Itc lo z (stepN lo come z)) H) : RG3 [.int lo, .int come, .int z] H R := ⟨lo, come, z, _, rfl, rgC_step l0 l1 c0 c1 z1 z2, q⟩
theorem time_split {P : Nat → Bool} {T : Nat} (k : Nat) (m1 : 1 ≤ cntP P T) : timeP P T k = k / cntP P T * T + timeP P T (k % cntP P T) := by
  have h := Nat.mod_lt k m1
  unfold timeP
  rw [Nat.div_eq_of_lt h, Nat.mod_eq_of_lt h, Nat.zero_mul, Nat.zero_add]
theorem ints_snoc (a b : List Nat) (t : Nat) : ((a ++ (b ++ [t])).map fun n : Nat => (n : Int)).map V.int = ((a ++ b).map fun n : Nat => (n : Int)).map V.int ++ [V.int (t : Int)] := by
  rw [← List.append_assoc, List.map_append, List.map_append]
  rfl
/-- no wheel's turn grows great -/
def FitW : List Part → List Int → (Nat → Bool) → Int → Prop
  | .wheel z ms :: ps, x :: xs, P, b => (∀ n, 1 ≤ n → P n = false) ∨ b * z ≤ 1000000 ∧ FitW ps xs (behP P z x ms) (b * z)
  | _, _, _, _ => True
def allP : Nat → Bool := fun _ => true
theorem ring_all : RingP allP 1 ∧ btsI allP 1 = [1] := ⟨⟨⟨Nat.le_refl _, fun _ _ => rfl⟩, fun _ h => h.1⟩, rfl⟩
theorem beh_none {P : Nat → Bool} {z x : Int} {ms : List Int} (h : ∀ n, 1 ≤ n → P n = false) : ∀ n, 1 ≤ n → behP P z x ms n = false := fun n hn => by unfold behP; rw [h n hn]; rfl
theorem fit_of : ∀ (ps : List Part) (xs : List Int) (P : Nat → Bool) (b : Int), (∀ p ∈ ps, p.ok) → 0 ≤ b → b * stands ps ≤ 1000000 → FitW ps xs P b
  | [], _, _, _, _, _, _ => by unfold FitW; trivial
  | .click :: _, _, _, _, _, _, _ => by unfold FitW; trivial
  | .rocker :: _, _, _, _, _, _, _ => by unfold FitW; trivial
  | .spring _ :: _, _, _, _, _, _, _ => by unfold FitW; trivial
  | .wheel z ms :: ps, [], _, _, _, _, _ => by unfold FitW; trivial
  | .wheel z ms :: ps, x :: xs, P, b, hok, b0, h => by
    have z1 := (hok _ List.mem_cons_self).pos.1
    have rest := stands_pos ps fun p hp => hok p (List.mem_cons_of_mem _ hp)
    have e : b * z * stands ps ≤ 1000000 := by rw [Int.mul_assoc]; exact h
    have bz : 0 ≤ b * z := Int.mul_nonneg b0 (show 0 ≤ z from Int.le_trans (by decide) z1)
    refine .inr ⟨?_, fit_of ps xs _ _ (fun p hp => hok p (List.mem_cons_of_mem _ hp)) bz e⟩
    have := Int.mul_le_mul_of_nonneg_left (show 1 ≤ stands ps from rest) bz
    omega
theorem standN_zero : ∀ {ps : List Part} {xs : List Int} (P : Nat → Bool), StandL ps xs → standN ps xs P 0 = xs
  | [], [], _, _ => rfl
  | .click :: _, _ :: _, _, _ => rfl
  | .rocker :: _, _ :: _, _, _ => rfl
  | .spring _ :: _, _ :: _, _, _ => rfl
  | .wheel z ms :: ps, x :: xs, P, ⟨_, h0, h1, h⟩ => by
    show (x + ((cntP P 0 : Nat) : Int)) % z :: standN ps xs (behP P z x ms) 0 = _
    rw [standN_zero (ps := ps) (xs := xs) _ h, show cntP P 0 = 0 from rfl]
    show (x + 0) % z :: xs = _
    rw [Int.add_zero, Int.emod_eq_of_lt h0 (show x < z from h1)]
theorem standN_stand (n : Nat) : ∀ {ps : List Part} {xs : List Int} (P : Nat → Bool), (∀ p ∈ ps, ∃ z ms, p = .wheel z ms) → StandL ps xs → StandL ps (standN ps xs P n)
  | [], [], _, _, _ => trivial
  | p :: ps, x :: xs, P, hw, ⟨ok, h0, h1, h⟩ => by
    obtain ⟨z, ms, rfl⟩ := hw p List.mem_cons_self
    have z1 := ok.1
    exact ⟨ok, Int.emod_nonneg _ (by omega), Int.emod_lt_of_pos _ (by omega), standN_stand n (ps := ps) (xs := xs) _ (fun q hq => hw q (List.mem_cons_of_mem _ hq)) h⟩
theorem run_wheels {ps : List Part} {xs : List Int} (hw : ∀ p ∈ ps, ∃ z ms, p = .wheel z ms) (sx : StandL ps xs) (n : Nat) : Ct.run ps (standN ps xs allP n) 0 1 = (standN ps xs allP (n + 1), oneB (lastP ps xs allP (n + 1))) := by
  rw [run_gen (standN_stand n allP hw sx).len (Nat.zero_le _)]
  have e := gen_wheels (n := n) ps xs allP hw sx.len
  exact e
theorem last_per : ∀ {ps : List Part} {xs : List Int} {P : Nat → Bool} {T : Nat}, (∀ p ∈ ps, ∃ z ms, p = .wheel z ms) → StandL ps xs → PerP P T → PerP (lastP ps xs P) ((stands ps).toNat * T)
  | [], [], _, T, _, _, g => by
    show PerP _ (1 * T)
    rw [Nat.one_mul]
    exact g
  | p :: ps, x :: xs, P, T, hw, ⟨ok, h0, h1, h⟩, g => by
    obtain ⟨z, ms, rfl⟩ := hw p List.mem_cons_self
    have z1 : 1 ≤ z := ok.1
    have rest := stands_pos ps h.okp
    have b : PerP (behP P z x ms) (z.toNat * T) := beh_per g (by omega) (by rw [Int.natCast_mul, Int.toNat_of_nonneg (by omega), Int.mul_emod_right])
    have ih := last_per (ps := ps) (xs := xs) (fun q hq => hw q (List.mem_cons_of_mem _ hq)) h b
    have e : (stands (.wheel z ms :: ps)).toNat * T = (stands ps).toNat * (z.toNat * T) := by
      show (z * stands ps).toNat * T = _
      rw [Int.toNat_mul (by omega) (by omega), Nat.mul_comm z.toNat, Nat.mul_assoc]
    rw [e]
    exact ih
def shownI (P : Nat → Bool) (n : Nat) : List Int := (List.range n).map fun j => oneB (P (j + 1))
theorem shownI_len {P : Nat → Bool} {n : Nat} : (shownI P n).length = n := by unfold shownI; rw [List.length_map, List.length_range]
theorem shownI_at {P : Nat → Bool} {n i : Nat} (h : i < n) : (shownI P n)[i]? = some (oneB (P (i + 1))) := by
  unfold shownI
  rw [List.getElem?_map, List.getElem?_range h]
  rfl
theorem oneB_inj {a b : Bool} (h : oneB a = oneB b) : a = b := by
  cases a <;> cases b <;> first | rfl | exact absurd h (by decide)
theorem shown_iff {P : Nat → Bool} {n t : Nat} (ht : t ≤ n) : (shownI P n).drop t = (shownI P n).take (n - t) ↔ ∀ j, j + t < n → P (j + t + 1) = P (j + 1) := by
  constructor
  · intro h j hj
    have e := congrArg (fun l => l[j]?) h
    rw [List.getElem?_drop, List.getElem?_take, if_pos (by omega), shownI_at (by omega), shownI_at (by omega), Nat.add_comm t j] at e
    exact oneB_inj (Option.some.inj e)
  · intro h
    refine List.ext_getElem? fun i => ?_
    rw [List.getElem?_drop, List.getElem?_take]
    by_cases c : i < n - t
    · rw [if_pos c, Nat.add_comm t i, shownI_at (by omega), shownI_at (by omega), h i (by omega)]
    · rw [if_neg c]
      exact List.getElem?_eq_none (by rw [shownI_len]; omega)
theorem rise_fewL {ms : List Int} {z : Int} (h : Rise z ms) (hz : 0 ≤ z) : ms.length ≤ z.toNat := by
  have main : ∀ (l : List Int) (a : Int), l.Pairwise (· < ·) → (∀ m ∈ l, a ≤ m ∧ m < z) → l.length ≤ (z - a).toNat := fun l => by
    induction l with
    | nil => intro _ _ _; exact Nat.zero_le _
    | cons m r ih =>
      intro a p hm
      obtain ⟨p1, p2⟩ := List.pairwise_cons.mp p
      have h0 := hm m List.mem_cons_self
      have := ih (m + 1) p2 fun x hx => ⟨p1 x hx, (hm x (List.mem_cons_of_mem _ hx)).2⟩
      show r.length + 1 ≤ _
      omega
  have := main ms 0 h.1 h.2
  omega
theorem rise_dblL {z : Int} {ms : List Int} (h : Rise z ms) : Rise (2 * z) (ms ++ ms.map (· + z)) := by
  refine ⟨List.pairwise_append.mpr ⟨h.1, List.pairwise_map.mpr (h.1.imp fun {a b} h => by omega), fun x hx y hy => ?_⟩, fun m hm => ?_⟩
  · obtain ⟨m, hm, rfl⟩ := List.mem_map.mp hy
    have := h.2 x hx
    have := h.2 m hm
    omega
  · rcases List.mem_append.mp hm with hm | hm
    · have := h.2 m hm
      omega
    · obtain ⟨k, hk, rfl⟩ := List.mem_map.mp hm
      have := h.2 k hk
      omega
theorem w_slT0 {K : PySem.W.Frag} {H : Hp} {Q : VK} {a : Addr} {xs : List V} (h : SqT K H a xs) (q : ∀ p H', Same H H' → SqT K H' p [] → Q (.ref p) H') : rSlA K (.ref a) none (some 0) H Q := by
  have e : cutV xs none (some 0) = [] := by
    unfold cutV
    rw [HT.sIx_none, show HT.sIx xs.length xs.length (some 0) = 0 by unfold HT.sIx; simp]
    rfl
  refine ⟨a, xs, rfl, h, fun z => q a H (Same.refl H) ?_, fun _ p np => q p _ (same_upd np) (by rw [← e]; exact .of upd_same)⟩
  have e2 : cutV xs none (some 0) = xs := by
    unfold cutV
    rw [z.1, z.2, List.drop_zero, Nat.sub_zero, List.take_length]
  rw [← e, e2]
  exact h
theorem standL_appL : ∀ {ps qs : List Part} {xs ys : List Int}, StandL ps xs → StandL qs ys → StandL (ps ++ qs) (xs ++ ys)
  | [], _, [], _, _, h => h
  | _ :: ps, qs, _ :: xs, ys, ⟨a, b, c, h⟩, g => ⟨a, b, c, standL_appL (ps := ps) (xs := xs) h g⟩
theorem stands_appL : ∀ (ps qs : List Part), stands (ps ++ qs) = stands ps * stands qs
  | [], qs => by
    show stands qs = 1 * stands qs
    omega
  | p :: ps, qs => by
    show p.places * stands (ps ++ qs) = p.places * stands ps * stands qs
    rw [stands_appL ps qs, Int.mul_assoc]
theorem still_beh (P : Nat → Bool) (z x : Int) : ∀ n, 1 ≤ n → behP P z x [] n = false := fun n _ => by
  unfold behP
  rw [decide_eq_false (List.not_mem_nil), Bool.and_false]
theorem last_none : ∀ (ps : List Part) (xs : List Int) (P : Nat → Bool), (∀ n, 1 ≤ n → P n = false) → ∀ n, 1 ≤ n → lastP ps xs P n = false
  | .wheel z ms :: ps, x :: xs, P, h => last_none ps xs (behP P z x ms) (beh_none h)
  | .click :: _, _, _, h => h
  | .rocker :: _, _, _, h => h
  | .spring _ :: _, _, _, h => h
  | .wheel _ _ :: _, [], _, h => h
  | [], _, _, h => h
theorem fit_none : ∀ (ps : List Part) (xs : List Int) (P : Nat → Bool) (b : Int), (∀ n, 1 ≤ n → P n = false) → FitW ps xs P b
  | .wheel z ms :: ps, x :: xs, P, b, h => .inl h
  | .click :: _, _, _, _, _ => by unfold FitW; trivial
  | .rocker :: _, _, _, _, _ => by unfold FitW; trivial
  | .spring _ :: _, _, _, _, _ => by unfold FitW; trivial
  | .wheel _ _ :: _, [], _, _, _ => by unfold FitW; trivial
  | [], _, _, _, _ => by unfold FitW; trivial
theorem still_last (rest : List Part) (ys : List Int) : ∀ (ps : List Part) (xs : List Int) (P : Nat → Bool), (∀ p ∈ ps, ∃ z ms, p = .wheel z ms) → xs.length = ps.length → ∀ n, 1 ≤ n → lastP (ps ++ .wheel 1 [] :: rest) (xs ++ 0 :: ys) P n = false
  | [], [], P, _, _ => last_none rest ys _ (still_beh P 1 0)
  | p :: ps, x :: xs, P, hw, hl => by
    obtain ⟨z, ms, rfl⟩ := hw p List.mem_cons_self
    exact still_last rest ys ps xs (behP P z x ms) (fun q hq => hw q (List.mem_cons_of_mem _ hq)) (Nat.succ.inj hl)
theorem still_fit (rest : List Part) (ys : List Int) : ∀ (ps : List Part) (xs : List Int) (P : Nat → Bool) (b : Int), (∀ p ∈ ps, ∃ z ms, p = .wheel z ms) → (∀ p ∈ ps, p.ok) → xs.length = ps.length → 0 ≤ b → b * stands ps ≤ 1000000 → FitW (ps ++ .wheel 1 [] :: rest) (xs ++ 0 :: ys) P b
  | [], [], P, b, _, _, _, _, h => by
    have h2 : b * 1 ≤ 1000000 := h
    exact .inr ⟨h2, fit_none rest ys _ _ (still_beh P 1 0)⟩
  | p :: ps, x :: xs, P, b, hw, hok, hl, b0, h => by
    obtain ⟨z, ms, rfl⟩ := hw p List.mem_cons_self
    have z1 := (hok _ List.mem_cons_self).pos.1
    have rest1 := stands_pos ps fun p hp => hok p (List.mem_cons_of_mem _ hp)
    have e : b * z * stands ps ≤ 1000000 := by rw [Int.mul_assoc]; exact h
    have bz : 0 ≤ b * z := Int.mul_nonneg b0 (show 0 ≤ z from Int.le_trans (by decide) z1)
    refine .inr ⟨?_, still_fit rest ys ps xs _ _ (fun q hq => hw q (List.mem_cons_of_mem _ hq)) (fun p hp => hok p (List.mem_cons_of_mem _ hp)) (Nat.succ.inj hl) bz e⟩
    have := Int.mul_le_mul_of_nonneg_left (show 1 ≤ stands ps from rest1) bz
    omega
theorem none_wheel {P : Nat → Bool} {S : Nat} (h : ∀ n, 1 ≤ n → P n = false) (R : RingP P S) : S = 1 ∧ mksP P S = [] := by
  have e := ring_uniq R (ring_none h).1
  subst e
  refine ⟨rfl, ?_⟩
  show List.filter _ [0] = []
  rw [List.filter_cons_of_neg (by rw [h (0 + 1) (by decide)]; decide)]
  rfl
theorem w_eqSameL {K : PySem.W.Frag} {H : Hp} {Q : VK} {x y : V} (d : PyData) {n : Nat} (hx : Dp K H x d) (hy : Dp K H y d) (h : d.canLay0 = true ∧ d.depth ≤ n) (e : n ≤ 64) (q : Q (.bl true) H) : rEqD K x y H Q :=
  ⟨d, d, hx, hy, shaped_of h e, shaped_of h e, by rw [SeqAt.eqv_refl d h.1]; exact q⟩
def stillD : PyData := .tuple [.str "wheel", .int 1, .tuple []]
theorem still_lay : stillD.canLay0 = true ∧ stillD.depth ≤ 4 := by decide +kernel
/-! how many marks are told -/
theorem mks_len {P : Nat → Bool} {S : Nat} (g : PerP P S) : (mksP P S).length = cntP P S := by
  have pm := List.mergeSort_perm ((bts P S).map fun n : Nat => (n : Int) % (S : Int)) (fun a b => decide (a ≤ b))
  have so : (((bts P S).map fun n : Nat => (n : Int) % (S : Int)).mergeSort (fun a b => decide (a ≤ b))).Pairwise (· ≤ ·) := (List.pairwise_mergeSort (le := fun (a b : Int) => decide (a ≤ b)) (fun a b c h1 h2 => by
    have h1' := of_decide_eq_true h1
    have h2' := of_decide_eq_true h2
    exact decide_eq_true (by omega)) (fun a b => by
    by_cases h : a ≤ b
    · rw [decide_eq_true h]; rfl
    · rw [decide_eq_true (show b ≤ a by omega), Bool.or_true]) _).imp fun h => of_decide_eq_true h
  have e := congrArg List.length (mks_sorted g pm so)
  rw [pm.length_eq, List.length_map, List.length_map, bts_len] at e
  exact e.symm
theorem beh_cnt (P : Nat → Bool) (z x : Int) (ms : List Int) : ∀ n, cntP (behP P z x ms) n ≤ cntP P n
  | 0 => Nat.le_refl _
  | n + 1 => by
    have ih := beh_cnt P z x ms n
    show cntP (behP P z x ms) n + (if behP P z x ms (n + 1) = true then 1 else 0) ≤ cntP P n + (if P (n + 1) = true then 1 else 0)
    cases h : P (n + 1) with
    | true =>
      rw [if_pos rfl]
      split <;> omega
    | false =>
      have : behP P z x ms (n + 1) = false := by unfold behP; rw [h]; rfl
      rw [this]
      simp
      exact ih
theorem last_cnt (n : Nat) : ∀ (ps : List Part) (xs : List Int) (P : Nat → Bool), cntP (lastP ps xs P) n ≤ cntP P n
  | .wheel z ms :: ps, x :: xs, P => Nat.le_trans (last_cnt n ps xs (behP P z x ms)) (beh_cnt P z x ms n)
  | .click :: _, _, _ => Nat.le_refl _
  | .rocker :: _, _, _ => Nat.le_refl _
  | .spring _ :: _, _, _ => Nat.le_refl _
  | .wheel _ _ :: _, [], _ => Nat.le_refl _
  | [], _, _ => Nat.le_refl _
theorem flat_one {f : Int → List Nat} : ∀ (ms : List Int), (∀ m ∈ ms, (f m).length ≤ 1) → (ms.flatMap f).length ≤ ms.length
  | [], _ => Nat.le_refl _
  | m :: ms, h => by
    rw [List.flatMap_cons, List.length_append, List.length_cons]
    have a := h m List.mem_cons_self
    have b := flat_one ms fun k hk => h k (List.mem_cons_of_mem _ hk)
    omega
theorem first_cnt {z x : Int} {ms : List Int} (ok : (Part.wheel z ms).ok) : cntP (behP allP z x ms) z.toNat ≤ ms.length := by
  have z1 := ok.1
  have g : PerP allP 1 := ring_all.1.1
  have m1 : 1 ≤ cntP allP 1 := Nat.le_refl _
  have fm : ∀ n, n ∈ ms.flatMap (hitP allP 1 z x ((z.toNat * cntP allP 1 : Nat) : Int)) ↔ n ∈ bts (behP allP z x ms) (z.toNat * 1) := fun n => found_mem g m1 z1 ok.2.2.1.2
  have nd := found_nodup (x := x) g m1 z1 ok.2.2.1.2 ok.2.2.1.1 ((z.toNat * cntP allP 1 : Nat) : Int)
  have e := ((List.perm_ext_iff_of_nodup nd ((bts_up (behP allP z x ms) (z.toNat * 1)).imp fun h => Nat.ne_of_lt h)).mpr fm).length_eq
  rw [bts_len, Nat.mul_one] at e
  rw [← e]
  refine flat_one ms fun m hm => ?_
  unfold hitP stepN
  rw [List.length_map, List.length_range, show cntP allP 1 = 1 from rfl, Nat.mul_one]
  have l0 : 0 ≤ loP z x m := Int.emod_nonneg _ (by omega)
  split
  · have : ((z.toNat : Int) - loP z x m - 1) / z = 0 := Int.ediv_eq_zero_of_lt (by omega) (by omega)
    rw [this]
    decide
  · omega
theorem marks_few {z x : Int} {ms : List Int} {ps : List Part} {xs : List Int} {S : Nat} (st : StandL (.wheel z ms :: ps) (x :: xs)) (R : RingP (lastP (.wheel z ms :: ps) (x :: xs) allP) S) (le : (S : Int) ≤ stands (.wheel z ms :: ps)) : (mksP (lastP (.wheel z ms :: ps) (x :: xs) allP) S).length ≤ (stands ps).toNat * ms.length := by
  have ok := st.1
  have z1 := ok.1
  have rest := stands_pos ps st.2.2.2.okp
  rw [mks_len R.1]
  have b : PerP (behP allP z x ms) z.toNat := by
    have := beh_per (P := allP) (T := 1) (z := z) (x := x) (ms := ms) (c := z.toNat) ring_all.1.1 (by omega) (by rw [Int.natCast_mul, Int.toNat_of_nonneg (by omega), Int.mul_emod_right])
    rw [Nat.mul_one] at this
    exact this
  have SM : S ≤ 0 + (stands ps).toNat * z.toNat := by
    have e : (stands (.wheel z ms :: ps)) = z * stands ps := rfl
    have e2 : (((stands ps).toNat * z.toNat : Nat) : Int) = z * stands ps := by
      rw [Int.natCast_mul, Int.toNat_of_nonneg (by omega), Int.toNat_of_nonneg (by omega), Int.mul_comm]
    omega
  refine Nat.le_trans (last_cnt S ps xs (behP allP z x ms)) (Nat.le_trans (cnt_le _ SM) ?_)
  rw [cnt_add b 0, show cntP (behP allP z x ms) 0 = 0 from rfl, Nat.zero_add]
  exact Nat.mul_le_mul_left _ (first_cnt ok)
theorem inV_boolsL : ∀ n : Nat, inV (.bl true) (List.replicate n (.bl false)) = false
  | 0 => rfl
  | n + 1 => by
    rw [List.replicate_succ]
    exact inV_boolsL n
theorem flat_boolsL : ∀ n : Nat, (List.replicate n (V.bl false)).all flatV = true
  | 0 => rfl
  | n + 1 => by rw [List.replicate_succ, List.all_cons, flat_boolsL n]; rfl
theorem w_parL {σ : L2.St} {H : Hp} {D : Ends} {i j : Nat} {ta : TA} (h : ta σ H fun vs H1 => ∃ v w, vs = [v, w] ∧ D.nx ((σ.set i (some v)).set j (some w)) H1) : tPar i j ta D σ H := h
end Ct

local macro_rules | `(tactic| walk_at "ct") => `(tactic| repeat (first
  | with_reducible refine Ct.w_seq ?_ | with_reducible refine Ct.w_gen ?_ | with_reducible refine Ct.w_asg ?_ | with_reducible refine Ct.w_ret ?_ | with_reducible refine Ct.w_ifS ?_ | with_reducible refine Ct.w_drop ?_ | with_reducible refine Ct.w_next ?_
  | with_reducible refine Ct.w_op ?_ | with_reducible refine Ct.w_c ?_ | with_reducible refine Ct.w_chain ?_ | with_reducible refine Ct.w_un ?_ | with_reducible refine Ct.w_test ?_ | with_reducible refine Ct.w_B ?_ | with_reducible refine Ct.w_and ?_ | with_reducible refine Ct.w_or ?_ | with_reducible refine Ct.w_not ?_ | with_reducible refine Ct.w_if ?_
  | with_reducible refine Ct.w_andV ?_ | with_reducible refine Ct.w_orV ?_ | with_reducible refine Ct.w_notV ?_
  | with_reducible refine Ct.w_nil ?_ | with_reducible refine Ct.w_cons ?_ | with_reducible refine Ct.w_cb ?_ | with_reducible refine Ct.w_call ?_ | with_reducible refine Ct.w_tup ?_ | with_reducible refine Ct.w_lst ?_ | with_reducible refine Ct.w_bm ?_
  | with_reducible refine Ct.w_for ?_ | with_reducible refine Ct.w_rng1 ?_ | with_reducible refine Ct.w_rng2 ?_ | with_reducible refine Ct.w_ilist ?_ | with_reducible refine Ct.w_itup ?_ | with_reducible refine Ct.w_im ?_ | with_reducible refine Ct.w_enum ?_ | with_reducible refine Ct.w_irev ?_ | with_reducible refine Ct.w_dcT ?_ | with_reducible refine Ct.w_bm0 ?_ | with_reducible refine Ct.w_dnewT ?_ | with_reducible refine Ct.w_dnotin ?_ | with_reducible refine Ct.w_dget ?_ | with_reducible refine Ct.w_dput ?_ | with_reducible refine Ct.w_lc ?_ | with_reducible refine Ct.w_lc2 ?_ | with_reducible refine Ct.w_star ?_ | with_reducible refine Ct.w_revL ?_ | with_reducible refine Ct.w_yes ?_
  | with_reducible refine Ct.w_gcons ?_ | with_reducible refine Ct.w_gnil ?_ | with_reducible refine Ct.w_gsub ?_ | with_reducible refine Ct.w_sl ?_ | with_reducible refine Ct.w_nopart ?_ | with_reducible refine Ct.w_part ?_
  | with_reducible refine Ct.w_rI0 ?_ | with_reducible refine Ct.w_rU ?_ | with_reducible refine Ct.w_rEqI ?_ | with_reducible refine Ct.w_rNeI ?_ | with_reducible refine Ct.w_ipI ?_ | with_reducible refine Ct.w_bl ?_ | with_reducible refine Ct.w_in ?_ | with_reducible refine Ct.w_break ?_ | with_reducible refine Ct.w_cont ?_ | with_reducible refine Ct.w_nT ?_ | with_reducible refine Ct.w_nF ?_ | with_reducible refine L2.iteT ?_ | with_reducible refine L2.iteF ?_
  | ((with_reducible refine Ct.w_rEqS (b := true) ?ceq ?_); (case ceq => decide +kernel)) | ((with_reducible refine Ct.w_rEqS (b := false) ?ceq ?_); (case ceq => decide +kernel))
  | with_reducible refine Ct.w_var rfl ?_
  | ((with_reducible refine' Ct.w_ixT ?cas ?cix ?_); (case cas => assumption); (case cix => first | exact Ct.at0 | exact Ct.at1 | exact Ct.at2 | exact rfl))
  | ((with_reducible refine' Ct.w_name ?cnm ?_); (case cnm => simp only [L2.wipe, List.map, List.set_cons_zero, List.set_cons_succ]; exact rfl)) ))
local macro_rules | `(tactic| walk_at "cq") => `(tactic| repeat (first
  | with_reducible refine Ct.w_gen ?_ | with_reducible refine Ct.w_asg ?_ | with_reducible refine Ct.w_ret ?_ | with_reducible refine Ct.w_ifS ?_ | with_reducible refine Ct.w_drop ?_ | with_reducible refine Ct.w_next ?_
  | with_reducible refine Ct.w_op ?_ | with_reducible refine Ct.w_c ?_ | with_reducible refine Ct.w_chain ?_ | with_reducible refine Ct.w_un ?_ | with_reducible refine Ct.w_test ?_ | with_reducible refine Ct.w_B ?_ | with_reducible refine Ct.w_and ?_ | with_reducible refine Ct.w_or ?_ | with_reducible refine Ct.w_not ?_ | with_reducible refine Ct.w_if ?_
  | with_reducible refine Ct.w_andV ?_ | with_reducible refine Ct.w_orV ?_ | with_reducible refine Ct.w_notV ?_
  | with_reducible refine Ct.w_nil ?_ | with_reducible refine Ct.w_cons ?_ | with_reducible refine Ct.w_cb ?_ | with_reducible refine Ct.w_call ?_ | with_reducible refine Ct.w_tup ?_ | with_reducible refine Ct.w_lst ?_ | with_reducible refine Ct.w_bm ?_
  | with_reducible refine Ct.w_for ?_ | with_reducible refine Ct.w_rng1 ?_ | with_reducible refine Ct.w_rng2 ?_ | with_reducible refine Ct.w_ilist ?_ | with_reducible refine Ct.w_itup ?_ | with_reducible refine Ct.w_im ?_ | with_reducible refine Ct.w_enum ?_ | with_reducible refine Ct.w_irev ?_ | with_reducible refine Ct.w_dcT ?_ | with_reducible refine Ct.w_bm0 ?_ | with_reducible refine Ct.w_dnewT ?_ | with_reducible refine Ct.w_dnotin ?_ | with_reducible refine Ct.w_dget ?_ | with_reducible refine Ct.w_dput ?_ | with_reducible refine Ct.w_lc ?_ | with_reducible refine Ct.w_lc2 ?_ | with_reducible refine Ct.w_star ?_ | with_reducible refine Ct.w_revL ?_ | with_reducible refine Ct.w_yes ?_
  | with_reducible refine Ct.w_gcons ?_ | with_reducible refine Ct.w_gnil ?_ | with_reducible refine Ct.w_gsub ?_ | with_reducible refine Ct.w_sl ?_ | with_reducible refine Ct.w_nopart ?_ | with_reducible refine Ct.w_part ?_
  | with_reducible refine Ct.w_rI0 ?_ | with_reducible refine Ct.w_rU ?_ | with_reducible refine Ct.w_rEqI ?_ | with_reducible refine Ct.w_rNeI ?_ | with_reducible refine Ct.w_ipI ?_ | with_reducible refine Ct.w_bl ?_ | with_reducible refine Ct.w_in ?_ | with_reducible refine Ct.w_break ?_ | with_reducible refine Ct.w_cont ?_ | with_reducible refine Ct.w_nT ?_ | with_reducible refine Ct.w_nF ?_ | with_reducible refine L2.iteT ?_ | with_reducible refine L2.iteF ?_
  | ((with_reducible refine Ct.w_rEqS (b := true) ?ceq ?_); (case ceq => decide +kernel)) | ((with_reducible refine Ct.w_rEqS (b := false) ?ceq ?_); (case ceq => decide +kernel))
  | with_reducible refine Ct.w_var rfl ?_
  | ((with_reducible refine' Ct.w_ixT ?cas ?cix ?_); (case cas => assumption); (case cix => first | exact Ct.at0 | exact Ct.at1 | exact Ct.at2 | exact rfl))
  | ((with_reducible refine' Ct.w_name ?cnm ?_); (case cnm => simp only [L2.wipe, List.map, List.set_cons_zero, List.set_cons_succ]; exact rfl)) ))

local macro_rules | `(tactic| walk_at "sf") => `(tactic| (first
  | assumption
  | ((refine L2.Same.trans (by assumption) ?_); (walk_at "sf"))))
local macro_rules | `(tactic| walk_at "sb") => `(tactic| (first
  | assumption
  | ((refine L2.Same.trans ?_ (by assumption)); (walk_at "sb"))))
local macro_rules | `(tactic| walk_at "sm") => `(tactic| (first
  | assumption
  | exact L2.Same.refl _
  | (walk_at "sf")
  | (walk_at "sb")))
local macro_rules | `(tactic| walk_at "mv") => `(tactic| (first
  | assumption
  | ((with_reducible refine Ct.mv_get ?_ (by assumption)); (walk_at "sm"))
  | (with_reducible refine L2.SqL.of (by assumption))
  | (with_reducible refine L2.SqT.of (by assumption))
  | ((with_reducible refine Ct.mv_lst ?_ (by assumption)); (walk_at "sm"))
  | ((with_reducible refine Ct.mv_tup ?_ (by assumption)); (walk_at "sm"))
  | ((with_reducible refine Ct.mv_sql ?_ (by assumption)); (walk_at "sm"))
  | ((with_reducible refine Ct.mv_sqt ?_ (by assumption)); (walk_at "sm"))
  | ((with_reducible refine Ct.mv_dp ?_ (by assumption)); (walk_at "sm"))
  | ((with_reducible refine Ct.mv_dpa ?_ (by assumption)); (walk_at "sm"))
  | ((with_reducible refine Ct.mv_train ?_ (by assumption)); (walk_at "sm"))
  | ((with_reducible refine Ct.mv_free ?_ (by assumption)); (walk_at "sm"))
  | ((with_reducible refine Ct.TrS.same (by assumption) ?_); (walk_at "sm"))
  | (refine L2.SqL.of (by assumption))
  | (refine L2.SqT.of (by assumption))
  | ((refine Ct.mv_lst ?_ (by assumption)); (walk_at "sm"))
  | ((refine Ct.mv_tup ?_ (by assumption)); (walk_at "sm"))
  | ((refine Ct.mv_sql ?_ (by assumption)); (walk_at "sm"))
  | ((refine Ct.mv_sqt ?_ (by assumption)); (walk_at "sm"))
  | (walk_at "sm")))

namespace My
open PySem PySem.Spec PyProof.Rows L2 Ct
def topS (i : Nat) : Stmt := PySem.Challenge.pw_clicktrain_k84_wheels_of_rings.main.body.getD i (.Pass ⟨0, 0, 0, 0⟩)
section
variable {P : Program} {w : World} {K : PySem.W.Frag} {mg : Str → Option Value} {base : Heap}
abbrev S_is_whole : Stmt := topS 6
theorem sc_is_whole : FnScope ["thing"] ["thing"] (defScope S_is_whole) := ⟨rfl, rfl, rfl, by decide +kernel, rfl, by decide +kernel, by decide +kernel⟩
def sp_is_whole (K : PySem.W.Frag) : Sp := fun vs H Q _ => ∃ (v : V) (d : PyData), vs = [v] ∧ Dp K H v d ∧ Q (.bl (isW d)) H
theorem ok_is_whole {f : Addr} {fd : FuncData} (F : Fun K "is_whole" "is_whole" S_is_whole f fd) (m_isinstance : mg "isinstance" = none) (m_int : mg "int" = none) (m_bool : mg "bool" = none) :
    FnOk P w K mg base CX0 1 f fd ["thing"] (sp_is_whole K) := by
  refine F.ok sc_is_whole (fun vs H Q E h => ?_) (fun cdv A outer s H vs Q E hr h => ?_)
  ·
    obtain ⟨v, d, rfl, _⟩ := h
    rfl
  ·
    obtain ⟨v, d, rfl, hd, q⟩ := h
    refine ⟨_, (pss_one (ps_ret (pe_and (pe_callB (r := rIsi K) call_isi (by rfl) m_isinstance (by decide +kernel) (pa_cons (pv 0) (pa_cons (pe_bltn (v := .ty "int") (u := .type "int") (by rfl) m_int (by decide +kernel) rfl) pa_nil))) (pe_one (pe_not (pe_callB (r := rIsi K) call_isi (by rfl) m_isinstance (by decide +kernel) (pa_cons (pv 0) (pa_cons (pe_bltn (v := .ty "bool") (u := .type "bool") (by rfl) m_bool (by decide +kernel) rfl) pa_nil)))))))), ?_⟩
    refine w_st (σ' := [some v]) rfl ?_
    walk_at "ct"
    cases hd with
    | non =>
      refine w_isi (b := false) (.base .non) (kit_ty (by decide +kernel)) ?_
      walk_at "ct"
      exact q
    | bl b =>
      refine w_isi (b := true) (.base (.bl b)) (kit_ty (by decide +kernel)) ?_
      walk_at "ct"
      refine w_isi (b := true) (.base (.bl b)) (kit_ty (by decide +kernel)) ?_
      walk_at "ct"
      exact q
    | int i =>
      refine w_isi (b := true) (.base (.int i)) (kit_ty (by decide +kernel)) ?_
      walk_at "ct"
      refine w_isi (b := false) (.base (.int i)) (kit_ty (by decide +kernel)) ?_
      walk_at "ct"
      exact q
    | str x =>
      refine w_isi (b := false) (.base (.str x)) (kit_ty (by decide +kernel)) ?_
      walk_at "ct"
      exact q
    | lst hs ht =>
      refine w_isi (b := false) (tyx_L hs) (kit_ty (by decide +kernel)) ?_
      walk_at "ct"
      exact q
    | tup hs ht =>
      refine w_isi (b := false) (tyx_T hs) (kit_ty (by decide +kernel)) ?_
      walk_at "ct"
      exact q
abbrev S_are_marks : Stmt := topS 7
theorem sc_are_marks : FnScope ["thing", "teeth", "last", "mark"] ["thing", "teeth"] (defScope S_are_marks) := ⟨rfl, rfl, rfl, by decide +kernel, rfl, by decide +kernel, by decide +kernel⟩
def sp_are_marks (K : PySem.W.Frag) : Sp := fun vs H Q _ => ∃ (v : V) (d : PyData) (z : Int), vs = [v, .int z] ∧ Dp K H v d ∧ Q (.bl (areM d z)) H
theorem ok_are_marks {f : Addr} {fd : FuncData} {f_is_whole : Addr} {fd_is_whole : FuncData} (F : Fun K "are_marks" "are_marks" S_are_marks f fd)
    (F_is_whole : Fun K "is_whole" "is_whole" S_is_whole f_is_whole fd_is_whole) (b_is_whole : Binds K fd_is_whole ["thing"] []) (g_is_whole : mg "is_whole" = some (.ref f_is_whole)) (G_is_whole : FnOk P w K mg base CX0 1 f_is_whole fd_is_whole ["thing"] (sp_is_whole K)) (m_isinstance : mg "isinstance" = none) (m_tuple : mg "tuple" = none) :
    FnOk P w K mg base CX0 2 f fd ["thing", "teeth"] (sp_are_marks K) := by
  refine F.ok sc_are_marks (fun vs H Q E h => ?_) (fun cdv A outer s H vs Q E hr h => ?_)
  ·
    obtain ⟨v, d, z, rfl, _⟩ := h
    rfl
  ·
    obtain ⟨v, d, z, rfl, hd, q⟩ := h
    refine ⟨_, (pss_cons (ps_if (pt_not (pt_val (pe_callB (r := rIsi K) call_isi (by rfl) m_isinstance (by decide +kernel) (pa_cons (pv 0) (pa_cons (pe_bltn (v := .ty "tuple") (u := .type "tuple") (by rfl) m_tuple (by decide +kernel) rfl) pa_nil))))) (pss_one (ps_ret pe_bl)) pss_nil)
      (pss_cons (ps_set (i := 2) sc_are_marks.nd rfl (.inl rfl) (pe_un un_neg pe_int))
      (pss_cons (ps_for PassesOwn.never rfl (pi_tup (pv 0)) (pg_name (i := 3) sc_are_marks.nd rfl (.inl rfl))
      (pss_cons (ps_if (PW.pt (pw_or (pt_not (pt_val (pe_call G_is_whole (hr.mono (by decide)) (by rfl) g_is_whole F_is_whole.kp b_is_whole .nil pass0 (pa_cons (pv 3) pa_nil)))) (pw_or (pt_cmpR op_le (pv 3) (pv 2) (nomark _)) (pw_or1 (pt_cmpR op_ge (pv 3) (pv 1) (nomark _)))))) (pss_one (ps_ret pe_bl)) pss_nil)
      (pss_one (ps_set (i := 2) sc_are_marks.nd rfl (.inl rfl) (pv 3)))))
      (pss_one (ps_ret pe_bl))))), ?_⟩
    refine w_st (σ' := [some v, some (.int z), none, none]) rfl ?_
    walk_at "ct"
    cases hd with
    | non =>
      refine w_isi (b := false) (.base .non) (kit_ty (by decide +kernel)) ?_
      walk_at "ct"
      exact q
    | bl b =>
      refine w_isi (b := false) (.base (.bl b)) (kit_ty (by decide +kernel)) ?_
      walk_at "ct"
      exact q
    | int i =>
      refine w_isi (b := false) (.base (.int i)) (kit_ty (by decide +kernel)) ?_
      walk_at "ct"
      exact q
    | str x =>
      refine w_isi (b := false) (.base (.str x)) (kit_ty (by decide +kernel)) ?_
      walk_at "ct"
      exact q
    | lst hs ht =>
      refine w_isi (b := false) (tyx_L hs) (kit_ty (by decide +kernel)) ?_
      walk_at "ct"
      exact q
    | @tup a xs ds hs ht =>
      refine w_isi (b := true) (tyx_T hs) (kit_ty (by decide +kernel)) ?_
      walk_at "ct"
      refine w_IT hs ?_
      have hxl := dpAll_len ht
      refine fb_tup xs (fun n σ H' => ∃ (last : Int) (y : Option V), σ = [some (.ref a), some (.int z), some (.int last), y] ∧ H' = H ∧ risesD (-1) z ds = risesD last z (ds.drop n)) ⟨-1, none, rfl, rfl, rfl⟩ ?_ ?_ ?_
      · rintro n σ H' hn ⟨last, y, rfl, rfl, _⟩
        exact hs
      · rintro n x σ H' hx ⟨last, y, rfl, rfl, hr⟩
        have hn : n < xs.length := (List.getElem?_eq_some_iff.mp hx).1
        obtain ⟨e, he⟩ : ∃ e, ds[n]? = some e := ⟨_, List.getElem?_eq_getElem (by omega)⟩
        obtain ⟨x', hx', hde⟩ := dpAll_get ht he
        cases Option.some.inj (hx.symm.trans hx')
        have hdr : ds.drop n = e :: ds.drop (n + 1) := by
          rw [List.drop_eq_getElem_cons (by omega)]
          congr 1
          rw [List.getElem?_eq_getElem (by omega)] at he
          exact Option.some.inj he
        rw [hdr] at hr
        have hq : risesD last z (e :: ds.drop (n + 1)) = false → Q (.bl false) H' := fun z => by
          rw [z] at hr
          rw [show areM (.tuple ds) _ = risesD (-1) _ ds from rfl, hr] at q
          exact q
        walk_at "ct"
        refine ⟨x, e, rfl, hde, ?_⟩
        cases hde with
        | int m =>
          refine w_bl (w_nT ?_)
          walk_at "ct"
          refine w_ite (fun e1 => ?_) (fun e1 => ?_)
          · walk_at "ct"
            exact hq (if_pos (.inl e1))
          · walk_at "ct"
            refine w_ite (fun e2 => ?_) (fun e2 => ?_)
            · walk_at "ct"
              exact hq (if_pos (.inr e2))
            · walk_at "ct"
              exact ⟨m, _, rfl, rfl, hr.trans (if_neg (by omega))⟩
        | non =>
          refine w_bl (w_nF ?_)
          walk_at "ct"
          exact hq rfl
        | bl b =>
          refine w_bl (w_nF ?_)
          walk_at "ct"
          exact hq rfl
        | str s =>
          refine w_bl (w_nF ?_)
          walk_at "ct"
          exact hq rfl
        | lst h1 h2 =>
          refine w_bl (w_nF ?_)
          walk_at "ct"
          exact hq rfl
        | tup h1 h2 =>
          refine w_bl (w_nF ?_)
          walk_at "ct"
          exact hq rfl
      · rintro σ H' ⟨last, y, rfl, rfl, hr⟩
        walk_at "ct"
        rw [show areM (.tuple ds) z = risesD (-1) z ds from rfl, hr, List.drop_of_length_le (by omega)] at q
        exact q
abbrev S_is_part : Stmt := topS 8
theorem sc_is_part : FnScope ["thing"] ["thing"] (defScope S_is_part) := ⟨rfl, rfl, rfl, by decide +kernel, rfl, by decide +kernel, by decide +kernel⟩
def sp_is_part (K : PySem.W.Frag) : Sp := fun vs H Q _ => ∃ (v : V) (d : PyData) (n : Nat), vs = [v] ∧ Dp K H v d ∧ d.canLay0 = true ∧ d.depth ≤ n ∧ n ≤ 60 ∧ ∀ H', Same H H' → Q (.bl (isP d)) H'
theorem ok_is_part {f : Addr} {fd : FuncData} {f_is_whole : Addr} {fd_is_whole : FuncData} {f_are_marks : Addr} {fd_are_marks : FuncData} (F : Fun K "is_part" "is_part" S_is_part f fd)
    (F_is_whole : Fun K "is_whole" "is_whole" S_is_whole f_is_whole fd_is_whole) (b_is_whole : Binds K fd_is_whole ["thing"] []) (g_is_whole : mg "is_whole" = some (.ref f_is_whole)) (G_is_whole : FnOk P w K mg base CX0 1 f_is_whole fd_is_whole ["thing"] (sp_is_whole K))
    (F_are_marks : Fun K "are_marks" "are_marks" S_are_marks f_are_marks fd_are_marks) (b_are_marks : Binds K fd_are_marks ["thing", "teeth"] []) (g_are_marks : mg "are_marks" = some (.ref f_are_marks)) (G_are_marks : FnOk P w K mg base CX0 2 f_are_marks fd_are_marks ["thing", "teeth"] (sp_are_marks K)) (m_isinstance : mg "isinstance" = none) (m_tuple : mg "tuple" = none) (m_len : mg "len" = none) :
    FnOk P w K mg base CX0 3 f fd ["thing"] (sp_is_part K) := by
  refine F.ok sc_is_part (fun vs H Q E h => ?_) (fun cdv A outer s H vs Q E hr h => ?_)
  ·
    obtain ⟨v, d, n, rfl, _⟩ := h
    rfl
  ·
    obtain ⟨v, d, n, rfl, hd, lay, dep, n60, q⟩ := h
    refine ⟨_, (pss_cons (ps_if (PW.pt (pw_or (pt_not (pt_val (pe_callB (r := rIsi K) call_isi (by rfl) m_isinstance (by decide +kernel) (pa_cons (pv 0) (pa_cons (pe_bltn (v := .ty "tuple") (u := .type "tuple") (by rfl) m_tuple (by decide +kernel) rfl) pa_nil))))) (pw_or1 (pt_cmpR op_eq (pe_callB call_len_seq (by rfl) m_len (by decide +kernel) (pa_cons (pv 0) pa_nil)) pe_int (nomark _))))) (pss_one (ps_ret pe_bl)) pss_nil)
      (pss_cons (ps_if (pt_cmpR (r := rEqD K) (op_eqD hr.units) (pe_ix (r := rIxT K) ix_tup (pv 0) pe_int (fun _ _ => rfl)) pe_str (nomark _)) (pss_one (ps_ret (pe_and (pe_cmpR op_eq (pe_callB call_len_seq (by rfl) m_len (by decide +kernel) (pa_cons (pv 0) pa_nil)) pe_int (nomark _)) (pe_and (pe_call G_is_whole (hr.mono (by decide)) (by rfl) g_is_whole F_is_whole.kp b_is_whole .nil pass0 (pa_cons (pe_ix (r := rIxT K) ix_tup (pv 0) pe_int (fun _ _ => rfl)) pa_nil)) (pe_and (pe_cmpR op_ge (pe_ix (r := rIxT K) ix_tup (pv 0) pe_int (fun _ _ => rfl)) pe_int (nomark _)) (pe_one (pe_call G_are_marks (hr.mono (by decide)) (by rfl) g_are_marks F_are_marks.kp b_are_marks .nil pass0 (pa_cons (pe_ix (r := rIxT K) ix_tup (pv 0) pe_int (fun _ _ => rfl)) (pa_cons (pe_ix (r := rIxT K) ix_tup (pv 0) pe_int (fun _ _ => rfl)) pa_nil))))))))) pss_nil)
      (pss_cons (ps_if (pt_cmpR (r := rEqD K) (op_eqD hr.units) (pe_ix (r := rIxT K) ix_tup (pv 0) pe_int (fun _ _ => rfl)) pe_str (nomark _)) (pss_one (ps_ret (pe_and (pe_cmpR op_eq (pe_callB call_len_seq (by rfl) m_len (by decide +kernel) (pa_cons (pv 0) pa_nil)) pe_int (nomark _)) (pe_and (pe_call G_is_whole (hr.mono (by decide)) (by rfl) g_is_whole F_is_whole.kp b_is_whole .nil pass0 (pa_cons (pe_ix (r := rIxT K) ix_tup (pv 0) pe_int (fun _ _ => rfl)) pa_nil)) (pe_one (pe_cmpR op_ge (pe_ix (r := rIxT K) ix_tup (pv 0) pe_int (fun _ _ => rfl)) pe_int (nomark _))))))) pss_nil)
      (pss_one (ps_ret (pe_or (pe_cmpR (r := rEqD K) (op_eqD hr.units) (pv 0) (pe_tup (pa_cons pe_str pa_nil)) (nomark _)) (pe_one (pe_cmpR (r := rEqD K) (op_eqD hr.units) (pv 0) (pe_tup (pa_cons pe_str pa_nil)) (nomark _))))))))), ?_⟩
    refine w_st (σ' := [some v]) rfl ?_
    walk_at "ct"
    cases hd with
    | non =>
      refine w_isi (b := false) (.base .non) (kit_ty (by decide +kernel)) ?_
      walk_at "ct"
      exact q H (Same.refl H)
    | bl b =>
      refine w_isi (b := false) (.base (.bl b)) (kit_ty (by decide +kernel)) ?_
      walk_at "ct"
      exact q H (Same.refl H)
    | int i =>
      refine w_isi (b := false) (.base (.int i)) (kit_ty (by decide +kernel)) ?_
      walk_at "ct"
      exact q H (Same.refl H)
    | str x =>
      refine w_isi (b := false) (.base (.str x)) (kit_ty (by decide +kernel)) ?_
      walk_at "ct"
      exact q H (Same.refl H)
    | lst hs ht =>
      refine w_isi (b := false) (tyx_L hs) (kit_ty (by decide +kernel)) ?_
      walk_at "ct"
      exact q H (Same.refl H)
    | @tup a xs ds hs ht =>
      refine w_isi (b := true) (tyx_T hs) (kit_ty (by decide +kernel)) ?_
      walk_at "ct"
      refine ⟨a, xs, rfl, .inr hs, ?_⟩
      walk_at "ct"
      cases ht with
      | nil =>
        refine w_ite (fun e => ?_) (fun e => absurd rfl e)
        walk_at "ct"
        exact q H (Same.refl H)
      | @cons v0 vs0 d0 ds0 h0 t0 =>
        have hw : SeqAt.shaped (.str "wheel") = true := by decide +kernel
        have hsp : SeqAt.shaped (.str "spring") = true := by decide +kernel
        rw [PyData.canLay0, PyData.canLayAll0, Bool.and_eq_true] at lay
        rw [PyData.depth, PyData.depthAll] at dep
        have sh0 : SeqAt.shaped d0 = true := shaped_of (n := n) ⟨lay.1, by omega⟩ (by omega)
        have hwhole : ∀ H', Same H H' → Dp K H' (.ref a) (.tuple (d0 :: ds0)) := fun H' s => .tup (Same.tup s hs) (.cons (dp_same s h0) (dpAll_same s t0))
        have shw : SeqAt.shaped (.tuple (d0 :: ds0)) = true := shaped_of (n := n) ⟨by rw [PyData.canLay0, PyData.canLayAll0, lay.1, lay.2]; rfl, by rw [PyData.depth, PyData.depthAll]; omega⟩ (by omega)
        refine w_ite (fun e => absurd e (by rw [List.length_cons]; omega)) (fun e => ?_)
        walk_at "ct"
        refine ⟨d0, .str "wheel", h0, .str _, sh0, hw, ?_⟩
        walk_at "ct"
        by_cases e1 : PyData.eqv d0 (.str "wheel") = true
        · rw [if_pos e1]
          have hq : ∀ b : Bool, b = isP (.tuple (d0 :: ds0)) → Q (.bl b) H := fun b hb => by
            rw [hb]
            exact q H (Same.refl H)
          have hP : isP (.tuple (d0 :: ds0)) = wheelT ds0 := by
            simp only [isP, if_pos e1]
          walk_at "ct"
          refine ⟨a, _, rfl, .inr hs, ?_⟩
          walk_at "ct"
          have l0 := dpAll_len t0
          cases t0 with
          | nil =>
            refine w_ite (fun e => absurd e (by show ¬ ((1 : Nat) : Int) = 3; decide)) (fun e => ?_)
            exact hq _ hP.symm
          | @cons v1 vs1 d1 ds1 h1 t1 =>
            cases t1 with
            | nil =>
              refine w_ite (fun e => absurd e (by show ¬ ((2 : Nat) : Int) = 3; decide)) (fun e => ?_)
              exact hq _ (by rw [hP]; cases d1 <;> rfl)
            | @cons v2 vs2 d2 ds2 h2 t2 =>
              cases t2 with
              | nil =>
                refine w_ite (fun e => ?_) (fun e => absurd rfl e)
                walk_at "ct"
                refine ⟨v1, d1, rfl, h1, ?_⟩
                cases h1 with
                | int z =>
                  refine w_bl ?_
                  refine iteT ?_
                  walk_at "ct"
                  refine w_ite (fun e => ?_) (fun e => ?_)
                  · walk_at "ct"
                    refine ⟨v2, d2, z, rfl, h2, ?_⟩
                    exact hq _ (by rw [hP]; show _ = (decide (1 ≤ z) && areM d2 z); rw [decide_eq_true e]; rfl)
                  · exact hq _ (by rw [hP]; show _ = (decide (1 ≤ z) && areM d2 z); rw [decide_eq_false e]; rfl)
                | non => exact w_bl (iteF (hq _ hP.symm))
                | bl b => exact w_bl (iteF (hq _ hP.symm))
                | str s => exact w_bl (iteF (hq _ hP.symm))
                | lst g1 g2 => exact w_bl (iteF (hq _ hP.symm))
                | tup g1 g2 => exact w_bl (iteF (hq _ hP.symm))
              | @cons v3 vs3 d3 ds3 h3 t3 =>
                refine w_ite (fun e => absurd e (by rw [List.length_cons, List.length_cons, List.length_cons, List.length_cons]; omega)) (fun e => ?_)
                exact hq _ (by rw [hP]; cases d1 <;> rfl)
        · rw [if_neg e1]
          walk_at "ct"
          refine ⟨d0, .str "spring", h0, .str _, sh0, hsp, ?_⟩
          walk_at "ct"
          by_cases e2 : PyData.eqv d0 (.str "spring") = true
          · rw [if_pos e2]
            have hq : ∀ b : Bool, b = isP (.tuple (d0 :: ds0)) → Q (.bl b) H := fun b hb => by
              rw [hb]
              exact q H (Same.refl H)
            have hP : isP (.tuple (d0 :: ds0)) = springT ds0 := by
              simp only [isP, if_neg e1, if_pos e2]
            walk_at "ct"
            refine ⟨a, _, rfl, .inr hs, ?_⟩
            walk_at "ct"
            cases t0 with
            | nil =>
              refine w_ite (fun e => absurd e (by show ¬ ((1 : Nat) : Int) = 2; decide)) (fun e => ?_)
              exact hq _ hP.symm
            | @cons v1 vs1 d1 ds1 h1 t1 =>
              cases t1 with
              | nil =>
                refine w_ite (fun e => ?_) (fun e => absurd rfl e)
                walk_at "ct"
                refine ⟨v1, d1, rfl, h1, ?_⟩
                cases h1 with
                | int z =>
                  refine w_bl ?_
                  refine iteT ?_
                  walk_at "ct"
                  exact hq _ hP.symm
                | non => exact w_bl (iteF (hq _ hP.symm))
                | bl b => exact w_bl (iteF (hq _ hP.symm))
                | str s => exact w_bl (iteF (hq _ hP.symm))
                | lst g1 g2 => exact w_bl (iteF (hq _ hP.symm))
                | tup g1 g2 => exact w_bl (iteF (hq _ hP.symm))
              | @cons v2 vs2 d2 ds2 h2 t2 =>
                refine w_ite (fun e => absurd e (by rw [List.length_cons, List.length_cons, List.length_cons]; omega)) (fun e => ?_)
                exact hq _ (by rw [hP]; cases d1 <;> rfl)
          · rw [if_neg e2]
            have hP : isP (.tuple (d0 :: ds0)) = (PyData.eqv (.tuple (d0 :: ds0)) (.tuple [.str "click"]) || PyData.eqv (.tuple (d0 :: ds0)) (.tuple [.str "rocker"])) := by
              simp only [isP, if_neg e1, if_neg e2]
            rw [hP] at q
            walk_at "ct"
            refine ⟨len2 rfl, fun p np => ?_⟩
            have s1 : Same H (upd H p (.tup [.str "click"])) := same_upd np
            refine ⟨.tuple (d0 :: ds0), .tuple [.str "click"], hwhole _ s1, .tup (.of upd_same) (.cons (.str _) .nil), shw, by decide +kernel, ?_⟩
            walk_at "ct"
            by_cases e3 : PyData.eqv (.tuple (d0 :: ds0)) (.tuple [.str "click"]) = true
            · rw [if_pos e3]
              rw [e3] at q
              exact q _ s1
            · rw [if_neg e3]
              rw [Bool.not_eq_true] at e3
              rw [e3] at q
              walk_at "ct"
              refine ⟨len2 rfl, fun p2 np2 => ?_⟩
              have s2 := same_new (o := .tup [.str "rocker"]) s1 (s1.free np2)
              refine ⟨.tuple (d0 :: ds0), .tuple [.str "rocker"], hwhole _ s2, .tup (.of upd_same) (.cons (.str _) .nil), shw, by decide +kernel, ?_⟩
              exact q _ s2
abbrev S_check_train : Stmt := topS 9
theorem sc_check_train : FnScope ["train", "part"] ["train"] (defScope S_check_train) := ⟨rfl, rfl, rfl, by decide +kernel, rfl, by decide +kernel, by decide +kernel⟩
def sp_check_train (K : PySem.W.Frag) : Sp := fun vs H Q _ => ∃ (a : Addr) (ps : List Part), vs = [.ref a] ∧ TrainAt K H a ps ∧ (∀ p ∈ ps, p.ok) ∧ 1 ≤ ps.length ∧ ∀ H', Same H H' → Q .non H'
theorem ok_check_train {f : Addr} {fd : FuncData} {f_is_part : Addr} {fd_is_part : FuncData} (F : Fun K "check_train" "check_train" S_check_train f fd)
    (F_is_part : Fun K "is_part" "is_part" S_is_part f_is_part fd_is_part) (b_is_part : Binds K fd_is_part ["thing"] []) (g_is_part : mg "is_part" = some (.ref f_is_part)) (G_is_part : FnOk P w K mg base CX0 3 f_is_part fd_is_part ["thing"] (sp_is_part K)) (m_isinstance : mg "isinstance" = none) (m_list : mg "list" = none) (m_len : mg "len" = none) :
    FnOk P w K mg base CX0 4 f fd ["train"] (sp_check_train K) := by
  refine F.ok sc_check_train (fun vs H Q E h => ?_) (fun cdv A outer s H vs Q E hr h => ?_)
  ·
    obtain ⟨a, ps, rfl, _⟩ := h
    rfl
  ·
    obtain ⟨a, ps, rfl, ⟨vs, hv, hd⟩, hok, hps, q⟩ := h
    refine ⟨_, (pss_cons (ps_if (PW.pt (pw_or (pt_not (pt_val (pe_callB (r := rIsi K) call_isi (by rfl) m_isinstance (by decide +kernel) (pa_cons (pv 0) (pa_cons (pe_bltn (v := .ty "list") (u := .type "list") (by rfl) m_list (by decide +kernel) rfl) pa_nil))))) (pw_or1 (pt_cmpR op_eq (pe_callB call_len_seq (by rfl) m_len (by decide +kernel) (pa_cons (pv 0) pa_nil)) pe_int (nomark _))))) (pss_one ps_never) pss_nil)
      (pss_one (ps_for PassesOwn.never rfl (pi_list (pv 0)) (pg_name (i := 1) sc_check_train.nd rfl (.inl rfl))
      (pss_one (ps_if (pt_not (pt_val (pe_call G_is_part (hr.mono (by decide)) (by rfl) g_is_part F_is_part.kp b_is_part .nil pass0 (pa_cons (pv 1) pa_nil)))) (pss_one ps_never) pss_nil))))), ?_⟩
    refine w_st (σ' := [some (.ref a), none]) rfl ?_
    have hvl : vs.length = ps.length := by rw [dpAll_len hd, List.length_map]
    walk_at "ct"
    refine w_isi (b := true) (tyx_L hv) (kit_ty (by decide +kernel)) ?_
    walk_at "ct"
    refine ⟨a, vs, rfl, .inl hv, ?_⟩
    walk_at "ct"
    refine w_ite (fun e => absurd e (by omega)) (fun e => ?_)
    walk_at "ct"
    refine w_IL hv ?_
    refine fb_list vs (fun n σ H' => ∃ y, σ = [some (.ref a), y] ∧ Same H H') ⟨none, rfl, Same.refl H⟩ ?_ ?_ ?_
    · rintro n σ H' hn ⟨y, rfl, sm⟩
      exact sm.seq hv
    · rintro n v σ H' hx ⟨y, rfl, sm⟩
      have hn : n < vs.length := (List.getElem?_eq_some_iff.mp hx).1
      obtain ⟨p, hp⟩ : ∃ p, ps[n]? = some p := ⟨_, List.getElem?_eq_getElem (by omega)⟩
      obtain ⟨v', hv1, hd1⟩ := TrainAt.at (a := a) hd hp
      cases Option.some.inj (hx.symm.trans hv1)
      walk_at "ct"
      refine ⟨v, p.data, 2, rfl, dp_same sm hd1, (lay_part p).1, (lay_part p).2, by decide, fun H1 s1 => ?_⟩
      rw [isP_of (hok p (List.mem_of_getElem? hp))]
      walk_at "ct"
      exact ⟨_, rfl, sm.trans s1⟩
    · rintro σ H' ⟨y, rfl, sm⟩
      exact q H' sm
abbrev S_place_count : Stmt := topS 10
theorem sc_place_count : FnScope ["part"] ["part"] (defScope S_place_count) := ⟨rfl, rfl, rfl, by decide +kernel, rfl, by decide +kernel, by decide +kernel⟩
def sp_place_count (K : PySem.W.Frag) : Sp := fun vs H Q _ => ∃ (v : V) (p : Part), vs = [v] ∧ Dp K H v p.data ∧ Q (.int p.places) H
theorem ok_place_count {f : Addr} {fd : FuncData} (F : Fun K "place_count" "place_count" S_place_count f fd) :
    FnOk P w K mg base CX0 1 f fd ["part"] (sp_place_count K) := by
  refine F.ok sc_place_count (fun vs H Q E h => ?_) (fun cdv A outer s H vs Q E hr h => ?_)
  ·
    obtain ⟨v, p, rfl, _⟩ := h
    rfl
  ·
    obtain ⟨v, p, rfl, hp, q⟩ := h
    refine ⟨_, (pss_cons (ps_if (pt_cmpR op_eq (pe_ix (r := rIxT K) ix_tup (pv 0) pe_int (fun _ _ => rfl)) pe_str (nomark _)) (pss_one (ps_ret pe_int)) pss_nil)
      (pss_cons (ps_if (pt_cmpR op_eq (pe_ix (r := rIxT K) ix_tup (pv 0) pe_int (fun _ _ => rfl)) pe_str (nomark _)) (pss_one (ps_ret pe_int)) pss_nil)
      (pss_one (ps_ret (pe_ix (r := rIxT K) ix_tup (pv 0) pe_int (fun _ _ => rfl)))))), ?_⟩
    refine w_st (σ' := [some v]) rfl ?_
    cases p with
    | wheel z ms =>
      obtain ⟨a, b, rfl, ha, hb⟩ := wheel_inv hp
      walk_at "ct"
      exact q
    | click =>
      obtain ⟨a, rfl, ha⟩ := click_inv hp
      walk_at "ct"
      exact q
    | rocker =>
      obtain ⟨a, rfl, ha⟩ := rocker_inv hp
      walk_at "ct"
      exact q
    | spring k =>
      obtain ⟨a, rfl, ha⟩ := spring_inv hp
      walk_at "ct"
      exact q
abbrev S_is_stand : Stmt := topS 11
theorem sc_is_stand : FnScope ["train", "thing", "part", "place"] ["train", "thing"] (defScope S_is_stand) := ⟨rfl, rfl, rfl, by decide +kernel, rfl, by decide +kernel, by decide +kernel⟩
def sp_is_stand (K : PySem.W.Frag) : Sp := fun vs H Q _ => ∃ (a t : Addr) (ps : List Part) (xs : List Int), vs = [.ref a, .ref t] ∧ TrainAt K H a ps ∧ SqT K H t (xs.map V.int) ∧ StandOk ps xs ∧ ∀ H', Same H H' → Q (.bl true) H'
theorem ok_is_stand {f : Addr} {fd : FuncData} {f_place_count : Addr} {fd_place_count : FuncData} {f_is_whole : Addr} {fd_is_whole : FuncData} (F : Fun K "is_stand" "is_stand" S_is_stand f fd)
    (F_place_count : Fun K "place_count" "place_count" S_place_count f_place_count fd_place_count) (b_place_count : Binds K fd_place_count ["part"] []) (g_place_count : mg "place_count" = some (.ref f_place_count)) (G_place_count : FnOk P w K mg base CX0 1 f_place_count fd_place_count ["part"] (sp_place_count K))
    (F_is_whole : Fun K "is_whole" "is_whole" S_is_whole f_is_whole fd_is_whole) (b_is_whole : Binds K fd_is_whole ["thing"] []) (g_is_whole : mg "is_whole" = some (.ref f_is_whole)) (G_is_whole : FnOk P w K mg base CX0 1 f_is_whole fd_is_whole ["thing"] (sp_is_whole K)) (m_zip : mg "zip" = none) (m_isinstance : mg "isinstance" = none) (m_tuple : mg "tuple" = none) (m_len : mg "len" = none) :
    FnOk P w K mg base CX0 2 f fd ["train", "thing"] (sp_is_stand K) := by
  refine F.ok sc_is_stand (fun vs H Q E h => ?_) (fun cdv A outer s H vs Q E hr h => ?_)
  ·
    obtain ⟨a, t, ps, xs, rfl, _⟩ := h
    rfl
  ·
    obtain ⟨a, t, ps, xs, rfl, ⟨vs, hv, hd⟩, hS, hso, q⟩ := h
    have s1 := Same.refl H
    refine ⟨_, (pss_cons (ps_if (PW.pt (pw_or (pt_not (pt_val (pe_callB (r := rIsi K) call_isi (by rfl) m_isinstance (by decide +kernel) (pa_cons (pv 1) (pa_cons (pe_bltn (v := .ty "tuple") (u := .type "tuple") (by rfl) m_tuple (by decide +kernel) rfl) pa_nil))))) (pw_or1 (pt_cmpR op_ne (pe_callB call_len_seq (by rfl) m_len (by decide +kernel) (pa_cons (pv 1) pa_nil)) (pe_callB call_len_seq (by rfl) m_len (by decide +kernel) (pa_cons (pv 0) pa_nil)) (nomark _))))) (pss_one (ps_ret pe_bl)) pss_nil)
      (pss_cons (ps_for PassesOwn.never rfl (pi_zipM (by rfl) m_zip (pa_cons (pv 0) (pa_cons (pv 1) pa_nil))) (pg_tup rfl (pgs_cons (pg_name (i := 2) sc_is_stand.nd rfl (.inl rfl)) (pgs_cons (pg_name (i := 3) sc_is_stand.nd rfl (.inl rfl)) pgs_nil)))
      (pss_one (ps_if (PW.pt (pw_or (pt_not (pt_val (pe_call G_is_whole (hr.mono (by decide)) (by rfl) g_is_whole F_is_whole.kp b_is_whole .nil pass0 (pa_cons (pv 3) pa_nil)))) (pw_or (pt_cmpR op_lt (pv 3) pe_int (nomark _)) (pw_or1 (pt_cmpR op_ge (pv 3) (pe_call G_place_count (hr.mono (by decide)) (by rfl) g_place_count F_place_count.kp b_place_count .nil pass0 (pa_cons (pv 2) pa_nil)) (nomark _)))))) (pss_one (ps_ret pe_bl)) pss_nil)))
      (pss_one (ps_ret pe_bl)))), ?_⟩
    refine w_st (σ' := [some (.ref a), some (.ref t), none, none]) rfl ?_
    have hvl : vs.length = ps.length := by rw [dpAll_len hd, List.length_map]
    have hxl := hso.1
    walk_at "ct"
    refine w_isi (b := true) (tyx_T (Same.tup s1 hS)) (kit_ty (by decide +kernel)) ?_
    walk_at "ct"
    refine ⟨t, _, rfl, .inr (Same.tup s1 hS), ?_⟩
    walk_at "ct"
    refine ⟨a, _, rfl, .inl (s1.seq hv), ?_⟩
    walk_at "ct"
    refine w_iteN (fun e => absurd (by rw [List.length_map, hxl, hvl]) e) (fun e => ?_)
    walk_at "ct"
    refine w_IM (s1.seq hv) (Same.tup s1 hS) ?_
    refine fb_zipM vs (xs.map V.int) (by rw [List.length_map]; omega) (fun n σ H' => ∃ y z, σ = [some (.ref a), some (.ref t), y, z] ∧ Same H H') ⟨none, none, rfl, s1⟩ ?_ ?_ ?_
    · rintro n σ H' hn ⟨y, z, rfl, sm⟩
      exact ⟨sm.seq hv, Same.tup sm hS⟩
    · rintro n v u T σ H' hx hu ⟨y, z, rfl, sm⟩ hT
      have hn : n < vs.length := (List.getElem?_eq_some_iff.mp hx).1
      obtain ⟨p, hp⟩ : ∃ p, ps[n]? = some p := ⟨_, List.getElem?_eq_getElem (by omega)⟩
      obtain ⟨v', hv1, hd1⟩ := TrainAt.at (a := a) hd hp
      cases Option.some.inj (hx.symm.trans hv1)
      obtain ⟨x, hxx⟩ : ∃ x, xs[n]? = some x := ⟨_, List.getElem?_eq_getElem (by omega)⟩
      rw [List.getElem?_map, hxx] at hu
      cases Option.some.inj hu
      have hb := hso.2 n p x hp hxx
      have s2 : Same H (upd H' T (.tup [v, .int x])) := same_new sm (sm.free hT)
      refine w_gtup (.of upd_same) rfl ?_
      walk_at "ct"
      refine ⟨.int x, .int x, rfl, .int x, ?_⟩
      walk_at "ct"
      refine w_nT ?_
      walk_at "ct"
      refine w_ite (fun e => absurd e (by omega)) (fun e => ?_)
      walk_at "ct"
      refine ⟨v, p, rfl, dp_same s2 hd1, ?_⟩
      walk_at "ct"
      refine w_ite (fun e => absurd e (by omega)) (fun e => ?_)
      walk_at "ct"
      exact ⟨_, _, rfl, s2⟩
    · rintro σ H' ⟨y, z, rfl, sm⟩
      walk_at "ct"
      exact q H' sm
abbrev S_check_stand : Stmt := topS 12
theorem sc_check_stand : FnScope ["train", "stand"] ["train", "stand"] (defScope S_check_stand) := ⟨rfl, rfl, rfl, by decide +kernel, rfl, by decide +kernel, by decide +kernel⟩
def sp_check_stand (K : PySem.W.Frag) : Sp := fun vs H Q _ => ∃ (a t : Addr) (ps : List Part) (xs : List Int), vs = [.ref a, .ref t] ∧ TrainAt K H a ps ∧ (∀ p ∈ ps, p.ok) ∧ 1 ≤ ps.length ∧ SqT K H t (xs.map V.int) ∧ StandOk ps xs ∧ ∀ H', Same H H' → Q .non H'
theorem ok_check_stand {f : Addr} {fd : FuncData} {f_is_stand : Addr} {fd_is_stand : FuncData} {f_check_train : Addr} {fd_check_train : FuncData} (F : Fun K "check_stand" "check_stand" S_check_stand f fd)
    (F_is_stand : Fun K "is_stand" "is_stand" S_is_stand f_is_stand fd_is_stand) (b_is_stand : Binds K fd_is_stand ["train", "thing"] []) (g_is_stand : mg "is_stand" = some (.ref f_is_stand)) (G_is_stand : FnOk P w K mg base CX0 2 f_is_stand fd_is_stand ["train", "thing"] (sp_is_stand K))
    (F_check_train : Fun K "check_train" "check_train" S_check_train f_check_train fd_check_train) (b_check_train : Binds K fd_check_train ["train"] []) (g_check_train : mg "check_train" = some (.ref f_check_train)) (G_check_train : FnOk P w K mg base CX0 4 f_check_train fd_check_train ["train"] (sp_check_train K)) :
    FnOk P w K mg base CX0 5 f fd ["train", "stand"] (sp_check_stand K) := by
  refine F.ok sc_check_stand (fun vs H Q E h => ?_) (fun cdv A outer s H vs Q E hr h => ?_)
  ·
    obtain ⟨a, t, ps, xs, rfl, _⟩ := h
    rfl
  ·
    obtain ⟨a, t, ps, xs, rfl, hT, hok, hps, hS, hso, q⟩ := h
    refine ⟨_, (pss_cons (ps_expr (pe_call G_check_train (hr.mono (by decide)) (by rfl) g_check_train F_check_train.kp b_check_train .nil pass0 (pa_cons (pv 0) pa_nil)))
      (pss_one (ps_if (pt_not (pt_val (pe_call G_is_stand (hr.mono (by decide)) (by rfl) g_is_stand F_is_stand.kp b_is_stand .nil pass0 (pa_cons (pv 0) (pa_cons (pv 1) pa_nil))))) (pss_one ps_never) pss_nil))), ?_⟩
    refine w_st (σ' := [some (.ref a), some (.ref t)]) rfl ?_
    walk_at "ct"
    refine ⟨a, ps, rfl, hT, hok, hps, fun H1 s1 => ?_⟩
    walk_at "ct"
    refine ⟨a, t, ps, xs, rfl, hT.same s1, Same.tup s1 hS, hso, fun H2 s2 => ?_⟩
    walk_at "ct"
    exact q H2 (s1.trans s2)
abbrev S_common_multiple : Stmt := topS 14
theorem sc_common_multiple : FnScope ["one", "other", "high", "low"] ["one", "other"] (defScope S_common_multiple) := ⟨rfl, rfl, rfl, by decide +kernel, rfl, by decide +kernel, by decide +kernel⟩
def sp_common_multiple (K : PySem.W.Frag) : Sp := fun vs H Q _ => ∃ (a b : Nat), vs = [.int a, .int b] ∧ 0 < a ∧ 0 < b ∧ a ≤ 2 ^ 30000 ∧ b < 2 ^ 200 ∧ ∀ H', Same H H' → Q (.int (Nat.lcm a b : Nat)) H'
theorem ok_common_multiple {f : Addr} {fd : FuncData} (F : Fun K "common_multiple" "common_multiple" S_common_multiple f fd) :
    FnOk P w K mg base CX0 1 f fd ["one", "other"] (sp_common_multiple K) := by
  refine F.ok sc_common_multiple (fun vs H Q E h => ?_) (fun cdv A outer s H vs Q E hr h => ?_)
  ·
    obtain ⟨a, b, rfl, _⟩ := h
    rfl
  ·
    obtain ⟨a, b, rfl, a0, b0, a1, b1, q⟩ := h
    refine ⟨_, (pss_cons (ps_set (i := 2) sc_common_multiple.nd rfl (.inl rfl) (pv 0))
      (pss_cons (ps_set (i := 3) sc_common_multiple.nd rfl (.inl rfl) (pv 1))
      (pss_cons (ps_while PassesOwn.never (pt_cmpR op_gt (pv 3) pe_int (nomark _)) (pss_one (ps_par (i := 2) (j := 3) (by rfl) sc_common_multiple.nd rfl rfl (by decide) rfl rfl (pa_cons (pv 3) (pa_cons (pe_op op_mod (pv 2) (pv 3)) pa_nil)) (by rfl))))
      (pss_one (ps_ret (pe_op op_mulW (pe_op op_fdivW (pv 0) (pv 2)) (pv 1))))))), ?_⟩
    refine w_st (σ' := [some (.int a), some (.int b), none, none]) rfl ?_
    walk_at "ct"
    refine while_by (fun σ H' => ∃ (x y : Nat), σ = [some (.int a), some (.int b), some (.int x), some (.int y)] ∧ Nat.gcd x y = Nat.gcd a b ∧ Same H H') (fun σ _ => match σ with | [_, _, _, some (.int y)] => y.toNat | _ => 0) ⟨a, b, rfl, rfl, Same.refl H⟩ ?_ ?_
    · rintro σ H' ⟨x, y, rfl, hg, sm⟩
      walk_at "ct"
      refine w_ite (fun e => ?_) (fun e => ?_)
      · walk_at "ct"
        with_reducible refine w_parL ?_
        walk_at "ct"
        have em : (x : Int) % (y : Int) = ((x % y : Nat) : Int) := (Int.natCast_emod x y).symm
        refine w_rIv (.int ((x % y : Nat) : Int)) (by show (0 : Int) < (y : Int); omega) (congrArg V.int em) ?_
        walk_at "ct"
        refine ⟨_, _, rfl, ?_⟩
        have y0 : 0 < y := by omega
        refine ⟨⟨y, x % y, rfl, ?_, sm⟩, ?_⟩
        · rw [← hg, Nat.gcd_comm y, ← Nat.gcd_rec y x, Nat.gcd_comm]
        · show ((x % y : Nat) : Int).toNat < ((y : Nat) : Int).toNat
          rw [Int.toNat_natCast, Int.toNat_natCast]
          exact Nat.mod_lt _ y0
      · have y0 : y = 0 := by omega
        subst y0
        rw [Nat.gcd_zero_right] at hg
        subst hg
        have g0 : 0 < Nat.gcd a b := Nat.gcd_pos_of_pos_left b a0
        have g1 : Nat.gcd a b ≤ b := Nat.gcd_le_right a b0
        walk_at "ct"
        refine w_rI (div_ok (by omega) (by omega)) ?_
        have ed : (a : Int) / ((Nat.gcd a b : Nat) : Int) = ((a / Nat.gcd a b : Nat) : Int) := (Int.natCast_ediv _ _).symm
        rw [ed]
        walk_at "ct"
        have da : a / Nat.gcd a b ≤ a := Nat.div_le_self _ _
        refine w_rI (wide_mul (a := 30001) (b := 201) ?_ ?_ (by decide) (by decide) (by decide)) ?_
        · rw [Int.natAbs_natCast]
          exact Nat.lt_of_le_of_lt (Nat.le_trans da a1) (Nat.pow_lt_pow_right (by decide) (by decide))
        · rw [Int.natAbs_natCast]
          exact Nat.lt_trans b1 (Nat.pow_lt_pow_right (by decide) (by decide))
        have el : ((a / Nat.gcd a b : Nat) : Int) * (b : Int) = ((Nat.lcm a b : Nat) : Int) := by
          rw [← Int.natCast_mul]
          congr 1
          unfold Nat.lcm
          rw [Nat.div_mul_right_comm (Nat.gcd_dvd_left a b)]
        rw [el]
        exact q H' sm
    · rintro σ H' Q1 Q2 hQ ⟨v1, e1, i, j, z1, z2, k, e3, hq⟩
      exact ⟨v1, e1, i, j, z1, z2, k, e3, hQ _ _ hq⟩
abbrev S_joined : Stmt := topS 16
theorem sc_joined : FnScope ["one", "other"] ["one", "other"] (defScope S_joined) := ⟨rfl, rfl, rfl, by decide +kernel, rfl, by decide +kernel, by decide +kernel⟩
def sp_joined (K : PySem.W.Frag) : Sp := fun vs H Q _ => ∃ (a b : Addr) (ps qs : List Part) (wa wb : List V), vs = [.ref a, .ref b] ∧ H a = some (.lst wa) ∧ H b = some (.lst wb) ∧ DpAll K H wa (ps.map Part.data) ∧ DpAll K H wb (qs.map Part.data) ∧ (∀ p ∈ ps, p.ok) ∧ (∀ p ∈ qs, p.ok) ∧ 1 ≤ ps.length ∧ 1 ≤ qs.length ∧ ps.length + qs.length ≤ 1000 ∧
  ∀ l H', Same H H' → H l = none → H' l = some (.lst (wa ++ wb)) → Q (.ref l) H'
theorem ok_joined {f : Addr} {fd : FuncData} {f_check_train : Addr} {fd_check_train : FuncData} (F : Fun K "joined" "joined" S_joined f fd)
    (F_check_train : Fun K "check_train" "check_train" S_check_train f_check_train fd_check_train) (b_check_train : Binds K fd_check_train ["train"] []) (g_check_train : mg "check_train" = some (.ref f_check_train)) (G_check_train : FnOk P w K mg base CX0 4 f_check_train fd_check_train ["train"] (sp_check_train K)) :
    FnOk P w K mg base CX0 5 f fd ["one", "other"] (sp_joined K) := by
  refine F.ok sc_joined (fun vs H Q E h => ?_) (fun cdv A outer s H vs Q E hr h => ?_)
  ·
    obtain ⟨a, b, ps, qs, wa, wb, rfl, _⟩ := h
    rfl
  ·
    obtain ⟨a, b, ps, qs, wa, wb, rfl, ha, hb, da, db, oa, ob, la, lb, l8, q⟩ := h
    refine ⟨_, (pss_cons (ps_expr (pe_call G_check_train (hr.mono (by decide)) (by rfl) g_check_train F_check_train.kp b_check_train .nil pass0 (pa_cons (pv 0) pa_nil)))
      (pss_cons (ps_expr (pe_call G_check_train (hr.mono (by decide)) (by rfl) g_check_train F_check_train.kp b_check_train .nil pass0 (pa_cons (pv 1) pa_nil)))
      (pss_one (ps_ret (pe_op op_cat (pv 0) (pv 1)))))), ?_⟩
    refine w_st (σ' := [some (.ref a), some (.ref b)]) rfl ?_
    have hwa : wa.length = ps.length := by rw [dpAll_len da, List.length_map]
    have hwb : wb.length = qs.length := by rw [dpAll_len db, List.length_map]
    walk_at "ct"
    refine ⟨a, ps, rfl, ⟨wa, .of ha, da⟩, oa, la, fun H1 s1 => ?_⟩
    walk_at "ct"
    refine ⟨b, qs, rfl, ⟨wb, .of (s1 _ _ hb), dpAll_same s1 db⟩, ob, lb, fun H2 s2 => ?_⟩
    walk_at "ct"
    have s12 := s1.trans s2
    refine ⟨a, b, wa, wb, rfl, rfl, s12 _ _ ha, s12 _ _ hb, Nat.le_of_lt (small1000 (by omega)), fun l nl => ?_⟩
    exact q l _ (s12.trans (same_upd nl)) (s12.free nl) upd_same
abbrev S_least_turn : Stmt := topS 17
theorem sc_least_turn : FnScope ["teeth", "beats", "many", "gaps", "part", "beat", "later"] ["teeth", "beats"] (defScope S_least_turn) := ⟨rfl, rfl, rfl, by decide +kernel, rfl, by decide +kernel, by decide +kernel⟩
def sp_least_turn (K : PySem.W.Frag) : Sp := fun vs H Q _ => ∃ (b : Addr) (B : Nat → Bool) (T : Nat), vs = [.int (T : Int), .ref b] ∧ SqL K H b ((btsI B T).map V.int) ∧ PerP B T ∧ T ≤ 1000000 ∧
  ∀ (S : Nat) q l H', Same H H' → RingP B S → S ≤ T → H' l = some (.lst ((btsI B S).map V.int)) → H' q = some (.tup [.int (S : Int), .ref l]) → Q (.ref q) H'
theorem ok_least_turn {f : Addr} {fd : FuncData} (F : Fun K "least_turn" "least_turn" S_least_turn f fd) (m_len : mg "len" = none) (m_sum : mg "sum" = none) (m_zip : mg "zip" = none) :
    FnOk P w K mg base CX0 1 f fd ["teeth", "beats"] (sp_least_turn K) := by
  refine F.ok sc_least_turn (fun vs H Q E h => ?_) (fun cdv A outer s H vs Q E hr h => ?_)
  ·
    obtain ⟨b, B, T, rfl, _⟩ := h
    rfl
  ·
    obtain ⟨b, B, T, rfl, hb, g, few, q⟩ := h
    refine ⟨_, (pss_cons (ps_if (pt_not (pt_truth (pv 1) (by intro _; rfl))) (pss_one (ps_ret (pe_tup (pa_cons pe_int (pa_cons (pe_lst pa_nil) pa_nil))))) pss_nil)
      (pss_cons (ps_set (i := 2) sc_least_turn.nd rfl (.inl rfl) (pe_callB call_len_seq (by rfl) m_len (by decide +kernel) (pa_cons (pv 1) pa_nil)))
      (pss_cons (ps_setLc (i := 3) (own := [("beat", 5), ("later", 6)]) (g := gTup K 2 (gCons (gName 5) (gCons (gName 6) gNil)))  rfl sc_least_turn.nd rfl rfl (sw_true rfl rfl rfl (by decide +kernel)) (pi_zip (by rfl) m_zip (pa_cons (pv 1) (pa_cons (pe_op op_cat (pe_slice (r := rSlL K) sl_list (pv 1) (po_some pe_int) po_none) (pe_lst (pa_cons (pe_op op_add (pe_ix (r := rIxL K) ix_list (pv 1) pe_int (fun _ _ => rfl)) (pv 0)) pa_nil))) pa_nil))) (blkOk_by (own := [("beat", 5), ("later", 6)]) (N := ["teeth", "beats", "many", "gaps", "part", "beat", "later"]) (sc := defScope S_least_turn) (by decide +kernel)) (fun _ _ _ _ _ => pg_tup rfl (pgs_cons (pg_name (i := 5) sc_least_turn.nd rfl (Or.inl rfl)) (pgs_cons (pg_name (i := 6) sc_least_turn.nd rfl (Or.inl rfl)) pgs_nil))) (fun _ _ _ _ _ => pts_nil) (fun _ _ _ _ _ => (pe_op op_sub (pv 6) (pv 5))))
      (pss_cons (ps_set (i := 4) sc_least_turn.nd rfl (.inl rfl) pe_int)
      (pss_cons (ps_while PassesOwn.never (PW.pt (pw_or (pt_cmpR op_ne (pe_op op_mod (pv 2) (pv 4)) pe_int (nomark _)) (pw_or1 (pt_cmpR (r := rNeD K) (op_neD hr.units) (pe_slice (r := rSlL K) sl_list (pv 3) (po_some (pv 4)) po_none) (pe_slice (r := rSlL K) sl_list (pv 3) po_none (po_some (pe_op op_sub (pv 2) (pv 4)))) (nomark _))))) (pss_one (ps_aug (i := 4) sc_least_turn.nd rfl (.inl rfl) pe_int ip_add)))
      (pss_one (ps_ret (pe_tup (pa_cons (pe_callB (r := rSum K) (cr_sum rfl) (by rfl) m_sum (by decide +kernel) (pa_cons (pe_slice (r := rSlL K) sl_list (pv 3) po_none (po_some (pv 4))) pa_nil)) (pa_cons (pe_slice (r := rSlL K) sl_list (pv 1) po_none (po_some (pv 4))) pa_nil)))))))))), ?_⟩
    refine w_st (σ' := [some (.int (T : Int)), some (.ref b), none, none, none, none, none]) rfl ?_
    have bl : (btsI B T).length = cntP B T := btsI_len
    by_cases m0 : cntP B T = 0
    · have no := ring_none (none_P g m0)
      have e0 : btsI B T = [] := List.eq_nil_of_length_eq_zero (by rw [bl, m0])
      walk_at "ct"
      refine ⟨false, tru_list hb (by rw [e0]; rfl), ?_⟩
      walk_at "ct"
      refine ⟨len2 rfl, fun l n_l => ?_⟩
      generalize h_G1 : upd _ l _ = G1
      obtain ⟨s_G1, e_l⟩ := Ct.upd_new h_G1 n_l
      clear h_G1
      walk_at "ct"
      refine ⟨len2 rfl, fun p n_p => ?_⟩
      generalize h_G2 : upd _ p _ = G2
      obtain ⟨s_G2, e_p⟩ := Ct.upd_new h_G2 n_p
      clear h_G2
      exact q 1 p l G2 (s_G1.trans s_G2) no.1 g.1 (by
        rw [show btsI B 1 = [] by unfold btsI; rw [no.2]; rfl]
        exact s_G2 _ _ e_l) e_p
    have m1 : 1 ≤ cntP B T := by omega
    have mT : cntP B T ≤ T := by
      have := cnt_bound B T
      omega
    walk_at "ct"
    refine ⟨true, tru_list hb (by cases h : btsI B T with
      | nil => rw [h] at bl; exact absurd bl.symm m0
      | cons _ _ => rfl), ?_⟩
    walk_at "ct"
    refine ⟨b, _, rfl, .inl hb, ?_⟩
    rw [List.length_map, bl]
    walk_at "ct"
    refine w_izipw ?_
    walk_at "ct"
    refine w_slLf (n := 1) hb (by rw [List.length_map, bl]; exact m1) fun p1 G1 n_p1 s_G1 e_p1 => ?_
    walk_at "ct"
    refine w_ixL (s_G1.seq hb) (atI_nat (j := 0) (by rw [List.getElem?_map, beat_at m1]; rfl)) ?_
    walk_at "ct"
    refine ⟨len2 rfl, fun p2 n_p2 => ?_⟩
    generalize h_G2 : upd _ p2 _ = G2
    obtain ⟨s_G2, e_p2⟩ := Ct.upd_new h_G2 n_p2
    clear h_G2
    refine w_cat (by walk_at "mv") e_p2 (by rw [List.length_drop, List.length_map, bl]; exact Nat.le_trans (show cntP B T - 1 + 1 ≤ 1000000 by omega) (by decide)) fun p3 G3 n_p3 s_G3 e_p3 => ?_
    have e4 : G3 p3 = some (.lst (((btsI B T).drop 1 ++ [(timeP B T 0 : Int) + T]).map V.int)) := by
      rw [e_p3, List.map_append, List.map_drop]
      rfl
    have s03 : Same H G3 := (s_G1.trans s_G2).trans s_G3
    walk_at "ct"
    refine w_IZw (s03.seq hb) (.of e4) ?_
    refine lb_zipw ((btsI B T).map V.int) (((btsI B T).drop 1 ++ [(timeP B T 0 : Int) + T]).map V.int) (by rw [List.length_map, List.length_map, List.length_append, List.length_drop, bl]; show _ = cntP B T - 1 + 1; omega) (fun D i J => Same G3 J ∧ J D = some (.lst (((gapsI B T).take i).map V.int))) (fun D nD => ⟨same_upd nD, upd_same⟩) (fun D nD i J _ h => ⟨h.1.seq (s03.seq hb), h.1.seq (.of e4)⟩) ?_ ?_
    · rintro D nD i x y Tp J J2 hx hy ⟨s_J, hD⟩ nT s_J2 e_T
      have hi : i < cntP B T := by have := (List.getElem?_eq_some_iff.mp hx).1; rw [List.length_map, bl] at this; exact this
      rw [List.getElem?_map, beat_at hi] at hx
      rw [List.getElem?_map, next_at g m1 hi] at hy
      cases Option.some.inj hx
      cases Option.some.inj hy
      refine w_gtup (.of e_T) rfl ?_
      walk_at "ct"
      refine ⟨rfl, ?_⟩
      walk_at "ct"
      rw [gap_at g m1 i]
      refine ⟨_, s_J2 _ _ hD, by rw [List.length_map, List.length_take]; exact Nat.lt_of_le_of_lt (show min i (gapsI B T).length ≤ 1000000 by omega) (by decide), same_new (s_J.trans s_J2) nD, ?_⟩
      rw [upd_same, List.take_add_one, show (gapsI B T)[i]? = some (gapP B T i : Int) by
        unfold gapsI
        rw [List.getElem?_map, List.getElem?_range hi]
        rfl, List.map_append]
      rfl
    rintro D nD J ⟨s_J, hD⟩
    rw [List.length_map, bl, List.take_of_length_le (by rw [gapsI_len]; exact Nat.le_refl _)] at hD
    walk_at "ct"
    have s0J : Same H J := s03.trans s_J
    refine while_by (fun σ G => ∃ (part : Nat) (y5 y6 : Option V), σ = [some (.int (T : Int)), some (.ref b), some (.int (cntP B T : Int)), some (.ref D), some (.int (part : Int)), y5, y6] ∧ Same J G ∧ 1 ≤ part ∧ part ≤ cntP B T ∧ ∀ k, 1 ≤ k → k < part → ¬ RoundP B T k)
      (fun σ _ => match σ with | [_, _, _, _, some (.int i), _, _] => 1000001 - i.toNat | _ => 0) ⟨1, _, _, rfl, Same.refl _, Nat.le_refl _, m1, fun k h1 h2 => absurd h1 (by omega)⟩ ?_ ?_
    · rintro σ G ⟨part, y5, y6, rfl, sG, p1, pM, no⟩
      have s0G : Same H G := s0J.trans sG
      have hDG := sG _ _ hD
      walk_at "ct"
      refine w_rIv (.int ((cntP B T % part : Nat) : Int)) (show (0 : Int) < part by omega) (by rw [Int.natCast_emod]) ?_
      have step : ∀ {G' : Hp}, Same J G' → ¬ RoundP B T part → (part : Int) + 1 = ((part + 1 : Nat) : Int) ∧ part + 1 ≤ cntP B T ∧ ∀ k, 1 ≤ k → k < part + 1 → ¬ RoundP B T k := fun {G'} _ hr => by
        refine ⟨by omega, ?_, fun k h1 h2 => ?_⟩
        · apply Classical.byContradiction
          intro c
          have e : part = cntP B T := by omega
          exact hr ⟨by rw [e, Nat.mod_self], fun i hi => by omega⟩
        · by_cases c : k = part
          · rw [c]; exact hr
          · exact no k h1 (by omega)
      have go : ∀ {G' : Hp}, Same J G' → ¬ RoundP B T part → ∀ y5 y6 : Option V, (fun σ G => ∃ (part : Nat) (y5 y6 : Option V), σ = [some (.int (T : Int)), some (.ref b), some (.int (cntP B T : Int)), some (.ref D), some (.int (part : Int)), y5, y6] ∧ Same J G ∧ 1 ≤ part ∧ part ≤ cntP B T ∧ ∀ k, 1 ≤ k → k < part → ¬ RoundP B T k) [some (.int (T : Int)), some (.ref b), some (.int (cntP B T : Int)), some (.ref D), some (.int ((part : Int) + 1)), y5, y6] G' ∧ 1000001 - ((part : Int) + 1).toNat < 1000001 - (part : Int).toNat := fun sG' hr y5 y6 => by
        obtain ⟨e, h1, h2⟩ := step sG' hr
        refine ⟨⟨part + 1, y5, y6, by rw [e], sG', by omega, h1, h2⟩, by omega⟩
      walk_at "ct"
      refine w_iteN (fun c => ?_) (fun c => ?_)
      · walk_at "ct"
        exact w_aug rfl ⟨(part : Int), 1, rfl, rfl, go sG (fun z => c (by rw [z.1]; rfl)) y5 y6⟩
      have c0 : cntP B T % part = 0 := by omega
      walk_at "ct"
      refine w_slLf (n := part) (.of hDG) (by rw [List.length_map, gapsI_len]; exact pM) fun p5 G5 n_p5 s_G5 e_p5 => ?_
      walk_at "ct"
      rw [show (cntP B T : Int) - (part : Int) = ((cntP B T - part : Nat) : Int) by omega]
      refine w_slLu (n := cntP B T - part) (.of (s_G5 _ _ hDG)) (by rw [List.length_map, gapsI_len]; omega) fun p6 G6 n_p6 s_G6 e_p6 => ?_
      rw [← List.map_drop] at e_p5
      rw [← List.map_take] at e_p6
      refine w_neInts (.of (s_G6 _ _ e_p5)) (.of e_p6) ?_
      walk_at "ct"
      refine w_iteN (fun d => ?_) (fun d => ?_)
      · walk_at "ct"
        exact w_aug rfl ⟨(part : Int), 1, rfl, rfl, go ((sG.trans s_G5).trans s_G6) (fun z => d ((round_iff pM).mpr z.2)) y5 y6⟩
      have r : RoundP B T part := ⟨c0, (round_iff pM).mp d⟩
      obtain ⟨r1, r2, r3, r4⟩ := round_is g m1 p1 r no
      walk_at "ct"
      refine w_slLu (n := part) (.of (s_G6 _ _ (s_G5 _ _ hDG))) (by rw [List.length_map, gapsI_len]; exact pM) fun p7 G7 n_p7 s_G7 e_p7 => ?_
      rw [← List.map_take] at e_p7
      walk_at "ct"
      refine ⟨p7, _, rfl, .of e_p7, ?_⟩
      rw [gap_sum g m1 part pM]
      walk_at "ct"
      have s07 : Same H G7 := ((s0G.trans s_G5).trans s_G6).trans s_G7
      refine w_slLu (n := part) (s07.seq hb) (by rw [List.length_map, bl]; exact pM) fun p8 G8 n_p8 s_G8 e_p8 => ?_
      walk_at "ct"
      refine ⟨len2 rfl, fun p9 n_p9 => ?_⟩
      generalize h_G9 : upd _ p9 _ = G9
      obtain ⟨s_G9, e_p9⟩ := Ct.upd_new h_G9 n_p9
      clear h_G9
      have up := time_up g m1 (show 0 < part from p1)
      rw [show (timeP B T part : Int) - timeP B T 0 = ((timeP B T part - timeP B T 0 : Nat) : Int) by omega] at e_p9
      refine q _ p9 p8 G9 ((s07.trans s_G8).trans s_G9) ⟨r1, r2⟩ r4 ?_ e_p9
      have r5 : (btsI B T).take part = btsI B (timeP B T part - timeP B T 0) := by
        unfold btsI
        rw [← List.map_take, r3]
      rw [s_G9 _ _ e_p8, ← List.map_take, r5]
    · exact (show MoT _ by repeat' (first | exact mo_var | exact mo_c | exact mo_none | exact mo_rI | exact mo_rI0 | exact mo_rNe | exact mo_rEq | exact mo_rNeD | exact mo_rEqD | refine mo_or ?_ ?_ | refine mo_and ?_ ?_ | refine mo_test ?_ | refine mo_slL ?_ ?_ ?_ | refine mo_part ?_ | refine mo_op ?_ ?_ ?_))
abbrev S_turn_behind : Stmt := topS 18
theorem sc_turn_behind : FnScope ["teeth", "beats", "wheel", "place", "many", "come", "found", "mark", "number"] ["teeth", "beats", "wheel", "place"] (defScope S_turn_behind) := ⟨rfl, rfl, rfl, by decide +kernel, rfl, by decide +kernel, by decide +kernel⟩
def sp_turn_behind (K : PySem.W.Frag) : Sp := fun vs H Q _ => ∃ (b : Addr) (wv : V) (z x : Int) (ms : List Int) (B : Nat → Bool) (T : Nat), vs = [.int (T : Int), .ref b, wv, .int x] ∧ Dp K H wv (Part.wheel z ms).data ∧ (Part.wheel z ms).ok ∧ 0 ≤ x ∧ x < z ∧ SqL K H b ((btsI B T).map V.int) ∧ PerP B T ∧ ((∀ n, 1 ≤ n → B n = false) ∨ (T : Int) * z ≤ 1000000) ∧
  ∀ (S : Nat) q l H', Same H H' → RingP (behP B z x ms) S → (S : Int) ≤ T * z → H' l = some (.lst ((btsI (behP B z x ms) S).map V.int)) → H' q = some (.tup [.int (S : Int), .ref l]) → Q (.ref q) H'
theorem ok_turn_behind {f : Addr} {fd : FuncData} {f_least_turn : Addr} {fd_least_turn : FuncData} {f_common_multiple : Addr} {fd_common_multiple : FuncData} (F : Fun K "turn_behind" "turn_behind" S_turn_behind f fd)
    (F_least_turn : Fun K "least_turn" "least_turn" S_least_turn f_least_turn fd_least_turn) (b_least_turn : Binds K fd_least_turn ["teeth", "beats"] []) (g_least_turn : mg "least_turn" = some (.ref f_least_turn)) (G_least_turn : FnOk P w K mg base CX0 1 f_least_turn fd_least_turn ["teeth", "beats"] (sp_least_turn K))
    (F_common_multiple : Fun K "common_multiple" "common_multiple" S_common_multiple f_common_multiple fd_common_multiple) (b_common_multiple : Binds K fd_common_multiple ["one", "other"] []) (g_common_multiple : mg "common_multiple" = some (.ref f_common_multiple)) (G_common_multiple : FnOk P w K mg base CX0 1 f_common_multiple fd_common_multiple ["one", "other"] (sp_common_multiple K)) (m_len : mg "len" = none) (m_range : mg "range" = none) (m_sorted : mg "sorted" = none) :
    FnOk P w K mg base CX0 2 f fd ["teeth", "beats", "wheel", "place"] (sp_turn_behind K) := by
  refine F.ok sc_turn_behind (fun vs H Q E h => ?_) (fun cdv A outer s H vs Q E hr h => ?_)
  ·
    obtain ⟨b, wv, z, x, ms, B, T, rfl, _⟩ := h
    rfl
  ·
    obtain ⟨b, wv, z, x, ms, B, T, rfl, hw, okw, x0, x1, hb, g, few, q⟩ := h
    refine ⟨_, (pss_cons (ps_if (pt_not (pt_truth (pv 1) (by intro _; rfl))) (pss_one (ps_ret (pe_tup (pa_cons pe_int (pa_cons (pe_lst pa_nil) pa_nil))))) pss_nil)
      (pss_cons (ps_set (i := 4) sc_turn_behind.nd rfl (.inl rfl) (pe_callB call_len_seq (by rfl) m_len (by decide +kernel) (pa_cons (pv 1) pa_nil)))
      (pss_cons (ps_set (i := 5) sc_turn_behind.nd rfl (.inl rfl) (pe_call G_common_multiple (hr.mono (by decide)) (by rfl) g_common_multiple F_common_multiple.kp b_common_multiple .nil pass0 (pa_cons (pv 4) (pa_cons (pe_ix (r := rIxT K) ix_tup (pv 2) pe_int (fun _ _ => rfl)) pa_nil))))
      (pss_cons (ps_set (i := 6) sc_turn_behind.nd rfl (.inl rfl) (pe_lst pa_nil))
      (pss_cons (ps_for PassesOwn.never rfl (pi_tup (pe_ix (r := rIxT K) ix_tup (pv 2) pe_int (fun _ _ => rfl))) (pg_name (i := 7) sc_turn_behind.nd rfl (.inl rfl))
      (pss_one (ps_for PassesOwn.never rfl (pi_range3 (by rfl) m_range (pa_cons (pe_op op_mod (pe_op op_sub (pe_op op_sub (pv 7) (pv 3)) pe_int) (pe_ix (r := rIxT K) ix_tup (pv 2) pe_int (fun _ _ => rfl))) (pa_cons (pv 5) (pa_cons (pe_ix (r := rIxT K) ix_tup (pv 2) pe_int (fun _ _ => rfl)) pa_nil)))) (pg_name (i := 8) sc_turn_behind.nd rfl (.inl rfl))
      (pss_one (ps_expr (pe_bm PySem.F.plainAttrs_list PySem.F.slot_list_append PySem.F.type_list_append mt_append (pv 6) (pa_cons (pe_op op_add (pe_op op_mulW (pe_op op_fdivW (pv 8) (pv 4)) (pv 0)) (pe_ix (r := rIxL K) ix_list (pv 1) (pe_op op_mod (pv 8) (pv 4)) (fun _ _ => rfl))) pa_nil)))))))
      (pss_one (ps_ret (pe_call G_least_turn (hr.mono (by decide)) (by rfl) g_least_turn F_least_turn.kp b_least_turn .nil pass0 (pa_cons (pe_op op_mulW (pe_op op_fdivW (pv 5) (pv 4)) (pv 0)) (pa_cons (pe_callB (r := rSortedI K) cr_sortedI (by rfl) m_sorted (by decide +kernel) (pa_cons (pv 6) pa_nil)) pa_nil)))))))))), ?_⟩
    refine w_st (σ' := [some (.int (T : Int)), some (.ref b), some wv, some (.int x), none, none, none, none, none]) rfl ?_
    have bl : (btsI B T).length = cntP B T := btsI_len
    have z1 := okw.1
    have T1 := g.1
    have Tz : (T : Int) * 1 ≤ T * z := Int.mul_le_mul_of_nonneg_left z1 (by omega)
    obtain ⟨wa, mt, rfl, hwa, hmt⟩ := wheel_inv hw
    by_cases m0 : cntP B T = 0
    · have nB := none_P g m0
      have no := ring_none (P := behP B z x ms) (fun n hn => by unfold behP; rw [nB n hn]; rfl)
      have e0 : btsI B T = [] := List.eq_nil_of_length_eq_zero (by rw [bl, m0])
      walk_at "ct"
      refine ⟨false, tru_list hb (by rw [e0]; rfl), ?_⟩
      walk_at "ct"
      refine ⟨len2 rfl, fun l n_l => ?_⟩
      generalize h_G1 : upd _ l _ = G1
      obtain ⟨s_G1, e_l⟩ := Ct.upd_new h_G1 n_l
      clear h_G1
      walk_at "ct"
      refine ⟨len2 rfl, fun p n_p => ?_⟩
      generalize h_G2 : upd _ p _ = G2
      obtain ⟨s_G2, e_p⟩ := Ct.upd_new h_G2 n_p
      clear h_G2
      exact q 1 p l G2 (s_G1.trans s_G2) no.1 (by omega) (by
        rw [show btsI (behP B z x ms) 1 = [] by unfold btsI; rw [no.2]; rfl]
        exact s_G2 _ _ e_l) e_p
    have m1 : 1 ≤ cntP B T := by omega
    have mT := cnt_bound B T
    have Tz6 : (T : Int) * z ≤ 1000000 := by
      rcases few with h | h
      · exfalso
        have a := time_ok g m1 0
        rw [h _ (by omega)] at a
        exact absurd a.2.1 (by decide)
      · exact h
    obtain ⟨zn, rfl⟩ : ∃ zn : Nat, z = zn := ⟨z.toNat, by omega⟩
    have lcM : Nat.lcm (cntP B T) zn = Nat.lcm (cntP B T) zn / cntP B T * cntP B T := (Nat.div_mul_cancel (Nat.dvd_lcm_left _ _)).symm
    have lcz : Nat.lcm (cntP B T) zn % zn = 0 := Nat.mod_eq_zero_of_dvd (Nat.dvd_lcm_right _ _)
    have lc1 : 0 < Nat.lcm (cntP B T) zn := Nat.lcm_pos m1 (by omega)
    have lcle : Nat.lcm (cntP B T) zn ≤ cntP B T * zn := Nat.le_of_dvd (Nat.mul_pos m1 (by omega)) (Nat.lcm_dvd_mul _ _)
    generalize hcome : Nat.lcm (cntP B T) zn = come at *
    generalize hc : come / cntP B T = c at *
    have c1 : 1 ≤ c := by
      rcases Nat.eq_zero_or_pos c with h | h
      · rw [h, Nat.zero_mul] at lcM; omega
      · exact h
    have cz : c ≤ zn := by
      rw [← hc]
      exact Nat.div_le_of_le_mul lcle
    have TzN : T * zn ≤ 1000000 := by
      have : ((T * zn : Nat) : Int) ≤ 1000000 := by rw [Int.natCast_mul]; exact Tz6
      omega
    have cT : c * T ≤ T * zn := by rw [Nat.mul_comm]; exact Nat.mul_le_mul_left _ cz
    have ce : come ≤ 1000000 := Nat.le_trans lcle (Nat.le_trans (Nat.mul_le_mul_right _ mT) TzN)
    have zn6 : zn ≤ 1000000 := Nat.le_trans (Nat.le_mul_of_pos_left _ T1) TzN
    walk_at "ct"
    refine ⟨true, tru_list hb (by cases h : btsI B T with
      | nil => rw [h] at bl; exact absurd bl.symm m0
      | cons _ _ => rfl), ?_⟩
    walk_at "ct"
    refine ⟨b, _, rfl, .inl hb, ?_⟩
    rw [List.length_map, bl]
    walk_at "ct"
    refine ⟨cntP B T, zn, rfl, by omega, by omega, Nat.le_trans (show cntP B T ≤ 2 ^ 100 by omega) (Nat.pow_le_pow_right (by decide) (by decide)), by omega, fun G1 s_G1 => ?_⟩
    rw [hcome]
    walk_at "ct"
    refine ⟨len2 rfl, fun D n_D => ?_⟩
    generalize h_G2 : upd _ D _ = G2
    obtain ⟨s_G2, e_D⟩ := Ct.upd_new h_G2 n_D
    clear h_G2
    walk_at "ct"
    refine w_ixT (Same.tup (s_G1.trans s_G2) hwa) at2 ?_
    have s02 : Same H G2 := s_G1.trans s_G2
    have fl : ∀ (is js : List Nat), ((is ++ js).map fun n : Nat => (n : Int)).map V.int = (is.map fun n : Nat => (n : Int)).map V.int ++ (js.map fun n : Nat => (n : Int)).map V.int := fun is js => by rw [List.map_append, List.map_append]
    have rs := okw.2.2.1
    have hits : ∀ m, m ∈ ms → (hitP B T zn x come m).length ≤ 1000000 := fun m hm => by
      unfold hitP stepN
      rw [List.length_map, List.length_range]
      have l0 : 0 ≤ loP zn x m := Int.emod_nonneg _ (by omega)
      split
      · have := Int.ediv_le_self (zn : Int) (show 0 ≤ (come : Int) - loP zn x m - 1 by omega)
        omega
      · omega
    have per2 : PerP (behP B zn x ms) (c * T) := beh_per g c1 (by rw [← lcM, ← Int.natCast_emod, lcz]; rfl)
    have fm : ∀ n, n ∈ ms.flatMap (hitP B T zn x come) ↔ n ∈ bts (behP B zn x ms) (c * T) := fun n => by
      have := found_mem (P := B) (T := T) (x := x) (ms := ms) g m1 z1 rs.2 (c := c) (n := n)
      rw [← lcM] at this
      exact this
    have fnd : (ms.flatMap (hitP B T zn x come)).Nodup := found_nodup g m1 z1 rs.2 rs.1 _
    have total : (ms.flatMap (hitP B T zn x come)).length ≤ 1000000 := by
      rw [((List.perm_ext_iff_of_nodup fnd ((bts_up _ _).imp fun h => Nat.ne_of_lt h)).mpr fm).length_eq, bts_len]
      exact Nat.le_trans (cnt_bound _ _) (Nat.le_trans cT TzN)
    walk_at "ct"
    refine w_IT (Same.tup s02 hmt) ?_
    refine fb_tup (ms.map V.int) (fun i σ J => ∃ (y7 y8 : Option V), σ = [some (.int (T : Int)), some (.ref b), some (.ref wa), some (.int x), some (.int (cntP B T : Int)), some (.int (come : Int)), some (.ref D), y7, y8] ∧ Same G1 J ∧ J D = some (.lst ((((ms.take i).flatMap (hitP B T zn x come)).map fun n : Nat => (n : Int)).map V.int))) ⟨_, _, rfl, s_G2, e_D⟩ ?_ ?_ ?_
    · rintro i σ J _ ⟨y7, y8, rfl, s_J, _⟩
      exact Same.tup (s_G1.trans s_J) hmt
    · rintro i v σ J hv ⟨y7, y8, rfl, s_J, hD⟩
      rw [List.getElem?_map] at hv
      obtain ⟨m, hm, rfl⟩ := Option.map_eq_some_iff.mp hv
      have s0J := s_G1.trans s_J
      have rm := rs.2 m (List.mem_of_getElem? hm)
      have l0 : 0 ≤ loP zn x m := Int.emod_nonneg _ (by omega)
      have l1 : loP zn x m < zn := Int.emod_lt_of_pos _ (by omega)
      walk_at "ct"
      refine w_rng3 ?_
      walk_at "ct"
      refine w_ixT (Same.tup s0J hwa) at1 ?_
      refine w_rIv (.int (loP zn x m)) (show (0 : Int) < zn by omega) rfl ?_
      walk_at "ct"
      refine w_ixT (Same.tup s0J hwa) at1 ?_
      walk_at "ct"
      have mi : ms = ms.take i ++ m :: ms.drop (i + 1) := by
        obtain ⟨hi, e⟩ := List.getElem?_eq_some_iff.mp hm
        rw [← e, ← List.drop_eq_getElem_cons hi, List.take_append_drop]
      have part : ((ms.take i).flatMap (hitP B T zn x come)).length + (hitP B T zn x come m).length ≤ 1000000 := by
        have e := congrArg (fun l : List Int => (l.flatMap (hitP B T zn x come)).length) mi
        simp only [List.flatMap_append, List.flatMap_cons, List.length_append] at e
        omega
      have hl : (hitP B T zn x come m).length = stepN (loP zn x m) come zn := by unfold hitP; rw [List.length_map, List.length_range]
      refine w_RG3 l0 (by omega) (by omega) (by omega) z1 (by omega) ?_
      refine fb_rangeC (fun j σ J2 => ∃ (y8 : Option V), σ = [some (.int (T : Int)), some (.ref b), some (.ref wa), some (.int x), some (.int (cntP B T : Int)), some (.int (come : Int)), some (.ref D), some (.int m), y8] ∧ Same G1 J2 ∧ J2 D = some (.lst ((((ms.take i).flatMap (hitP B T zn x come) ++ (hitP B T zn x come m).take j).map fun n : Nat => (n : Int)).map V.int))) ⟨_, rfl, s_J, by rw [List.take_zero, List.append_nil]; exact hD⟩ ?_ ?_
      · rintro j σ J2 hj ⟨y8, rfl, s_J2, hD2⟩
        have s0J2 := s_G1.trans s_J2
        obtain ⟨h1, h2, h3⟩ := (step_mem (a := loP zn x m) (b := come) (k := loP zn x m + (j : Int) * zn) z1).mp ⟨j, hj, rfl⟩
        obtain ⟨kN, hk⟩ : ∃ kN : Nat, loP zn x m + (j : Int) * zn = kN := ⟨(loP zn x m + (j : Int) * zn).toNat, by omega⟩
        have hit : (hitP B T zn x come m)[j]? = some (timeP B T kN) := by
          unfold hitP
          rw [List.getElem?_map, List.getElem?_range hj]
          show some (timeP B T (loP zn x m + (j : Int) * zn).toNat) = _
          rw [hk]
          rfl
        rw [hk] at h2
        rw [hk]
        obtain ⟨kd, hkd⟩ : ∃ kd, kN / cntP B T = kd := ⟨_, rfl⟩
        have kdl : kd ≤ kN := by rw [← hkd]; exact Nat.div_le_self _ _
        walk_at "ct"
        refine ⟨ty_list hD2, ?_⟩
        walk_at "ct"
        refine w_rIv (.int (kd : Int)) (div_ok (by omega) (by omega)) (by rw [← hkd, Int.natCast_ediv]) ?_
        walk_at "ct"
        refine w_rI (mul_ok (by omega) (by omega) (by omega) (by omega)) ?_
        walk_at "ct"
        refine w_rIv (.int ((kN % cntP B T : Nat) : Int)) (show (0 : Int) < cntP B T by omega) (by rw [Int.natCast_emod]) ?_
        walk_at "ct"
        refine w_ixL (s0J2.seq hb) (atI_nat (j := kN % cntP B T) (by rw [List.getElem?_map, beat_at (Nat.mod_lt _ m1)]; rfl)) ?_
        walk_at "ct"
        rw [show (kd : Int) * (T : Int) + (timeP B T (kN % cntP B T) : Int) = ((timeP B T kN : Nat) : Int) by
          rw [time_split kN m1, hkd, Int.natCast_add, Int.natCast_mul]]
        refine w_append hD2 (by rw [List.length_map, List.length_map, List.length_append, List.length_take]; exact Nat.lt_of_le_of_lt (show _ ≤ 1000000 by omega) (by decide)) ?_
        walk_at "ct"
        refine ⟨_, rfl, same_new s_J2 n_D, ?_⟩
        rw [upd_same, List.take_add_one, hit]
        exact congrArg (fun l => some (HO.lst l)) (ints_snoc _ _ _).symm
      rintro σ J2 ⟨y8, rfl, s_J2, hD2⟩
      rw [List.take_of_length_le (l := hitP B T zn x come m) (by rw [hl]; exact Nat.le_refl _)] at hD2
      refine ⟨_, _, rfl, s_J2, ?_⟩
      rw [List.take_add_one, hm, List.flatMap_append, hD2]
      show _ = some (HO.lst ((((ms.take i).flatMap _ ++ ([m] : List Int).flatMap _).map _).map V.int))
      rw [List.flatMap_cons, List.flatMap_nil, List.append_nil]
    rintro σ J ⟨y7, y8, rfl, s_J, hD⟩
    rw [List.length_map, List.take_of_length_le (Nat.le_refl _)] at hD
    walk_at "ct"
    have cM : (come : Int) / (cntP B T : Int) = (c : Int) := by rw [← Int.natCast_ediv, hc]
    refine w_rIv (.int (c : Int)) (div_ok (by omega) (by omega)) (by rw [cM]) ?_
    walk_at "ct"
    refine w_rI (mul_ok (by omega) (by omega) (by omega) (by omega)) ?_
    walk_at "ct"
    rw [show (c : Int) * (T : Int) = ((c * T : Nat) : Int) by rw [Int.natCast_mul]]
    refine ⟨D, _, rfl, .of hD, fun ns p pm so n_p => ?_⟩
    generalize h_G5 : upd _ p _ = G5
    obtain ⟨s_G5, e_p⟩ := Ct.upd_new h_G5 n_p
    clear h_G5
    rw [sorted_nat pm so fnd (bts_up (behP B zn x ms) (c * T)) fm] at e_p
    walk_at "ct"
    refine ⟨p, behP B zn x ms, c * T, rfl, .of e_p, per2, Nat.le_trans cT TzN, fun S q1 l H' s R le hl hq => q S q1 l H' (((s_G1.trans s_J).trans s_G5).trans s) R ?_ hl hq⟩
    rw [← Int.natCast_mul]
    have := Nat.le_trans le cT
    omega
abbrev S_least_wheel : Stmt := topS 19
theorem sc_least_wheel : FnScope ["train", "stand", "teeth", "beats", "wheel", "place", "part", "beat"] ["train", "stand"] (defScope S_least_wheel) := ⟨rfl, rfl, rfl, by decide +kernel, rfl, by decide +kernel, by decide +kernel⟩
def sp_least_wheel (K : PySem.W.Frag) (T : List Addr) : Sp := fun vs H Q _ => ∃ (a t : Addr) (ps : List Part) (xs : List Int), vs = [.ref a, .ref t] ∧ TrainAt K H a ps ∧ (∀ p ∈ ps, ∃ z ms, p = .wheel z ms) ∧ 1 ≤ ps.length ∧ ps.length ≤ 1000 ∧ SqT K H t (xs.map V.int) ∧ StandL ps xs ∧ FitW ps xs allP 1 ∧ Tb T H ∧
  ∀ (S : Nat) q g H', Same H H' → RingP (lastP ps xs allP) S → H' g = some (.tup (((mksP (lastP ps xs allP) S).map fun n : Nat => (n : Int)).map V.int)) → H' q = some (.tup [.str "wheel", .int (S : Int), .ref g]) → Q (.ref q) H'
theorem ok_least_wheel {f : Addr} {fd : FuncData} {f_turn_behind : Addr} {fd_turn_behind : FuncData} {f_check_stand : Addr} {fd_check_stand : FuncData} {T : List Addr} {cT PT : Addr} (F : Fun K "least_wheel" "least_wheel" S_least_wheel f fd)
    (F_turn_behind : Fun K "turn_behind" "turn_behind" S_turn_behind f_turn_behind fd_turn_behind) (b_turn_behind : Binds K fd_turn_behind ["teeth", "beats", "wheel", "place"] []) (g_turn_behind : mg "turn_behind" = some (.ref f_turn_behind)) (G_turn_behind : FnOk P w K mg base CX0 2 f_turn_behind fd_turn_behind ["teeth", "beats", "wheel", "place"] (sp_turn_behind K))
    (F_check_stand : Fun K "check_stand" "check_stand" S_check_stand f_check_stand fd_check_stand) (b_check_stand : Binds K fd_check_stand ["train", "stand"] []) (g_check_stand : mg "check_stand" = some (.ref f_check_stand)) (G_check_stand : FnOk P w K mg base CX0 5 f_check_stand fd_check_stand ["train", "stand"] (sp_check_stand K)) (m_any : mg "any" = none) (m_zip : mg "zip" = none) (m_tuple : mg "tuple" = none) (m_sorted : mg "sorted" = none)
    (TB_least_wheel : GxR.TabB base mg cT PT) (HC_least_wheel : fd.code = .ref cT) (tm : PT ∈ T) :
    FnOk P w K mg base CX0 7 f fd ["train", "stand"] (sp_least_wheel K T) := by
  refine okC F sc_least_wheel (fun vs H Q E h => ?_) (fun A outer s H vs Q E hr h => ?_)
  ·
    obtain ⟨a, t, ps, xs, rfl, _⟩ := h
    rfl
  ·
    obtain ⟨a, t, ps, xs, rfl, hA, hw, l1, l2, ht, sx, fit, hTb, q⟩ := h
    refine ⟨_, (pss_cons (ps_expr (pe_call G_check_stand (hr.mono (by decide)) (by rfl) g_check_stand F_check_stand.kp b_check_stand .nil pass0 (pa_cons (pv 0) (pa_cons (pv 1) pa_nil))))
      (pss_cons (ps_if (pt_val (pe_anyX (own := [("part", 6)]) (g := (gName 6)) hr (by rfl) m_any rfl sc_least_wheel.nd TB_least_wheel HC_least_wheel (pi_list (pv 0)) (blkOk_by (own := [("part", 6)]) (N := ["train", "stand", "teeth", "beats", "wheel", "place", "part", "beat"]) (sc := defScope S_least_wheel) (by decide +kernel)) (by decide +kernel) rfl (by decide +kernel) (fun _ _ _ _ _ _ _ _ => (pg_name (i := 6) sc_least_wheel.nd rfl (Or.inl rfl))) (fun _ _ _ _ _ _ _ _ hr => (pe_cmpR op_ne (pe_ix (r := rIxT K) ix_tup (pv 6) pe_int (fun _ _ => rfl)) pe_str (nomark _))))) (pss_one ps_never) pss_nil)
      (pss_cons (ps_set (i := 2) sc_least_wheel.nd rfl (.inr rfl) pe_int)
      (pss_cons (ps_set (i := 3) sc_least_wheel.nd rfl (.inl rfl) (pe_lst (pa_cons pe_int pa_nil)))
      (pss_cons (ps_for PassesOwn.never rfl (pi_zipM (by rfl) m_zip (pa_cons (pv 0) (pa_cons (pv 1) pa_nil))) (pg_tup rfl (pgs_cons (pg_name (i := 4) sc_least_wheel.nd rfl (.inl rfl)) (pgs_cons (pg_name (i := 5) sc_least_wheel.nd rfl (.inl rfl)) pgs_nil)))
      (pss_one (ps_asg (pe_call G_turn_behind (hr.mono (by decide)) (by rfl) g_turn_behind F_turn_behind.kp b_turn_behind .nil pass0 (pa_cons (pv 2) (pa_cons (pv 3) (pa_cons (pv 4) (pa_cons (pv 5) pa_nil))))) (pg_tup rfl (pgs_cons (pg_name (i := 2) sc_least_wheel.nd rfl (.inr rfl)) (pgs_cons (pg_name (i := 3) sc_least_wheel.nd rfl (.inl rfl)) pgs_nil))))))
      (pss_one (ps_ret (pe_tup (pa_cons pe_str (pa_cons (pv 2) (pa_cons (pe_callTy call_tuple_of (by rfl) m_tuple (by decide +kernel) (pa_cons (pe_callB (r := rSortedI K) cr_sortedI (by rfl) m_sorted (by decide +kernel) (pa_cons (pe_lc (own := [("beat", 7)]) (g := gName 7)  rfl sc_least_wheel.nd  (pi_list (pv 3)) (blkOk_by (own := [("beat", 7)]) (N := ["train", "stand", "teeth", "beats", "wheel", "place", "part", "beat"]) (sc := defScope S_least_wheel) (by decide +kernel)) (fun _ _ _ _ _ => pg_name (i := 7) sc_least_wheel.nd rfl (Or.inl rfl)) (fun _ _ _ _ _ => pts_nil) (fun _ _ _ _ _ => (pe_op op_mod (pv 7) (pv 2)))) pa_nil)) pa_nil)) pa_nil))))))))))), ?_⟩
    refine w_st (σ' := [some (.ref a), some (.ref t), none, none, none, none, none, none]) rfl ?_
    obtain ⟨vs, hv, dv⟩ := id hA
    have vl : vs.length = ps.length := by rw [dpAll_len dv, List.length_map]
    have xl := sx.len
    walk_at "ct"
    refine ⟨a, t, ps, xs, rfl, hA, sx.okp, l1, ht, sx.ok, fun H1 s1 => ?_⟩
    walk_at "ct"
    refine w_IL (s1.seq hv) ?_
    refine gb_list vs (fun i H2 => Same H1 H2) ((hTb.same s1) _ tm) (Same.refl _) (fun i H2 _ s2 => (s1.trans s2).seq hv) ?_ ?_
    · rintro i v H2 hx s2
      have hn : i < vs.length := (List.getElem?_eq_some_iff.mp hx).1
      obtain ⟨p, hp⟩ : ∃ p, ps[i]? = some p := ⟨_, List.getElem?_eq_getElem (by omega)⟩
      obtain ⟨v', hv1, hd1⟩ := TrainAt.at (a := a) dv hp
      cases Option.some.inj (hx.symm.trans hv1)
      obtain ⟨z, ms, rfl⟩ := hw p (List.mem_of_getElem? hp)
      obtain ⟨wa, mt, rfl, hwa, hmt⟩ := wheel_inv (dp_same (s1.trans s2) hd1)
      walk_at "ct"
      refine ⟨rfl, ?_⟩
      walk_at "ct"
      refine w_rNs (c := false) (by decide +kernel) ?_
      walk_at "ct"
      exact s2
    intro H2 s2
    walk_at "ct"
    refine ⟨len2 rfl, fun b0 n_b0 => ?_⟩
    generalize h_H3 : upd _ b0 _ = H3
    obtain ⟨s_H3, e_b0⟩ := Ct.upd_new h_H3 n_b0
    clear h_H3
    walk_at "ct"
    have s03 : Same H H3 := (s1.trans s2).trans s_H3
    refine ⟨a, t, vs, xs.map V.int, rfl, s03.seq hv, Same.tup s03 ht, ?_⟩
    refine fb_zipM vs (xs.map V.int) (by rw [List.length_map]; omega) (fun i σ J => ∃ (B : Nat → Bool) (S : Nat) (bd : Int) (bs : Addr) (y4 y5 y6 y7 : Option V), σ = [some (.ref a), some (.ref t), some (.int (S : Int)), some (.ref bs), y4, y5, y6, y7] ∧ Same H3 J ∧ SqL K J bs ((btsI B S).map V.int) ∧ RingP B S ∧ S ≤ 1000000 ∧ lastP (ps.drop i) (xs.drop i) B = lastP ps xs allP ∧ ((∀ n, 1 ≤ n → B n = false) ∨ (S : Int) ≤ bd ∧ FitW (ps.drop i) (xs.drop i) B bd)) ⟨allP, 1, 1, b0, _, _, _, _, rfl, Same.refl _, .of e_b0, ring_all.1, by decide, rfl, .inr ⟨Int.le_refl _, fit⟩⟩ ?_ ?_ ?_
    · rintro i σ J _ ⟨B, S, bd, bs, y4, y5, y6, y7, rfl, sJ, _⟩
      exact ⟨(s03.trans sJ).seq hv, Same.tup (s03.trans sJ) ht⟩
    · rintro i v u Tp σ J hx hy ⟨B, S, bd, bs, y4, y5, y6, y7, rfl, sJ, hbs, R, S6, la, fits⟩ nT
      have sJ1 : Same J (upd J Tp (.tup [v, u])) := same_upd nT
      have eT : (upd J Tp (.tup [v, u])) Tp = some (.tup [v, u]) := upd_same
      generalize upd J Tp (.tup [v, u]) = J1 at *
      refine w_gtup (.of eT) rfl ?_
      walk_at "ct"
      have hi : i < vs.length := (List.getElem?_eq_some_iff.mp hx).1
      obtain ⟨p, hp⟩ : ∃ p, ps[i]? = some p := ⟨_, List.getElem?_eq_getElem (by omega)⟩
      obtain ⟨v', hv1, hd1⟩ := TrainAt.at (a := a) dv hp
      cases Option.some.inj (hx.symm.trans hv1)
      obtain ⟨z, ms, rfl⟩ := hw p (List.mem_of_getElem? hp)
      rw [List.getElem?_map] at hy
      obtain ⟨x, hxi, rfl⟩ := Option.map_eq_some_iff.mp hy
      have okp := sx.okp _ (List.mem_of_getElem? hp)
      have pl := sx.ok.2 i _ x hp hxi
      have e1 : ps.drop i = .wheel z ms :: ps.drop (i + 1) := by
        rw [List.drop_eq_getElem_cons (show i < ps.length by omega), (List.getElem?_eq_some_iff.mp hp).2]
      have e2 : xs.drop i = x :: xs.drop (i + 1) := by
        rw [List.drop_eq_getElem_cons (show i < xs.length by omega), (List.getElem?_eq_some_iff.mp hxi).2]
      rw [e1, e2] at la fits
      have la2 : lastP (ps.drop (i + 1)) (xs.drop (i + 1)) (behP B z x ms) = lastP ps xs allP := la
      have z1 := okp.1
      have fits2 : (∀ n, 1 ≤ n → B n = false) ∨ (S : Int) ≤ bd ∧ bd * z ≤ 1000000 ∧ FitW (ps.drop (i + 1)) (xs.drop (i + 1)) (behP B z x ms) (bd * z) := by
        rcases fits with h | ⟨h1, h2⟩
        · exact .inl h
        · rcases (show (∀ n, 1 ≤ n → B n = false) ∨ bd * z ≤ 1000000 ∧ FitW (ps.drop (i + 1)) (xs.drop (i + 1)) (behP B z x ms) (bd * z) from h2) with h | h
          · exact .inl h
          · exact .inr ⟨h1, h⟩
      have fits3 : (∀ n, 1 ≤ n → B n = false) ∨ (S : Int) * z ≤ 1000000 := by
        rcases fits2 with h | ⟨h1, h2, _⟩
        · exact .inl h
        · have := Int.mul_le_mul_of_nonneg_right h1 (show 0 ≤ z by omega)
          exact .inr (by omega)
      refine ⟨bs, v, z, x, ms, B, S, rfl, dp_same ((s03.trans sJ).trans sJ1) hd1, okp, pl.1, pl.2, sJ1.seq hbs, R.1, fits3, fun S2 q2 l2 J2 sJ2 R2 le hl2 hq2 => ?_⟩
      refine w_gtup (.of hq2) rfl ?_
      walk_at "ct"
      have S26 : S2 ≤ 1000000 := by
        rcases fits2 with h | ⟨h1, h2, _⟩
        · rw [ring_uniq R2 (ring_none (beh_none h)).1]; decide
        · have := Int.mul_le_mul_of_nonneg_right h1 (show 0 ≤ z by omega)
          omega
      refine ⟨behP B z x ms, S2, bd * z, l2, _, _, _, _, rfl, (sJ.trans sJ1).trans sJ2, .of hl2, R2, S26, la2, ?_⟩
      rcases fits2 with h | ⟨h1, _, h3⟩
      · exact .inl (beh_none h)
      · have := Int.mul_le_mul_of_nonneg_right h1 (show 0 ≤ z by omega)
        exact .inr ⟨by omega, h3⟩
    rintro σ J ⟨B, S, bd, bs, y4, y5, y6, y7, rfl, sJ, hbs, R, S6, la, fits⟩
    have la3 : B = lastP ps xs allP := by
      rw [List.drop_of_length_le (by omega)] at la
      rw [← la]
      rfl
    walk_at "ct"
    have S1 := R.1.1
    refine w_IL hbs ?_
    refine lb_list ((btsI B S).map V.int) (fun D i J2 => Same J J2 ∧ J2 D = some (.lst (((btsI B S).take i).map fun n => V.int (n % (S : Int))))) (fun D nD => ⟨same_upd nD, upd_same⟩) (fun D nD i J2 _ h => h.1.seq hbs) ?_ ?_
    · rintro D nD i v J2 hx ⟨sJ2, hD⟩
      rw [List.getElem?_map] at hx
      obtain ⟨n, hn, rfl⟩ := Option.map_eq_some_iff.mp hx
      have hi := (List.getElem?_eq_some_iff.mp hn).1
      have bl : (btsI B S).length ≤ 1000000 := by
        rw [btsI_len]
        exact Nat.le_trans (cnt_bound B S) S6
      walk_at "ct"
      refine ⟨rfl, ?_⟩
      walk_at "ct"
      refine w_rIv (.int (n % (S : Int))) (show (0 : Int) < S by omega) rfl ?_
      refine ⟨_, hD, by rw [List.length_map, List.length_take]; exact Nat.lt_of_le_of_lt (show min i (btsI B S).length ≤ 1000000 by omega) (by decide), same_new sJ2 nD, ?_⟩
      rw [upd_same, List.take_add_one, hn, List.map_append]
      rfl
    rintro D nD J2 ⟨sJ2, hD⟩
    rw [List.length_map, List.take_of_length_le (Nat.le_refl _)] at hD
    have hD2 : J2 D = some (.lst (((bts B S).map fun n : Nat => (n : Int) % (S : Int)).map V.int)) := by
      rw [hD]
      unfold btsI
      rw [List.map_map, List.map_map]
      rfl
    walk_at "ct"
    refine ⟨D, _, rfl, .of hD2, fun ns p pm so n_p => ?_⟩
    generalize h_J3 : upd _ p _ = J3
    obtain ⟨s_J3, e_p⟩ := Ct.upd_new h_J3 n_p
    clear h_J3
    rw [mks_sorted R.1 pm so] at e_p
    walk_at "ct"
    refine ⟨p, _, rfl, .inl ⟨.of e_p, fun g n_g => ?_⟩⟩
    generalize h_J4 : upd _ g _ = J4
    obtain ⟨s_J4, e_g⟩ := Ct.upd_new h_J4 n_g
    clear h_J4
    walk_at "ct"
    refine ⟨len2 rfl, fun q1 n_q1 => ?_⟩
    generalize h_J5 : upd _ q1 _ = J5
    obtain ⟨s_J5, e_q1⟩ := Ct.upd_new h_J5 n_q1
    clear h_J5
    rw [la3] at R e_g
    exact q S q1 g J5 (((((s03.trans sJ).trans sJ2).trans s_J3).trans s_J4).trans s_J5) R (s_J5 _ _ e_g) e_q1
abbrev S_without_mark : Stmt := topS 21
theorem sc_without_mark : FnScope ["wheel", "mark", "kept"] ["wheel", "mark"] (defScope S_without_mark) := ⟨rfl, rfl, rfl, by decide +kernel, rfl, by decide +kernel, by decide +kernel⟩
def sp_without_mark (K : PySem.W.Frag) : Sp := fun vs H Q _ => ∃ (v : V) (z : Int) (ms : List Int) (m : Int), vs = [v, .int m] ∧ Dp K H v (Part.wheel z ms).data ∧ ms.length ≤ 1000 ∧ ∀ c H', Same H H' → Dp K H' (.ref c) (Part.wheel z (offMark ms m)).data → Q (.ref c) H'
theorem ok_without_mark {f : Addr} {fd : FuncData} (F : Fun K "without_mark" "without_mark" S_without_mark f fd) (m_tuple : mg "tuple" = none) :
    FnOk P w K mg base CX0 1 f fd ["wheel", "mark"] (sp_without_mark K) := by
  refine F.ok sc_without_mark (fun vs H Q E h => ?_) (fun cdv A outer s H vs Q E hr h => ?_)
  ·
    obtain ⟨v, z, ms, m, rfl, _⟩ := h
    rfl
  ·
    obtain ⟨v, z, ms, m, rfl, hp, hl, q⟩ := h
    obtain ⟨a, b, rfl, ha, hb⟩ := wheel_inv hp
    refine ⟨_, (pss_one (ps_ret (pe_tup (pa_cons pe_str (pa_cons (pe_ix (r := rIxT K) ix_tup (pv 0) pe_int (fun _ _ => rfl)) (pa_cons (pe_callTy call_tuple_of (by rfl) m_tuple (by decide +kernel) (pa_cons (pe_lc (own := [("kept", 2)]) (g := gName 2)  rfl sc_without_mark.nd  (pi_tup (pe_ix (r := rIxT K) ix_tup (pv 0) pe_int (fun _ _ => rfl))) (blkOk_by (own := [("kept", 2)]) (N := ["wheel", "mark", "kept"]) (sc := defScope S_without_mark) (by decide +kernel)) (fun _ _ _ _ _ => pg_name (i := 2) sc_without_mark.nd rfl (Or.inl rfl)) (fun _ _ _ _ _ => (pts_one (pt_cmpR op_ne (pv 2) (pv 1) (nomark _)))) (fun _ _ _ _ _ => (pv 2))) pa_nil)) pa_nil)))))), ?_⟩
    refine w_st (σ' := [some (.ref a), some (.int m), none]) rfl ?_
    walk_at "ct"
    refine w_IT hb ?_
    refine lb_tup (ms.map V.int) (fun D i H1 => Same H H1 ∧ H1 D = some (.lst ((offMark (ms.take i) m).map V.int))) (fun D hD => ⟨same_upd hD, upd_same⟩) (fun D hD i H1 _ h => Same.tup h.1 hb) ?_ ?_
    · rintro D hD i x H1 hx ⟨s1, h1⟩
      obtain ⟨c, hc, rfl⟩ : ∃ c : Int, ms[i]? = some c ∧ x = .int c := by
        rw [List.getElem?_map] at hx
        cases e : ms[i]? with
        | none => rw [e] at hx; cases hx
        | some c => rw [e] at hx; exact ⟨c, rfl, (Option.some.inj hx).symm⟩
      have hi : i < ms.length := (List.getElem?_eq_some_iff.mp hc).1
      have et : offMark (ms.take (i + 1)) m = offMark (ms.take i) m ++ (if c = m then [] else [c]) := by
        unfold offMark
        rw [List.take_add_one, hc, Option.toList_some, List.filter_append]
        congr 1
        by_cases e : c = m
        · rw [if_pos e, List.filter_cons_of_neg (by rw [decide_eq_true e]; decide), List.filter_nil]
        · rw [if_neg e, List.filter_cons_of_pos (by rw [decide_eq_false e]; decide), List.filter_nil]
      have ol : (offMark (ms.take i) m).length ≤ 1000 := by
        have := List.length_filter_le (fun k => !decide (k = m)) (ms.take i)
        rw [List.length_take] at this
        unfold offMark
        omega
      walk_at "ct"
      refine ⟨rfl, ?_⟩
      walk_at "ct"
      refine w_iteN (fun e => ?_) (fun e => ?_)
      · walk_at "ct"
        refine ⟨_, h1, by rw [List.length_map]; exact small1000 ol, same_new s1 hD, ?_⟩
        rw [upd_same, et, if_neg e, List.map_append]
        rfl
      · rw [et, if_pos e, List.append_nil]
        exact ⟨s1, h1⟩
    · rintro D hD H1 ⟨s1, h1⟩
      rw [List.length_map, List.take_length] at h1
      walk_at "ct"
      refine ⟨D, _, rfl, .inl ⟨.of h1, fun c nc => ?_⟩⟩
      walk_at "ct"
      refine ⟨len2 rfl, fun w nw => ?_⟩
      have s2 : Same H1 (upd H1 c (.tup ((offMark ms m).map V.int))) := same_upd nc
      have s3 := same_upd (o := .tup [.str "wheel", .int z, .ref c]) nw
      exact q w _ ((s1.trans s2).trans s3) (wheel_dp (.of upd_same) (.of (s3 _ _ upd_same)))
abbrev S_worn_by : Stmt := topS 22
theorem sc_worn_by : FnScope ["train", "wear", "parts", "i", "mark"] ["train", "wear"] (defScope S_worn_by) := ⟨rfl, rfl, rfl, by decide +kernel, rfl, by decide +kernel, by decide +kernel⟩
def sp_worn_by (K : PySem.W.Frag) : Sp := fun vs H Q _ => ∃ (a : Addr) (v : V) (ps : List Part) (wr : Option (Nat × Int)), vs = [.ref a, v] ∧ TrainAt K H a ps ∧ (∀ p ∈ ps, p.ok) ∧ WearAt K H v wr ∧ (∀ i m, wr = some (i, m) → ∃ z ms, ps[i]? = some (.wheel z ms)) ∧
  ∀ l ws H', Same H H' → H l = none → H' l = some (.lst ws) → DpAll K H' ws ((wornP ps wr).map Part.data) → Q (.ref l) H'
theorem ok_worn_by {f : Addr} {fd : FuncData} {f_without_mark : Addr} {fd_without_mark : FuncData} (F : Fun K "worn_by" "worn_by" S_worn_by f fd)
    (F_without_mark : Fun K "without_mark" "without_mark" S_without_mark f_without_mark fd_without_mark) (b_without_mark : Binds K fd_without_mark ["wheel", "mark"] []) (g_without_mark : mg "without_mark" = some (.ref f_without_mark)) (G_without_mark : FnOk P w K mg base CX0 1 f_without_mark fd_without_mark ["wheel", "mark"] (sp_without_mark K)) (m_list : mg "list" = none) :
    FnOk P w K mg base CX0 2 f fd ["train", "wear"] (sp_worn_by K) := by
  refine F.ok sc_worn_by (fun vs H Q E h => ?_) (fun cdv A outer s H vs Q E hr h => ?_)
  ·
    obtain ⟨a, v, ps, wr, rfl, _⟩ := h
    rfl
  ·
    obtain ⟨a, v, ps, wr, rfl, ⟨vs, hv, hd⟩, hok, hw, hwh, q⟩ := h
    refine ⟨_, (pss_cons (ps_set (i := 2) sc_worn_by.nd rfl (.inl rfl) (pe_callTy call_list_of (by rfl) m_list (by decide +kernel) (pa_cons (pv 0) pa_nil)))
      (pss_cons (ps_if (pt_cmpR op_notN (pv 1) pe_non (nomark _)) (pss_cons (ps_asg (pv 1) (pg_tup rfl (pgs_cons (pg_name (i := 3) sc_worn_by.nd rfl (.inl rfl)) (pgs_cons (pg_name (i := 4) sc_worn_by.nd rfl (.inl rfl)) pgs_nil))))
      (pss_one (ps_asg (pe_call G_without_mark (hr.mono (by decide)) (by rfl) g_without_mark F_without_mark.kp b_without_mark .nil pass0 (pa_cons (pe_ix (r := rIxL K) ix_list (pv 2) (pv 3) (fun _ _ => rfl)) (pa_cons (pv 4) pa_nil))) (pg_sub (pv 2) (pv 3) set_list)))) pss_nil)
      (pss_one (ps_ret (pv 2))))), ?_⟩
    refine w_st (σ' := [some (.ref a), some v, none, none, none]) rfl ?_
    have hvl : vs.length = ps.length := by rw [dpAll_len hd, List.length_map]
    walk_at "ct"
    refine ⟨a, vs, rfl, .inl hv, fun l nl => ?_⟩
    have s1 : Same H (upd H l (.lst vs)) := same_upd nl
    have h1 : upd H l (.lst vs) l = some (.lst vs) := upd_same
    generalize upd H l _ = H1 at *
    walk_at "ct"
    cases wr with
    | none =>
      have hw : v = .non := hw
      subst hw
      refine ⟨rfl, ?_⟩
      rw [decide_eq_true rfl]
      walk_at "ct"
      exact q l vs H1 s1 nl h1 (dpAll_same s1 hd)
    | some im =>
      obtain ⟨i, m⟩ := im
      obtain ⟨g, rfl, hg⟩ := hw
      obtain ⟨z, ms, hp⟩ := hwh i m rfl
      have hi : i < ps.length := (List.getElem?_eq_some_iff.mp hp).1
      refine ⟨rfl, ?_⟩
      rw [decide_eq_false (by intro z; cases z)]
      walk_at "ct"
      refine w_gtup (Same.tup s1 hg) rfl ?_
      walk_at "ct"
      obtain ⟨u, hu1, hu2⟩ := TrainAt.at (a := a) hd hp
      refine w_ixL (.of h1) (at_of (j := i) rfl hu1) ?_
      walk_at "ct"
      have ok := hok _ (List.mem_of_getElem? hp)
      refine ⟨u, z, ms, m, rfl, dp_same s1 hu2, ok.2.2.2, fun c H2 s2 hc => ?_⟩
      walk_at "ct"
      have h2 := s2 _ _ h1
      refine w_setL h2 (ix_at (j := i) rfl (by omega)) ?_
      walk_at "ct"
      refine q l _ _ (same_new (s1.trans s2) nl) nl upd_same ?_
      rw [show wornP ps (some (i, m)) = ps.set i (.wheel z (offMark ms m)) from by unfold wornP; simp only [hp], List.map_set]
      exact dpAll_set (parts_upd h2 ps (dpAll_same (s1.trans s2) hd)) (part_upd hc h2)
abbrev S_worn : Stmt := topS 23
theorem sc_worn : FnScope ["train", "wear"] ["train", "wear"] (defScope S_worn) := ⟨rfl, rfl, rfl, by decide +kernel, rfl, by decide +kernel, by decide +kernel⟩
def sp_worn (K : PySem.W.Frag) : Sp := fun vs H Q _ => ∃ (a : Addr) (v : V) (ps : List Part) (wr : Option (Nat × Int)), vs = [.ref a, v] ∧ TrainAt K H a ps ∧ (∀ p ∈ ps, p.ok) ∧ 1 ≤ ps.length ∧ WearAt K H v wr ∧ (∀ i m, wr = some (i, m) → ∃ z ms, ps[i]? = some (.wheel z ms)) ∧
  ∀ l ws H', Same H H' → H l = none → H' l = some (.lst ws) → DpAll K H' ws ((wornP ps wr).map Part.data) → Q (.ref l) H'
theorem ok_worn {f : Addr} {fd : FuncData} {f_worn_by : Addr} {fd_worn_by : FuncData} {f_check_train : Addr} {fd_check_train : FuncData} (F : Fun K "worn" "worn" S_worn f fd)
    (F_worn_by : Fun K "worn_by" "worn_by" S_worn_by f_worn_by fd_worn_by) (b_worn_by : Binds K fd_worn_by ["train", "wear"] []) (g_worn_by : mg "worn_by" = some (.ref f_worn_by)) (G_worn_by : FnOk P w K mg base CX0 2 f_worn_by fd_worn_by ["train", "wear"] (sp_worn_by K))
    (F_check_train : Fun K "check_train" "check_train" S_check_train f_check_train fd_check_train) (b_check_train : Binds K fd_check_train ["train"] []) (g_check_train : mg "check_train" = some (.ref f_check_train)) (G_check_train : FnOk P w K mg base CX0 4 f_check_train fd_check_train ["train"] (sp_check_train K)) :
    FnOk P w K mg base CX0 5 f fd ["train", "wear"] (sp_worn K) := by
  refine F.ok sc_worn (fun vs H Q E h => ?_) (fun cdv A outer s H vs Q E hr h => ?_)
  ·
    obtain ⟨a, v, ps, wr, rfl, _⟩ := h
    rfl
  ·
    obtain ⟨a, v, ps, wr, rfl, hT, hok, hps, hw, hwh, q⟩ := h
    refine ⟨_, (pss_cons (ps_expr (pe_call G_check_train (hr.mono (by decide)) (by rfl) g_check_train F_check_train.kp b_check_train .nil pass0 (pa_cons (pv 0) pa_nil)))
      (pss_one (ps_ret (pe_call G_worn_by (hr.mono (by decide)) (by rfl) g_worn_by F_worn_by.kp b_worn_by .nil pass0 (pa_cons (pv 0) (pa_cons (pv 1) pa_nil)))))), ?_⟩
    refine w_st (σ' := [some (.ref a), some v]) rfl ?_
    walk_at "ct"
    refine ⟨a, ps, rfl, hT, hok, hps, fun H1 s1 => ?_⟩
    walk_at "ct"
    refine ⟨a, v, ps, wr, rfl, hT.same s1, hok, WearAt.same s1 hw, hwh, fun l ws H2 s2 nl hl hd => ?_⟩
    exact q l ws H2 (s1.trans s2) (s1.free nl) hl hd
abbrev S__law_cell_at : Stmt := topS 25
theorem sc__law_cell_at : FnScope ["_law_script", "_law_k"] ["_law_script", "_law_k"] (defScope S__law_cell_at) := ⟨rfl, rfl, rfl, by decide +kernel, rfl, by decide +kernel, by decide +kernel⟩
def sp__law_cell_at (K : PySem.W.Frag) : Sp := fun vs H Q _ => ∃ (a : Addr) (ns : List Int) (k : Nat), vs = [.ref a, .int k] ∧ SqL K H a (ns.map V.int) ∧ ∀ c : Int, Q (.int c) H
theorem ok__law_cell_at {f : Addr} {fd : FuncData} (F : Fun K "_law_cell_at" "_law_cell_at" S__law_cell_at f fd) (m_len : mg "len" = none) :
    FnOk P w K mg base CX0 1 f fd ["_law_script", "_law_k"] (sp__law_cell_at K) := by
  refine F.ok sc__law_cell_at (fun vs H Q E h => ?_) (fun cdv A outer s H vs Q E hr h => ?_)
  ·
    obtain ⟨a, ns, k, rfl, _⟩ := h
    rfl
  ·
    obtain ⟨a, ns, k, rfl, hS, q⟩ := h
    refine ⟨_, (pss_cons (ps_if (pt_cmpR op_lt (pv 1) (pe_callB call_len_seq (by rfl) m_len (by decide +kernel) (pa_cons (pv 0) pa_nil)) (nomark _)) (pss_one (ps_ret (pe_ix (r := rIxL K) ix_list (pv 0) (pv 1) (fun _ _ => rfl)))) pss_nil)
      (pss_one (ps_ret pe_int))), ?_⟩
    refine w_st (σ' := [some (.ref a), some (.int k)]) rfl ?_
    walk_at "ct"
    refine ⟨a, _, rfl, .inl hS, ?_⟩
    walk_at "ct"
    refine w_ite (fun e => ?_) (fun e => ?_)
    · walk_at "ct"
      rw [List.length_map] at e
      refine w_ixL hS (at_of (j := k) rfl (by rw [List.getElem?_map, List.getElem?_eq_getElem (by omega)]; rfl)) ?_
      exact q _
    · walk_at "ct"
      exact q _
abbrev S__law_mix : Stmt := topS 26
theorem sc__law_mix : FnScope ["_law_cell", "_law_k", "_law_turn", "_law_number"] ["_law_cell", "_law_k"] (defScope S__law_mix) := ⟨rfl, rfl, rfl, by decide +kernel, rfl, by decide +kernel, by decide +kernel⟩
def sp__law_mix (K : PySem.W.Frag) : Sp := fun vs H Q _ => ∃ c k : Int, vs = [.int c, .int k] ∧ 0 ≤ k ∧ k ≤ 1000 ∧ ∀ n : Int, 0 ≤ n → n < 2147483648 → Q (.int n) H
theorem ok__law_mix {f : Addr} {fd : FuncData} (F : Fun K "_law_mix" "_law_mix" S__law_mix f fd) (m_range : mg "range" = none) :
    FnOk P w K mg base CX0 1 f fd ["_law_cell", "_law_k"] (sp__law_mix K) := by
  refine F.ok sc__law_mix (fun vs H Q E h => ?_) (fun cdv A outer s H vs Q E hr h => ?_)
  ·
    obtain ⟨c, k, rfl, _⟩ := h
    rfl
  ·
    obtain ⟨c, k, rfl, k0, k1, q⟩ := h
    refine ⟨_, (pss_cons (ps_if (pt_cmpR op_ge (pv 0) (pe_op op_powB pe_int pe_int) (nomark _)) (pss_cons (ps_for PassesOwn.never rfl (pi_range1 (by rfl) m_range (pa_cons (pv 1) pa_nil)) (pg_name (i := 2) sc__law_mix.nd rfl (.inl rfl))
      (pss_one (ps_set (i := 0) sc__law_mix.nd rfl (.inl rfl) (pe_op op_fdivW (pv 0) (pe_op op_powB pe_int pe_int)))))
      (pss_one (ps_ret (pe_op op_mod (pv 0) (pe_op op_powB pe_int pe_int))))) pss_nil)
      (pss_cons (ps_set (i := 3) sc__law_mix.nd rfl (.inl rfl) (pe_op op_mod (pe_op op_mulW (pe_op op_add (pe_op op_add (pe_op op_mod (pv 0) pe_int) (pe_op op_mulW (pe_op op_mulW (pv 1) (pv 1)) pe_int)) (pv 1)) pe_int) pe_int))
      (pss_cons (ps_set (i := 3) sc__law_mix.nd rfl (.inl rfl) (pe_op op_mod (pe_op op_mulW (pv 3) (pv 3)) pe_int))
      (pss_one (ps_ret (pe_op op_fdivW (pe_op op_mod (pe_op op_mulW (pv 3) (pe_op op_add (pv 3) pe_int)) pe_int) pe_int)))))), ?_⟩
    refine w_st (σ' := [some (.int c), some (.int k), none, none]) rfl ?_
    walk_at "ct"
    refine w_rIv (.int 1000000000000000000) ⟨by decide, by decide⟩ rfl ?_
    walk_at "ct"
    refine w_ite (fun e => ?_) (fun e => ?_)
    · walk_at "ct"
      refine w_RG1 (by omega) (by omega) ?_
      refine fb_range (fun n σ H' => ∃ (c' : Int) (y : Option V), σ = [some (.int c'), some (.int k), y, none] ∧ H' = H) ⟨c, none, rfl, rfl⟩ ?_ ?_
      · rintro i σ H' hi ⟨c', y, rfl, rfl⟩
        walk_at "ct"
        refine w_rIv (.int 1000000) ⟨by decide, by decide⟩ rfl ?_
        refine w_div (div_ok (by decide) (by decide)) fun r => ?_
        walk_at "ct"
        exact ⟨_, _, rfl, rfl⟩
      · rintro σ H' ⟨c', y, rfl, rfl⟩
        walk_at "ct"
        refine w_rIv (.int 1000000) ⟨by decide, by decide⟩ rfl ?_
        refine w_mod (by decide) fun r h0 h1 => ?_
        exact q _ h0 (by omega)
    · walk_at "ct"
      refine w_mod (by decide) fun r0 a0 a1 => ?_
      walk_at "ct"
      have kk : 0 ≤ k * k ∧ k * k ≤ 1000 * 1000 := ⟨Int.mul_nonneg k0 k0, Int.mul_le_mul k1 k1 k0 (by decide)⟩
      refine w_rI (mul_ok (by omega) (by omega) (by omega) (by omega)) ?_
      walk_at "ct"
      refine w_rI (mul_ok (by omega) (by omega) (by omega) (by omega)) ?_
      walk_at "ct"
      refine w_rI (mul_ok (by omega) (by omega) (by omega) (by omega)) ?_
      walk_at "ct"
      refine w_mod (by decide) fun r1 b0 b1 => ?_
      walk_at "ct"
      refine w_rI (mul_ok (by omega) (by omega) (by omega) (by omega)) ?_
      walk_at "ct"
      refine w_mod (by decide) fun r2 c0 c1 => ?_
      walk_at "ct"
      refine w_rI (mul_ok (by omega) (by omega) (by omega) (by omega)) ?_
      walk_at "ct"
      refine w_mod (by decide) fun r3 d0 d1 => ?_
      walk_at "ct"
      refine w_rI (div_ok (by decide) (by decide)) ?_
      exact q _ (by omega) (by omega)
abbrev S__law_digit : Stmt := topS 27
theorem sc__law_digit : FnScope ["_law_number", "_law_by", "_law_k", "_law_turn"] ["_law_number", "_law_by", "_law_k"] (defScope S__law_digit) := ⟨rfl, rfl, rfl, by decide +kernel, rfl, by decide +kernel, by decide +kernel⟩
def sp__law_digit (K : PySem.W.Frag) : Sp := fun vs H Q _ => ∃ (n b : Int) (k : Nat), vs = [.int n, .int b, .int k] ∧ 1 ≤ b ∧ b < 2 ^ 64 ∧ k ≤ 1000 ∧ ∀ r : Int, 0 ≤ r → r < b → Q (.int r) H
theorem ok__law_digit {f : Addr} {fd : FuncData} (F : Fun K "_law_digit" "_law_digit" S__law_digit f fd) (m_range : mg "range" = none) :
    FnOk P w K mg base CX0 1 f fd ["_law_number", "_law_by", "_law_k"] (sp__law_digit K) := by
  refine F.ok sc__law_digit (fun vs H Q E h => ?_) (fun cdv A outer s H vs Q E hr h => ?_)
  ·
    obtain ⟨n, b, k, rfl, _⟩ := h
    rfl
  ·
    obtain ⟨n, b, k, rfl, b0, b1, hk, q⟩ := h
    refine ⟨_, (pss_cons (ps_for PassesOwn.never rfl (pi_range1 (by rfl) m_range (pa_cons (pv 2) pa_nil)) (pg_name (i := 3) sc__law_digit.nd rfl (.inl rfl))
      (pss_one (ps_set (i := 0) sc__law_digit.nd rfl (.inl rfl) (pe_op op_fdivW (pv 0) (pv 1)))))
      (pss_one (ps_ret (pe_op op_mod (pv 0) (pv 1))))), ?_⟩
    refine w_st (σ' := [some (.int n), some (.int b), some (.int k), none]) rfl ?_
    walk_at "ct"
    refine w_RG1 (by omega) (by omega) ?_
    refine fb_range (fun i σ H' => ∃ (n' : Int) (y : Option V), σ = [some (.int n'), some (.int b), some (.int k), y] ∧ H' = H) ⟨n, none, rfl, rfl⟩ ?_ ?_
    · rintro i σ H' hi ⟨n', y, rfl, rfl⟩
      walk_at "ct"
      refine w_div (div_ok (by omega) (by omega)) fun r => ?_
      walk_at "ct"
      exact ⟨_, _, rfl, rfl⟩
    · rintro σ H' ⟨n', y, rfl, rfl⟩
      walk_at "ct"
      refine w_mod (by omega) fun r h0 h1 => ?_
      exact q _ h0 h1
abbrev S__law_part : Stmt := topS 29
theorem sc__law_part : FnScope ["_law_pick", "_law_most", "_law_teeth", "_law_marks", "_law_k"] ["_law_pick", "_law_most"] (defScope S__law_part) := ⟨rfl, rfl, rfl, by decide +kernel, rfl, by decide +kernel, by decide +kernel⟩
def sp__law_part (K : PySem.W.Frag) : Sp := fun vs H Q _ => ∃ (pick most : Int), vs = [.int pick, .int most] ∧ 1 ≤ most ∧ most ≤ 500 ∧ ∀ (v : V) (p : Part) H', Same H H' → Dp K H' v p.data → p.ok → p.places ≤ 500 → (pick % 8 ≤ 3 → ∃ z ms, p = .wheel z ms) → Q v H'
theorem ok__law_part {f : Addr} {fd : FuncData} {f__law_digit : Addr} {fd__law_digit : FuncData} (F : Fun K "_law_part" "_law_part" S__law_part f fd)
    (F__law_digit : Fun K "_law_digit" "_law_digit" S__law_digit f__law_digit fd__law_digit) (b__law_digit : Binds K fd__law_digit ["_law_number", "_law_by", "_law_k"] []) (g__law_digit : mg "_law_digit" = some (.ref f__law_digit)) (G__law_digit : FnOk P w K mg base CX0 1 f__law_digit fd__law_digit ["_law_number", "_law_by", "_law_k"] (sp__law_digit K)) (m_tuple : mg "tuple" = none) (m_range : mg "range" = none) :
    FnOk P w K mg base CX0 2 f fd ["_law_pick", "_law_most"] (sp__law_part K) := by
  refine F.ok sc__law_part (fun vs H Q E h => ?_) (fun cdv A outer s H vs Q E hr h => ?_)
  ·
    obtain ⟨pick, most, rfl, _⟩ := h
    rfl
  ·
    obtain ⟨pick, most, rfl, hm, hm2, q⟩ := h
    refine ⟨_, (pss_cons (ps_set (i := 2) sc__law_part.nd rfl (.inl rfl) (pe_op op_add pe_int (pe_op op_mod (pe_op op_fdivW (pv 0) pe_int) (pv 1))))
      (pss_cons (ps_if (pt_cmpR op_gt (pe_op op_mod (pv 0) pe_int) pe_int (nomark _)) (pss_one (ps_ret (pe_ix (r := rIxL K) ix_list (pe_lst (pa_cons (pe_tup (pa_cons pe_str pa_nil)) (pa_cons (pe_tup (pa_cons pe_str pa_nil)) (pa_cons (pe_tup (pa_cons pe_str (pa_cons (pv 2) pa_nil))) (pa_cons (pe_tup (pa_cons pe_str pa_nil)) pa_nil))))) (pe_op op_mod (pv 0) pe_int) (fun _ _ => rfl)))) pss_nil)
      (pss_cons (ps_setLc (i := 3) (own := [("_law_k", 4)]) (g := gName 4)  rfl sc__law_part.nd rfl rfl (sw_true rfl rfl rfl (by decide +kernel)) (pi_range1 (by rfl) m_range (pa_cons (pv 2) pa_nil)) (blkOk_by (own := [("_law_k", 4)]) (N := ["_law_pick", "_law_most", "_law_teeth", "_law_marks", "_law_k"]) (sc := defScope S__law_part) (by decide +kernel)) (fun _ _ _ _ _ => pg_name (i := 4) sc__law_part.nd rfl (Or.inl rfl)) (fun _ _ _ _ _ => (pts_one (PW.pt (pw_or (pt_cmpR op_eq (pe_call G__law_digit (hr.mono (by decide)) (by rfl) g__law_digit F__law_digit.kp b__law_digit .nil pass0 (pa_cons (pe_op op_fdivW (pv 0) pe_int) (pa_cons pe_int (pa_cons (pv 4) pa_nil)))) pe_int (nomark _)) (pw_or1 (pt_cmpR op_eq (pe_op op_mod (pe_op op_fdivW (pv 0) pe_int) pe_int) pe_int (nomark _))))))) (fun _ _ _ _ _ => (pv 4)))
      (pss_one (ps_ret (pe_tup (pa_cons pe_str (pa_cons (pv 2) (pa_cons (pe_callTy call_tuple_of (by rfl) m_tuple (by decide +kernel) (pa_cons (pv 3) pa_nil)) pa_nil))))))))), ?_⟩
    refine w_st (σ' := [some (.int pick), some (.int most), none, none, none]) rfl ?_
    walk_at "ct"
    refine w_div (div_ok (by decide) (by decide)) fun p8 => ?_
    walk_at "ct"
    refine w_mod (by omega) fun sz z0 z1 => ?_
    walk_at "ct"
    obtain ⟨z, hz⟩ : ∃ z : Int, 1 + sz = z := ⟨_, rfl⟩
    rw [hz]
    refine w_rI (by decide) ?_
    walk_at "ct"
    refine w_ite (fun e => ?_) (fun e => ?_)
    · walk_at "ct"
      refine ⟨len2 rfl, fun c1 n1 => ?_⟩
      have s1 : Same H (upd H c1 (.tup [.str "click"])) := same_upd n1
      have h1 : upd H c1 (.tup [.str "click"]) c1 = some (.tup [.str "click"]) := upd_same
      generalize upd H c1 _ = H1 at *
      walk_at "ct"
      refine ⟨len2 rfl, fun c2 n2 => ?_⟩
      have s2 : Same H1 (upd H1 c2 (.tup [.str "rocker"])) := same_upd n2
      have h2 : upd H1 c2 (.tup [.str "rocker"]) c2 = some (.tup [.str "rocker"]) := upd_same
      generalize upd H1 c2 _ = H2 at *
      walk_at "ct"
      refine ⟨len2 rfl, fun c3 n3 => ?_⟩
      have s3 : Same H2 (upd H2 c3 (.tup [.str "spring", .int z])) := same_upd n3
      have h3 : upd H2 c3 (.tup [.str "spring", .int z]) c3 = some (.tup [.str "spring", .int z]) := upd_same
      generalize upd H2 c3 _ = H3 at *
      walk_at "ct"
      refine ⟨len2 rfl, fun c4 n4 => ?_⟩
      have s4 : Same H3 (upd H3 c4 (.tup [.str "rocker"])) := same_upd n4
      have h4 : upd H3 c4 (.tup [.str "rocker"]) c4 = some (.tup [.str "rocker"]) := upd_same
      generalize upd H3 c4 _ = H4 at *
      walk_at "ct"
      refine ⟨len2 rfl, fun l nl => ?_⟩
      have s5 : Same H4 (upd H4 l (.lst [.ref c1, .ref c2, .ref c3, .ref c4])) := same_upd nl
      have h5 : upd H4 l (.lst [.ref c1, .ref c2, .ref c3, .ref c4]) l = some (.lst [.ref c1, .ref c2, .ref c3, .ref c4]) := upd_same
      generalize upd H4 l _ = H5 at *
      have sA : Same H H5 := (((s1.trans s2).trans s3).trans s4).trans s5
      walk_at "ct"
      refine w_mod (by decide) fun r r0 r1 => ?_
      have hr : r = 0 ∨ r = 1 ∨ r = 2 ∨ r = 3 := by omega
      rcases hr with rfl | rfl | rfl | rfl
      · refine w_ixL (.of h5) (v := .ref c1) rfl ?_
        exact q _ .click _ sA (click_dp (.of ((((s2.trans s3).trans s4).trans s5) _ _ h1))) trivial (by decide) (fun z => absurd z (by omega))
      · refine w_ixL (.of h5) (v := .ref c2) rfl ?_
        exact q _ .rocker _ sA (rocker_dp (.of (((s3.trans s4).trans s5) _ _ h2))) trivial (by decide) (fun z => absurd z (by omega))
      · refine w_ixL (.of h5) (v := .ref c3) rfl ?_
        exact q _ (.spring z) _ sA (spring_dp (.of ((s4.trans s5) _ _ h3))) ⟨by omega, by omega⟩ (show z ≤ 500 by omega) (fun z => absurd z (by omega))
      · refine w_ixL (.of h5) (v := .ref c4) rfl ?_
        exact q _ .rocker _ sA (rocker_dp (.of (s5 _ _ h4))) trivial (by decide) (fun z => absurd z (by omega))
    · walk_at "ct"
      refine w_RG1 (by omega) (by omega) ?_
      refine lb_range (fun D i H1 => Same H H1 ∧ ∃ ms : List Int, H1 D = some (.lst (ms.map V.int)) ∧ ms.length ≤ i ∧ Rise (i : Int) ms) (fun D hD => ⟨same_upd hD, [], upd_same, Nat.le_refl _, List.Pairwise.nil, fun m hm => by cases hm⟩) ?_ ?_
      · rintro D hD i H1 hi ⟨sm, ms, hD1, ml, rs⟩
        have hi5 : i < 500 := by omega
        have yes : ∃ acc, H1 D = some (.lst acc) ∧ acc.length < sizeLine ∧ (Same H (upd H1 D (.lst (acc ++ [.int (0 + (i : Int))]))) ∧ ∃ ms : List Int, upd H1 D (.lst (acc ++ [.int (0 + (i : Int))])) D = some (.lst (ms.map V.int)) ∧ ms.length ≤ i + 1 ∧ Rise ((i + 1 : Nat) : Int) ms) := by
          refine ⟨ms.map V.int, hD1, by rw [List.length_map]; exact small1000 (by omega), same_new sm hD, ms ++ [(i : Int)], ?_, ?_, ?_, ?_⟩
          · rw [upd_same, List.map_append, Int.zero_add]
            rfl
          · rw [List.length_append]
            show ms.length + 1 ≤ i + 1
            omega
          · refine List.pairwise_append.mpr ⟨rs.1, List.pairwise_singleton _ _, fun a ha b hb => ?_⟩
            rw [List.mem_singleton] at hb
            rw [hb]
            exact (rs.2 a ha).2
          · intro m hm
            rcases List.mem_append.mp hm with hm | hm
            · have := rs.2 m hm
              omega
            · rw [List.mem_singleton] at hm
              omega
        walk_at "ct"
        refine ⟨rfl, ?_⟩
        walk_at "ct"
        refine w_div (div_ok (by decide) (by decide)) fun p64 => ?_
        walk_at "ct"
        rw [Int.zero_add] at *
        refine ⟨p64, 2, i, rfl, by decide, by decide, by omega, fun r r0 r1 => ?_⟩
        walk_at "ct"
        refine w_ite (fun e2 => ?_) (fun e2 => ?_)
        · refine iteT ?_
          walk_at "ct"
          exact yes
        · walk_at "ct"
          refine w_div (div_ok (by decide) (by decide)) fun p512 => ?_
          walk_at "ct"
          refine w_mod (by decide) fun bit _ _ => ?_
          walk_at "ct"
          refine w_ite (fun e3 => ?_) (fun e3 => ?_)
          · walk_at "ct"
            exact yes
          · exact ⟨sm, ms, hD1, by omega, rs.1, fun m hm => by have := rs.2 m hm; omega⟩
      · rintro D hD H1 ⟨sm, ms, hD1, ml, rs⟩
        have rs2 : Rise z ms := ⟨rs.1, fun m hm => by have := rs.2 m hm; omega⟩
        walk_at "ct"
        refine ⟨D, _, rfl, .inl ⟨.of hD1, fun b nb => ?_⟩⟩
        walk_at "ct"
        refine ⟨len2 rfl, fun c nc => ?_⟩
        have s1 : Same H (upd H1 b (.tup (ms.map V.int))) := same_new sm (sm.free nb)
        refine q (.ref c) (.wheel z ms) _ (same_new s1 (s1.free nc)) (wheel_dp (.of upd_same) (.of ?_)) ⟨by omega, by omega, rs2, by omega⟩ (show z ≤ 500 by omega) (fun _ => ⟨_, _, rfl⟩)
        rw [upd_ne (ne_of_none upd_same nc), upd_same]
abbrev S__law_pushed : Stmt := topS 31
theorem sc__law_pushed : FnScope ["_law_train_here", "_law_stand", "_law_i", "_law_way", "_law_spots", "_law_at", "_law_part_here", "_law_place"] ["_law_train_here", "_law_stand", "_law_i", "_law_way"] (defScope S__law_pushed) := ⟨rfl, rfl, rfl, by decide +kernel, rfl, by decide +kernel, by decide +kernel⟩
def sp__law_pushed (K : PySem.W.Frag) : Sp := fun vs H Q _ => ∃ (a t : Addr) (ps : List Part) (xs : List Int) (i : Nat) (w : Int), vs = [.ref a, .ref t, .int i, .int w] ∧ TrainAt K H a ps ∧ (∀ p ∈ ps, p.ok) ∧ SqT K H t (xs.map V.int) ∧ StandOk ps xs ∧ i ≤ ps.length ∧ ps.length ≤ 1000 ∧ (w = 0 ∨ Sign w) ∧
  ∀ q u H', Same H H' → H' u = some (.tup ((run ps xs i w).1.map V.int)) → H' q = some (.tup [.ref u, .int (run ps xs i w).2]) → Q (.ref q) H'
theorem ok__law_pushed {f : Addr} {fd : FuncData} (F : Fun K "_law_pushed" "_law_pushed" S__law_pushed f fd) (m_list : mg "list" = none) (m_tuple : mg "tuple" = none) (m_len : mg "len" = none) (m_int : mg "int" = none) (m_max : mg "max" = none) :
    FnOk P w K mg base CX0 1 f fd ["_law_train_here", "_law_stand", "_law_i", "_law_way"] (sp__law_pushed K) := by
  refine F.ok sc__law_pushed (fun vs H Q E h => ?_) (fun cdv A outer s H vs Q E hr h => ?_)
  ·
    obtain ⟨a, t, ps, xs, i, w, rfl, _⟩ := h
    rfl
  ·
    obtain ⟨a, t, ps, xs, i, w, rfl, ⟨vs, hv, hd⟩, hok, hS, hso, hi, hps, hw, q⟩ := h
    refine ⟨_, (pss_cons (ps_set (i := 4) sc__law_pushed.nd rfl (.inl rfl) (pe_callTy call_list_of (by rfl) m_list (by decide +kernel) (pa_cons (pv 1) pa_nil)))
      (pss_cons (ps_set (i := 5) sc__law_pushed.nd rfl (.inl rfl) (pv 2))
      (pss_cons (ps_while PassesOwn.never (PW.pt (pw_and (pt_cmpR op_ne (pv 3) pe_int (nomark _)) (pw_and1 (pt_cmpR op_lt (pv 5) (pe_callB call_len_seq (by rfl) m_len (by decide +kernel) (pa_cons (pv 0) pa_nil)) (nomark _))))) (pss_cons (ps_set (i := 6) sc__law_pushed.nd rfl (.inl rfl) (pe_ix (r := rIxL K) ix_list (pv 0) (pv 5) (fun _ _ => rfl)))
      (pss_cons (ps_set (i := 7) sc__law_pushed.nd rfl (.inl rfl) (pe_ix (r := rIxL K) ix_list (pv 4) (pv 5) (fun _ _ => rfl)))
      (pss_cons (ps_if (pt_cmpR op_eq (pe_ix (r := rIxT K) ix_tup (pv 6) pe_int (fun _ _ => rfl)) pe_str (nomark _)) (pss_cons (ps_asg (pe_op op_mod (pe_op op_add (pv 7) (pv 3)) (pe_ix (r := rIxT K) ix_tup (pv 6) pe_int (fun _ _ => rfl))) (pg_sub (pv 4) (pv 5) set_list))
      (pss_one (ps_set (i := 3) sc__law_pushed.nd rfl (.inl rfl) (pe_op op_mulW (pv 3) (pe_callTy call_int1 (by rfl) m_int (by decide +kernel) (pa_cons (pe_cmpR (r := rIn K false) op_in_seq (pe_ix (r := rIxL K) ix_list (pe_lst (pa_cons (pv 7) (pa_cons (pe_ix (r := rIxL K) ix_list (pv 4) (pv 5) (fun _ _ => rfl)) pa_nil))) (pe_callTy call_int1 (by rfl) m_int (by decide +kernel) (pa_cons (pe_cmpR op_eq (pv 3) pe_int (nomark _)) pa_nil)) (fun _ _ => rfl)) (pe_ix (r := rIxT K) ix_tup (pv 6) pe_int (fun _ _ => rfl)) (by rfl)) pa_nil)))))) (pss_one (ps_if (pt_cmpR op_eq (pe_ix (r := rIxT K) ix_tup (pv 6) pe_int (fun _ _ => rfl)) pe_str (nomark _)) (pss_one (ps_set (i := 3) sc__law_pushed.nd rfl (.inl rfl) (pe_callB (call_max2 rfl) (by rfl) m_max (by decide +kernel) (pa_cons pe_int (pa_cons (pv 3) pa_nil))))) (pss_one (ps_if (pt_cmpR op_eq (pe_ix (r := rIxT K) ix_tup (pv 6) pe_int (fun _ _ => rfl)) pe_str (nomark _)) (pss_cons (ps_asg (pe_callTy call_int1 (by rfl) m_int (by decide +kernel) (pa_cons (pe_cmpR op_eq (pv 3) pe_int (nomark _)) pa_nil)) (pg_sub (pv 4) (pv 5) set_list))
      (pss_one (ps_set (i := 3) sc__law_pushed.nd rfl (.inl rfl) (pe_callTy call_int1 (by rfl) m_int (by decide +kernel) (pa_cons (pe_and (pe_cmpR op_eq (pv 3) pe_int (nomark _)) (pe_one (pe_cmpR op_eq (pv 7) pe_int (nomark _)))) pa_nil))))) (pss_one (ps_if (pt_cmpR op_eq (pv 3) pe_int (nomark _)) (pss_cons (ps_asg (pe_op op_mod (pe_op op_add (pv 7) pe_int) (pe_ix (r := rIxT K) ix_tup (pv 6) pe_int (fun _ _ => rfl))) (pg_sub (pv 4) (pv 5) set_list))
      (pss_one (ps_set (i := 3) sc__law_pushed.nd rfl (.inl rfl) (pe_callTy call_int1 (by rfl) m_int (by decide +kernel) (pa_cons (pe_cmpR op_eq (pv 7) (pe_op op_sub (pe_ix (r := rIxT K) ix_tup (pv 6) pe_int (fun _ _ => rfl)) pe_int) (nomark _)) pa_nil))))) (pss_cons (ps_asg (pe_callB (call_max2 rfl) (by rfl) m_max (by decide +kernel) (pa_cons pe_int (pa_cons (pe_op op_sub (pv 7) pe_int) pa_nil))) (pg_sub (pv 4) (pv 5) set_list))
      (pss_one (ps_set (i := 3) sc__law_pushed.nd rfl (.inl rfl) pe_int))))))))))
      (pss_one (ps_set (i := 5) sc__law_pushed.nd rfl (.inl rfl) (pe_op op_add (pv 5) pe_int)))))))
      (pss_one (ps_ret (pe_tup (pa_cons (pe_callTy call_tuple_of (by rfl) m_tuple (by decide +kernel) (pa_cons (pv 4) pa_nil)) (pa_cons (pv 3) pa_nil)))))))), ?_⟩
    refine w_st (σ' := [some (.ref a), some (.ref t), some (.int i), some (.int w), none, none, none, none]) rfl ?_
    have hvl : vs.length = ps.length := by rw [dpAll_len hd, List.length_map]
    have hxl : xs.length = ps.length := hso.1
    have sgn : ∀ n, (runN ps i (xs, w) n).2 = 0 ∨ Sign (runN ps i (xs, w) n).2 := fun n => by
      rcases hw with e | e
      · have z := runN_zero (ps := ps) (i := i) (s := (xs, w)) (n := 0) e n
        rw [Nat.zero_add] at z
        rw [z]
        exact .inl e
      · exact runN_sign ps i (xs, w) e n
    walk_at "ct"
    refine ⟨t, _, rfl, .inr hS, fun l nl => ?_⟩
    walk_at "ct"
    refine while_by (fun σ H' => ∃ (n : Nat) (y6 y7 : Option V), σ = [some (.ref a), some (.ref t), some (.int i), some (.int (runN ps i (xs, w) n).2), some (.ref l), some (.int ((i : Int) + (n : Int))), y6, y7] ∧ i + n ≤ ps.length ∧ Same H H' ∧ H' l = some (.lst ((runN ps i (xs, w) n).1.map V.int)))
      (fun σ _ => match σ with | [_, _, _, _, _, some (.int k), _, _] => ps.length - k.toNat | _ => 0) ⟨0, none, none, by rw [Int.natCast_zero, Int.add_zero]; rfl, hi, same_upd nl, upd_same⟩ ?_ ?_
    · rintro σ H' ⟨n, y6, y7, rfl, hn, sm, hl⟩
      have fin : (runN ps i (xs, w) n).2 = 0 ∨ i + n = ps.length → ∀ u, H' u = none → ∀ p, (upd H' u (.tup ((runN ps i (xs, w) n).1.map V.int))) p = none → Q (.ref p) (upd (upd H' u (.tup ((runN ps i (xs, w) n).1.map V.int))) p (.tup [.ref u, .int (runN ps i (xs, w) n).2])) := fun hz u nu p np => by
        have er : run ps xs i w = runN ps i (xs, w) n := by
          unfold Ct.run
          rcases hz with e | e
          · rw [show ps.length - i = n + (ps.length - i - n) by omega]
            exact runN_zero e _
          · rw [show ps.length - i = n by omega]
        rw [← er] at np ⊢
        have s2 : Same H (upd H' u (.tup ((run ps xs i w).1.map V.int))) := same_new sm (sm.free nu)
        exact q p u _ (same_new s2 (s2.free np)) (by rw [upd_ne (ne_of_none upd_same np)]; exact upd_same) upd_same
      walk_at "ct"
      refine w_iteN (fun e => ?_) (fun e => ?_)
      · walk_at "ct"
        refine ⟨a, vs, rfl, .inl (sm.seq hv), ?_⟩
        walk_at "ct"
        refine w_ite (fun e1 => ?_) (fun e1 => ?_)
        · have hin : i + n < ps.length := by omega
          obtain ⟨p, hp⟩ : ∃ p, ps[i + n]? = some p := ⟨_, List.getElem?_eq_getElem hin⟩
          obtain ⟨v, hv1, hd1⟩ := TrainAt.at (a := a) hd hp
          obtain ⟨x, hx⟩ : ∃ x, xs[i + n]? = some x := ⟨_, List.getElem?_eq_getElem (by omega)⟩
          have hx2 : (runN ps i (xs, w) n).1[i + n]? = some x := by
            rw [runN_ahead ps i (xs, w) n (i + n) (Nat.le_refl _)]
            exact hx
          have hx0 := hso.2 _ _ _ hp hx
          have ok := hok p (List.mem_of_getElem? hp)
          have sg : Sign (runN ps i (xs, w) n).2 := (sgn n).resolve_left e
          have er : runN ps i (xs, w) (n + 1) = ((runN ps i (xs, w) n).1.set (i + n) (pp p x (runN ps i (xs, w) n).2).1, (pp p x (runN ps i (xs, w) n).2).2) := stp_at e hp hx2
          have hlen : (runN ps i (xs, w) n).1.length = xs.length := runN_len ps i (xs, w) n
          generalize hst : runN ps i (xs, w) n = st at *
          obtain ⟨zs, g⟩ := st
          have hlen : zs.length = xs.length := hlen
          have hx2 : zs[i + n]? = some x := hx2
          have sg : Sign g := sg
          have hl : H' l = some (.lst (zs.map V.int)) := hl
          have er : runN ps i (xs, w) (n + 1) = (zs.set (i + n) (pp p x g).1, (pp p x g).2) := er
          have ha : ((i : Int) + (n : Int)) = ((i + n : Nat) : Int) := by omega
          walk_at "ct"
          refine w_ixL (sm.seq hv) (at_of (j := i + n) (by omega) hv1) ?_
          walk_at "ct"
          refine w_ixL (.of hl) (at_of (j := i + n) (by omega) (by rw [List.getElem?_map, hx2]; rfl)) ?_
          refine w_name (σ' := [some (.ref a), some (.ref t), some (.int i), some (.int g), some (.ref l), some (.int ((i : Int) + (n : Int))), some v, some (.int x)]) rfl ?_
          with_reducible refine w_join (fun σ H2 => σ = [some (.ref a), some (.ref t), some (.int i), some (.int (pp p x g).2), some (.ref l), some (.int ((i : Int) + (n : Int))), some v, some (.int x)] ∧ Same H H2 ∧ H2 l = some (.lst ((zs.set (i + n) (pp p x g).1).map V.int))) ?_ ?_
          · rintro σ H2 ⟨rfl, s2, h2⟩
            walk_at "ct"
            refine ⟨⟨n + 1, some v, some (.int x), ?_, by omega, s2, ?_⟩, ?_⟩
            · rw [er, show (i : Int) + ((n + 1 : Nat) : Int) = (i : Int) + (n : Int) + 1 by omega]
            · rw [er]
              exact h2
            · show ps.length - ((i : Int) + (n : Int) + 1).toNat < ps.length - ((i : Int) + (n : Int)).toNat
              omega
          · intro N hN
            have hd2 := dp_same sm hd1
            have put : ixN (zs.map V.int).length ((i : Int) + (n : Int)) = some (i + n) := ix_at (j := i + n) (by omega) (by rw [List.length_map]; omega)
            have sl : ∀ (y : Int), (upd H' l (.lst ((zs.map V.int).set (i + n) (.int y)))) l = some (.lst ((zs.set (i + n) y).map V.int)) := fun y => by rw [upd_same, List.map_set]
            have ss : ∀ (y : Int), Same H (upd H' l (.lst ((zs.map V.int).set (i + n) (.int y)))) := fun y => same_new sm nl
            cases p with
            | wheel z ms =>
              obtain ⟨c, b, rfl, hc, hb⟩ := wheel_inv hd2
              have hz : 1 ≤ z := ok.1
              walk_at "ct"
              refine w_rI (by omega) ?_
              walk_at "ct"
              refine w_setL hl put ?_
              have hl3 := sl ((x + g) % z)
              have s3 := ss ((x + g) % z)
              have hb3 := sqT_upd (o := .lst ((zs.map V.int).set (i + n) (.int ((x + g) % z)))) hb hl
              have hc3 := sqT_upd (o := .lst ((zs.map V.int).set (i + n) (.int ((x + g) % z)))) hc hl
              generalize upd H' l _ = H3 at *
              walk_at "ct"
              refine w_ixL (.of hl3) (v := .int ((x + g) % z)) (at_of (j := i + n) (by omega) (by rw [List.getElem?_map, List.getElem?_set_self (by omega)]; rfl)) ?_
              walk_at "ct"
              refine ⟨len2 rfl, fun c2 n2 => ?_⟩
              have s4 : Same H3 (upd H3 c2 (.lst [.int x, .int ((x + g) % z)])) := same_upd n2
              have e4 : upd H3 c2 (.lst [.int x, .int ((x + g) % z)]) c2 = some (.lst [.int x, .int ((x + g) % z)]) := upd_same
              generalize upd H3 c2 _ = H4 at *
              have hc4 := Same.tup s4 hc3
              have hb4 := Same.tup s4 hb3
              walk_at "ct"
              refine .inr ⟨_, rfl, ?_⟩
              by_cases e2 : g = 1
              · rw [decide_eq_true e2]
                refine w_ixL (.of e4) (v := .int ((x + g) % z)) rfl ?_
                walk_at "ct"
                refine w_inT hb4 ?_
                walk_at "ct"
                refine .inr ⟨_, rfl, ?_⟩
                refine w_rIv (.int (pp (.wheel z ms) x g).2) (mul_ok (by omega) (by omega) (by split <;> decide) (by split <;> decide)) ?_ ?_
                · simp only [pp]
                  rw [if_pos e2]
                  by_cases e3 : (x + g) % z ∈ ms
                  · rw [decide_eq_true e3, if_pos e3, if_pos rfl, Int.mul_one]
                  · rw [decide_eq_false e3, if_neg e3, if_neg Bool.false_ne_true, Int.mul_zero]
                walk_at "ct"
                exact hN _ _ ⟨rfl, s3.trans s4, s4 _ _ hl3⟩
              · rw [decide_eq_false e2]
                refine w_ixL (.of e4) (v := .int x) rfl ?_
                walk_at "ct"
                refine w_inT hb4 ?_
                walk_at "ct"
                refine .inr ⟨_, rfl, ?_⟩
                refine w_rIv (.int (pp (.wheel z ms) x g).2) (mul_ok (by rcases sg with e | e <;> omega) (by rcases sg with e | e <;> omega) (by split <;> decide) (by split <;> decide)) ?_ ?_
                · simp only [pp]
                  rw [if_neg e2]
                  by_cases e3 : x ∈ ms
                  · rw [decide_eq_true e3, if_pos e3, if_pos rfl, Int.mul_one]
                  · rw [decide_eq_false e3, if_neg e3, if_neg Bool.false_ne_true, Int.mul_zero]
                walk_at "ct"
                exact hN _ _ ⟨rfl, s3.trans s4, s4 _ _ hl3⟩
            | click =>
              obtain ⟨c, rfl, hc⟩ := click_inv hd2
              have x0 : x = 0 := by
                have := hx0.2
                have := hx0.1
                have hp1 : Part.click.places = 1 := rfl
                omega
              walk_at "ct"
              refine ⟨_, _, rfl, ?_⟩
              walk_at "ct"
              refine hN _ _ ⟨?_, sm, ?_⟩
              · have e5 : (if g > 0 then g else 0) = (pp .click x g).2 := by
                  simp only [pp]
                  rcases sg with e | e <;> rw [e] <;> rfl
                rw [e5]
              · rw [hl]
                have e6 : zs.set (i + n) (pp .click x g).1 = zs := by
                  have e7 : (pp .click x g).1 = x := x0.symm
                  rw [e7]
                  obtain ⟨h1, h2⟩ := List.getElem?_eq_some_iff.mp hx2
                  rw [← h2]
                  exact List.set_getElem_self h1
                rw [e6]
            | rocker =>
              obtain ⟨c, rfl, hc⟩ := rocker_inv hd2
              walk_at "ct"
              refine .inr ⟨_, rfl, ?_⟩
              walk_at "ct"
              refine w_setL hl put ?_
              have hl3 := sl (if decide (g = 1) = true then 1 else 0)
              have s3 := ss (if decide (g = 1) = true then 1 else 0)
              generalize upd H' l _ = H3 at *
              walk_at "ct"
              have e5 : (if decide (g = 1) = true then (1 : Int) else 0) = (pp .rocker x g).1 := by
                simp only [pp]
                by_cases e2 : g = 1
                · rw [decide_eq_true e2, if_pos e2, if_pos rfl]
                · rw [decide_eq_false e2, if_neg e2, if_neg Bool.false_ne_true]
              rw [e5] at hl3
              refine w_ite (fun e2 => ?_) (fun e2 => ?_)
              · walk_at "ct"
                refine .inr ⟨_, rfl, ?_⟩
                walk_at "ct"
                refine hN _ _ ⟨?_, s3, hl3⟩
                have e6 : (if decide (x = 0) = true then (1 : Int) else 0) = (pp .rocker x g).2 := by
                  simp only [pp]
                  by_cases e3 : x = 0
                  · rw [decide_eq_true e3, if_pos (show g = 1 ∧ x = 0 from ⟨e2, e3⟩), if_pos rfl]
                  · rw [decide_eq_false e3, if_neg (show ¬ (g = 1 ∧ x = 0) from fun z => e3 z.2), if_neg Bool.false_ne_true]
                rw [← e6]
              · walk_at "ct"
                refine .inr ⟨_, rfl, ?_⟩
                walk_at "ct"
                refine hN _ _ ⟨?_, s3, hl3⟩
                have e6 : (0 : Int) = (pp .rocker x g).2 := by
                  simp only [pp]
                  rw [if_neg (show ¬ (g = 1 ∧ x = 0) from fun z => e2 z.1)]
                rw [← e6]
                rfl
            | spring k =>
              obtain ⟨c, rfl, hc⟩ := spring_inv hd2
              have hk : 1 ≤ k := ok.1
              have hxk : x < k := hx0.2
              walk_at "ct"
              refine w_ite (fun e2 => ?_) (fun e2 => ?_)
              · walk_at "ct"
                refine w_rI (by omega) ?_
                walk_at "ct"
                refine w_setL hl put ?_
                have hl3 := sl ((x + 1) % k)
                have s3 := ss ((x + 1) % k)
                have hc3 := sqT_upd (o := .lst ((zs.map V.int).set (i + n) (.int ((x + 1) % k)))) hc hl
                generalize upd H' l _ = H3 at *
                walk_at "ct"
                refine .inr ⟨_, rfl, ?_⟩
                walk_at "ct"
                have e5 : (x + 1) % k = (pp (.spring k) x g).1 := by
                  simp only [pp]
                  rw [if_pos e2]
                  by_cases e3 : x = k - 1
                  · rw [if_pos e3, e3, Int.sub_add_cancel, Int.emod_self]
                  · rw [if_neg e3]
                    exact Int.emod_eq_of_lt (by omega) (by omega)
                rw [e5] at hl3
                refine hN _ _ ⟨?_, s3, hl3⟩
                have e6 : (if decide (x = k - 1) = true then (1 : Int) else 0) = (pp (.spring k) x g).2 := by
                  simp only [pp]
                  rw [if_pos e2]
                  by_cases e3 : x = k - 1
                  · rw [decide_eq_true e3, if_pos e3, if_pos rfl]
                  · rw [decide_eq_false e3, if_neg e3, if_neg Bool.false_ne_true]
                rw [← e6]
              · walk_at "ct"
                refine ⟨_, _, rfl, ?_⟩
                walk_at "ct"
                refine w_setL hl put ?_
                have hl3 := sl (if x - 1 > 0 then x - 1 else 0)
                have s3 := ss (if x - 1 > 0 then x - 1 else 0)
                generalize upd H' l _ = H3 at *
                walk_at "ct"
                have e5 : (pp (.spring k) x g) = ((if x - 1 > 0 then x - 1 else 0), 0) := by
                  simp only [pp]
                  rw [if_neg e2]
                exact hN _ _ ⟨by rw [e5], s3, by rw [e5]; exact hl3⟩
        · walk_at "ct"
          refine ⟨l, _, rfl, .inl ⟨.of hl, fun u nu => ?_⟩⟩
          walk_at "ct"
          exact ⟨len2 rfl, fin (.inr (by omega)) u nu⟩
      · walk_at "ct"
        refine ⟨l, _, rfl, .inl ⟨.of hl, fun u nu => ?_⟩⟩
        walk_at "ct"
        exact ⟨len2 rfl, fin (.inl e) u nu⟩
    · rintro σ H' Q1 Q2 hQ ⟨v1, e1, sc, k, ek, hq⟩
      refine ⟨v1, e1, sc, k, ek, ?_⟩
      cases k with
      | false => exact hQ _ _ hq
      | true =>
        obtain ⟨v2, e2, v3, e3, p, us, ep, hp, i, j, ei, ej, k2, ek2, hq2⟩ := hq
        exact ⟨v2, e2, v3, e3, p, us, ep, hp, i, j, ei, ej, k2, ek2, hQ _ _ hq2⟩
abbrev S__law_wheels : Stmt := topS 32
theorem sc__law_wheels : FnScope ["_law_cell", "_law_train_here", "_law_stand", "_law_room", "_law_k", "_law_pick", "_law_part_here", "_law_mark"] ["_law_cell"] (defScope S__law_wheels) := ⟨rfl, rfl, rfl, by decide +kernel, rfl, by decide +kernel, by decide +kernel⟩
def sp__law_wheels (K : PySem.W.Frag) : Sp := fun vs H Q _ => ∃ (cell : Int), vs = [.int cell] ∧
  ∀ (ps : List Part) (xs : List Int) a t g ws H', Same H H' → H' a = some (.lst ws) → DpAll K H' ws (ps.map Part.data) → (∀ p ∈ ps, ∃ z ms, p = .wheel z ms) → 1 ≤ ps.length → ps.length ≤ 4 → stands ps ≤ 500 → SqT K H' t (xs.map V.int) → StandL ps xs → H' g = some (.tup [.ref a, .ref t]) → Q (.ref g) H'
theorem ok__law_wheels {f : Addr} {fd : FuncData} {f__law_mix : Addr} {fd__law_mix : FuncData} {f__law_part : Addr} {fd__law_part : FuncData} (F : Fun K "_law_wheels" "_law_wheels" S__law_wheels f fd)
    (F__law_mix : Fun K "_law_mix" "_law_mix" S__law_mix f__law_mix fd__law_mix) (b__law_mix : Binds K fd__law_mix ["_law_cell", "_law_k"] []) (g__law_mix : mg "_law_mix" = some (.ref f__law_mix)) (G__law_mix : FnOk P w K mg base CX0 1 f__law_mix fd__law_mix ["_law_cell", "_law_k"] (sp__law_mix K))
    (F__law_part : Fun K "_law_part" "_law_part" S__law_part f__law_part fd__law_part) (b__law_part : Binds K fd__law_part ["_law_pick", "_law_most"] []) (g__law_part : mg "_law_part" = some (.ref f__law_part)) (G__law_part : FnOk P w K mg base CX0 2 f__law_part fd__law_part ["_law_pick", "_law_most"] (sp__law_part K)) (m_range : mg "range" = none) (m_tuple : mg "tuple" = none) :
    FnOk P w K mg base CX0 3 f fd ["_law_cell"] (sp__law_wheels K) := by
  refine F.ok sc__law_wheels (fun vs H Q E h => ?_) (fun cdv A outer s H vs Q E hr h => ?_)
  ·
    obtain ⟨cell, rfl, _⟩ := h
    rfl
  ·
    obtain ⟨cell, rfl, q⟩ := h
    refine ⟨_, (pss_cons (ps_set (i := 1) sc__law_wheels.nd rfl (.inl rfl) (pe_lst pa_nil))
      (pss_cons (ps_set (i := 2) sc__law_wheels.nd rfl (.inl rfl) (pe_tup pa_nil))
      (pss_cons (ps_set (i := 3) sc__law_wheels.nd rfl (.inl rfl) pe_int)
      (pss_cons (ps_for PassesOwn.never rfl (pi_range1 (by rfl) m_range (pa_cons (pe_op op_add pe_int (pe_op op_mod (pe_call G__law_mix (hr.mono (by decide)) (by rfl) g__law_mix F__law_mix.kp b__law_mix .nil pass0 (pa_cons (pv 0) (pa_cons pe_int pa_nil))) pe_int)) pa_nil)) (pg_name (i := 4) sc__law_wheels.nd rfl (.inl rfl))
      (pss_cons (ps_set (i := 5) sc__law_wheels.nd rfl (.inl rfl) (pe_call G__law_mix (hr.mono (by decide)) (by rfl) g__law_mix F__law_mix.kp b__law_mix .nil pass0 (pa_cons (pv 0) (pa_cons (pe_op op_mulW pe_int (pv 4)) pa_nil))))
      (pss_cons (ps_set (i := 6) sc__law_wheels.nd rfl (.inr rfl) (pe_call G__law_part (hr.mono (by decide)) (by rfl) g__law_part F__law_part.kp b__law_part .nil pass0 (pa_cons (pe_op op_add (pe_op op_mulW (pe_op op_fdivW (pv 5) pe_int) pe_int) (pe_op op_mod (pv 5) pe_int)) (pa_cons pe_int pa_nil))))
      (pss_cons (ps_if (pt_cmpR op_eq (pe_op op_mod (pe_call G__law_mix (hr.mono (by decide)) (by rfl) g__law_mix F__law_mix.kp b__law_mix .nil pass0 (pa_cons (pv 0) (pa_cons pe_int pa_nil))) pe_int) pe_int (nomark _)) (pss_one (ps_set (i := 6) sc__law_wheels.nd rfl (.inr rfl) (pe_tup (pa_cons pe_str (pa_cons (pe_op op_mulW pe_int (pe_ix (r := rIxT K) ix_tup (pv 6) pe_int (fun _ _ => rfl))) (pa_cons (pe_op (r := rCatA K) op_catA (pe_ix (r := rIxT K) ix_tup (pv 6) pe_int (fun _ _ => rfl)) (pe_callTy call_tuple_of (by rfl) m_tuple (by decide +kernel) (pa_cons (pe_lc (own := [("_law_mark", 7)]) (g := gName 7)  rfl sc__law_wheels.nd  (pi_tup (pe_ix (r := rIxT K) ix_tup (pv 6) pe_int (fun _ _ => rfl))) (blkOk_by (own := [("_law_mark", 7)]) (N := ["_law_cell", "_law_train_here", "_law_stand", "_law_room", "_law_k", "_law_pick", "_law_part_here", "_law_mark"]) (sc := defScope S__law_wheels) (by decide +kernel)) (fun _ _ _ _ _ => pg_name (i := 7) sc__law_wheels.nd rfl (Or.inl rfl)) (fun _ _ _ _ _ => pts_nil) (fun _ _ _ _ _ => (pe_op op_add (pv 7) (pe_ix (r := rIxT K) ix_tup (pv 6) pe_int (fun _ _ => rfl))))) pa_nil))) pa_nil)))))) pss_nil)
      (pss_cons (ps_if (pt_cmpR op_gt (pe_ix (r := rIxT K) ix_tup (pv 6) pe_int (fun _ _ => rfl)) (pv 3) (nomark _)) (pss_one (ps_set (i := 6) sc__law_wheels.nd rfl (.inr rfl) (pe_tup (pa_cons pe_str (pa_cons pe_int (pa_cons (pe_slice (r := rSlA K) sl_tupA (pe_ix (r := rIxT K) ix_tup (pv 6) pe_int (fun _ _ => rfl)) po_none (po_some pe_int)) pa_nil)))))) pss_nil)
      (pss_cons (ps_set (i := 3) sc__law_wheels.nd rfl (.inl rfl) (pe_op op_fdivW (pv 3) (pe_ix (r := rIxT K) ix_tup (pv 6) pe_int (fun _ _ => rfl))))
      (pss_cons (ps_expr (pe_bm PySem.F.plainAttrs_list PySem.F.slot_list_append PySem.F.type_list_append mt_append (pv 1) (pa_cons (pv 6) pa_nil)))
      (pss_one (ps_set (i := 2) sc__law_wheels.nd rfl (.inl rfl) (pe_op (r := rCatA K) op_catA (pv 2) (pe_tup (pa_cons (pe_op op_mod (pe_call G__law_mix (hr.mono (by decide)) (by rfl) g__law_mix F__law_mix.kp b__law_mix .nil pass0 (pa_cons (pv 0) (pa_cons (pe_op op_add (pe_op op_mulW pe_int (pv 4)) pe_int) pa_nil))) (pe_ix (r := rIxT K) ix_tup (pv 6) pe_int (fun _ _ => rfl))) pa_nil))))))))))))
      (pss_one (ps_ret (pe_tup (pa_cons (pv 1) (pa_cons (pv 2) pa_nil))))))))), ?_⟩
    refine w_st (σ' := [some (.int cell), none, none, none, none, none, none, none]) rfl ?_
    walk_at "ct"
    refine ⟨len2 rfl, fun l n_l => ?_⟩
    generalize h_G1 : upd _ l _ = G1
    obtain ⟨s_G1, e_l⟩ := Ct.upd_new h_G1 n_l
    clear h_G1
    walk_at "ct"
    refine ⟨len2 rfl, fun t0 n_t0 => ?_⟩
    generalize h_G2 : upd _ t0 _ = G2
    obtain ⟨s_G2, e_t0⟩ := Ct.upd_new h_G2 n_t0
    clear h_G2
    walk_at "ct"
    refine ⟨cell, 20, rfl, by decide, by decide, fun n20 _ _ => ?_⟩
    walk_at "ct"
    refine w_mod (by decide) fun m m0 m1 => ?_
    walk_at "ct"
    refine w_RG1 (by omega) (by omega) ?_
    refine fb_range (fun i σ J => ∃ (ps : List Part) (xs : List Int) (ws : List V) (t : Addr) (room : Int) (y4 y5 y6 y7 : Option V), σ = [some (.int cell), some (.ref l), some (.ref t), some (.int room), y4, y5, y6, y7] ∧ Same H J ∧ J l = some (.lst ws) ∧ DpAll K J ws (ps.map Part.data) ∧ (∀ p ∈ ps, ∃ z ms, p = .wheel z ms) ∧ ps.length = i ∧ 1 ≤ room ∧ stands ps * room ≤ 500 ∧ SqT K J t (xs.map V.int) ∧ StandL ps xs) ⟨[], [], [], t0, 500, _, _, _, _, rfl, s_G1.trans s_G2, s_G2 _ _ e_l, .nil, (fun p hp => by cases hp), rfl, by decide, by decide, .of e_t0, trivial⟩ ?_ ?_
    · rintro i σ J hi ⟨ps, xs, ws, t, room, y4, y5, y6, y7, rfl, sHJ, hl, dws, hw, pl, r1, few, ht, sx⟩
      have sp := stands_pos ps sx.okp
      have xl := sx.len
      have wl : ws.length = ps.length := by rw [dpAll_len dws, List.length_map]
      walk_at "ct"
      refine w_rI (mul_ok (by omega) (by omega) (by omega) (by omega)) ?_
      walk_at "ct"
      refine ⟨cell, _, rfl, by omega, by omega, fun pick pk0 pk1 => ?_⟩
      walk_at "ct"
      refine w_rIv (.int (pick / 8)) (div_ok (by decide) (by decide)) rfl ?_
      walk_at "ct"
      refine w_rI (mul_ok (by omega) (by omega) (by omega) (by omega)) ?_
      walk_at "ct"
      refine w_mod (by decide) fun r r0 r1' => ?_
      walk_at "ct"
      refine ⟨_, 6, rfl, by decide, by decide, fun v p J1 sJ1 dv pok p500 wh => ?_⟩
      obtain ⟨z, ms, rfl⟩ := wh (by omega)
      obtain ⟨wa, mt, rfl, hwa, hmt⟩ := wheel_inv dv
      have z1 : 1 ≤ z := pok.1
      have z500 : z ≤ 500 := p500
      walk_at "cq"
      with_reducible refine w_join (fun σ G => ∃ (wb : Addr) (z : Int) (ms : List Int) (y7 : Option V), σ = [some (.int cell), some (.ref l), some (.ref t), some (.int room), some (.int (0 + (i : Int))), some (.int pick), some (.ref wb), y7] ∧ Same J G ∧ Dp K G (.ref wb) (Part.wheel z ms).data ∧ (Part.wheel z ms).ok ∧ z ≤ 1000) ?_ ?_
      · rintro σ G ⟨wb, z, ms, y7, rfl, sG, dwb, ok, z1000⟩
        obtain ⟨wc, mc, e0, hwc, hmc⟩ := wheel_inv dwb
        cases e0
        have z1 : 1 ≤ z := ok.1
        walk_at "cq"
        with_reducible refine w_join (fun σ G2 => ∃ (wb : Addr) (z : Int) (ms : List Int) (y7 : Option V), σ = [some (.int cell), some (.ref l), some (.ref t), some (.int room), some (.int (0 + (i : Int))), some (.int pick), some (.ref wb), y7] ∧ Same G G2 ∧ Dp K G2 (.ref wb) (Part.wheel z ms).data ∧ (Part.wheel z ms).ok ∧ z ≤ room) ?_ ?_
        · rintro σ G2 ⟨wb, z, ms, y7, rfl, sG2, dwb, ok, zr⟩
          obtain ⟨wc, mc, e0, hwc, hmc⟩ := wheel_inv dwb
          cases e0
          have z1 : 1 ≤ z := ok.1
          have sJ2 := sG.trans sG2
          walk_at "ct"
          refine w_rIv (.int (room / z)) (div_ok (by omega) (by have := ok.2.1; omega)) rfl ?_
          have d1 : 1 ≤ room / z := (Int.le_ediv_iff_mul_le (by omega)).mpr (by omega)
          have d2 : z * (room / z) ≤ room := Int.mul_ediv_self_le (by omega)
          walk_at "ct"
          refine ⟨ty_list (sJ2 _ _ hl), ?_⟩
          walk_at "ct"
          have hl2 := sJ2 _ _ hl
          refine w_append hl2 (small1000 (by omega)) ?_
          have l3 : (upd G2 l (.lst (ws ++ [.ref wb]))) l = some (.lst (ws ++ [.ref wb])) := upd_same
          have w3 : SqT K (upd G2 l (.lst (ws ++ [.ref wb]))) wb [.str "wheel", .int z, .ref mc] := sqT_upd hwc hl2
          have t3 : SqT K (upd G2 l (.lst (ws ++ [.ref wb]))) t (xs.map V.int) := sqT_upd (Same.tup sJ2 ht) hl2
          have d3 : DpAll K (upd G2 l (.lst (ws ++ [.ref wb]))) (ws ++ [.ref wb]) ((ps ++ [Part.wheel z ms]).map Part.data) := by
            rw [List.map_append]
            exact dpAll_app (parts_upd hl2 ps (dpAll_same sJ2 dws)) (.cons (part_upd dwb hl2) .nil)
          have s3 : Same H (upd G2 l (.lst (ws ++ [.ref wb]))) := same_new (sHJ.trans sJ2) n_l
          generalize upd G2 l (.lst (ws ++ [.ref wb])) = G3 at *
          walk_at "ct"
          refine w_rI (mul_ok (by omega) (by omega) (by omega) (by omega)) ?_
          walk_at "ct"
          refine ⟨cell, _, rfl, by omega, by omega, fun n9 _ _ => ?_⟩
          walk_at "ct"
          refine w_mod (by omega) fun u u0 u1 => ?_
          walk_at "ct"
          refine ⟨len2 rfl, fun c1 n_c1 => ?_⟩
          generalize h_G4 : upd _ c1 _ = G4
          obtain ⟨s_G4, e_c1⟩ := Ct.upd_new h_G4 n_c1
          clear h_G4
          refine w_catA (H := G4) (a := t) (b := c1) (xs := xs.map V.int) (ys := [V.int u]) (Same.tup s_G4 t3) (.of e_c1) (by rw [List.length_map]; show xs.length + 1 ≤ 1000; omega) fun t2 G5 s_G5 e_t2 => ?_
          walk_at "ct"
          have s35 := s_G4.trans s_G5
          refine ⟨ps ++ [Part.wheel z ms], xs ++ [u], ws ++ [.ref wb], t2, room / z, _, _, _, _, rfl, s3.trans s35, s35 _ _ l3, dpAll_same s35 d3, fun p hp => ?_, by rw [List.length_append, pl]; rfl, d1, ?_, by rw [List.map_append]; exact e_t2, standL_appL (qs := [Part.wheel z ms]) (ys := [u]) sx ⟨ok, u0, u1, trivial⟩⟩
          · rcases List.mem_append.mp hp with hp | hp
            · exact hw p hp
            · rw [List.mem_singleton.mp hp]; exact ⟨z, ms, rfl⟩
          · rw [stands_appL]
            show stands ps * (z * 1) * (room / z) ≤ 500
            rw [Int.mul_one, Int.mul_assoc]
            exact Int.le_trans (Int.mul_le_mul_of_nonneg_left d2 (by omega)) few
        intro N hN
        walk_at "ct"
        refine w_ite (fun big => ?_) (fun small => ?_)
        · walk_at "ct"
          refine w_slT0 hmc fun u1 G3 s_G3 hu1 => ?_
          walk_at "ct"
          refine ⟨len2 rfl, fun g3 n_g3 => ?_⟩
          generalize h_G4 : upd _ g3 _ = G4
          obtain ⟨s_G4, e_g3⟩ := Ct.upd_new h_G4 n_g3
          clear h_G4
          exact hN _ _ ⟨g3, 1, [], _, rfl, s_G3.trans s_G4, wheel_dp (.of e_g3) (Same.tup s_G4 hu1), ⟨by decide, by decide, ⟨.nil, fun m hm => by cases hm⟩, by decide⟩, r1⟩
        · exact hN _ _ ⟨_, z, ms, _, rfl, Same.refl _, dwb, ok, by omega⟩
      intro N hN
      walk_at "ct"
      refine ⟨cell, 21, rfl, by decide, by decide, fun n21 _ _ => ?_⟩
      walk_at "ct"
      refine w_mod (by decide) fun two two0 two1 => ?_
      walk_at "ct"
      refine w_ite (fun dbl => ?_) (fun sgl => ?_)
      · walk_at "ct"
        refine w_rI (mul_ok (by omega) (by omega) (by omega) (by omega)) ?_
        walk_at "ct"
        refine w_IT hmt ?_
        refine lb_tup (ms.map V.int) (fun D i J2 => Same J1 J2 ∧ J2 D = some (.lst (((ms.take i).map (· + z)).map V.int))) (fun D nD => ⟨same_upd nD, upd_same⟩) (fun D nD i J2 _ h => Same.tup h.1 hmt) ?_ ?_
        · rintro D nD i9 x9 J2 hx ⟨sJ2, hD⟩
          rw [List.getElem?_map] at hx
          obtain ⟨m9, hm, rfl⟩ := Option.map_eq_some_iff.mp hx
          have hi9 := (List.getElem?_eq_some_iff.mp hm).1
          have ml := rise_fewL pok.2.2.1 (by omega)
          have hwa2 := Same.tup sJ2 hwa
          walk_at "ct"
          refine ⟨rfl, ?_⟩
          walk_at "ct"
          refine ⟨_, hD, by rw [List.length_map, List.length_map, List.length_take]; exact small1000 (by omega), same_new sJ2 nD, ?_⟩
          rw [upd_same, List.take_add_one, hm, List.map_append, List.map_append]
          rfl
        rintro D nD J2 ⟨sJ2, hD⟩
        rw [List.length_map, List.take_of_length_le (Nat.le_refl _)] at hD
        have ml := rise_fewL pok.2.2.1 (by omega)
        walk_at "ct"
        refine ⟨D, _, rfl, .inl ⟨.of hD, fun u9 n_u9 => ?_⟩⟩
        generalize h_J3 : upd _ u9 _ = J3
        obtain ⟨s_J3, e_u9⟩ := Ct.upd_new h_J3 n_u9
        clear h_J3
        refine w_catA (H := J3) (a := mt) (b := u9) (Same.tup (sJ2.trans s_J3) hmt) (.of e_u9) (by rw [List.length_map, List.length_map, List.length_map]; omega) fun mw J4 s_J4 e_mw => ?_
        rw [← List.map_append] at e_mw
        walk_at "ct"
        refine ⟨len2 rfl, fun gw n_gw => ?_⟩
        generalize h_J5 : upd _ gw _ = J5
        obtain ⟨s_J5, e_gw⟩ := Ct.upd_new h_J5 n_gw
        clear h_J5
        exact hN _ _ ⟨gw, 2 * z, ms ++ ms.map (· + z), _, rfl, (((sJ1.trans sJ2).trans s_J3).trans s_J4).trans s_J5, wheel_dp (.of e_gw) (Same.tup s_J5 e_mw), ⟨by omega, by omega, rise_dblL pok.2.2.1, by rw [List.length_append, List.length_map]; omega⟩, by omega⟩
      · exact hN _ _ ⟨wa, z, ms, _, rfl, sJ1, dv, pok, by omega⟩
    rintro σ J ⟨ps, xs, ws, t, room, y4, y5, y6, y7, rfl, sHJ, hl, dws, hw, pl, r1, few, ht, sx⟩
    have sp := stands_pos ps sx.okp
    walk_at "ct"
    refine ⟨len2 rfl, fun g n_g => ?_⟩
    generalize h_G3 : upd _ g _ = G3
    obtain ⟨s_G3, e_g⟩ := Ct.upd_new h_G3 n_g
    clear h_G3
    have fw : stands ps ≤ 500 := by
      have := Int.mul_le_mul_of_nonneg_left r1 (show 0 ≤ stands ps by omega)
      omega
    exact q ps xs l t g ws G3 (sHJ.trans s_G3) (s_G3 _ _ hl) (dpAll_same s_G3 dws) hw (by omega) (by omega) fw (Same.tup s_G3 ht) sx e_g
abbrev S__law_due : Stmt := topS 33
theorem sc__law_due : FnScope ["_law_train_here", "_law_stand", "_law_many", "_law_part_here", "_law_found", "_law_k", "_law_shown", "_law_teeth", "_law_place"] ["_law_train_here", "_law_stand"] (defScope S__law_due) := ⟨rfl, rfl, rfl, by decide +kernel, rfl, by decide +kernel, by decide +kernel⟩
def sp__law_due (K : PySem.W.Frag) : Sp := fun vs H Q _ => ∃ (a t : Addr) (ps : List Part) (xs : List Int), vs = [.ref a, .ref t] ∧ TrainAt K H a ps ∧ (∀ p ∈ ps, ∃ z ms, p = .wheel z ms) ∧ 1 ≤ ps.length ∧ ps.length ≤ 1000 ∧ SqT K H t (xs.map V.int) ∧ StandL ps xs ∧ stands ps ≤ 2000 ∧
  ∀ (S : Nat) q g H', Same H H' → RingP (lastP ps xs allP) S → S ≤ 2000 → H' g = some (.tup (((mksP (lastP ps xs allP) S).map fun n : Nat => (n : Int)).map V.int)) → H' q = some (.tup [.str "wheel", .int (S : Int), .ref g]) → Q (.ref q) H'
theorem ok__law_due {f : Addr} {fd : FuncData} {f__law_pushed : Addr} {fd__law_pushed : FuncData} (F : Fun K "_law_due" "_law_due" S__law_due f fd)
    (F__law_pushed : Fun K "_law_pushed" "_law_pushed" S__law_pushed f__law_pushed fd__law_pushed) (b__law_pushed : Binds K fd__law_pushed ["_law_train_here", "_law_stand", "_law_i", "_law_way"] []) (g__law_pushed : mg "_law_pushed" = some (.ref f__law_pushed)) (G__law_pushed : FnOk P w K mg base CX0 1 f__law_pushed fd__law_pushed ["_law_train_here", "_law_stand", "_law_i", "_law_way"] (sp__law_pushed K)) (m_range : mg "range" = none) (m_tuple : mg "tuple" = none) :
    FnOk P w K mg base CX0 2 f fd ["_law_train_here", "_law_stand"] (sp__law_due K) := by
  refine F.ok sc__law_due (fun vs H Q E h => ?_) (fun cdv A outer s H vs Q E hr h => ?_)
  ·
    obtain ⟨a, t, ps, xs, rfl, _⟩ := h
    rfl
  ·
    obtain ⟨a, t, ps, xs, rfl, hA, hw, l1, l2, ht, sx, few, q⟩ := h
    refine ⟨_, (pss_cons (ps_set (i := 2) sc__law_due.nd rfl (.inl rfl) pe_int)
      (pss_cons (ps_for PassesOwn.never rfl (pi_list (pv 0)) (pg_name (i := 3) sc__law_due.nd rfl (.inl rfl))
      (pss_one (ps_set (i := 2) sc__law_due.nd rfl (.inl rfl) (pe_op op_mulW (pv 2) (pe_ix (r := rIxT K) ix_tup (pv 3) pe_int (fun _ _ => rfl))))))
      (pss_cons (ps_set (i := 4) sc__law_due.nd rfl (.inr rfl) (pe_lst pa_nil))
      (pss_cons (ps_for PassesOwn.never rfl (pi_range1 (by rfl) m_range (pa_cons (pe_op op_mulW pe_int (pv 2)) pa_nil)) (pg_name (i := 5) sc__law_due.nd rfl (.inl rfl))
      (pss_cons (ps_asg (pe_call G__law_pushed (hr.mono (by decide)) (by rfl) g__law_pushed F__law_pushed.kp b__law_pushed .nil pass0 (pa_cons (pv 0) (pa_cons (pv 1) (pa_cons pe_int (pa_cons pe_int pa_nil))))) (pg_tup rfl (pgs_cons (pg_name (i := 1) sc__law_due.nd rfl (.inl rfl)) (pgs_cons (pg_name (i := 6) sc__law_due.nd rfl (.inl rfl)) pgs_nil))))
      (pss_one (ps_expr (pe_bm PySem.F.plainAttrs_list PySem.F.slot_list_append PySem.F.type_list_append mt_append (pv 4) (pa_cons (pv 6) pa_nil))))))
      (pss_cons (ps_set (i := 7) sc__law_due.nd rfl (.inr rfl) pe_int)
      (pss_cons (ps_while PassesOwn.never (pt_cmpR (r := rNeD K) (op_neD hr.units) (pe_slice (r := rSlL K) sl_list (pv 4) (po_some (pv 7)) po_none) (pe_slice (r := rSlL K) sl_list (pv 4) po_none (po_some (pe_op op_sub (pe_op op_mulW pe_int (pv 2)) (pv 7)))) (nomark _)) (pss_one (ps_set (i := 7) sc__law_due.nd rfl (.inr rfl) (pe_op op_add (pv 7) pe_int))))
      (pss_one (ps_ret (pe_tup (pa_cons pe_str (pa_cons (pv 7) (pa_cons (pe_callTy call_tuple_of (by rfl) m_tuple (by decide +kernel) (pa_cons (pe_lc (own := [("_law_place", 8)]) (g := gName 8)  rfl sc__law_due.nd  (pi_range1 (by rfl) m_range (pa_cons (pv 7) pa_nil)) (blkOk_by (own := [("_law_place", 8)]) (N := ["_law_train_here", "_law_stand", "_law_many", "_law_part_here", "_law_found", "_law_k", "_law_shown", "_law_teeth", "_law_place"]) (sc := defScope S__law_due) (by decide +kernel)) (fun _ _ _ _ _ => pg_name (i := 8) sc__law_due.nd rfl (Or.inl rfl)) (fun _ _ _ _ _ => (pts_one (pt_cmpR op_eq (pe_ix (r := rIxL K) ix_list (pv 4) (pe_op op_sub (pe_op op_add (pv 8) (pv 7)) pe_int) (fun _ _ => rfl)) pe_int (nomark _)))) (fun _ _ _ _ _ => (pv 8))) pa_nil)) pa_nil)))))))))))), ?_⟩
    refine w_st (σ' := [some (.ref a), some (.ref t), none, none, none, none, none, none, none]) rfl ?_
    obtain ⟨vs, hv, dv⟩ := id hA
    have vl : vs.length = ps.length := by rw [dpAll_len dv, List.length_map]
    have xl := sx.len
    have okp := sx.okp
    have sp := stands_pos ps okp
    have g : PerP (lastP ps xs allP) (stands ps).toNat := by
      have := last_per (P := allP) hw sx ring_all.1.1
      rw [Nat.mul_one] at this
      exact this
    obtain ⟨M, hM⟩ : ∃ M : Nat, (stands ps).toNat = M := ⟨_, rfl⟩
    rw [hM] at g
    have hM2 : stands ps = M := by omega
    have M1 : 1 ≤ M := by omega
    have M2 : M ≤ 2000 := by omega
    generalize hP : lastP ps xs allP = B at *
    walk_at "ct"
    refine w_IL hv ?_
    refine fb_list vs (fun i σ J => ∃ (m : Int) (y : Option V), σ = [some (.ref a), some (.ref t), some (.int m), y, none, none, none, none, none] ∧ Same H J ∧ 1 ≤ m ∧ m * stands (ps.drop i) = stands ps) ⟨1, _, rfl, Same.refl _, by decide, by rw [Int.one_mul]; rfl⟩ ?_ ?_ ?_
    · rintro i σ J _ ⟨m, y, rfl, s_J, _⟩
      exact s_J.seq hv
    · rintro i x σ J hx ⟨m, y, rfl, s_J, m1, me⟩
      have hi : i < ps.length := by have := (List.getElem?_eq_some_iff.mp hx).1; omega
      obtain ⟨pi, hpi⟩ : ∃ pi, ps[i]? = some pi := ⟨_, List.getElem?_eq_getElem hi⟩
      obtain ⟨x', hx', dx⟩ := dpAll_get dv (i := i) (d := pi.data) (by rw [List.getElem?_map, hpi]; rfl)
      cases Option.some.inj (hx.symm.trans hx')
      obtain ⟨z, ms, rfl⟩ := hw pi (List.mem_of_getElem? hpi)
      obtain ⟨wa, mt, rfl, hwa, hmt⟩ := wheel_inv (dp_same s_J dx)
      have pp1 : 1 ≤ z := (okp _ (List.mem_of_getElem? hpi)).1
      have de : stands (ps.drop i) = z * stands (ps.drop (i + 1)) := by
        rw [List.drop_eq_getElem_cons hi, (List.getElem?_eq_some_iff.mp hpi).2]
        rfl
      have rest := stands_pos (ps.drop (i + 1)) fun p hp => okp p (List.mem_of_mem_drop hp)
      have rest0 := stands_pos (ps.drop i) fun p hp => okp p (List.mem_of_mem_drop hp)
      have ple : z ≤ stands ps := place_le okp hpi
      have mle : m ≤ stands ps := by
        rw [← me]
        have := Int.mul_le_mul_of_nonneg_left (show (1 : Int) ≤ stands (ps.drop i) from rest0) (show 0 ≤ m by omega)
        omega
      walk_at "ct"
      refine w_rI (mul_ok (by omega) (by omega) (by omega) (by omega)) ?_
      walk_at "ct"
      refine ⟨m * z, _, rfl, s_J, ?_, ?_⟩
      · have := Int.mul_pos (show 0 < m by omega) (show 0 < z by omega)
        omega
      · rw [Int.mul_assoc, ← de, me]
    rintro σ J ⟨m, y, rfl, s_J, m1, me⟩
    have mM : m = M := by
      rw [vl, List.drop_of_length_le (Nat.le_refl _)] at me
      have : m * 1 = stands ps := me
      omega
    subst mM
    walk_at "ct"
    refine ⟨len2 rfl, fun D n_D => ?_⟩
    generalize h_G0 : upd _ D _ = G0
    obtain ⟨s_G0, e_D⟩ := Ct.upd_new h_G0 n_D
    clear h_G0
    walk_at "ct"
    refine w_rI (mul_ok (by omega) (by omega) (by omega) (by omega)) ?_
    walk_at "ct"
    rw [show (2 : Int) * (M : Int) = ((2 * M : Nat) : Int) by omega]
    refine w_RG1 (by omega) (by omega) ?_
    have s0G := s_J.trans s_G0
    refine fb_range (fun n σ J2 => ∃ (tn : Addr) (y5 y6 : Option V), σ = [some (.ref a), some (.ref tn), some (.int (M : Int)), y, some (.ref D), y5, y6, none, none] ∧ Same J J2 ∧ SqT K J2 tn ((standN ps xs allP n).map V.int) ∧ J2 D = some (.lst ((shownI B n).map V.int))) ⟨t, _, _, rfl, s_G0, by rw [standN_zero allP sx]; exact Same.tup s0G ht, e_D⟩ ?_ ?_
    · rintro n σ J2 hn ⟨tn, y5, y6, rfl, s_J2, htn, hD⟩
      have s0 := s_J.trans s_J2
      have sn := standN_stand n allP hw sx
      walk_at "ct"
      refine ⟨a, tn, ps, standN ps xs allP n, 0, 1, rfl, hA.same s0, okp, htn, sn.ok, Nat.zero_le _, l2, .inr (.inl rfl), fun q1 u1 J3 s_J3 hu hq => ?_⟩
      rw [run_wheels hw sx n, hP] at hu hq
      refine w_gtup (.of hq) rfl ?_
      walk_at "ct"
      refine ⟨ty_list (s_J3 _ _ hD), ?_⟩
      walk_at "ct"
      refine w_append (s_J3 _ _ hD) (by rw [List.length_map, shownI_len]; exact Nat.lt_of_le_of_lt (show n ≤ 1000000 by omega) (by decide)) ?_
      walk_at "ct"
      refine ⟨u1, _, _, rfl, same_new (s_J2.trans s_J3) n_D, sqT_upd (.of hu) (s_J3 _ _ hD), ?_⟩
      rw [upd_same, show shownI B (n + 1) = shownI B n ++ [oneB (B (n + 1))] by unfold shownI; rw [List.range_succ, List.map_append]; rfl, List.map_append]
      rfl
    rintro σ J2 ⟨tn, y5, y6, rfl, s_J2, htn, hD⟩
    rw [Int.toNat_natCast] at hD
    walk_at "ct"
    refine while_by (fun σ G => ∃ (t' : Nat) (y8 : Option V), σ = [some (.ref a), some (.ref tn), some (.int (M : Int)), y, some (.ref D), y5, y6, some (.int (t' : Int)), y8] ∧ Same J2 G ∧ 1 ≤ t' ∧ t' ≤ M ∧ ∀ k, 1 ≤ k → k < t' → ¬ ∀ j, j + k < 2 * M → B (j + k + 1) = B (j + 1))
      (fun σ _ => match σ with | [_, _, _, _, _, _, _, some (.int i), _] => 1000001 - i.toNat | _ => 0) ⟨1, _, rfl, Same.refl _, Nat.le_refl _, M1, fun k h1 h2 => absurd h1 (by omega)⟩ ?_ ?_
    · rintro σ G ⟨t', y8, rfl, sG, t1, tM, no⟩
      have hDG := sG _ _ hD
      walk_at "ct"
      refine w_slLf (n := t') (.of hDG) (by rw [List.length_map, shownI_len]; omega) fun p5 G5 n_p5 s_G5 e_p5 => ?_
      walk_at "ct"
      refine w_rI (mul_ok (by omega) (by omega) (by omega) (by omega)) ?_
      walk_at "ct"
      rw [show (2 : Int) * (M : Int) - (t' : Int) = ((2 * M - t' : Nat) : Int) by omega]
      refine w_slLu (n := 2 * M - t') (.of (s_G5 _ _ hDG)) (by rw [List.length_map, shownI_len]; omega) fun p6 G6 n_p6 s_G6 e_p6 => ?_
      rw [← List.map_drop] at e_p5
      rw [← List.map_take] at e_p6
      refine w_neInts (.of (s_G6 _ _ e_p5)) (.of e_p6) ?_
      have sG6 := (sG.trans s_G5).trans s_G6
      walk_at "ct"
      refine w_iteN (fun d => ?_) (fun d => ?_)
      · have hr : ¬ ∀ j, j + t' < 2 * M → B (j + t' + 1) = B (j + 1) := fun z => d ((shown_iff (by omega)).mpr z)
        have tM2 : t' + 1 ≤ M := by
          apply Classical.byContradiction
          intro c
          refine hr fun j _ => ?_
          rw [show t' = M by omega, show j + M + 1 = (j + 1) + M by omega]
          exact g.2 (j + 1) (by omega)
        walk_at "ct"
        refine ⟨⟨t' + 1, _, rfl, sG6, by omega, tM2, fun k h1 h2 => ?_⟩, ?_⟩
        · by_cases c : k = t'
          · rw [c]; exact hr
          · exact no k h1 (by omega)
        · show 1000001 - ((t' : Int) + 1).toNat < 1000001 - ((t' : Int)).toNat
          omega
      obtain ⟨R, _⟩ := due_ring g t1 ((shown_iff (by omega)).mp d) no
      have hD6 := s_G6 _ _ (s_G5 _ _ hDG)
      walk_at "ct"
      refine w_RG1 (by omega) (by omega) ?_
      rw [Int.toNat_natCast]
      have s06 := ((s_J.trans s_J2).trans sG6)
      refine lb_range (fun L i J3 => Same G6 J3 ∧ J3 L = some (.lst ((((List.range i).filter fun p => B (p + t')).map fun n : Nat => (n : Int)).map V.int))) (fun L nL => ⟨same_upd nL, upd_same⟩) ?_ ?_
      · rintro L nL i J3 hi ⟨sJ3, hL⟩
        have fl : ((List.range i).filter fun p => B (p + t')).length ≤ i := by
          have := List.length_filter_le (fun p => B (p + t')) (List.range i)
          rw [List.length_range] at this
          exact this
        walk_at "ct"
        refine ⟨rfl, ?_⟩
        walk_at "ct"
        rw [show (0 : Int) + (i : Int) + (t' : Int) - 1 = ((i + t' - 1 : Nat) : Int) by omega]
        refine w_ixL (.of (sJ3 _ _ hD6)) (atI_nat (j := i + t' - 1) (by rw [List.getElem?_map, shownI_at (by omega)]; rfl)) ?_
        rw [show i + t' - 1 + 1 = i + t' by omega]
        walk_at "ct"
        have split : (List.range (i + 1)).filter (fun p => B (p + t')) = (List.range i).filter (fun p => B (p + t')) ++ (if B (i + t') = true then [i] else []) := by
          rw [List.range_succ, List.filter_append]
          congr 1
          by_cases c : B (i + t') = true
          · rw [if_pos c, show List.filter (fun p => B (p + t')) [i] = [i] from List.filter_cons_of_pos (p := fun p => B (p + t')) c]
          · rw [if_neg c, show List.filter (fun p => B (p + t')) [i] = [] from List.filter_cons_of_neg (p := fun p => B (p + t')) c]
        refine w_ite (fun c => ?_) (fun c => ?_)
        · have cb : B (i + t') = true := by
            cases e : B (i + t') with
            | true => rfl
            | false => rw [e] at c; exact absurd c (by decide)
          walk_at "ct"
          refine ⟨_, hL, by rw [List.length_map, List.length_map]; exact Nat.lt_of_le_of_lt (show _ ≤ 1000000 by omega) (by decide), same_new sJ3 nL, ?_⟩
          rw [upd_same, split, if_pos cb, List.map_append, List.map_append, Int.zero_add]
          rfl
        · have cb : ¬ B (i + t') = true := fun e => c (by rw [e]; rfl)
          rw [split, if_neg cb, List.append_nil]
          exact ⟨sJ3, hL⟩
      rintro L nL J3 ⟨sJ3, hL⟩
      walk_at "ct"
      refine ⟨L, _, rfl, .inl ⟨.of hL, fun g8 n_g8 => ?_⟩⟩
      generalize h_J4 : upd _ g8 _ = J4
      obtain ⟨s_J4, e_g8⟩ := Ct.upd_new h_J4 n_g8
      clear h_J4
      walk_at "ct"
      refine ⟨len2 rfl, fun q9 n_q9 => ?_⟩
      generalize h_J5 : upd _ q9 _ = J5
      obtain ⟨s_J5, e_q9⟩ := Ct.upd_new h_J5 n_q9
      clear h_J5
      exact q t' q9 g8 J5 (((s06.trans sJ3).trans s_J4).trans s_J5) R (by omega) (s_J5 _ _ e_g8) e_q9
    · exact (show MoT _ by repeat' (first | exact mo_var | exact mo_c | exact mo_none | exact mo_rI | exact mo_rI0 | exact mo_rNe | exact mo_rEq | exact mo_rNeD | exact mo_rEqD | refine mo_or ?_ ?_ | refine mo_and ?_ ?_ | refine mo_test ?_ | refine mo_slL ?_ ?_ ?_ | refine mo_part ?_ | refine mo_op ?_ ?_ ?_))
abbrev S__law_great : Stmt := topS 34
theorem sc__law_great : FnScope ["_law_cell", "_law_d", "_law_e", "_law_teeth", "_law_some", "_law_train_here", "_law_k", "_law_part_here"] ["_law_cell"] (defScope S__law_great) := ⟨rfl, rfl, rfl, by decide +kernel, rfl, by decide +kernel, by decide +kernel⟩
def sp__law_great (K : PySem.W.Frag) : Sp := fun vs H Q _ => ∃ (cell : Int), vs = [.int cell] ∧
  ∀ (ps : List Part) (xs : List Int) a t g ws H', Same H H' → H' a = some (.lst ws) → DpAll K H' ws (ps.map Part.data) → (∀ p ∈ ps, ∃ z ms, p = .wheel z ms) → 1 ≤ ps.length → ps.length ≤ 4 → stands ps ≤ 2000 → (∃ z ms r, ps = Part.wheel z ms :: r ∧ ms.length ≤ 2 ∧ stands r ≤ 44) → SqT K H' t (xs.map V.int) → StandL ps xs → H' g = some (.tup [.ref a, .ref t]) → Q (.ref g) H'
theorem ok__law_great {f : Addr} {fd : FuncData} {f__law_mix : Addr} {fd__law_mix : FuncData} (F : Fun K "_law_great" "_law_great" S__law_great f fd)
    (F__law_mix : Fun K "_law_mix" "_law_mix" S__law_mix f__law_mix fd__law_mix) (b__law_mix : Binds K fd__law_mix ["_law_cell", "_law_k"] []) (g__law_mix : mg "_law_mix" = some (.ref f__law_mix)) (G__law_mix : FnOk P w K mg base CX0 1 f__law_mix fd__law_mix ["_law_cell", "_law_k"] (sp__law_mix K)) (m_tuple : mg "tuple" = none) (m_enumerate : mg "enumerate" = none) :
    FnOk P w K mg base CX0 2 f fd ["_law_cell"] (sp__law_great K) := by
  refine F.ok sc__law_great (fun vs H Q E h => ?_) (fun cdv A outer s H vs Q E hr h => ?_)
  ·
    obtain ⟨cell, rfl, _⟩ := h
    rfl
  ·
    obtain ⟨cell, rfl, q⟩ := h
    refine ⟨_, (pss_cons (ps_set (i := 1) sc__law_great.nd rfl (.inl rfl) (pe_call G__law_mix (hr.mono (by decide)) (by rfl) g__law_mix F__law_mix.kp b__law_mix .nil pass0 (pa_cons (pv 0) (pa_cons pe_int pa_nil))))
      (pss_cons (ps_set (i := 2) sc__law_great.nd rfl (.inl rfl) (pe_call G__law_mix (hr.mono (by decide)) (by rfl) g__law_mix F__law_mix.kp b__law_mix .nil pass0 (pa_cons (pv 0) (pa_cons pe_int pa_nil))))
      (pss_cons (ps_set (i := 3) sc__law_great.nd rfl (.inl rfl) (pe_op op_add pe_int (pe_op op_mod (pv 1) pe_int)))
      (pss_cons (ps_set (i := 4) sc__law_great.nd rfl (.inl rfl) (pe_lst (pa_cons (pe_lst (pa_cons (pe_tup (pa_cons pe_str (pa_cons (pv 3) (pa_cons (pe_tup (pa_cons pe_int (pa_cons (pe_op op_add pe_int (pe_op op_mod (pv 2) pe_int)) pa_nil))) pa_nil)))) pa_nil)) pa_nil)))
      (pss_cons (ps_expr (pe_bm PySem.F.plainAttrs_list PySem.F.slot_list_append PySem.F.type_list_append mt_append (pv 4) (pa_cons (pe_lst (pa_cons (pe_tup (pa_cons pe_str (pa_cons (pe_op op_add pe_int (pe_op op_mod (pv 1) pe_int)) (pa_cons (pe_tup (pa_cons pe_int pa_nil)) pa_nil)))) (pa_cons (pe_tup (pa_cons pe_str (pa_cons (pe_op op_add pe_int (pe_op op_mod (pv 2) pe_int)) (pa_cons (pe_tup (pa_cons pe_int (pa_cons (pe_op op_add pe_int (pe_op op_mod (pv 2) pe_int)) pa_nil))) pa_nil)))) pa_nil))) pa_nil)))
      (pss_cons (ps_expr (pe_bm PySem.F.plainAttrs_list PySem.F.slot_list_append PySem.F.type_list_append mt_append (pv 4) (pa_cons (pe_lst (pa_cons (pe_tup (pa_cons pe_str (pa_cons (pe_op op_add pe_int (pe_op op_mod (pv 2) pe_int)) (pa_cons (pe_tup pa_nil) pa_nil)))) (pa_cons (pe_tup (pa_cons pe_str (pa_cons (pe_op op_add pe_int (pe_op op_mod (pv 1) pe_int)) (pa_cons (pe_tup (pa_cons pe_int pa_nil)) pa_nil)))) pa_nil))) pa_nil)))
      (pss_cons (ps_set (i := 5) sc__law_great.nd rfl (.inl rfl) (pe_ix (r := rIxL K) ix_list (pv 4) (pe_op op_mod (pe_call G__law_mix (hr.mono (by decide)) (by rfl) g__law_mix F__law_mix.kp b__law_mix .nil pass0 (pa_cons (pv 0) (pa_cons pe_int pa_nil))) pe_int) (fun _ _ => rfl)))
      (pss_one (ps_ret (pe_tup (pa_cons (pv 5) (pa_cons (pe_callTy call_tuple_of (by rfl) m_tuple (by decide +kernel) (pa_cons (pe_lc (own := [("_law_k", 6), ("_law_part_here", 7)]) (g := gTup K 2 (gCons (gName 6) (gCons (gName 7) gNil)))  rfl sc__law_great.nd  (pi_enum (by rfl) m_enumerate (pa_cons (pv 5) pa_nil)) (blkOk_by (own := [("_law_k", 6), ("_law_part_here", 7)]) (N := ["_law_cell", "_law_d", "_law_e", "_law_teeth", "_law_some", "_law_train_here", "_law_k", "_law_part_here"]) (sc := defScope S__law_great) (by decide +kernel)) (fun _ _ _ _ _ => pg_tup rfl (pgs_cons (pg_name (i := 6) sc__law_great.nd rfl (Or.inl rfl)) (pgs_cons (pg_name (i := 7) sc__law_great.nd rfl (Or.inl rfl)) pgs_nil))) (fun _ _ _ _ _ => pts_nil) (fun _ _ _ _ _ => (pe_op op_mod (pe_call G__law_mix (hr.mono (by decide)) (by rfl) g__law_mix F__law_mix.kp b__law_mix .nil pass0 (pa_cons (pv 0) (pa_cons (pe_op op_add pe_int (pv 6)) pa_nil))) (pe_ix (r := rIxT K) ix_tup (pv 7) pe_int (fun _ _ => rfl))))) pa_nil)) pa_nil)))))))))))), ?_⟩
    refine w_st (σ' := [some (.int cell), none, none, none, none, none, none, none]) rfl ?_
    walk_at "ct"
    refine ⟨cell, 30, rfl, by decide, by decide, fun d d0 d1 => ?_⟩
    walk_at "ct"
    refine ⟨cell, 31, rfl, by decide, by decide, fun e e0 e1 => ?_⟩
    walk_at "ct"
    refine w_mod (by decide) fun r r0 r1 => ?_
    walk_at "ct"
    obtain ⟨tz, htz⟩ : ∃ tz : Int, 501 + r = tz := ⟨_, rfl⟩
    rw [htz]
    refine w_mod (by decide) fun r2 r20 r21 => ?_
    walk_at "ct"
    refine ⟨len2 rfl, fun m1 n_m1 => ?_⟩
    generalize h_G1 : upd _ m1 _ = G1
    obtain ⟨s_G1, e_m1⟩ := Ct.upd_new h_G1 n_m1
    clear h_G1
    walk_at "ct"
    refine ⟨len2 rfl, fun w1 n_w1 => ?_⟩
    generalize h_G2 : upd _ w1 _ = G2
    obtain ⟨s_G2, e_w1⟩ := Ct.upd_new h_G2 n_w1
    clear h_G2
    walk_at "ct"
    refine ⟨len2 rfl, fun l1 n_l1 => ?_⟩
    generalize h_G3 : upd _ l1 _ = G3
    obtain ⟨s_G3, e_l1⟩ := Ct.upd_new h_G3 n_l1
    clear h_G3
    walk_at "ct"
    refine ⟨len2 rfl, fun S n_S => ?_⟩
    generalize h_G4 : upd _ S _ = G4
    obtain ⟨s_G4, e_S⟩ := Ct.upd_new h_G4 n_S
    clear h_G4
    walk_at "ct"
    refine ⟨ty_list e_S, ?_⟩
    walk_at "ct"
    refine w_mod (by decide) fun a1 a10 a11 => ?_
    walk_at "ct"
    refine ⟨len2 rfl, fun m2 n_m2 => ?_⟩
    generalize h_G5 : upd _ m2 _ = G5
    obtain ⟨s_G5, e_m2⟩ := Ct.upd_new h_G5 n_m2
    clear h_G5
    walk_at "ct"
    refine ⟨len2 rfl, fun w2 n_w2 => ?_⟩
    generalize h_G6 : upd _ w2 _ = G6
    obtain ⟨s_G6, e_w2⟩ := Ct.upd_new h_G6 n_w2
    clear h_G6
    walk_at "ct"
    refine w_mod (by decide) fun a2 a20 a21 => ?_
    walk_at "ct"
    refine w_mod (by decide) fun a3 a30 a31 => ?_
    walk_at "ct"
    refine ⟨len2 rfl, fun m3 n_m3 => ?_⟩
    generalize h_G7 : upd _ m3 _ = G7
    obtain ⟨s_G7, e_m3⟩ := Ct.upd_new h_G7 n_m3
    clear h_G7
    walk_at "ct"
    refine ⟨len2 rfl, fun w3 n_w3 => ?_⟩
    generalize h_G8 : upd _ w3 _ = G8
    obtain ⟨s_G8, e_w3⟩ := Ct.upd_new h_G8 n_w3
    clear h_G8
    walk_at "ct"
    refine ⟨len2 rfl, fun l2 n_l2 => ?_⟩
    generalize h_G9 : upd _ l2 _ = G9
    obtain ⟨s_G9, e_l2⟩ := Ct.upd_new h_G9 n_l2
    clear h_G9
    walk_at "ct"
    have S9 : G9 S = some (.lst [.ref l1]) := ((((s_G5.trans s_G6).trans s_G7).trans s_G8).trans s_G9) _ _ e_S
    have D1 : DpAll K G9 [.ref w1] ([Part.wheel tz [0, 1 + r2]].map Part.data) := .cons (wheel_dp (b := m1) (.of (by walk_at "mv")) (.of (show G9 m1 = some (.tup [.int 0, .int (1 + r2)]) from (by walk_at "mv")))) .nil
    have D2 : DpAll K G9 [.ref w2, .ref w3] ([Part.wheel (23 + a1) [0], Part.wheel (23 + a2) [0, 1 + a3]].map Part.data) := .cons (wheel_dp (b := m2) (.of (by walk_at "mv")) (.of (show G9 m2 = some (.tup [.int 0]) from (by walk_at "mv")))) (.cons (wheel_dp (b := m3) (.of (by walk_at "mv")) (.of (show G9 m3 = some (.tup [.int 0, .int (1 + a3)]) from (by walk_at "mv")))) .nil)
    have L1 : G9 l1 = some (.lst [.ref w1]) := (by walk_at "mv")
    have nS1 : S ≠ l1 := ne_new e_l1 n_S
    have nS2 : l2 ≠ S := ne_new (((((s_G5.trans s_G6).trans s_G7).trans s_G8) _ _ e_S)) n_l2
    refine w_append S9 (small1000 (Nat.le_of_ble_eq_true rfl)) ?_
    have sHG : Same H (upd G9 S (.lst ([.ref l1] ++ [.ref l2]))) := same_new (show Same H G9 from (by walk_at "sm")) (show H S = none from (show Same H G3 from (by walk_at "sm")).free n_S)
    have D1' := parts_upd (o := .lst ([.ref l1] ++ [.ref l2])) S9 _ D1
    have D2' := parts_upd (o := .lst ([.ref l1] ++ [.ref l2])) S9 _ D2
    have L1' : (upd G9 S (.lst ([.ref l1] ++ [.ref l2]))) l1 = some (.lst [.ref w1]) := by rw [upd_ne nS1.symm]; exact L1
    have L2' : (upd G9 S (.lst ([.ref l1] ++ [.ref l2]))) l2 = some (.lst [.ref w2, .ref w3]) := by rw [upd_ne nS2]; exact e_l2
    have S' : (upd G9 S (.lst ([.ref l1] ++ [.ref l2]))) S = some (.lst [.ref l1, .ref l2]) := upd_same
    generalize upd G9 S (.lst ([.ref l1] ++ [.ref l2])) = H1 at *
    walk_at "ct"
    refine ⟨ty_list S', ?_⟩
    walk_at "ct"
    refine w_mod (by decide) fun a4 a40 a41 => ?_
    walk_at "ct"
    refine ⟨len2 rfl, fun m4 n_m4 => ?_⟩
    generalize h_H2 : upd _ m4 _ = H2
    obtain ⟨s_H2, e_m4⟩ := Ct.upd_new h_H2 n_m4
    clear h_H2
    walk_at "ct"
    refine ⟨len2 rfl, fun w4 n_w4 => ?_⟩
    generalize h_H3 : upd _ w4 _ = H3
    obtain ⟨s_H3, e_w4⟩ := Ct.upd_new h_H3 n_w4
    clear h_H3
    walk_at "ct"
    refine w_mod (by decide) fun a5 a50 a51 => ?_
    walk_at "ct"
    refine ⟨len2 rfl, fun m5 n_m5 => ?_⟩
    generalize h_H4 : upd _ m5 _ = H4
    obtain ⟨s_H4, e_m5⟩ := Ct.upd_new h_H4 n_m5
    clear h_H4
    walk_at "ct"
    refine ⟨len2 rfl, fun w5 n_w5 => ?_⟩
    generalize h_H5 : upd _ w5 _ = H5
    obtain ⟨s_H5, e_w5⟩ := Ct.upd_new h_H5 n_w5
    clear h_H5
    walk_at "ct"
    refine ⟨len2 rfl, fun l3 n_l3 => ?_⟩
    generalize h_H6 : upd _ l3 _ = H6
    obtain ⟨s_H6, e_l3⟩ := Ct.upd_new h_H6 n_l3
    clear h_H6
    walk_at "ct"
    have s16 : Same H1 H6 := (by walk_at "sm")
    have S6 := s16 _ _ S'
    have D3 : DpAll K H6 [.ref w4, .ref w5] ([Part.wheel (23 + a4) [], Part.wheel (23 + a5) [0]].map Part.data) := .cons (wheel_dp (b := m4) (.of (by walk_at "mv")) (.of (show H6 m4 = some (.tup []) from (by walk_at "mv")))) (.cons (wheel_dp (b := m5) (.of (by walk_at "mv")) (.of (show H6 m5 = some (.tup [.int 0]) from (by walk_at "mv")))) .nil)
    have nS3 : l3 ≠ S := ne_new ((show Same H1 H5 from (by walk_at "sm")) _ _ S') n_l3
    refine w_append S6 (small1000 (Nat.le_of_ble_eq_true rfl)) ?_
    have sHG2 : Same H (upd H6 S (.lst ([.ref l1, .ref l2] ++ [.ref l3]))) := same_new (sHG.trans s16) (show H S = none from (show Same H G3 from (by walk_at "sm")).free n_S)
    have E1 := parts_upd (o := .lst ([.ref l1, .ref l2] ++ [.ref l3])) S6 _ (dpAll_same s16 D1')
    have E2 := parts_upd (o := .lst ([.ref l1, .ref l2] ++ [.ref l3])) S6 _ (dpAll_same s16 D2')
    have E3 := parts_upd (o := .lst ([.ref l1, .ref l2] ++ [.ref l3])) S6 _ D3
    have M1 : (upd H6 S (.lst ([.ref l1, .ref l2] ++ [.ref l3]))) l1 = some (.lst [.ref w1]) := by rw [upd_ne nS1.symm]; exact s16 _ _ L1'
    have M2 : (upd H6 S (.lst ([.ref l1, .ref l2] ++ [.ref l3]))) l2 = some (.lst [.ref w2, .ref w3]) := by rw [upd_ne nS2]; exact s16 _ _ L2'
    have M3 : (upd H6 S (.lst ([.ref l1, .ref l2] ++ [.ref l3]))) l3 = some (.lst [.ref w4, .ref w5]) := by rw [upd_ne nS3]; exact e_l3
    have S7 : (upd H6 S (.lst ([.ref l1, .ref l2] ++ [.ref l3]))) S = some (.lst [.ref l1, .ref l2, .ref l3]) := upd_same
    generalize upd H6 S (.lst ([.ref l1, .ref l2] ++ [.ref l3])) = H7 at *
    walk_at "ct"
    refine ⟨cell, 32, rfl, by decide, by decide, fun n32 _ _ => ?_⟩
    walk_at "ct"
    refine w_mod (by decide) fun r3 r30 r31 => ?_
    have z0 : Rise (23 + a1) [0] := ⟨List.pairwise_singleton _ _, fun m hm => by rw [List.mem_singleton.mp hm]; omega⟩
    have two : ∀ (z b : Int), 1 ≤ b → b < z → Rise z [0, b] := fun z b h1 h2 => ⟨List.pairwise_pair.mpr (by omega), fun m hm => by
      rcases List.mem_cons.mp hm with rfl | hm
      · omega
      · rw [List.mem_singleton.mp hm]; omega⟩
    have one : ∀ (z : Int), 1 ≤ z → Rise z [0] := fun z h => ⟨List.pairwise_singleton _ _, fun m hm => by rw [List.mem_singleton.mp hm]; omega⟩
    have mul2 : ∀ x y : Int, 0 ≤ x → x ≤ 44 → 0 ≤ y → y ≤ 44 → x * (y * 1) ≤ 2000 := fun x y x0 x1 y0 y1 => by
      have := Int.mul_le_mul x1 y1 y0 (by decide)
      rw [Int.mul_one]
      omega
    obtain ⟨li, ws, qs, hix, hli, dT, okT, whT, l1', l2', few, fst⟩ : ∃ (li : Addr) (ws : List V) (qs : List Part), atI [V.ref l1, .ref l2, .ref l3] r3 = some (.ref li) ∧ H7 li = some (.lst ws) ∧ DpAll K H7 ws (qs.map Part.data) ∧ (∀ p ∈ qs, p.ok) ∧ (∀ p ∈ qs, ∃ z ms, p = .wheel z ms) ∧ 1 ≤ qs.length ∧ qs.length ≤ 4 ∧ stands qs ≤ 2000 ∧ ∃ z ms r, qs = Part.wheel z ms :: r ∧ ms.length ≤ 2 ∧ stands r ≤ 44 := by
      have hr : r3 = 0 ∨ r3 = 1 ∨ r3 = 2 := by omega
      have pair : ∀ (p1 p2 : Part), p1.ok → p2.ok → ∀ p ∈ [p1, p2], p.ok := fun p1 p2 h1 h2 p hp => by
        rcases List.mem_cons.mp hp with rfl | hp
        · exact h1
        · rw [List.mem_singleton.mp hp]; exact h2
      have pairW : ∀ (z1 z2 : Int) (n1 n2 : List Int), ∀ p ∈ [Part.wheel z1 n1, Part.wheel z2 n2], ∃ z ms, p = .wheel z ms := fun z1 z2 n1 n2 p hp => by
        rcases List.mem_cons.mp hp with rfl | hp
        · exact ⟨_, _, rfl⟩
        · rw [List.mem_singleton.mp hp]; exact ⟨_, _, rfl⟩
      rcases hr with rfl | rfl | rfl
      · refine ⟨l1, _, _, rfl, M1, E1, fun p hp => ?_, fun p hp => ?_, (Nat.le_of_ble_eq_true rfl), (Nat.le_of_ble_eq_true rfl), ?_, ⟨_, _, [], rfl, (Nat.le_of_ble_eq_true rfl), by decide⟩⟩
        · rw [List.mem_singleton.mp hp]
          exact ⟨by omega, by omega, two tz (1 + r2) (by omega) (by omega), (Nat.le_of_ble_eq_true rfl)⟩
        · rw [List.mem_singleton.mp hp]
          exact ⟨_, _, rfl⟩
        · show tz * 1 ≤ 2000
          omega
      · exact ⟨l2, _, _, rfl, M2, E2, pair _ _ ⟨by omega, by omega, one _ (by omega), by decide⟩ ⟨by omega, by omega, two _ _ (by omega) (by omega), (Nat.le_of_ble_eq_true rfl)⟩, pairW _ _ _ _, (Nat.le_of_ble_eq_true rfl), (Nat.le_of_ble_eq_true rfl), mul2 (23 + a1) (23 + a2) (by omega) (by omega) (by omega) (by omega), ⟨_, _, _, rfl, (Nat.le_of_ble_eq_true rfl), by show (23 + a2) * 1 ≤ 44; omega⟩⟩
      · exact ⟨l3, _, _, rfl, M3, E3, pair _ _ ⟨by omega, by omega, ⟨.nil, fun m hm => by cases hm⟩, by decide⟩ ⟨by omega, by omega, one _ (by omega), by decide⟩, pairW _ _ _ _, (Nat.le_of_ble_eq_true rfl), (Nat.le_of_ble_eq_true rfl), mul2 (23 + a4) (23 + a5) (by omega) (by omega) (by omega) (by omega), ⟨_, _, _, rfl, (Nat.le_of_ble_eq_true rfl), by show (23 + a5) * 1 ≤ 44; omega⟩⟩
    refine w_ixL (.of S7) hix ?_
    have wl : ws.length = qs.length := by rw [dpAll_len dT, List.length_map]
    walk_at "ct"
    refine w_IE (.of hli) ?_
    refine lb_enum ws (fun D i G => Same H7 G ∧ ∃ zs : List Int, G D = some (.lst (zs.map V.int)) ∧ StandL (qs.take i) zs) (fun D nD => ⟨same_upd nD, [], upd_same, by rw [List.take_zero]; trivial⟩) (fun D nD i G _ h => .of (h.1 _ _ hli)) ?_ ?_
    · rintro D nD i v T G hv ⟨sG, zs, hD, hzs⟩ nT
      have hi : i < ws.length := (List.getElem?_eq_some_iff.mp hv).1
      obtain ⟨p, hp⟩ : ∃ p, qs[i]? = some p := ⟨_, List.getElem?_eq_getElem (by omega)⟩
      have sT : Same G (upd G T (.tup [.int (i : Nat), v])) := same_upd nT
      have hT : (upd G T (.tup [.int (i : Nat), v])) T = some (.tup [.int (i : Nat), v]) := upd_same
      generalize upd G T _ = G7' at *
      obtain ⟨v', hv', hdp⟩ := dpAll_get (dpAll_same (sG.trans sT) dT) (i := i) (d := p.data) (by rw [List.getElem?_map, hp]; rfl)
      cases Option.some.inj (hv.symm.trans hv')
      obtain ⟨pz, pms, rfl⟩ := whT p (List.mem_of_getElem? hp)
      have pk := okT _ (List.mem_of_getElem? hp)
      have pz1 : 1 ≤ pz := pk.1
      obtain ⟨ga, gb, rfl, hga, hgb⟩ := wheel_inv hdp
      have zl : zs.length = i := by rw [hzs.len, List.length_take]; omega
      refine w_gtup (.of hT) rfl ?_
      walk_at "ct"
      refine ⟨rfl, ?_⟩
      walk_at "ct"
      refine ⟨cell, _, rfl, by omega, by omega, fun x x0 x1 => ?_⟩
      walk_at "ct"
      refine w_mod (by omega) fun y y0 y1 => ?_
      have hD7 := sT _ _ hD
      refine ⟨_, hD7, by rw [List.length_map]; exact small1000 (by omega), same_new (sG.trans sT) nD, zs ++ [y], by rw [upd_same, List.map_append]; rfl, ?_⟩
      rw [List.take_add_one, hp]
      exact standL_app hzs ⟨pk, y0, y1, trivial⟩
    rintro D nD G ⟨sG, zs, hD, hzs⟩
    rw [List.take_of_length_le (by omega)] at hzs
    walk_at "ct"
    refine ⟨D, _, rfl, .inl ⟨.of hD, fun u n_u => ?_⟩⟩
    generalize h_K1 : upd _ u _ = K1
    obtain ⟨s_K1, e_u⟩ := Ct.upd_new h_K1 n_u
    clear h_K1
    walk_at "ct"
    refine ⟨len2 rfl, fun g n_g => ?_⟩
    generalize h_K2 : upd _ g _ = K2
    obtain ⟨s_K2, e_g⟩ := Ct.upd_new h_K2 n_g
    clear h_K2
    have sE : Same H7 K2 := (sG.trans s_K1).trans s_K2
    exact q qs zs li u g ws K2 (sHG2.trans sE) (sE _ _ hli) (dpAll_same sE dT) whT l1' l2' few fst (.of (s_K2 _ _ e_u)) hzs e_g
abbrev S__law_still_right : Stmt := topS 35
theorem sc__law_still_right : FnScope ["_law_cell", "_law_size", "_law_great_here", "_law_still", "_law_place", "_law_train_here", "_law_stand"] ["_law_cell"] (defScope S__law_still_right) := ⟨rfl, rfl, rfl, by decide +kernel, rfl, by decide +kernel, by decide +kernel⟩
def sp__law_still_right (K : PySem.W.Frag) (T : List Addr) : Sp := fun vs H Q _ => ∃ (cell : Int), vs = [.int cell] ∧ Tb T H ∧ ∀ H', Same H H' → Q (.bl true) H'
theorem ok__law_still_right {f : Addr} {fd : FuncData} {f_joined : Addr} {fd_joined : FuncData} {f_least_wheel : Addr} {fd_least_wheel : FuncData} {f__law_wheels : Addr} {fd__law_wheels : FuncData} {f__law_mix : Addr} {fd__law_mix : FuncData} {f_worn : Addr} {fd_worn : FuncData} {T : List Addr} (F : Fun K "_law_still_right" "_law_still_right" S__law_still_right f fd)
    (F_joined : Fun K "joined" "joined" S_joined f_joined fd_joined) (b_joined : Binds K fd_joined ["one", "other"] []) (g_joined : mg "joined" = some (.ref f_joined)) (G_joined : FnOk P w K mg base CX0 5 f_joined fd_joined ["one", "other"] (sp_joined K))
    (F_least_wheel : Fun K "least_wheel" "least_wheel" S_least_wheel f_least_wheel fd_least_wheel) (b_least_wheel : Binds K fd_least_wheel ["train", "stand"] []) (g_least_wheel : mg "least_wheel" = some (.ref f_least_wheel)) (G_least_wheel : FnOk P w K mg base CX0 7 f_least_wheel fd_least_wheel ["train", "stand"] (sp_least_wheel K T))
    (F__law_wheels : Fun K "_law_wheels" "_law_wheels" S__law_wheels f__law_wheels fd__law_wheels) (b__law_wheels : Binds K fd__law_wheels ["_law_cell"] []) (g__law_wheels : mg "_law_wheels" = some (.ref f__law_wheels)) (G__law_wheels : FnOk P w K mg base CX0 3 f__law_wheels fd__law_wheels ["_law_cell"] (sp__law_wheels K))
    (F__law_mix : Fun K "_law_mix" "_law_mix" S__law_mix f__law_mix fd__law_mix) (b__law_mix : Binds K fd__law_mix ["_law_cell", "_law_k"] []) (g__law_mix : mg "_law_mix" = some (.ref f__law_mix)) (G__law_mix : FnOk P w K mg base CX0 1 f__law_mix fd__law_mix ["_law_cell", "_law_k"] (sp__law_mix K))
    (F_worn : Fun K "worn" "worn" S_worn f_worn fd_worn) (b_worn : Binds K fd_worn ["train", "wear"] []) (g_worn : mg "worn" = some (.ref f_worn)) (G_worn : FnOk P w K mg base CX0 5 f_worn fd_worn ["train", "wear"] (sp_worn K)) :
    FnOk P w K mg base CX0 8 f fd ["_law_cell"] (sp__law_still_right K T) := by
  refine F.ok sc__law_still_right (fun vs H Q E h => ?_) (fun cdv A outer s H vs Q E hr h => ?_)
  ·
    obtain ⟨cell, rfl, _⟩ := h
    rfl
  ·
    obtain ⟨cell, rfl, hTb, q⟩ := h
    refine ⟨_, (pss_cons (ps_set (i := 1) sc__law_still_right.nd rfl (.inl rfl) (pe_op op_add (pe_op op_add (pe_op op_powB pe_int pe_int) (pe_op op_mulW (pe_call G__law_mix (hr.mono (by decide)) (by rfl) g__law_mix F__law_mix.kp b__law_mix .nil pass0 (pa_cons (pv 0) (pa_cons pe_int pa_nil))) (pe_op op_powB pe_int pe_int))) (pe_call G__law_mix (hr.mono (by decide)) (by rfl) g__law_mix F__law_mix.kp b__law_mix .nil pass0 (pa_cons (pv 0) (pa_cons pe_int pa_nil)))))
      (pss_cons (ps_set (i := 2) sc__law_still_right.nd rfl (.inl rfl) (pe_call G_worn (hr.mono (by decide)) (by rfl) g_worn F_worn.kp b_worn .nil pass0 (pa_cons (pe_lst (pa_cons (pe_tup (pa_cons pe_str (pa_cons (pv 1) (pa_cons (pe_tup (pa_cons pe_int (pa_cons pe_int pa_nil))) pa_nil)))) pa_nil)) (pa_cons (pe_tup (pa_cons pe_int (pa_cons pe_int pa_nil))) pa_nil))))
      (pss_cons (ps_set (i := 3) sc__law_still_right.nd rfl (.inl rfl) (pe_call G_worn (hr.mono (by decide)) (by rfl) g_worn F_worn.kp b_worn .nil pass0 (pa_cons (pe_lst (pa_cons (pe_tup (pa_cons pe_str (pa_cons pe_int (pa_cons (pe_tup (pa_cons pe_int pa_nil)) pa_nil)))) pa_nil)) (pa_cons (pe_tup (pa_cons pe_int (pa_cons pe_int pa_nil))) pa_nil))))
      (pss_cons (ps_set (i := 4) sc__law_still_right.nd rfl (.inl rfl) (pe_call G__law_mix (hr.mono (by decide)) (by rfl) g__law_mix F__law_mix.kp b__law_mix .nil pass0 (pa_cons (pv 0) (pa_cons pe_int pa_nil))))
      (pss_cons (ps_asg (pe_call G__law_wheels (hr.mono (by decide)) (by rfl) g__law_wheels F__law_wheels.kp b__law_wheels .nil pass0 (pa_cons (pv 0) pa_nil)) (pg_tup rfl (pgs_cons (pg_name (i := 5) sc__law_still_right.nd rfl (.inl rfl)) (pgs_cons (pg_name (i := 6) sc__law_still_right.nd rfl (.inl rfl)) pgs_nil))))
      (pss_cons (ps_if (pt_cmpR (r := rNeD K) (op_neD hr.units) (pe_call G_least_wheel (hr.mono (by decide)) (by rfl) g_least_wheel F_least_wheel.kp b_least_wheel .nil pass0 (pa_cons (pe_call G_joined (hr.mono (by decide)) (by rfl) g_joined F_joined.kp b_joined .nil pass0 (pa_cons (pv 3) (pa_cons (pv 2) pa_nil))) (pa_cons (pe_tup (pa_cons pe_int (pa_cons (pv 4) pa_nil))) pa_nil))) (pe_tup (pa_cons pe_str (pa_cons pe_int (pa_cons (pe_tup pa_nil) pa_nil)))) (nomark _)) (pss_one (ps_ret pe_bl)) pss_nil)
      (pss_one (ps_ret (pe_cmpR (r := rEqD K) (op_eqD hr.units) (pe_call G_least_wheel (hr.mono (by decide)) (by rfl) g_least_wheel F_least_wheel.kp b_least_wheel .nil pass0 (pa_cons (pe_call G_joined (hr.mono (by decide)) (by rfl) g_joined F_joined.kp b_joined .nil pass0 (pa_cons (pe_call G_joined (hr.mono (by decide)) (by rfl) g_joined F_joined.kp b_joined .nil pass0 (pa_cons (pv 5) (pa_cons (pv 3) pa_nil))) (pa_cons (pv 2) pa_nil))) (pa_cons (pe_op (r := rCatA K) op_catA (pv 6) (pe_tup (pa_cons pe_int (pa_cons (pv 4) pa_nil)))) pa_nil))) (pe_tup (pa_cons pe_str (pa_cons pe_int (pa_cons (pe_tup pa_nil) pa_nil)))) (nomark _)))))))))), ?_⟩
    refine w_st (σ' := [some (.int cell), none, none, none, none, none, none]) rfl ?_
    obtain ⟨B, hB⟩ : ∃ B : Int, (10 : Int) ^ (30 : Int).toNat = B := ⟨_, rfl⟩
    have B1 : 2 ^ 40 < B := by rw [← hB]; decide +kernel
    have B2 : B < 2 ^ 100 := by rw [← hB]; decide +kernel
    walk_at "ct"
    refine w_rIv (.int B) (by exact ⟨by decide, by decide +kernel⟩) (by rw [hB]) ?_
    walk_at "ct"
    refine ⟨cell, 35, rfl, by decide, by decide, fun n35 p0 p1 => ?_⟩
    walk_at "ct"
    refine w_rIv (.int B) (by exact ⟨by decide, by decide +kernel⟩) (by rw [hB]) ?_
    clear hB
    have nB0 : 0 ≤ n35 * B := Int.mul_nonneg p0 (by omega)
    have nB1 : n35 * B ≤ 2147483648 * B := Int.mul_le_mul_of_nonneg_right (by omega) (by omega)
    refine w_rI (mul_ok (by omega) (by omega) (by omega) (by omega)) ?_
    walk_at "ct"
    refine ⟨cell, 36, rfl, by decide, by decide, fun n36 _ _ => ?_⟩
    walk_at "ct"
    obtain ⟨z, hz⟩ : ∃ z : Int, B + n35 * B + n36 = z := ⟨_, rfl⟩
    rw [hz]
    have z1 : 2 ^ 40 < z := by omega
    have z2 : z < 2 ^ 200 := by omega
    clear hz
    refine ⟨len2 rfl, fun m1 n_m1 => ?_⟩
    generalize h_G1 : upd _ m1 _ = G1
    obtain ⟨s_G1, e_m1⟩ := Ct.upd_new h_G1 n_m1
    clear h_G1
    walk_at "ct"
    refine ⟨len2 rfl, fun w1 n_w1 => ?_⟩
    generalize h_G2 : upd _ w1 _ = G2
    obtain ⟨s_G2, e_w1⟩ := Ct.upd_new h_G2 n_w1
    clear h_G2
    walk_at "ct"
    refine ⟨len2 rfl, fun l1 n_l1 => ?_⟩
    generalize h_G3 : upd _ l1 _ = G3
    obtain ⟨s_G3, e_l1⟩ := Ct.upd_new h_G3 n_l1
    clear h_G3
    walk_at "ct"
    refine ⟨len2 rfl, fun r1 n_r1 => ?_⟩
    generalize h_G4 : upd _ r1 _ = G4
    obtain ⟨s_G4, e_r1⟩ := Ct.upd_new h_G4 n_r1
    clear h_G4
    have okz : (Part.wheel z [5, 6]).ok := ⟨by omega, z2, ⟨by decide, fun m hm => by
      rcases List.mem_cons.mp hm with rfl | hm
      · omega
      · rw [List.mem_singleton.mp hm]; omega⟩, by decide⟩
    have dz : DpAll K G4 [.ref w1] ([Part.wheel z [5, 6]].map Part.data) := .cons (wheel_dp (b := m1) (.of (by walk_at "mv")) (.of (show G4 m1 = some (.tup [.int 5, .int 6]) from (by walk_at "mv")))) .nil
    refine ⟨l1, .ref r1, [Part.wheel z [5, 6]], some (0, 5), rfl, ⟨_, .of (show G4 l1 = some (.lst [.ref w1]) from (by walk_at "mv")), dz⟩, fun p hp => by rw [List.mem_singleton.mp hp]; exact okz, by exact Nat.le_refl _, ⟨r1, rfl, .of e_r1⟩, fun i m e => by cases e; exact ⟨_, _, rfl⟩, fun lg wg G5 s_G5 n_lg e_lg dg => ?_⟩
    have dg' : DpAll K G5 wg ([Part.wheel z [6]].map Part.data) := dg
    walk_at "ct"
    refine ⟨len2 rfl, fun m2 n_m2 => ?_⟩
    generalize h_G6 : upd _ m2 _ = G6
    obtain ⟨s_G6, e_m2⟩ := Ct.upd_new h_G6 n_m2
    clear h_G6
    walk_at "ct"
    refine ⟨len2 rfl, fun w2 n_w2 => ?_⟩
    generalize h_G7 : upd _ w2 _ = G7
    obtain ⟨s_G7, e_w2⟩ := Ct.upd_new h_G7 n_w2
    clear h_G7
    walk_at "ct"
    refine ⟨len2 rfl, fun l2 n_l2 => ?_⟩
    generalize h_G8 : upd _ l2 _ = G8
    obtain ⟨s_G8, e_l2⟩ := Ct.upd_new h_G8 n_l2
    clear h_G8
    walk_at "ct"
    refine ⟨len2 rfl, fun r2 n_r2 => ?_⟩
    generalize h_G9 : upd _ r2 _ = G9
    obtain ⟨s_G9, e_r2⟩ := Ct.upd_new h_G9 n_r2
    clear h_G9
    have ok1 : (Part.wheel 1 [0]).ok := ⟨by decide, by decide, ⟨List.pairwise_singleton _ _, fun m hm => by rw [List.mem_singleton.mp hm]; decide⟩, by decide⟩
    have d1 : DpAll K G9 [.ref w2] ([Part.wheel 1 [0]].map Part.data) := .cons (wheel_dp (b := m2) (.of (by walk_at "mv")) (.of (show G9 m2 = some (.tup [.int 0]) from (by walk_at "mv")))) .nil
    refine ⟨l2, .ref r2, [Part.wheel 1 [0]], some (0, 0), rfl, ⟨_, .of (show G9 l2 = some (.lst [.ref w2]) from (by walk_at "mv")), d1⟩, fun p hp => by rw [List.mem_singleton.mp hp]; exact ok1, by exact Nat.le_refl _, ⟨r2, rfl, .of e_r2⟩, fun i m e => by cases e; exact ⟨_, _, rfl⟩, fun ls wss G10 s_G10 n_ls e_ls ds => ?_⟩
    have ds' : DpAll K G10 wss ([Part.wheel 1 []].map Part.data) := ds
    walk_at "ct"
    refine ⟨cell, 37, rfl, by decide, by decide, fun pl pl0 pl1 => ?_⟩
    walk_at "ct"
    refine ⟨cell, rfl, fun ps xs a t g ws G11 s_G11 ha dws hw l1' l2' few ht sx hg => ?_⟩
    refine w_gtup (.of hg) rfl ?_
    have oks : (Part.wheel 1 []).ok := ⟨by decide, by decide, ⟨.nil, fun m hm => by cases hm⟩, by decide⟩
    have okg : (Part.wheel z [6]).ok := ⟨by omega, z2, ⟨List.pairwise_singleton _ _, fun m hm => by rw [List.mem_singleton.mp hm]; omega⟩, by decide⟩
    have s511 : Same G5 G11 := (by walk_at "sm")
    have lg11 : G11 lg = some (.lst wg) := s511 _ _ e_lg
    have ls11 : G11 ls = some (.lst wss) := s_G11 _ _ e_ls
    have dg11 := dpAll_same s511 dg'
    have ds11 := dpAll_same s_G11 ds'
    have wgl : wg.length = 1 := by have := dpAll_len dg'; exact this
    have wsl : wss.length = 1 := by have := dpAll_len ds'; exact this
    have s011 : Same H G11 := (by walk_at "sm")
    clear dg ds dz d1
    walk_at "ct"
    refine ⟨ls, lg, [Part.wheel 1 []], [Part.wheel z [6]], wss, wg, rfl, ls11, lg11, ds11, dg11, fun p hp => by rw [List.mem_singleton.mp hp]; exact oks, fun p hp => by rw [List.mem_singleton.mp hp]; exact okg, by exact Nat.le_refl _, by exact Nat.le_refl _, by exact Nat.le_of_ble_eq_true rfl, fun lj G12 s_G12 n_lj e_lj => ?_⟩
    walk_at "ct"
    refine ⟨len2 rfl, fun tj n_tj => ?_⟩
    generalize h_G13 : upd _ tj _ = G13
    obtain ⟨s_G13, e_tj⟩ := Ct.upd_new h_G13 n_tj
    clear h_G13
    have dj : DpAll K G13 (wss ++ wg) ([Part.wheel 1 [], Part.wheel z [6]].map Part.data) := dpAll_app (dpAll_same (s_G12.trans s_G13) ds11) (dpAll_same (s_G12.trans s_G13) dg11)
    have st1 : StandL [Part.wheel 1 [], Part.wheel z [6]] [0, pl] := ⟨oks, by decide, by decide, okg, pl0, by show pl < z; omega, trivial⟩
    have nn := still_last [Part.wheel z [6]] [pl] [] [] allP (fun p hp => by cases hp) rfl
    have s013 : Same H G13 := (by walk_at "sm")
    have hws : ∀ p ∈ [Part.wheel 1 [], Part.wheel z [6]], ∃ z ms, p = .wheel z ms := fun p hp => by
      rcases List.mem_cons.mp hp with rfl | hp
      · exact ⟨_, _, rfl⟩
      · rw [List.mem_singleton.mp hp]; exact ⟨_, _, rfl⟩
    refine ⟨lj, tj, _, [0, pl], rfl, ⟨_, .of (s_G13 _ _ e_lj), dj⟩, hws, by exact Nat.le_of_ble_eq_true rfl, by exact Nat.le_of_ble_eq_true rfl, .of e_tj, st1, still_fit [Part.wheel z [6]] [pl] [] [] allP 1 (fun p hp => by cases hp) (fun p hp => by cases hp) rfl (by decide) (by decide), hTb.same s013, fun S q1 g1 G14 s_G14 R e_g1 e_q1 => ?_⟩
    obtain ⟨S1, mk⟩ := none_wheel nn R
    rw [show lastP [Part.wheel 1 [], Part.wheel z [6]] [0, pl] allP = lastP ([] ++ .wheel 1 [] :: [Part.wheel z [6]]) ([] ++ 0 :: [pl]) allP from rfl, mk] at e_g1
    subst S1
    walk_at "ct"
    refine ⟨len2 rfl, fun e1 n_e1 => ?_⟩
    generalize h_G15 : upd _ e1 _ = G15
    obtain ⟨s_G15, e_e1⟩ := Ct.upd_new h_G15 n_e1
    clear h_G15
    walk_at "ct"
    refine ⟨len2 rfl, fun e2 n_e2 => ?_⟩
    generalize h_G16 : upd _ e2 _ = G16
    obtain ⟨s_G16, e_e2⟩ := Ct.upd_new h_G16 n_e2
    clear h_G16
    have s1416 := s_G15.trans s_G16
    have g1e : G14 g1 = some (.tup []) := e_g1
    refine w_neSame stillD (.tup (.of (s1416 _ _ e_q1)) (.cons (.str _) (.cons (.int _) (.cons (.tup (.of (s1416 _ _ g1e)) .nil) .nil)))) (.tup (.of e_e2) (.cons (.str _) (.cons (.int _) (.cons (.tup (.of (s_G16 _ _ e_e1)) .nil) .nil)))) still_lay (by decide) ?_
    walk_at "ct"
    have s1116 : Same G11 G16 := (by walk_at "sm")
    have s016 : Same H G16 := (by walk_at "sm")
    have okps := sx.okp
    refine ⟨a, ls, ps, [Part.wheel 1 []], ws, wss, rfl, s1116 _ _ ha, s1116 _ _ ls11, dpAll_same s1116 dws, dpAll_same s1116 ds11, okps, fun p hp => by rw [List.mem_singleton.mp hp]; exact oks, l1', by exact Nat.le_refl _, by show ps.length + 1 ≤ 1000; omega, fun lk G17 s_G17 n_lk e_lk => ?_⟩
    walk_at "ct"
    have s1117 := s1116.trans s_G17
    have dk : DpAll K G17 (ws ++ wss) ((ps ++ [Part.wheel 1 []]).map Part.data) := by
      rw [List.map_append]
      exact dpAll_app (dpAll_same s1117 dws) (dpAll_same s1117 ds11)
    have okk : ∀ p ∈ ps ++ [Part.wheel 1 []], p.ok := fun p hp => by
      rcases List.mem_append.mp hp with hp | hp
      · exact okps p hp
      · rw [List.mem_singleton.mp hp]; exact oks
    refine ⟨lk, lg, ps ++ [Part.wheel 1 []], [Part.wheel z [6]], ws ++ wss, wg, rfl, e_lk, s1117 _ _ lg11, dk, dpAll_same s1117 dg11, okk, fun p hp => by rw [List.mem_singleton.mp hp]; exact okg, by rw [List.length_append]; omega, by exact Nat.le_refl _, by rw [List.length_append]; show ps.length + 1 + 1 ≤ 1000; omega, fun lm G18 s_G18 n_lm e_lm => ?_⟩
    walk_at "ct"
    refine ⟨len2 rfl, fun t9 n_t9 => ?_⟩
    generalize h_G19 : upd _ t9 _ = G19
    obtain ⟨s_G19, e_t9⟩ := Ct.upd_new h_G19 n_t9
    clear h_G19
    have s1119 := (s1117.trans s_G18).trans s_G19
    have xl := sx.len
    refine w_catA (H := G19) (a := t) (b := t9) (xs := xs.map V.int) (ys := [V.int 0, V.int pl]) (Same.tup s1119 ht) (.of e_t9) (by rw [List.length_map]; show xs.length + 2 ≤ 1000; omega) fun t10 G20 s_G20 e_t10 => ?_
    walk_at "ct"
    have s1820 := s_G19.trans s_G20
    have dm : DpAll K G20 (ws ++ wss ++ wg) ((ps ++ .wheel 1 [] :: [Part.wheel z [6]]).map Part.data) := by
      rw [show ps ++ .wheel 1 [] :: [Part.wheel z [6]] = (ps ++ [Part.wheel 1 []]) ++ [Part.wheel z [6]] by rw [List.append_assoc]; rfl, List.map_append]
      exact dpAll_app (dpAll_same (s_G18.trans s1820) dk) (dpAll_same ((s1117.trans s_G18).trans s1820) dg11)
    have st2 : StandL (ps ++ .wheel 1 [] :: [Part.wheel z [6]]) (xs ++ 0 :: [pl]) := standL_appL sx st1
    have nn2 := still_last [Part.wheel z [6]] [pl] ps xs allP hw xl
    have s020 : Same H G20 := (by walk_at "sm")
    refine ⟨lm, t10, ps ++ .wheel 1 [] :: [Part.wheel z [6]], xs ++ 0 :: [pl], rfl, ⟨_, .of (s1820 _ _ e_lm), dm⟩, fun p hp => ?_, by rw [List.length_append]; omega, by rw [List.length_append]; show ps.length + 2 ≤ 1000; omega, by rw [List.map_append]; exact e_t10, st2, still_fit [Part.wheel z [6]] [pl] ps xs allP 1 hw okps xl (by decide) (by omega), hTb.same s020, fun S q2 g2 G21 s_G21 R2 e_g2 e_q2 => ?_⟩
    · rcases List.mem_append.mp hp with hp | hp
      · exact hw p hp
      · exact hws p hp
    obtain ⟨S2, mk2⟩ := none_wheel nn2 R2
    rw [mk2] at e_g2
    subst S2
    walk_at "ct"
    refine ⟨len2 rfl, fun e3 n_e3 => ?_⟩
    generalize h_G22 : upd _ e3 _ = G22
    obtain ⟨s_G22, e_e3⟩ := Ct.upd_new h_G22 n_e3
    clear h_G22
    walk_at "ct"
    refine ⟨len2 rfl, fun e4 n_e4 => ?_⟩
    generalize h_G23 : upd _ e4 _ = G23
    obtain ⟨s_G23, e_e4⟩ := Ct.upd_new h_G23 n_e4
    clear h_G23
    have s2123 := s_G22.trans s_G23
    have g2e : G21 g2 = some (.tup []) := e_g2
    refine w_eqSameL stillD (.tup (.of (s2123 _ _ e_q2)) (.cons (.str _) (.cons (.int _) (.cons (.tup (.of (s2123 _ _ g2e)) .nil) .nil)))) (.tup (.of e_e4) (.cons (.str _) (.cons (.int _) (.cons (.tup (.of (s_G23 _ _ e_e3)) .nil) .nil)))) still_lay (by decide) ?_
    exact q G23 (s020.trans (s_G21.trans s2123))
abbrev S__law_cut : Stmt := topS 36
theorem sc__law_cut : FnScope ["_law_script", "_law_most", "_law_cell"] ["_law_script"] (defScope S__law_cut) := ⟨rfl, rfl, rfl, by decide +kernel, rfl, by decide +kernel, by decide +kernel⟩
def sp__law_cut (K : PySem.W.Frag) : Sp := fun vs H Q _ => ∃ (a : Addr) (ns : List Int), vs = [.ref a] ∧ SqL K H a (ns.map V.int) ∧ ns.length ≤ 1000 ∧ ∀ (ms : List Int) D H', Same H H' → H D = none → ms.length = ns.length → H' D = some (.lst (ms.map V.int)) → Q (.ref D) H'
theorem ok__law_cut {f : Addr} {fd : FuncData} (F : Fun K "_law_cut" "_law_cut" S__law_cut f fd) (m_int : mg "int" = none) :
    FnOk P w K mg base CX0 1 f fd ["_law_script"] (sp__law_cut K) := by
  refine F.ok sc__law_cut (fun vs H Q E h => ?_) (fun cdv A outer s H vs Q E hr h => ?_)
  ·
    obtain ⟨a, ns, rfl, _⟩ := h
    rfl
  ·
    obtain ⟨a, ns, rfl, hS, hlen, q⟩ := h
    refine ⟨_, (pss_cons (ps_set (i := 1) sc__law_cut.nd rfl (.inr rfl) (pe_op op_powB (pe_op op_powB pe_int pe_int) pe_int))
      (pss_one (ps_ret (pe_lc (own := [("_law_cell", 2)]) (g := gName 2)  rfl sc__law_cut.nd  (pi_list (pv 0)) (blkOk_by (own := [("_law_cell", 2)]) (N := ["_law_script", "_law_most", "_law_cell"]) (sc := defScope S__law_cut) (by decide +kernel)) (fun _ _ _ _ _ => pg_name (i := 2) sc__law_cut.nd rfl (Or.inl rfl)) (fun _ _ _ _ _ => pts_nil) (fun _ _ _ _ _ => (pe_ix (r := rIxL K) ix_list (pe_lst (pa_cons (pv 2) (pa_cons (pe_op op_add (pv 1) (pe_op op_mod (pv 2) (pv 1))) pa_nil))) (pe_callTy call_int1 (by rfl) m_int (by decide +kernel) (pa_cons (pe_cmpR op_ge (pv 2) (pv 1) (nomark _)) pa_nil)) (fun _ _ => rfl))))))), ?_⟩
    refine w_st (σ' := [some (.ref a), none, none]) rfl ?_
    walk_at "ct"
    refine w_rI ⟨by decide, by decide⟩ ?_
    walk_at "ct"
    refine w_rI ⟨by decide, by decide +kernel⟩ ?_
    obtain ⟨M, hM, M0⟩ : ∃ M : Int, ((10 : Int) ^ (60 : Int).toNat) ^ (60 : Int).toNat = M ∧ 0 < M := ⟨_, rfl, by decide +kernel⟩
    rw [hM]
    walk_at "ct"
    refine w_IL hS ?_
    refine lb_list (ns.map V.int) (fun D i H1 => Same H H1 ∧ ∃ ms : List Int, ms.length = i ∧ H1 D = some (.lst (ms.map V.int))) (fun D hD => ⟨same_upd hD, [], rfl, upd_same⟩) (fun D hD i H1 _ h => h.1.seq hS) ?_ ?_
    · rintro D hD i x H1 hx ⟨sm, ms, ml, hm⟩
      have hi : i < ns.length := by
        have z := (List.getElem?_eq_some_iff.mp hx).1
        rw [List.length_map] at z
        exact z
      obtain ⟨c, rfl⟩ : ∃ c : Int, x = .int c := by
        obtain ⟨k, _, rfl⟩ := List.mem_map.mp (List.mem_of_getElem? hx)
        exact ⟨k, rfl⟩
      walk_at "ct"
      refine ⟨rfl, ?_⟩
      walk_at "ct"
      refine w_rI M0 ?_
      walk_at "ct"
      refine ⟨len2 rfl, fun p np => ?_⟩
      walk_at "ct"
      refine .inr ⟨_, rfl, ?_⟩
      have fin : ∀ z : Int, ∃ acc, (upd H1 p (.lst [.int c, .int (M + c % M)])) D = some (.lst acc) ∧ acc.length < sizeLine ∧ (Same H (upd (upd H1 p (.lst [.int c, .int (M + c % M)])) D (.lst (acc ++ [.int z]))) ∧ ∃ ms : List Int, ms.length = i + 1 ∧ (upd (upd H1 p (.lst [.int c, .int (M + c % M)])) D (.lst (acc ++ [.int z]))) D = some (.lst (ms.map V.int))) := fun z => by
        refine ⟨ms.map V.int, ?_, ?_, same_new (same_new sm (sm.free np)) hD, ms ++ [z], ?_, ?_⟩
        · rw [upd_ne (ne_of_none hm np)]
          exact hm
        · rw [List.length_map]
          exact small1000 (by omega)
        · rw [List.length_append, ml]
          rfl
        · rw [upd_same, List.map_append]
          rfl
      by_cases e : M ≤ c
      · rw [decide_eq_true e]
        refine w_ixL (.of upd_same) (v := .int (M + c % M)) rfl ?_
        exact fin _
      · rw [decide_eq_false e]
        refine w_ixL (.of upd_same) (v := .int c) rfl ?_
        exact fin _
    · rintro D hD H1 ⟨sm, ms, ml, hm⟩
      exact q ms D H1 sm hD (by rw [ml, List.length_map]) hm
abbrev S_law : Stmt := topS 37
theorem sc_law : FnScope ["_law_script", "_law_cell", "_law_train_here", "_law_stand", "_law_due_here", "_law_handed", "_law_turn", "_law_found", "_law_mark"] ["_law_script"] (defScope S_law) := ⟨rfl, rfl, rfl, by decide +kernel, rfl, by decide +kernel, by decide +kernel⟩
def sp_law (K : PySem.W.Frag) (T : List Addr) : Sp := fun vs H Q _ => ∃ (a : Addr) (ns : List Int), vs = [.ref a] ∧ SqL K H a (ns.map V.int) ∧ ns.length ≤ 63 ∧ Tb T H ∧ ∀ H', Same H H' → Q (.bl true) H'
theorem ok_law {f : Addr} {fd : FuncData} {f_check_train : Addr} {fd_check_train : FuncData} {f_least_wheel : Addr} {fd_least_wheel : FuncData} {f__law_due : Addr} {fd__law_due : FuncData} {f__law_mix : Addr} {fd__law_mix : FuncData} {f__law_great : Addr} {fd__law_great : FuncData} {f__law_wheels : Addr} {fd__law_wheels : FuncData} {f__law_cell_at : Addr} {fd__law_cell_at : FuncData} {f__law_still_right : Addr} {fd__law_still_right : FuncData} {f__law_cut : Addr} {fd__law_cut : FuncData} {T : List Addr} (F : Fun K "law" "law" S_law f fd)
    (F_check_train : Fun K "check_train" "check_train" S_check_train f_check_train fd_check_train) (b_check_train : Binds K fd_check_train ["train"] []) (g_check_train : mg "check_train" = some (.ref f_check_train)) (G_check_train : FnOk P w K mg base CX0 4 f_check_train fd_check_train ["train"] (sp_check_train K))
    (F_least_wheel : Fun K "least_wheel" "least_wheel" S_least_wheel f_least_wheel fd_least_wheel) (b_least_wheel : Binds K fd_least_wheel ["train", "stand"] []) (g_least_wheel : mg "least_wheel" = some (.ref f_least_wheel)) (G_least_wheel : FnOk P w K mg base CX0 7 f_least_wheel fd_least_wheel ["train", "stand"] (sp_least_wheel K T))
    (F__law_due : Fun K "_law_due" "_law_due" S__law_due f__law_due fd__law_due) (b__law_due : Binds K fd__law_due ["_law_train_here", "_law_stand"] []) (g__law_due : mg "_law_due" = some (.ref f__law_due)) (G__law_due : FnOk P w K mg base CX0 2 f__law_due fd__law_due ["_law_train_here", "_law_stand"] (sp__law_due K))
    (F__law_mix : Fun K "_law_mix" "_law_mix" S__law_mix f__law_mix fd__law_mix) (b__law_mix : Binds K fd__law_mix ["_law_cell", "_law_k"] []) (g__law_mix : mg "_law_mix" = some (.ref f__law_mix)) (G__law_mix : FnOk P w K mg base CX0 1 f__law_mix fd__law_mix ["_law_cell", "_law_k"] (sp__law_mix K))
    (F__law_great : Fun K "_law_great" "_law_great" S__law_great f__law_great fd__law_great) (b__law_great : Binds K fd__law_great ["_law_cell"] []) (g__law_great : mg "_law_great" = some (.ref f__law_great)) (G__law_great : FnOk P w K mg base CX0 2 f__law_great fd__law_great ["_law_cell"] (sp__law_great K))
    (F__law_wheels : Fun K "_law_wheels" "_law_wheels" S__law_wheels f__law_wheels fd__law_wheels) (b__law_wheels : Binds K fd__law_wheels ["_law_cell"] []) (g__law_wheels : mg "_law_wheels" = some (.ref f__law_wheels)) (G__law_wheels : FnOk P w K mg base CX0 3 f__law_wheels fd__law_wheels ["_law_cell"] (sp__law_wheels K))
    (F__law_cell_at : Fun K "_law_cell_at" "_law_cell_at" S__law_cell_at f__law_cell_at fd__law_cell_at) (b__law_cell_at : Binds K fd__law_cell_at ["_law_script", "_law_k"] []) (g__law_cell_at : mg "_law_cell_at" = some (.ref f__law_cell_at)) (G__law_cell_at : FnOk P w K mg base CX0 1 f__law_cell_at fd__law_cell_at ["_law_script", "_law_k"] (sp__law_cell_at K))
    (F__law_still_right : Fun K "_law_still_right" "_law_still_right" S__law_still_right f__law_still_right fd__law_still_right) (b__law_still_right : Binds K fd__law_still_right ["_law_cell"] []) (g__law_still_right : mg "_law_still_right" = some (.ref f__law_still_right)) (G__law_still_right : FnOk P w K mg base CX0 8 f__law_still_right fd__law_still_right ["_law_cell"] (sp__law_still_right K T))
    (F__law_cut : Fun K "_law_cut" "_law_cut" S__law_cut f__law_cut fd__law_cut) (b__law_cut : Binds K fd__law_cut ["_law_script"] []) (g__law_cut : mg "_law_cut" = some (.ref f__law_cut)) (G__law_cut : FnOk P w K mg base CX0 1 f__law_cut fd__law_cut ["_law_script"] (sp__law_cut K)) (m_list : mg "list" = none) (m_range : mg "range" = none) (m_isinstance : mg "isinstance" = none) (m_tuple : mg "tuple" = none) (m_bool : mg "bool" = none) :
    FnOk P w K mg base CX0 9 f fd ["_law_script"] (sp_law K T) := by
  refine F.ok sc_law (fun vs H Q E h => ?_) (fun cdv A outer s H vs Q E hr h => ?_)
  ·
    obtain ⟨a, ns, rfl, _⟩ := h
    rfl
  ·
    obtain ⟨a, ns, rfl, hS, hlen, hTb, q⟩ := h
    refine ⟨_, (pss_cons (ps_set (i := 0) sc_law.nd rfl (.inl rfl) (pe_call G__law_cut (hr.mono (by decide)) (by rfl) g__law_cut F__law_cut.kp b__law_cut .nil pass0 (pa_cons (pv 0) pa_nil)))
      (pss_cons (ps_if (pt_not (pt_val (pe_call G__law_still_right (hr.mono (by decide)) (by rfl) g__law_still_right F__law_still_right.kp b__law_still_right .nil pass0 (pa_cons (pe_call G__law_cell_at (hr.mono (by decide)) (by rfl) g__law_cell_at F__law_cell_at.kp b__law_cell_at .nil pass0 (pa_cons (pv 0) (pa_cons pe_int pa_nil))) pa_nil)))) (pss_one (ps_ret pe_bl)) pss_nil)
      (pss_cons (ps_for PassesOwn.never rfl (pi_list (pe_op op_cat (pe_slice (r := rSlL K) sl_list (pv 0) po_none (po_some pe_int)) (pe_lst (pa_cons pe_int pa_nil)))) (pg_name (i := 1) sc_law.nd rfl (.inl rfl))
      (pss_cons (ps_asg (pe_call G__law_wheels (hr.mono (by decide)) (by rfl) g__law_wheels F__law_wheels.kp b__law_wheels .nil pass0 (pa_cons (pv 1) pa_nil)) (pg_tup rfl (pgs_cons (pg_name (i := 2) sc_law.nd rfl (.inl rfl)) (pgs_cons (pg_name (i := 3) sc_law.nd rfl (.inl rfl)) pgs_nil))))
      (pss_cons (ps_if (pt_cmpR op_eq (pe_op op_mod (pe_call G__law_mix (hr.mono (by decide)) (by rfl) g__law_mix F__law_mix.kp b__law_mix .nil pass0 (pa_cons (pv 1) (pa_cons pe_int pa_nil))) pe_int) pe_int (nomark _)) (pss_one (ps_asg (pe_call G__law_great (hr.mono (by decide)) (by rfl) g__law_great F__law_great.kp b__law_great .nil pass0 (pa_cons (pv 1) pa_nil)) (pg_tup rfl (pgs_cons (pg_name (i := 2) sc_law.nd rfl (.inl rfl)) (pgs_cons (pg_name (i := 3) sc_law.nd rfl (.inl rfl)) pgs_nil))))) pss_nil)
      (pss_cons (ps_set (i := 4) sc_law.nd rfl (.inl rfl) (pe_call G__law_due (hr.mono (by decide)) (by rfl) g__law_due F__law_due.kp b__law_due .nil pass0 (pa_cons (pv 2) (pa_cons (pv 3) pa_nil))))
      (pss_cons (ps_set (i := 5) sc_law.nd rfl (.inl rfl) (pe_callTy call_list_of (by rfl) m_list (by decide +kernel) (pa_cons (pv 2) pa_nil)))
      (pss_one (ps_for PassesOwn.never rfl (pi_range1 (by rfl) m_range (pa_cons pe_int pa_nil)) (pg_name (i := 6) sc_law.nd rfl (.inl rfl))
      (pss_cons (ps_set (i := 7) sc_law.nd rfl (.inl rfl) (pe_call G_least_wheel (hr.mono (by decide)) (by rfl) g_least_wheel F_least_wheel.kp b_least_wheel .nil pass0 (pa_cons (pv 5) (pa_cons (pv 3) pa_nil))))
      (pss_cons (ps_if (PW.pt (pw_or (pt_not (pt_val (pe_callB (r := rIsi K) call_isi (by rfl) m_isinstance (by decide +kernel) (pa_cons (pv 7) (pa_cons (pe_bltn (v := .ty "tuple") (u := .type "tuple") (by rfl) m_tuple (by decide +kernel) rfl) pa_nil))))) (pw_or (pt_cmpR (r := rNeD K) (op_neD hr.units) (pv 7) (pv 4) (nomark _)) (pw_or (pt_not (pt_val (pe_callB (r := rIsi K) call_isi (by rfl) m_isinstance (by decide +kernel) (pa_cons (pe_ix (r := rIxT K) ix_tup (pv 7) pe_int (fun _ _ => rfl)) (pa_cons (pe_bltn (v := .ty "tuple") (u := .type "tuple") (by rfl) m_tuple (by decide +kernel) rfl) pa_nil))))) (pw_or1 (pt_cmpR (r := rNeD K) (op_neD hr.units) (pv 5) (pv 2) (nomark _))))))) (pss_one (ps_ret pe_bl)) pss_nil)
      (pss_one (ps_if (PW.pt (pw_or (pt_cmpR op_notN (pe_call G_check_train (hr.mono (by decide)) (by rfl) g_check_train F_check_train.kp b_check_train .nil pass0 (pa_cons (pe_lst (pa_cons (pv 7) pa_nil)) pa_nil)) pe_non (nomark _)) (pw_or1 (pt_cmpR (r := rIn K false) op_in_seq pe_bl (pe_lc (own := [("_law_mark", 8)]) (g := gName 8)  rfl sc_law.nd  (pi_tup (pe_op (r := rCatA K) op_catA (pe_ix (r := rIxT K) ix_tup (pv 7) pe_int (fun _ _ => rfl)) (pe_tup (pa_cons (pe_ix (r := rIxT K) ix_tup (pv 7) pe_int (fun _ _ => rfl)) pa_nil)))) (blkOk_by (own := [("_law_mark", 8)]) (N := ["_law_script", "_law_cell", "_law_train_here", "_law_stand", "_law_due_here", "_law_handed", "_law_turn", "_law_found", "_law_mark"]) (sc := defScope S_law) (by decide +kernel)) (fun _ _ _ _ _ => pg_name (i := 8) sc_law.nd rfl (Or.inl rfl)) (fun _ _ _ _ _ => pts_nil) (fun _ _ _ _ _ => (pe_callB (r := rIsi K) call_isi (by rfl) m_isinstance (by decide +kernel) (pa_cons (pv 8) (pa_cons (pe_bltn (v := .ty "bool") (u := .type "bool") (by rfl) m_bool (by decide +kernel) rfl) pa_nil))))) (by rfl))))) (pss_one (ps_ret pe_bl)) pss_nil)))))))))))
      (pss_one (ps_ret pe_bl))))), ?_⟩
    refine w_st (σ' := [some (.ref a), none, none, none, none, none, none, none, none]) rfl ?_
    walk_at "ct"
    refine ⟨a, ns, rfl, hS, by omega, fun ms D H1 s1 nD ml hD => ?_⟩
    walk_at "ct"
    refine ⟨D, ms, 0, rfl, .of hD, fun c0 => ?_⟩
    walk_at "ct"
    refine ⟨c0, rfl, hTb.same s1, fun H2 s2 => ?_⟩
    have hD2 := s2 _ _ hD
    walk_at "ct"
    refine w_slL (.of hD2) fun z5 n_z5 => ?_
    generalize h_G7 : upd _ z5 _ = G7
    obtain ⟨s_G7, e_z5⟩ := Ct.upd_new h_G7 n_z5
    clear h_G7
    walk_at "ct"
    refine ⟨len2 rfl, fun z6 n_z6 => ?_⟩
    generalize h_G8 : upd _ z6 _ = G8
    obtain ⟨s_G8, e_z6⟩ := Ct.upd_new h_G8 n_z6
    clear h_G8
    obtain ⟨cs, hcs, cl⟩ : ∃ cs : List Int, cutV (ms.map V.int) none (some 12) = cs.map V.int ∧ cs.length ≤ 63 := by
      refine ⟨_, cutV_map ms none (some 12), ?_⟩
      have := cutV_length (ms.map V.int) none (some 12)
      rw [cutV_map, List.length_map, List.length_map] at this
      omega
    rw [hcs] at e_z5
    refine w_cat (show G8 z5 = some (.lst (cs.map V.int)) from (by walk_at "mv")) e_z6 (by rw [List.length_map]; exact Nat.le_of_lt (small1000 (show cs.length + 1 ≤ 1000 by omega))) fun z7 G9 n_z7 s_G9 e_z7 => ?_
    rw [show (cs.map V.int ++ [V.int 0]) = (cs ++ [0]).map V.int by rw [List.map_append]; rfl] at e_z7
    have sH9 : Same H G9 := (((s1.trans s2).trans s_G7).trans s_G8).trans s_G9
    walk_at "ct"
    refine w_IL (.of e_z7) ?_
    refine fb_list ((cs ++ [0]).map V.int) (fun n σ J => ∃ y1 y2 y3 y4 y5 y6 y7 y8, σ = [some (.ref D), y1, y2, y3, y4, y5, y6, y7, y8] ∧ Same G9 J) ⟨_, _, _, _, _, _, _, _, rfl, Same.refl _⟩ ?_ ?_ ?_
    · rintro n σ J hn ⟨y1, y2, y3, y4, y5, y6, y7, y8, rfl, sm⟩
      exact .of (sm _ _ e_z7)
    · rintro n x σ J hx ⟨y1, y2, y3, y4, y5, y6, y7, y8, rfl, s_J⟩
      obtain ⟨c, rfl⟩ : ∃ c : Int, x = .int c := by
        obtain ⟨k, _, rfl⟩ := List.mem_map.mp (List.mem_of_getElem? hx)
        exact ⟨k, rfl⟩
      walk_at "ct"
      refine ⟨c, rfl, fun ps xs a1 t1 g1 ws J1 s_J1 ha dws hw l1 l2 few ht sx hg => ?_⟩
      refine w_gtup (.of hg) rfl ?_
      walk_at "cq"
      with_reducible refine w_join (fun σ G => ∃ (ps : List Part) (xs : List Int) (ws : List V) (a1 t1 : Addr) (y4 y5 y6 y7 y8 : Option V), σ = [some (.ref D), some (.int c), some (.ref a1), some (.ref t1), y4, y5, y6, y7, y8] ∧ Same G9 G ∧ G a1 = some (.lst ws) ∧ DpAll K G ws (ps.map Part.data) ∧ (∀ p ∈ ps, ∃ z ms, p = .wheel z ms) ∧ 1 ≤ ps.length ∧ ps.length ≤ 4 ∧ stands ps ≤ 2000 ∧ SqT K G t1 (xs.map V.int) ∧ StandL ps xs ∧ ∀ S : Nat, RingP (lastP ps xs allP) S → (S : Int) ≤ stands ps → (mksP (lastP ps xs allP) S).length ≤ 900) ?_ ?_
      · rintro σ G ⟨ps, xs, ws, a1, t1, y4, y5, y6, y7, y8, rfl, sG, ha, dws, hw, l1, l2, few, ht, sx, fewm⟩
        walk_at "ct"
        have okp := sx.okp
        have sp := stands_pos ps okp
        refine ⟨a1, t1, ps, xs, rfl, ⟨ws, .of ha, dws⟩, hw, l1, by omega, ht, sx, few, fun S q1 g1 G1 s_G1 R S2 e_g1 e_q1 => ?_⟩
        have SM : (S : Int) ≤ stands ps := by
          have := R.2 _ (last_per (P := allP) hw sx ring_all.1.1)
          omega
        have m1000 := fewm S R SM
        walk_at "ct"
        refine ⟨a1, ws, rfl, .inl (.of (s_G1 _ _ ha)), fun hd n_hd => ?_⟩
        generalize h_G2 : upd _ hd _ = G2
        obtain ⟨s_G2, e_hd⟩ := Ct.upd_new h_G2 n_hd
        clear h_G2
        walk_at "ct"
        refine w_RG1 (by decide) (by decide) ?_
        have sG2 := s_G1.trans s_G2
        refine fb_range (fun i σ J => ∃ y6 y7 y8, σ = [some (.ref D), some (.int c), some (.ref a1), some (.ref t1), some (.ref q1), some (.ref hd), y6, y7, y8] ∧ Same G2 J) ⟨_, _, _, rfl, Same.refl _⟩ ?_ ?_
        · rintro i σ J hi ⟨y6, y7, y8, rfl, sJ⟩
          walk_at "ct"
          have s0J : Same H J := ((sH9.trans sG).trans sG2).trans sJ
          refine ⟨hd, t1, ps, xs, rfl, ⟨ws, .of (sJ _ _ e_hd), dpAll_same (sG2.trans sJ) dws⟩, hw, l1, by omega, Same.tup (sG2.trans sJ) ht, sx, fit_of ps xs allP 1 okp (by decide) (by omega), hTb.same s0J, fun S' q2 g2 J2 sJ2 R2 e_g2 e_q2 => ?_⟩
          obtain rfl := ring_uniq R R2
          walk_at "ct"
          refine w_isi (b := true) (tyx_T (.of e_q2)) (kit_ty (by decide +kernel)) ?_
          walk_at "ct"
          have okF : (Part.wheel (S : Int) ((mksP (lastP ps xs allP) S).map fun n : Nat => (n : Int))).ok := by
            refine ⟨by have := R.1.1; omega, by omega, ⟨List.pairwise_map.mpr (((List.pairwise_lt_range (n := S)).filter _).imp fun h => by omega), fun m hm => ?_⟩, by rw [List.length_map]; omega⟩
            obtain ⟨k, hk, rfl⟩ := List.mem_map.mp hm
            have := List.mem_range.mp (List.mem_filter.mp hk).1
            omega
          have dF : Dp K J2 (.ref q2) (Part.wheel (S : Int) ((mksP (lastP ps xs allP) S).map fun n : Nat => (n : Int))).data := wheel_dp (.of e_q2) (.of e_g2)
          have s12 := (s_G2.trans sJ).trans sJ2
          have dD : Dp K J2 (.ref q1) (Part.wheel (S : Int) ((mksP (lastP ps xs allP) S).map fun n : Nat => (n : Int))).data := wheel_dp (.of (s12 _ _ e_q1)) (.of (s12 _ _ e_g1))
          refine w_neSame _ dF dD (lay_part _) (by decide) ?_
          walk_at "ct"
          refine w_ixT (.of e_q2) at2 ?_
          walk_at "ct"
          refine w_isi (b := true) (tyx_T (.of e_g2)) (kit_ty (by decide +kernel)) ?_
          walk_at "ct"
          have sA := (s_G1.trans s12)
          refine w_neSame (.list (ps.map Part.data)) (.lst (.of ((sJ.trans sJ2) _ _ e_hd)) (dpAll_same sA dws)) (.lst (.of (sA _ _ ha)) (dpAll_same sA dws)) (lay_train ps) (by decide) ?_
          walk_at "ct"
          refine ⟨len2 rfl, fun lf n_lf => ?_⟩
          generalize h_J3 : upd _ lf _ = J3
          obtain ⟨s_J3, e_lf⟩ := Ct.upd_new h_J3 n_lf
          clear h_J3
          refine ⟨lf, [Part.wheel (S : Int) ((mksP (lastP ps xs allP) S).map fun n : Nat => (n : Int))], rfl, ⟨_, .of e_lf, .cons (dp_same s_J3 dF) .nil⟩, fun p hp => by rw [List.mem_singleton.mp hp]; exact okF, by exact Nat.le_refl _, fun J4 sJ4 => ?_⟩
          refine ⟨rfl, ⟨false, rfl, ?_⟩⟩
          walk_at "ct"
          have s24 := s_J3.trans sJ4
          refine w_ixT (.of (s24 _ _ e_q2)) at2 ?_
          walk_at "ct"
          refine w_ixT (.of (s24 _ _ e_q2)) at1 ?_
          walk_at "ct"
          refine ⟨len2 rfl, fun t9 n_t9 => ?_⟩
          generalize h_J5 : upd _ t9 _ = J5
          obtain ⟨s_J5, e_t9⟩ := Ct.upd_new h_J5 n_t9
          clear h_J5
          refine w_catA (H := J5) (a := g2) (b := t9) (ys := [V.int (S : Int)]) (.of (s_J5 _ _ (s24 _ _ e_g2))) (.of e_t9) (by rw [List.length_map, List.length_map]; show _ + 1 ≤ 1000; omega) fun t10 J6 s_J6 e_t10 => ?_
          obtain ⟨zs, hzs⟩ : ∃ zs : List Int, ((mksP (lastP ps xs allP) S).map fun n : Nat => (n : Int)) ++ [(S : Int)] = zs := ⟨_, rfl⟩
          have zl : zs.length ≤ 901 := by rw [← hzs, List.length_append, List.length_map]; show _ + 1 ≤ 901; omega
          have e_z : SqT K J6 t10 (zs.map V.int) := by rw [← hzs, List.map_append]; exact e_t10
          walk_at "ct"
          refine w_IT e_z ?_
          refine lb_tup (zs.map V.int) (fun A j J => Same J6 J ∧ J A = some (.lst (List.replicate j (V.bl false)))) (fun A nA => ⟨same_upd nA, upd_same⟩) (fun A nA j J _ h => Same.tup h.1 e_z) ?_ ?_
          · rintro A nA j x J hx ⟨sj, hA⟩
            have hj := (List.getElem?_eq_some_iff.mp hx).1
            rw [List.length_map] at hj
            obtain ⟨z, rfl⟩ : ∃ z : Int, x = .int z := by
              obtain ⟨k, _, rfl⟩ := List.mem_map.mp (List.mem_of_getElem? hx)
              exact ⟨k, rfl⟩
            walk_at "ct"
            refine ⟨rfl, ?_⟩
            walk_at "ct"
            refine w_isi (b := false) (.base (.int z)) (kit_ty (by decide +kernel)) ?_
            refine ⟨_, hA, small1000 (by rw [List.length_replicate]; omega), same_new sj nA, ?_⟩
            rw [upd_same, List.replicate_succ']
          rintro A nA J7 ⟨sj, hA⟩
          refine ⟨A, _, rfl, .inl (.of hA), rfl, flat_boolsL _, ?_⟩
          rw [if_neg (show ¬ (false = true) from fun z => nomatch z), inV_boolsL]
          walk_at "ct"
          exact ⟨_, _, _, rfl, ((((sJ.trans sJ2).trans s24).trans s_J5).trans s_J6).trans sj⟩
        rintro σ J ⟨y6, y7, y8, rfl, sJ⟩
        walk_at "ct"
        exact ⟨_, _, _, _, _, _, _, _, rfl, (sG.trans sG2).trans sJ⟩
      intro N hN
      walk_at "ct"
      refine ⟨c, 38, rfl, by decide, by decide, fun n38 _ _ => ?_⟩
      walk_at "ct"
      refine w_mod (by decide) fun r r0 r1 => ?_
      walk_at "ct"
      refine w_ite (fun gr => ?_) (fun no => ?_)
      · walk_at "ct"
        refine ⟨c, rfl, fun ps xs a1 t1 g1 ws J2 s_J2 ha dws hw l1 l2 few fst ht sx hg => ?_⟩
        refine w_gtup (.of hg) rfl ?_
        walk_at "ct"
        refine hN _ _ ⟨ps, xs, ws, a1, t1, _, _, _, _, _, rfl, (s_J.trans s_J1).trans s_J2, ha, dws, hw, l1, l2, few, ht, sx, fun S R le => ?_⟩
        obtain ⟨z, ms, r, rfl, m2, r44⟩ := fst
        cases xs with
        | nil => exact sx.elim
        | cons x xs =>
          refine Nat.le_trans (marks_few sx R le) (Nat.le_trans (Nat.mul_le_mul (show (stands r).toNat ≤ 44 by omega) m2) (by decide))
      · refine hN _ _ ⟨ps, xs, ws, a1, t1, _, _, _, _, _, rfl, s_J.trans s_J1, ha, dws, hw, l1, l2, by omega, ht, sx, fun S R le => ?_⟩
        unfold mksP
        have := List.length_filter_le (fun p => lastP ps xs allP (p + S)) (List.range S)
        rw [List.length_range] at this
        omega
    rintro σ J ⟨y1, y2, y3, y4, y5, y6, y7, y8, rfl, sm⟩
    walk_at "ct"
    exact q J (sH9.trans sm)
end
theorem all_mk {l : PySem.W.OpenLaw} {w : World} {K : PySem.W.Frag} {h : Heap} {mg : Str → Option Value} {fa : Addr} (X : K.In h) (G : h.Ns mainGlobals mg) (hfa : mg "law" = some (.ref fa))
    {f_is_whole : Addr} {od0 an0 : Option Addr} {sl0 : Array (Option Value)} {oc0 kV0 dc0 pm0 cd0 ct0 : Value}
    (a0 : PySem.W.nsIn K mainGlobals "is_whole" = some (some (.ref f_is_whole))) (l0 : K.lookup f_is_whole = some ⟨oc0, od0, .func (PySem.W.fnOf "is_whole" "is_whole" (defArgs S_is_whole) (defBody S_is_whole) (defScope S_is_whole) .none kV0 dc0 pm0 an0 cd0 ct0), sl0⟩) (c0 : PySem.W.codeIn K cd0 "is_whole" = true) (k0 : PySem.W.keepIn K (.ref f_is_whole) = true)
    {f_are_marks : Addr} {od1 an1 : Option Addr} {sl1 : Array (Option Value)} {oc1 kV1 dc1 pm1 cd1 ct1 : Value}
    (a1 : PySem.W.nsIn K mainGlobals "are_marks" = some (some (.ref f_are_marks))) (l1 : K.lookup f_are_marks = some ⟨oc1, od1, .func (PySem.W.fnOf "are_marks" "are_marks" (defArgs S_are_marks) (defBody S_are_marks) (defScope S_are_marks) .none kV1 dc1 pm1 an1 cd1 ct1), sl1⟩) (c1 : PySem.W.codeIn K cd1 "are_marks" = true) (k1 : PySem.W.keepIn K (.ref f_are_marks) = true)
    {f_is_part : Addr} {od2 an2 : Option Addr} {sl2 : Array (Option Value)} {oc2 kV2 dc2 pm2 cd2 ct2 : Value}
    (a2 : PySem.W.nsIn K mainGlobals "is_part" = some (some (.ref f_is_part))) (l2 : K.lookup f_is_part = some ⟨oc2, od2, .func (PySem.W.fnOf "is_part" "is_part" (defArgs S_is_part) (defBody S_is_part) (defScope S_is_part) .none kV2 dc2 pm2 an2 cd2 ct2), sl2⟩) (c2 : PySem.W.codeIn K cd2 "is_part" = true) (k2 : PySem.W.keepIn K (.ref f_is_part) = true)
    {f_check_train : Addr} {od3 an3 : Option Addr} {sl3 : Array (Option Value)} {oc3 kV3 dc3 pm3 cd3 ct3 : Value}
    (a3 : PySem.W.nsIn K mainGlobals "check_train" = some (some (.ref f_check_train))) (l3 : K.lookup f_check_train = some ⟨oc3, od3, .func (PySem.W.fnOf "check_train" "check_train" (defArgs S_check_train) (defBody S_check_train) (defScope S_check_train) .none kV3 dc3 pm3 an3 cd3 ct3), sl3⟩) (c3 : PySem.W.codeIn K cd3 "check_train" = true) (k3 : PySem.W.keepIn K (.ref f_check_train) = true)
    {f_place_count : Addr} {od4 an4 : Option Addr} {sl4 : Array (Option Value)} {oc4 kV4 dc4 pm4 cd4 ct4 : Value}
    (a4 : PySem.W.nsIn K mainGlobals "place_count" = some (some (.ref f_place_count))) (l4 : K.lookup f_place_count = some ⟨oc4, od4, .func (PySem.W.fnOf "place_count" "place_count" (defArgs S_place_count) (defBody S_place_count) (defScope S_place_count) .none kV4 dc4 pm4 an4 cd4 ct4), sl4⟩) (c4 : PySem.W.codeIn K cd4 "place_count" = true) (k4 : PySem.W.keepIn K (.ref f_place_count) = true)
    {f_is_stand : Addr} {od5 an5 : Option Addr} {sl5 : Array (Option Value)} {oc5 kV5 dc5 pm5 cd5 ct5 : Value}
    (a5 : PySem.W.nsIn K mainGlobals "is_stand" = some (some (.ref f_is_stand))) (l5 : K.lookup f_is_stand = some ⟨oc5, od5, .func (PySem.W.fnOf "is_stand" "is_stand" (defArgs S_is_stand) (defBody S_is_stand) (defScope S_is_stand) .none kV5 dc5 pm5 an5 cd5 ct5), sl5⟩) (c5 : PySem.W.codeIn K cd5 "is_stand" = true) (k5 : PySem.W.keepIn K (.ref f_is_stand) = true)
    {f_check_stand : Addr} {od6 an6 : Option Addr} {sl6 : Array (Option Value)} {oc6 kV6 dc6 pm6 cd6 ct6 : Value}
    (a6 : PySem.W.nsIn K mainGlobals "check_stand" = some (some (.ref f_check_stand))) (l6 : K.lookup f_check_stand = some ⟨oc6, od6, .func (PySem.W.fnOf "check_stand" "check_stand" (defArgs S_check_stand) (defBody S_check_stand) (defScope S_check_stand) .none kV6 dc6 pm6 an6 cd6 ct6), sl6⟩) (c6 : PySem.W.codeIn K cd6 "check_stand" = true) (k6 : PySem.W.keepIn K (.ref f_check_stand) = true)
    {f_common_multiple : Addr} {od7 an7 : Option Addr} {sl7 : Array (Option Value)} {oc7 kV7 dc7 pm7 cd7 ct7 : Value}
    (a7 : PySem.W.nsIn K mainGlobals "common_multiple" = some (some (.ref f_common_multiple))) (l7 : K.lookup f_common_multiple = some ⟨oc7, od7, .func (PySem.W.fnOf "common_multiple" "common_multiple" (defArgs S_common_multiple) (defBody S_common_multiple) (defScope S_common_multiple) .none kV7 dc7 pm7 an7 cd7 ct7), sl7⟩) (c7 : PySem.W.codeIn K cd7 "common_multiple" = true) (k7 : PySem.W.keepIn K (.ref f_common_multiple) = true)
    {f_joined : Addr} {od8 an8 : Option Addr} {sl8 : Array (Option Value)} {oc8 kV8 dc8 pm8 cd8 ct8 : Value}
    (a8 : PySem.W.nsIn K mainGlobals "joined" = some (some (.ref f_joined))) (l8 : K.lookup f_joined = some ⟨oc8, od8, .func (PySem.W.fnOf "joined" "joined" (defArgs S_joined) (defBody S_joined) (defScope S_joined) .none kV8 dc8 pm8 an8 cd8 ct8), sl8⟩) (c8 : PySem.W.codeIn K cd8 "joined" = true) (k8 : PySem.W.keepIn K (.ref f_joined) = true)
    {f_least_turn : Addr} {od9 an9 : Option Addr} {sl9 : Array (Option Value)} {oc9 kV9 dc9 pm9 cd9 ct9 : Value}
    (a9 : PySem.W.nsIn K mainGlobals "least_turn" = some (some (.ref f_least_turn))) (l9 : K.lookup f_least_turn = some ⟨oc9, od9, .func (PySem.W.fnOf "least_turn" "least_turn" (defArgs S_least_turn) (defBody S_least_turn) (defScope S_least_turn) .none kV9 dc9 pm9 an9 cd9 ct9), sl9⟩) (c9 : PySem.W.codeIn K cd9 "least_turn" = true) (k9 : PySem.W.keepIn K (.ref f_least_turn) = true)
    {f_turn_behind : Addr} {od10 an10 : Option Addr} {sl10 : Array (Option Value)} {oc10 kV10 dc10 pm10 cd10 ct10 : Value}
    (a10 : PySem.W.nsIn K mainGlobals "turn_behind" = some (some (.ref f_turn_behind))) (l10 : K.lookup f_turn_behind = some ⟨oc10, od10, .func (PySem.W.fnOf "turn_behind" "turn_behind" (defArgs S_turn_behind) (defBody S_turn_behind) (defScope S_turn_behind) .none kV10 dc10 pm10 an10 cd10 ct10), sl10⟩) (c10 : PySem.W.codeIn K cd10 "turn_behind" = true) (k10 : PySem.W.keepIn K (.ref f_turn_behind) = true)
    {f_least_wheel : Addr} {od11 an11 : Option Addr} {sl11 : Array (Option Value)} {oc11 kV11 dc11 pm11 cd11 ct11 : Value}
    (a11 : PySem.W.nsIn K mainGlobals "least_wheel" = some (some (.ref f_least_wheel))) (l11 : K.lookup f_least_wheel = some ⟨oc11, od11, .func (PySem.W.fnOf "least_wheel" "least_wheel" (defArgs S_least_wheel) (defBody S_least_wheel) (defScope S_least_wheel) .none kV11 dc11 pm11 an11 cd11 ct11), sl11⟩) (c11 : PySem.W.codeIn K cd11 "least_wheel" = true) (k11 : PySem.W.keepIn K (.ref f_least_wheel) = true)
    {f_without_mark : Addr} {od12 an12 : Option Addr} {sl12 : Array (Option Value)} {oc12 kV12 dc12 pm12 cd12 ct12 : Value}
    (a12 : PySem.W.nsIn K mainGlobals "without_mark" = some (some (.ref f_without_mark))) (l12 : K.lookup f_without_mark = some ⟨oc12, od12, .func (PySem.W.fnOf "without_mark" "without_mark" (defArgs S_without_mark) (defBody S_without_mark) (defScope S_without_mark) .none kV12 dc12 pm12 an12 cd12 ct12), sl12⟩) (c12 : PySem.W.codeIn K cd12 "without_mark" = true) (k12 : PySem.W.keepIn K (.ref f_without_mark) = true)
    {f_worn_by : Addr} {od13 an13 : Option Addr} {sl13 : Array (Option Value)} {oc13 kV13 dc13 pm13 cd13 ct13 : Value}
    (a13 : PySem.W.nsIn K mainGlobals "worn_by" = some (some (.ref f_worn_by))) (l13 : K.lookup f_worn_by = some ⟨oc13, od13, .func (PySem.W.fnOf "worn_by" "worn_by" (defArgs S_worn_by) (defBody S_worn_by) (defScope S_worn_by) .none kV13 dc13 pm13 an13 cd13 ct13), sl13⟩) (c13 : PySem.W.codeIn K cd13 "worn_by" = true) (k13 : PySem.W.keepIn K (.ref f_worn_by) = true)
    {f_worn : Addr} {od14 an14 : Option Addr} {sl14 : Array (Option Value)} {oc14 kV14 dc14 pm14 cd14 ct14 : Value}
    (a14 : PySem.W.nsIn K mainGlobals "worn" = some (some (.ref f_worn))) (l14 : K.lookup f_worn = some ⟨oc14, od14, .func (PySem.W.fnOf "worn" "worn" (defArgs S_worn) (defBody S_worn) (defScope S_worn) .none kV14 dc14 pm14 an14 cd14 ct14), sl14⟩) (c14 : PySem.W.codeIn K cd14 "worn" = true) (k14 : PySem.W.keepIn K (.ref f_worn) = true)
    {f__law_cell_at : Addr} {od15 an15 : Option Addr} {sl15 : Array (Option Value)} {oc15 kV15 dc15 pm15 cd15 ct15 : Value}
    (a15 : PySem.W.nsIn K mainGlobals "_law_cell_at" = some (some (.ref f__law_cell_at))) (l15 : K.lookup f__law_cell_at = some ⟨oc15, od15, .func (PySem.W.fnOf "_law_cell_at" "_law_cell_at" (defArgs S__law_cell_at) (defBody S__law_cell_at) (defScope S__law_cell_at) .none kV15 dc15 pm15 an15 cd15 ct15), sl15⟩) (c15 : PySem.W.codeIn K cd15 "_law_cell_at" = true) (k15 : PySem.W.keepIn K (.ref f__law_cell_at) = true)
    {f__law_mix : Addr} {od16 an16 : Option Addr} {sl16 : Array (Option Value)} {oc16 kV16 dc16 pm16 cd16 ct16 : Value}
    (a16 : PySem.W.nsIn K mainGlobals "_law_mix" = some (some (.ref f__law_mix))) (l16 : K.lookup f__law_mix = some ⟨oc16, od16, .func (PySem.W.fnOf "_law_mix" "_law_mix" (defArgs S__law_mix) (defBody S__law_mix) (defScope S__law_mix) .none kV16 dc16 pm16 an16 cd16 ct16), sl16⟩) (c16 : PySem.W.codeIn K cd16 "_law_mix" = true) (k16 : PySem.W.keepIn K (.ref f__law_mix) = true)
    {f__law_digit : Addr} {od17 an17 : Option Addr} {sl17 : Array (Option Value)} {oc17 kV17 dc17 pm17 cd17 ct17 : Value}
    (a17 : PySem.W.nsIn K mainGlobals "_law_digit" = some (some (.ref f__law_digit))) (l17 : K.lookup f__law_digit = some ⟨oc17, od17, .func (PySem.W.fnOf "_law_digit" "_law_digit" (defArgs S__law_digit) (defBody S__law_digit) (defScope S__law_digit) .none kV17 dc17 pm17 an17 cd17 ct17), sl17⟩) (c17 : PySem.W.codeIn K cd17 "_law_digit" = true) (k17 : PySem.W.keepIn K (.ref f__law_digit) = true)
    {f__law_part : Addr} {od18 an18 : Option Addr} {sl18 : Array (Option Value)} {oc18 kV18 dc18 pm18 cd18 ct18 : Value}
    (a18 : PySem.W.nsIn K mainGlobals "_law_part" = some (some (.ref f__law_part))) (l18 : K.lookup f__law_part = some ⟨oc18, od18, .func (PySem.W.fnOf "_law_part" "_law_part" (defArgs S__law_part) (defBody S__law_part) (defScope S__law_part) .none kV18 dc18 pm18 an18 cd18 ct18), sl18⟩) (c18 : PySem.W.codeIn K cd18 "_law_part" = true) (k18 : PySem.W.keepIn K (.ref f__law_part) = true)
    {f__law_pushed : Addr} {od19 an19 : Option Addr} {sl19 : Array (Option Value)} {oc19 kV19 dc19 pm19 cd19 ct19 : Value}
    (a19 : PySem.W.nsIn K mainGlobals "_law_pushed" = some (some (.ref f__law_pushed))) (l19 : K.lookup f__law_pushed = some ⟨oc19, od19, .func (PySem.W.fnOf "_law_pushed" "_law_pushed" (defArgs S__law_pushed) (defBody S__law_pushed) (defScope S__law_pushed) .none kV19 dc19 pm19 an19 cd19 ct19), sl19⟩) (c19 : PySem.W.codeIn K cd19 "_law_pushed" = true) (k19 : PySem.W.keepIn K (.ref f__law_pushed) = true)
    {f__law_wheels : Addr} {od20 an20 : Option Addr} {sl20 : Array (Option Value)} {oc20 kV20 dc20 pm20 cd20 ct20 : Value}
    (a20 : PySem.W.nsIn K mainGlobals "_law_wheels" = some (some (.ref f__law_wheels))) (l20 : K.lookup f__law_wheels = some ⟨oc20, od20, .func (PySem.W.fnOf "_law_wheels" "_law_wheels" (defArgs S__law_wheels) (defBody S__law_wheels) (defScope S__law_wheels) .none kV20 dc20 pm20 an20 cd20 ct20), sl20⟩) (c20 : PySem.W.codeIn K cd20 "_law_wheels" = true) (k20 : PySem.W.keepIn K (.ref f__law_wheels) = true)
    {f__law_due : Addr} {od21 an21 : Option Addr} {sl21 : Array (Option Value)} {oc21 kV21 dc21 pm21 cd21 ct21 : Value}
    (a21 : PySem.W.nsIn K mainGlobals "_law_due" = some (some (.ref f__law_due))) (l21 : K.lookup f__law_due = some ⟨oc21, od21, .func (PySem.W.fnOf "_law_due" "_law_due" (defArgs S__law_due) (defBody S__law_due) (defScope S__law_due) .none kV21 dc21 pm21 an21 cd21 ct21), sl21⟩) (c21 : PySem.W.codeIn K cd21 "_law_due" = true) (k21 : PySem.W.keepIn K (.ref f__law_due) = true)
    {f__law_great : Addr} {od22 an22 : Option Addr} {sl22 : Array (Option Value)} {oc22 kV22 dc22 pm22 cd22 ct22 : Value}
    (a22 : PySem.W.nsIn K mainGlobals "_law_great" = some (some (.ref f__law_great))) (l22 : K.lookup f__law_great = some ⟨oc22, od22, .func (PySem.W.fnOf "_law_great" "_law_great" (defArgs S__law_great) (defBody S__law_great) (defScope S__law_great) .none kV22 dc22 pm22 an22 cd22 ct22), sl22⟩) (c22 : PySem.W.codeIn K cd22 "_law_great" = true) (k22 : PySem.W.keepIn K (.ref f__law_great) = true)
    {f__law_still_right : Addr} {od23 an23 : Option Addr} {sl23 : Array (Option Value)} {oc23 kV23 dc23 pm23 cd23 ct23 : Value}
    (a23 : PySem.W.nsIn K mainGlobals "_law_still_right" = some (some (.ref f__law_still_right))) (l23 : K.lookup f__law_still_right = some ⟨oc23, od23, .func (PySem.W.fnOf "_law_still_right" "_law_still_right" (defArgs S__law_still_right) (defBody S__law_still_right) (defScope S__law_still_right) .none kV23 dc23 pm23 an23 cd23 ct23), sl23⟩) (c23 : PySem.W.codeIn K cd23 "_law_still_right" = true) (k23 : PySem.W.keepIn K (.ref f__law_still_right) = true)
    {f__law_cut : Addr} {od24 an24 : Option Addr} {sl24 : Array (Option Value)} {oc24 kV24 dc24 pm24 cd24 ct24 : Value}
    (a24 : PySem.W.nsIn K mainGlobals "_law_cut" = some (some (.ref f__law_cut))) (l24 : K.lookup f__law_cut = some ⟨oc24, od24, .func (PySem.W.fnOf "_law_cut" "_law_cut" (defArgs S__law_cut) (defBody S__law_cut) (defScope S__law_cut) .none kV24 dc24 pm24 an24 cd24 ct24), sl24⟩) (c24 : PySem.W.codeIn K cd24 "_law_cut" = true) (k24 : PySem.W.keepIn K (.ref f__law_cut) = true)
    {f_law : Addr} {od25 an25 : Option Addr} {sl25 : Array (Option Value)} {oc25 kV25 dc25 pm25 cd25 ct25 : Value}
    (a25 : PySem.W.nsIn K mainGlobals "law" = some (some (.ref f_law))) (l25 : K.lookup f_law = some ⟨oc25, od25, .func (PySem.W.fnOf "law" "law" (defArgs S_law) (defBody S_law) (defScope S_law) .none kV25 dc25 pm25 an25 cd25 ct25), sl25⟩) (c25 : PySem.W.codeIn K cd25 "law" = true) (k25 : PySem.W.keepIn K (.ref f_law) = true)
    (z0 : PySem.W.nsIn K mainGlobals "isinstance" = some none)
    (z1 : PySem.W.nsIn K mainGlobals "int" = some none)
    (z2 : PySem.W.nsIn K mainGlobals "bool" = some none)
    (z3 : PySem.W.nsIn K mainGlobals "tuple" = some none)
    (z4 : PySem.W.nsIn K mainGlobals "len" = some none)
    (z5 : PySem.W.nsIn K mainGlobals "list" = some none)
    (z6 : PySem.W.nsIn K mainGlobals "zip" = some none)
    (z7 : PySem.W.nsIn K mainGlobals "sum" = some none)
    (z8 : PySem.W.nsIn K mainGlobals "range" = some none)
    (z9 : PySem.W.nsIn K mainGlobals "sorted" = some none)
    (z10 : PySem.W.nsIn K mainGlobals "any" = some none)
    (z11 : PySem.W.nsIn K mainGlobals "max" = some none)
    (z12 : PySem.W.nsIn K mainGlobals "enumerate" = some none)
    (tb_least_wheel : tabOkB K cd11 = true)
    : LawAtX l w K 63 "_law_script" mg fa ["least_wheel"] := by
  have e := hfa.symm.trans (PySem.W.mg_of X G a25)
  cases e
  have F_is_whole := fun_mk (st := S_is_whole) l0 c0 k0
  have F_are_marks := fun_mk (st := S_are_marks) l1 c1 k1
  have F_is_part := fun_mk (st := S_is_part) l2 c2 k2
  have F_check_train := fun_mk (st := S_check_train) l3 c3 k3
  have F_place_count := fun_mk (st := S_place_count) l4 c4 k4
  have F_is_stand := fun_mk (st := S_is_stand) l5 c5 k5
  have F_check_stand := fun_mk (st := S_check_stand) l6 c6 k6
  have F_common_multiple := fun_mk (st := S_common_multiple) l7 c7 k7
  have F_joined := fun_mk (st := S_joined) l8 c8 k8
  have F_least_turn := fun_mk (st := S_least_turn) l9 c9 k9
  have F_turn_behind := fun_mk (st := S_turn_behind) l10 c10 k10
  have F_least_wheel := fun_mk (st := S_least_wheel) l11 c11 k11
  have F_without_mark := fun_mk (st := S_without_mark) l12 c12 k12
  have F_worn_by := fun_mk (st := S_worn_by) l13 c13 k13
  have F_worn := fun_mk (st := S_worn) l14 c14 k14
  have F__law_cell_at := fun_mk (st := S__law_cell_at) l15 c15 k15
  have F__law_mix := fun_mk (st := S__law_mix) l16 c16 k16
  have F__law_digit := fun_mk (st := S__law_digit) l17 c17 k17
  have F__law_part := fun_mk (st := S__law_part) l18 c18 k18
  have F__law_pushed := fun_mk (st := S__law_pushed) l19 c19 k19
  have F__law_wheels := fun_mk (st := S__law_wheels) l20 c20 k20
  have F__law_due := fun_mk (st := S__law_due) l21 c21 k21
  have F__law_great := fun_mk (st := S__law_great) l22 c22 k22
  have F__law_still_right := fun_mk (st := S__law_still_right) l23 c23 k23
  have F__law_cut := fun_mk (st := S__law_cut) l24 c24 k24
  have F_law := fun_mk (st := S_law) l25 c25 k25
  have m_isinstance := PySem.W.mg_none_of X G z0
  have m_int := PySem.W.mg_none_of X G z1
  have m_bool := PySem.W.mg_none_of X G z2
  have m_tuple := PySem.W.mg_none_of X G z3
  have m_len := PySem.W.mg_none_of X G z4
  have m_list := PySem.W.mg_none_of X G z5
  have m_zip := PySem.W.mg_none_of X G z6
  have m_sum := PySem.W.mg_none_of X G z7
  have m_range := PySem.W.mg_none_of X G z8
  have m_sorted := PySem.W.mg_none_of X G z9
  have m_any := PySem.W.mg_none_of X G z10
  have m_max := PySem.W.mg_none_of X G z11
  have m_enumerate := PySem.W.mg_none_of X G z12
  have b_is_whole := F_is_whole.binds (ps := ["thing"]) fun _ _ _ _ _ _ us hl => match us, hl with | [_], _ => rfl
  have g_is_whole := PySem.W.mg_of X G a0
  have b_are_marks := F_are_marks.binds (ps := ["thing", "teeth"]) fun _ _ _ _ _ _ us hl => match us, hl with | [_, _], _ => rfl
  have g_are_marks := PySem.W.mg_of X G a1
  have b_is_part := F_is_part.binds (ps := ["thing"]) fun _ _ _ _ _ _ us hl => match us, hl with | [_], _ => rfl
  have g_is_part := PySem.W.mg_of X G a2
  have b_check_train := F_check_train.binds (ps := ["train"]) fun _ _ _ _ _ _ us hl => match us, hl with | [_], _ => rfl
  have g_check_train := PySem.W.mg_of X G a3
  have b_place_count := F_place_count.binds (ps := ["part"]) fun _ _ _ _ _ _ us hl => match us, hl with | [_], _ => rfl
  have g_place_count := PySem.W.mg_of X G a4
  have b_is_stand := F_is_stand.binds (ps := ["train", "thing"]) fun _ _ _ _ _ _ us hl => match us, hl with | [_, _], _ => rfl
  have g_is_stand := PySem.W.mg_of X G a5
  have b_check_stand := F_check_stand.binds (ps := ["train", "stand"]) fun _ _ _ _ _ _ us hl => match us, hl with | [_, _], _ => rfl
  have g_check_stand := PySem.W.mg_of X G a6
  have b_common_multiple := F_common_multiple.binds (ps := ["one", "other"]) fun _ _ _ _ _ _ us hl => match us, hl with | [_, _], _ => rfl
  have g_common_multiple := PySem.W.mg_of X G a7
  have b_joined := F_joined.binds (ps := ["one", "other"]) fun _ _ _ _ _ _ us hl => match us, hl with | [_, _], _ => rfl
  have g_joined := PySem.W.mg_of X G a8
  have b_least_turn := F_least_turn.binds (ps := ["teeth", "beats"]) fun _ _ _ _ _ _ us hl => match us, hl with | [_, _], _ => rfl
  have g_least_turn := PySem.W.mg_of X G a9
  have b_turn_behind := F_turn_behind.binds (ps := ["teeth", "beats", "wheel", "place"]) fun _ _ _ _ _ _ us hl => match us, hl with | [_, _, _, _], _ => rfl
  have g_turn_behind := PySem.W.mg_of X G a10
  have b_least_wheel := F_least_wheel.binds (ps := ["train", "stand"]) fun _ _ _ _ _ _ us hl => match us, hl with | [_, _], _ => rfl
  have g_least_wheel := PySem.W.mg_of X G a11
  have b_without_mark := F_without_mark.binds (ps := ["wheel", "mark"]) fun _ _ _ _ _ _ us hl => match us, hl with | [_, _], _ => rfl
  have g_without_mark := PySem.W.mg_of X G a12
  have b_worn_by := F_worn_by.binds (ps := ["train", "wear"]) fun _ _ _ _ _ _ us hl => match us, hl with | [_, _], _ => rfl
  have g_worn_by := PySem.W.mg_of X G a13
  have b_worn := F_worn.binds (ps := ["train", "wear"]) fun _ _ _ _ _ _ us hl => match us, hl with | [_, _], _ => rfl
  have g_worn := PySem.W.mg_of X G a14
  have b__law_cell_at := F__law_cell_at.binds (ps := ["_law_script", "_law_k"]) fun _ _ _ _ _ _ us hl => match us, hl with | [_, _], _ => rfl
  have g__law_cell_at := PySem.W.mg_of X G a15
  have b__law_mix := F__law_mix.binds (ps := ["_law_cell", "_law_k"]) fun _ _ _ _ _ _ us hl => match us, hl with | [_, _], _ => rfl
  have g__law_mix := PySem.W.mg_of X G a16
  have b__law_digit := F__law_digit.binds (ps := ["_law_number", "_law_by", "_law_k"]) fun _ _ _ _ _ _ us hl => match us, hl with | [_, _, _], _ => rfl
  have g__law_digit := PySem.W.mg_of X G a17
  have b__law_part := F__law_part.binds (ps := ["_law_pick", "_law_most"]) fun _ _ _ _ _ _ us hl => match us, hl with | [_, _], _ => rfl
  have g__law_part := PySem.W.mg_of X G a18
  have b__law_pushed := F__law_pushed.binds (ps := ["_law_train_here", "_law_stand", "_law_i", "_law_way"]) fun _ _ _ _ _ _ us hl => match us, hl with | [_, _, _, _], _ => rfl
  have g__law_pushed := PySem.W.mg_of X G a19
  have b__law_wheels := F__law_wheels.binds (ps := ["_law_cell"]) fun _ _ _ _ _ _ us hl => match us, hl with | [_], _ => rfl
  have g__law_wheels := PySem.W.mg_of X G a20
  have b__law_due := F__law_due.binds (ps := ["_law_train_here", "_law_stand"]) fun _ _ _ _ _ _ us hl => match us, hl with | [_, _], _ => rfl
  have g__law_due := PySem.W.mg_of X G a21
  have b__law_great := F__law_great.binds (ps := ["_law_cell"]) fun _ _ _ _ _ _ us hl => match us, hl with | [_], _ => rfl
  have g__law_great := PySem.W.mg_of X G a22
  have b__law_still_right := F__law_still_right.binds (ps := ["_law_cell"]) fun _ _ _ _ _ _ us hl => match us, hl with | [_], _ => rfl
  have g__law_still_right := PySem.W.mg_of X G a23
  have b__law_cut := F__law_cut.binds (ps := ["_law_script"]) fun _ _ _ _ _ _ us hl => match us, hl with | [_], _ => rfl
  have g__law_cut := PySem.W.mg_of X G a24
  refine ⟨PySem.W.fnOf "law" "law" (defArgs S_law) (defBody S_law) (defScope S_law) .none kV25 dc25 pm25 an25 cd25 ct25, [("least_wheel", cd11)], sp_law K [tabOf K cd11], fun p hp => ?_, fun s v => .of_eq rfl, fun H a ns hlen hT hS => ?_, fun base _ _ hTB => ?_⟩
  · rcases List.mem_cons.mp hp with rfl | hp
    · exact ⟨by simp, f_least_wheel, _, _, _, _, g_least_wheel, l11, rfl, tb_least_wheel⟩
    cases hp
  · exact ⟨a, ns, rfl, hS, hlen, fun P hP => (by
      obtain ⟨p, hp, rfl⟩ := List.mem_map.mp (show P ∈ ([("least_wheel", cd11)] : List (Str × Value)).map (fun p => tabOf K p.2) from hP)
      exact hT p hp), fun H2 s2 => ⟨rfl, s2⟩⟩
  have G_is_whole : FnOk l.prog w K mg base CX0 1 _ _ ["thing"] (sp_is_whole K) := ok_is_whole F_is_whole   m_isinstance m_int m_bool   
  have G_are_marks : FnOk l.prog w K mg base CX0 2 _ _ ["thing", "teeth"] (sp_are_marks K) := ok_are_marks F_are_marks  F_is_whole b_is_whole g_is_whole G_is_whole m_isinstance m_tuple   
  have G_is_part : FnOk l.prog w K mg base CX0 3 _ _ ["thing"] (sp_is_part K) := ok_is_part F_is_part  F_is_whole b_is_whole g_is_whole G_is_whole F_are_marks b_are_marks g_are_marks G_are_marks m_isinstance m_tuple m_len   
  have G_check_train : FnOk l.prog w K mg base CX0 4 _ _ ["train"] (sp_check_train K) := ok_check_train F_check_train  F_is_part b_is_part g_is_part G_is_part m_isinstance m_list m_len   
  have G_place_count : FnOk l.prog w K mg base CX0 1 _ _ ["part"] (sp_place_count K) := ok_place_count F_place_count      
  have G_is_stand : FnOk l.prog w K mg base CX0 2 _ _ ["train", "thing"] (sp_is_stand K) := ok_is_stand F_is_stand  F_place_count b_place_count g_place_count G_place_count F_is_whole b_is_whole g_is_whole G_is_whole m_zip m_isinstance m_tuple m_len   
  have G_check_stand : FnOk l.prog w K mg base CX0 5 _ _ ["train", "stand"] (sp_check_stand K) := ok_check_stand F_check_stand  F_is_stand b_is_stand g_is_stand G_is_stand F_check_train b_check_train g_check_train G_check_train    
  have G_common_multiple : FnOk l.prog w K mg base CX0 1 _ _ ["one", "other"] (sp_common_multiple K) := ok_common_multiple F_common_multiple      
  have G_joined : FnOk l.prog w K mg base CX0 5 _ _ ["one", "other"] (sp_joined K) := ok_joined F_joined  F_check_train b_check_train g_check_train G_check_train    
  have G_least_turn : FnOk l.prog w K mg base CX0 1 _ _ ["teeth", "beats"] (sp_least_turn K) := ok_least_turn F_least_turn   m_len m_sum m_zip   
  have G_turn_behind : FnOk l.prog w K mg base CX0 2 _ _ ["teeth", "beats", "wheel", "place"] (sp_turn_behind K) := ok_turn_behind F_turn_behind  F_least_turn b_least_turn g_least_turn G_least_turn F_common_multiple b_common_multiple g_common_multiple G_common_multiple m_len m_range m_sorted   
  have G_least_wheel : FnOk l.prog w K mg base CX0 7 _ _ ["train", "stand"] (sp_least_wheel K [tabOf K cd11]) := ok_least_wheel F_least_wheel  F_turn_behind b_turn_behind g_turn_behind G_turn_behind F_check_stand b_check_stand g_check_stand G_check_stand m_any m_zip m_tuple m_sorted    (hTB ("least_wheel", cd11) (by simp)) (by obtain ⟨_, _, _, _, h, _⟩ := tab_inv tb_least_wheel; exact h) (by simp)
  have G_without_mark : FnOk l.prog w K mg base CX0 1 _ _ ["wheel", "mark"] (sp_without_mark K) := ok_without_mark F_without_mark   m_tuple   
  have G_worn_by : FnOk l.prog w K mg base CX0 2 _ _ ["train", "wear"] (sp_worn_by K) := ok_worn_by F_worn_by  F_without_mark b_without_mark g_without_mark G_without_mark m_list   
  have G_worn : FnOk l.prog w K mg base CX0 5 _ _ ["train", "wear"] (sp_worn K) := ok_worn F_worn  F_worn_by b_worn_by g_worn_by G_worn_by F_check_train b_check_train g_check_train G_check_train    
  have G__law_cell_at : FnOk l.prog w K mg base CX0 1 _ _ ["_law_script", "_law_k"] (sp__law_cell_at K) := ok__law_cell_at F__law_cell_at   m_len   
  have G__law_mix : FnOk l.prog w K mg base CX0 1 _ _ ["_law_cell", "_law_k"] (sp__law_mix K) := ok__law_mix F__law_mix   m_range   
  have G__law_digit : FnOk l.prog w K mg base CX0 1 _ _ ["_law_number", "_law_by", "_law_k"] (sp__law_digit K) := ok__law_digit F__law_digit   m_range   
  have G__law_part : FnOk l.prog w K mg base CX0 2 _ _ ["_law_pick", "_law_most"] (sp__law_part K) := ok__law_part F__law_part  F__law_digit b__law_digit g__law_digit G__law_digit m_tuple m_range   
  have G__law_pushed : FnOk l.prog w K mg base CX0 1 _ _ ["_law_train_here", "_law_stand", "_law_i", "_law_way"] (sp__law_pushed K) := ok__law_pushed F__law_pushed   m_list m_tuple m_len m_int m_max   
  have G__law_wheels : FnOk l.prog w K mg base CX0 3 _ _ ["_law_cell"] (sp__law_wheels K) := ok__law_wheels F__law_wheels  F__law_mix b__law_mix g__law_mix G__law_mix F__law_part b__law_part g__law_part G__law_part m_range m_tuple   
  have G__law_due : FnOk l.prog w K mg base CX0 2 _ _ ["_law_train_here", "_law_stand"] (sp__law_due K) := ok__law_due F__law_due  F__law_pushed b__law_pushed g__law_pushed G__law_pushed m_range m_tuple   
  have G__law_great : FnOk l.prog w K mg base CX0 2 _ _ ["_law_cell"] (sp__law_great K) := ok__law_great F__law_great  F__law_mix b__law_mix g__law_mix G__law_mix m_tuple m_enumerate   
  have G__law_still_right : FnOk l.prog w K mg base CX0 8 _ _ ["_law_cell"] (sp__law_still_right K [tabOf K cd11]) := ok__law_still_right F__law_still_right  F_joined b_joined g_joined G_joined F_least_wheel b_least_wheel g_least_wheel G_least_wheel F__law_wheels b__law_wheels g__law_wheels G__law_wheels F__law_mix b__law_mix g__law_mix G__law_mix F_worn b_worn g_worn G_worn    
  have G__law_cut : FnOk l.prog w K mg base CX0 1 _ _ ["_law_script"] (sp__law_cut K) := ok__law_cut F__law_cut   m_int   
  exact RunOk.of (k := 9) ⟨rfl, by decide, by decide⟩ (ok_law F_law  F_check_train b_check_train g_check_train G_check_train F_least_wheel b_least_wheel g_least_wheel G_least_wheel F__law_due b__law_due g__law_due G__law_due F__law_mix b__law_mix g__law_mix G__law_mix F__law_great b__law_great g__law_great G__law_great F__law_wheels b__law_wheels g__law_wheels G__law_wheels F__law_cell_at b__law_cell_at g__law_cell_at G__law_cell_at F__law_still_right b__law_still_right g__law_still_right G__law_still_right F__law_cut b__law_cut g__law_cut G__law_cut m_list m_range m_isinstance m_tuple m_bool   )
end My
open PySem PySem.W PyProof.Rows
set_option maxHeartbeats 0 in
theorem PySem.Challenge.cw_clicktrain_k84_wheels_of_rings_holds : PySem.Challenge.rw_clicktrain_k84_wheels_of_rings.Holds := by
  w_on; o_law; k_head; (case hw => w_witness2)
  k_fill
  refine Ct.walk_ofX (l := PySem.Challenge.rw_clicktrain_k84_wheels_of_rings) (n := 63) (x := "_law_script") (defs := ["least_wheel"]) rfl (by decide) rfl (by decide +kernel) (fun w h Y => PySem.W.kIn_of Y) ?F
  case F =>
    intro w mg fa h KX G hmg
    refine' My.all_mk KX G hmg ?a0 ?l0 ?c0 ?k0 ?a1 ?l1 ?c1 ?k1 ?a2 ?l2 ?c2 ?k2 ?a3 ?l3 ?c3 ?k3 ?a4 ?l4 ?c4 ?k4 ?a5 ?l5 ?c5 ?k5 ?a6 ?l6 ?c6 ?k6 ?a7 ?l7 ?c7 ?k7 ?a8 ?l8 ?c8 ?k8 ?a9 ?l9 ?c9 ?k9 ?a10 ?l10 ?c10 ?k10 ?a11 ?l11 ?c11 ?k11 ?a12 ?l12 ?c12 ?k12 ?a13 ?l13 ?c13 ?k13 ?a14 ?l14 ?c14 ?k14 ?a15 ?l15 ?c15 ?k15 ?a16 ?l16 ?c16 ?k16 ?a17 ?l17 ?c17 ?k17 ?a18 ?l18 ?c18 ?k18 ?a19 ?l19 ?c19 ?k19 ?a20 ?l20 ?c20 ?k20 ?a21 ?l21 ?c21 ?k21 ?a22 ?l22 ?c22 ?k22 ?a23 ?l23 ?c23 ?k23 ?a24 ?l24 ?c24 ?k24 ?a25 ?l25 ?c25 ?k25 ?z0 ?z1 ?z2 ?z3 ?z4 ?z5 ?z6 ?z7 ?z8 ?z9 ?z10 ?z11 ?z12 ?tb_least_wheel
    (case a0 => k_is)
    (case l0 => k_is)
    (case c0 => k_is)
    (case k0 => k_is)
    (case a1 => k_is)
    (case l1 => k_is)
    (case c1 => k_is)
    (case k1 => k_is)
    (case a2 => k_is)
    (case l2 => k_is)
    (case c2 => k_is)
    (case k2 => k_is)
    (case a3 => k_is)
    (case l3 => k_is)
    (case c3 => k_is)
    (case k3 => k_is)
    (case a4 => k_is)
    (case l4 => k_is)
    (case c4 => k_is)
    (case k4 => k_is)
    (case a5 => k_is)
    (case l5 => k_is)
    (case c5 => k_is)
    (case k5 => k_is)
    (case a6 => k_is)
    (case l6 => k_is)
    (case c6 => k_is)
    (case k6 => k_is)
    (case a7 => k_is)
    (case l7 => k_is)
    (case c7 => k_is)
    (case k7 => k_is)
    (case a8 => k_is)
    (case l8 => k_is)
    (case c8 => k_is)
    (case k8 => k_is)
    (case a9 => k_is)
    (case l9 => k_is)
    (case c9 => k_is)
    (case k9 => k_is)
    (case a10 => k_is)
    (case l10 => k_is)
    (case c10 => k_is)
    (case k10 => k_is)
    (case a11 => k_is)
    (case l11 => k_is)
    (case c11 => k_is)
    (case k11 => k_is)
    (case a12 => k_is)
    (case l12 => k_is)
    (case c12 => k_is)
    (case k12 => k_is)
    (case a13 => k_is)
    (case l13 => k_is)
    (case c13 => k_is)
    (case k13 => k_is)
    (case a14 => k_is)
    (case l14 => k_is)
    (case c14 => k_is)
    (case k14 => k_is)
    (case a15 => k_is)
    (case l15 => k_is)
    (case c15 => k_is)
    (case k15 => k_is)
    (case a16 => k_is)
    (case l16 => k_is)
    (case c16 => k_is)
    (case k16 => k_is)
    (case a17 => k_is)
    (case l17 => k_is)
    (case c17 => k_is)
    (case k17 => k_is)
    (case a18 => k_is)
    (case l18 => k_is)
    (case c18 => k_is)
    (case k18 => k_is)
    (case a19 => k_is)
    (case l19 => k_is)
    (case c19 => k_is)
    (case k19 => k_is)
    (case a20 => k_is)
    (case l20 => k_is)
    (case c20 => k_is)
    (case k20 => k_is)
    (case a21 => k_is)
    (case l21 => k_is)
    (case c21 => k_is)
    (case k21 => k_is)
    (case a22 => k_is)
    (case l22 => k_is)
    (case c22 => k_is)
    (case k22 => k_is)
    (case a23 => k_is)
    (case l23 => k_is)
    (case c23 => k_is)
    (case k23 => k_is)
    (case a24 => k_is)
    (case l24 => k_is)
    (case c24 => k_is)
    (case k24 => k_is)
    (case a25 => k_is)
    (case l25 => k_is)
    (case c25 => k_is)
    (case k25 => k_is)
    (case z0 => k_is)
    (case z1 => k_is)
    (case z2 => k_is)
    (case z3 => k_is)
    (case z4 => k_is)
    (case z5 => k_is)
    (case z6 => k_is)
    (case z7 => k_is)
    (case z8 => k_is)
    (case z9 => k_is)
    (case z10 => k_is)
    (case z11 => k_is)
    (case z12 => k_is)
    (case tb_least_wheel => first | kernel_rfl | rfl)
