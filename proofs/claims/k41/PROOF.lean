import PyProof.Rows.All
import Wide.All
import OpenK.AllK
import Wide.FinOn
import HandS.ForMost
import HandS.Wide
import HandS.IsInst
import HandS.Walk
import HandS.Star
import HandS.TupAny
import HandS.Style
import HandS.Deep
import KE.GoesNew
import HandS.GenList
import HandS.AnyAll
import HandS.EndBits
import PySem.Challenge.RW_clicktrain_k41_wears_and_what_explains
set_option Elab.async false
set_option linter.all false
set_option maxRecDepth 100000
set_option maxHeartbeats 4000000
namespace Ct
open PySem PySem.Spec PyProof.Rows L2
/-! walking a reading, construct by construct -/
section
variable {K : PySem.W.Frag} {H : Hp} {σ : L2.St} {D : Ends} {Q : VK} {QB : Bool → Hp → Prop} {QA : List V → Hp → Prop} {QS : L2.St → Hp → Prop}
theorem w_seq {t u : TS} (h : t { D with nx := u D } σ H) : tSeq t u D σ H := h
theorem w_join {t u : TS} (J : L2.St → Hp → Prop) (h1 : ∀ σ' H', J σ' H' → u D σ' H') (h2 : ∀ N : L2.St → Hp → Prop, (∀ σ' H', J σ' H' → N σ' H') → t { D with nx := N } σ H) : tSeq t u D σ H := h2 (u D) h1
theorem w_asg {te : TE} {g : TG} (h : te σ H fun x H1 => g x σ H1 D.nx) : tAsg te g D σ H := h
theorem w_ret {te : TE} (h : te σ H D.rt) : tRet te D σ H := h
theorem w_ifS {c : TT} {t u : TS} (h : c σ H fun b H1 => if b = true then t D σ H1 else u D σ H1) : tIfS c t u D σ H := h
theorem w_drop {te : TE} (h : te σ H fun _ H1 => D.nx σ H1) : tDrop te D σ H := h
theorem w_next (h : D.nx σ H) : tNext D σ H := h
theorem w_var {i : Nat} {v : V} (e : σ[i]? = some (some v)) (h : Q v H) : tVar i σ H Q := ⟨v, e, h⟩
theorem w_c {v : V} (h : Q v H) : tC v σ H Q := h
theorem w_op {r : R2} {ta tb : TE} (h : ta σ H fun x H1 => tb σ H1 fun y H2 => r x y H2 Q) : tOp r ta tb σ H Q := h
theorem w_chain {r r' : R2} {ta tb tc : TE} (h : ta σ H fun x H1 => tb σ H1 fun y H2 => r x y H2 fun z H3 => ∃ k, z = .bl k ∧ (if k = true then tc σ H3 fun w' H4 => r' y w' H4 Q else Q (.bl false) H3)) : tChain r r' ta tb tc σ H Q := h
theorem w_un {r : V → Hp → VK → Prop} {ta : TE} (h : ta σ H fun x H1 => r x H1 Q) : tUn r ta σ H Q := h
theorem w_test {t : TE} (h : t σ H fun x H' => ∃ k, x = .bl k ∧ QB k H') : tTest t σ H QB := h
theorem w_B {t : TE} (h : t σ H fun x H' => ∃ k, x = .bl k ∧ QB k H') : tB t σ H QB := h
theorem w_and {t u : TT} (h : t σ H fun c H1 => if c = true then u σ H1 QB else QB false H1) : tAnd t u σ H QB := h
theorem w_or {t u : TT} (h : t σ H fun c H1 => if c = true then QB true H1 else u σ H1 QB) : tOr t u σ H QB := h
theorem w_not {t : TT} (h : t σ H fun c H1 => QB (!c) H1) : tNot t σ H QB := h
theorem w_if {t : TT} {ta tb : TE} (h : t σ H fun c H1 => if c = true then ta σ H1 Q else tb σ H1 Q) : tIf t ta tb σ H Q := h
theorem w_nil (h : QA [] H) : tNil σ H QA := h
theorem w_cons {ta : TE} {tr : TA} (h : ta σ H fun x H1 => tr σ H1 fun xs H2 => QA (x :: xs) H2) : tCons ta tr σ H QA := h
theorem w_cb {r : List V → Hp → VK → Prop} {t : TA} (h : t σ H fun vs H1 => r vs H1 Q) : tCB r t σ H Q := h
theorem w_call {sp : Sp} {dvs : List V} {E : XK} {t : TA} (h : t σ H fun vs H1 => sp (vs ++ dvs) H1 Q E) : tCall sp dvs E t σ H Q := h
theorem w_name {i : Nat} {v : V} {σ' : L2.St} (e : σ.set i (some v) = σ') (h : QS σ' H) : gName i v σ H QS := by
  unfold gName
  rw [e]
  exact h
theorem w_rI {C : Int → Int → Prop} {g : Int → Int → V} {i j : Int} (c : C i j) (h : Q (g i j) H) : rI C g (.int i) (.int j) H Q := ⟨i, j, rfl, rfl, c, h⟩
theorem w_rI0 {g : Int → Int → V} {i j : Int} (h : Q (g i j) H) : rI0 g (.int i) (.int j) H Q := ⟨i, j, rfl, rfl, h⟩
theorem w_rU {g : Int → V} {i : Int} (h : Q (g i) H) : rU g (.int i) H Q := ⟨i, rfl, h⟩
theorem w_rEqI {i j : Int} (h : Q (.bl (decide (i = j))) H) : rEq (.int i) (.int j) H Q := by
  refine ⟨rfl, ?_⟩
  rw [show decide (V.int i = V.int j) = decide (i = j) from by
    by_cases e : i = j
    · subst e
      rw [decide_eq_true rfl, decide_eq_true rfl]
    · rw [decide_eq_false e, decide_eq_false fun z => e (V.int.inj z)]]
  exact h
theorem w_rNeI {i j : Int} (h : Q (.bl (!decide (i = j))) H) : rNe (.int i) (.int j) H Q := by
  refine ⟨rfl, ?_⟩
  rw [show decide (V.int i = V.int j) = decide (i = j) from by
    by_cases e : i = j
    · subst e
      rw [decide_eq_true rfl, decide_eq_true rfl]
    · rw [decide_eq_false e, decide_eq_false fun z => e (V.int.inj z)]]
  exact h
theorem w_rEqS {x y : Str} {b : Bool} (e : decide (V.str x = V.str y) = b) (h : Q (.bl b) H) : rEq (.str x) (.str y) H Q := by
  refine ⟨rfl, ?_⟩
  rw [e]
  exact h
theorem w_bl {b : Bool} {QP : Bool → Prop} (h : QP b) : ∃ k, V.bl b = .bl k ∧ QP k := ⟨b, rfl, h⟩
theorem w_in {i : Int} {QP : Int → Prop} (h : QP i) : ∃ k, V.int i = .int k ∧ QP k := ⟨i, rfl, h⟩
theorem w_ixT {p : Addr} {xs : List V} {i : Int} {v : V} (h : SqT K H p xs) (e : atI xs i = some v) (q : Q v H) : rIxT K (.ref p) (.int i) H Q := ⟨p, xs, i, v, rfl, rfl, h, e, q⟩
theorem w_ixL {p : Addr} {xs : List V} {i : Int} {v : V} (h : SqL K H p xs) (e : atI xs i = some v) (q : Q v H) : rIxL K (.ref p) (.int i) H Q := ⟨p, xs, i, v, rfl, rfl, h, e, q⟩
theorem w_tup {t : TA} (h : t σ H fun xs H1 => xs.length ≤ sizeLine ∧ ∀ p, H1 p = none → Q (.ref p) (upd H1 p (.tup xs))) : tTup t σ H Q := h
theorem w_lst {t : TA} (h : t σ H fun xs H1 => xs.length ≤ sizeLine ∧ ∀ p, H1 p = none → Q (.ref p) (upd H1 p (.lst xs))) : tLst t σ H Q := h
theorem w_bm {T : String} {r : V → List V → Hp → VK → Prop} {to : TE} {t : TA} (h : to σ H fun x H1 => tyV K T x H1 ∧ t σ H1 fun xs H2 => r x xs H2 Q) : tBM K T r to t σ H Q := h
theorem w_inT {p : Addr} {x : Int} {ns : List Int} (h : SqT K H p (ns.map V.int)) (q : Q (.bl (decide (x ∈ ns))) H) : rIn K false (.int x) (.ref p) H Q := by
  refine ⟨p, ns.map V.int, rfl, .inr h, rfl, ?_, ?_⟩
  · rw [List.all_map]
    exact List.all_eq_true.mpr fun _ _ => rfl
  · rw [if_neg Bool.false_ne_true]
    rw [show inV (.int x) (ns.map V.int) = decide (x ∈ ns) from by
      unfold inV
      rw [List.any_map]
      by_cases e : x ∈ ns
      · rw [decide_eq_true e, List.any_eq_true]
        exact ⟨x, e, by show (x == x) = true; exact beq_self_eq_true x⟩
      · rw [decide_eq_false e, List.any_eq_false]
        intro y hy
        show ¬ (y == x) = true
        intro z
        have : y = x := eq_of_beq z
        subst this
        exact e hy]
    exact q
theorem w_break (h : D.bk σ H) : tBreak D σ H := h
theorem w_cont (h : D.ct σ H) : tCont D σ H := h
theorem w_nT {A B : Prop} (h : B) : if (!true) = true then A else B := h
theorem w_nF {A B : Prop} (h : A) : if (!false) = true then A else B := h
theorem w_ite {c A B : Prop} [Decidable c] (h1 : c → A) (h2 : ¬ c → B) : if (decide c) = true then A else B := by
  by_cases h : c
  · rw [if_pos (decide_eq_true h)]
    exact h1 h
  · rw [if_neg (by rw [decide_eq_false h]; exact Bool.false_ne_true)]
    exact h2 h
theorem w_iteN {c A B : Prop} [Decidable c] (h1 : ¬ c → A) (h2 : c → B) : if (!decide c) = true then A else B := by
  by_cases h : c
  · rw [decide_eq_true h]
    exact iteF (h2 h)
  · rw [decide_eq_false h]
    exact iteT (h1 h)
theorem w_st {t : TS} {σ' : L2.St} (e : σ = σ') (h : t D σ' H) : t D σ H := by
  rw [e]
  exact h
end
/-! heaps -/
theorem same_new {H0 H : Hp} {p : Addr} {o : HO} (s : Same H0 H) (h : H0 p = none) : Same H0 (upd H p o) := fun b x e => by
  rw [upd_ne (ne_of_none e h)]
  exact s b x e
theorem same_upd {H : Hp} {p : Addr} {o : HO} (h : H p = none) : Same H (upd H p o) := same_new (Same.refl H) h
theorem Same.tup {K : PySem.W.Frag} {H H' : Hp} {a : Addr} {xs : List V} (e : Same H H') (h : SqT K H a xs) : SqT K H' a xs := by
  rcases h with (h | ⟨o, h⟩) | h
  · exact .inl (.inl (e _ _ h))
  · exact .inl (.inr ⟨o, e _ _ h⟩)
  · exact .inr h
theorem Same.new {H H' : Hp} {p : Addr} (s : Same H H') (h : H' p = none) : H p = none := s.free h
mutual
theorem dp_same {K : PySem.W.Frag} {H H' : Hp} (e : Same H H') : ∀ {v : V} {d : PyData}, Dp K H v d → Dp K H' v d
  | _, _, .non => .non
  | _, _, .bl b => .bl b
  | _, _, .int i => .int i
  | _, _, .str x => .str x
  | _, _, .lst h t => .lst (e.seq h) (dpAll_same e t)
  | _, _, .tup h t => .tup (Same.tup e h) (dpAll_same e t)
theorem dpAll_same {K : PySem.W.Frag} {H H' : Hp} (e : Same H H') : ∀ {vs : List V} {ds : List PyData}, DpAll K H vs ds → DpAll K H' vs ds
  | _, _, .nil => .nil
  | _, _, .cons h t => .cons (dp_same e h) (dpAll_same e t)
end
theorem dpAll_len {K : PySem.W.Frag} {H : Hp} : ∀ {vs : List V} {ds : List PyData}, DpAll K H vs ds → vs.length = ds.length
  | _, _, .nil => rfl
  | _, _, .cons _ t => by rw [List.length_cons, List.length_cons, dpAll_len t]
theorem dpAll_get {K : PySem.W.Frag} {H : Hp} : ∀ {vs : List V} {ds : List PyData} {i : Nat} {d : PyData}, DpAll K H vs ds → ds[i]? = some d → ∃ v, vs[i]? = some v ∧ Dp K H v d
  | _, _, _, _, .nil, e => by simp at e
  | _, _, 0, _, .cons h _, e => by
    cases (Option.some.inj e)
    exact ⟨_, rfl, h⟩
  | _, _, i + 1, _, .cons _ t, e => dpAll_get (i := i) t e
theorem dpAll_ints {K : PySem.W.Frag} {H : Hp} : ∀ (ns : List Int), DpAll K H (ns.map V.int) (ns.map PyData.int)
  | [] => .nil
  | n :: r => .cons (.int n) (dpAll_ints r)
theorem dpAll_ints_inv {K : PySem.W.Frag} {H : Hp} : ∀ {vs : List V} (ns : List Int), DpAll K H vs (ns.map PyData.int) → vs = ns.map V.int
  | _, [], .nil => rfl
  | _, n :: r, .cons (.int _) t => by rw [dpAll_ints_inv r t, List.map_cons]
theorem dpAll_app {K : PySem.W.Frag} {H : Hp} : ∀ {vs ws : List V} {ds es : List PyData}, DpAll K H vs ds → DpAll K H ws es → DpAll K H (vs ++ ws) (ds ++ es)
  | _, _, _, _, .nil, h => h
  | _, _, _, _, .cons a t, h => .cons a (dpAll_app t h)
theorem ix_at {n j : Nat} {k : Int} (e : k = (j : Int)) (h : j < n) : ixN n k = some j := by
  subst e
  unfold ixN
  rw [if_pos (Int.natCast_nonneg j), if_pos (by omega)]
  rfl
theorem cutV_map (ms : List Int) (lo hi : Option Int) : cutV (ms.map V.int) lo hi = ((ms.drop (HT.sIx ms.length 0 lo)).take (HT.sIx ms.length ms.length hi - HT.sIx ms.length 0 lo)).map V.int := by
  unfold cutV
  rw [List.length_map, List.map_take, List.map_drop]
theorem at0 {x : V} {r : List V} : atI (x :: r) 0 = some x := atI_nat (xs := x :: r) (j := 0) rfl
theorem at1 {x y : V} {r : List V} : atI (x :: y :: r) 1 = some y := atI_nat (xs := x :: y :: r) (j := 1) rfl
theorem at2 {x y z : V} {r : List V} : atI (x :: y :: z :: r) 2 = some z := atI_nat (xs := x :: y :: z :: r) (j := 2) rfl
theorem len2 {n : Nat} (h : Nat.ble n sizeLine = true) : n ≤ sizeLine := Nat.le_of_ble_eq_true h
/-! sizes of numbers -/
theorem div_ok {i j : Int} (h : 0 < j) (h2 : j < 2 ^ 250) : CDivW i j := wide_div (b := 250) h (by omega) (by decide) (by decide)
theorem mul_ok {i j : Int} (h1 : -(2 ^ 250) < i) (h2 : i < 2 ^ 250) (h3 : -(2 ^ 250) < j) (h4 : j < 2 ^ 250) : CMulW i j := wide_mul (a := 250) (b := 250) (by omega) (by omega) (by decide) (by decide) (by decide)
/-- a power whose bits are few -/
def CPowB (i j : Int) : Prop := 0 ≤ j ∧ (Builtin.Int.intBits i : Int) * j ≤ 2 ^ 27
theorem op_powB {X : Cx} : OpR X (binaryOp .Pow) (rI CPowB fun i j => .int (i ^ j.toNat)) := opI fun _ _ _ _ _ _ _ hc q => pow_int hc.1 hc.2 q
/-! loops, targets, stores -/
section
variable {K : PySem.W.Frag} {H : Hp} {σ : L2.St} {D : Ends} {Q : VK} {QA : List V → Hp → Prop} {QS : L2.St → Hp → Prop} {R : It → Hp → Prop}
def FB (J : It) (g : TG) (tb : TS) (D : Ends) (σ : L2.St) (H : Hp) : Prop := tFor (fun _ H R => R J H) g tb D σ H
theorem w_for {wi : TI} {g : TG} {tb : TS} (h : wi σ H fun J H1 => FB J g tb D σ H1) : tFor wi g tb D σ H := h
def RG1 (vs : List V) (H : Hp) (R : It → Hp → Prop) : Prop := iRng1 (fun _ H Q => Q vs H) [] H R
def RG2 (vs : List V) (H : Hp) (R : It → Hp → Prop) : Prop := iRng2 (fun _ H Q => Q vs H) [] H R
theorem w_rng1 {ta : TA} (h : ta σ H fun vs H1 => RG1 vs H1 R) : iRng1 ta σ H R := h
theorem w_rng2 {ta : TA} (h : ta σ H fun vs H1 => RG2 vs H1 R) : iRng2 ta σ H R := h
theorem w_RG1 {j : Int} (h1 : -(2 ^ 62) ≤ j) (h2 : j < 2 ^ 62) (h : R (Itr 0 j.toNat) H) : RG1 [.int j] H R := ⟨j, rfl, h1, h2, h⟩
theorem w_RG2 {i j : Int} (h1 : -(2 ^ 62) ≤ i) (h2 : i < 2 ^ 62) (h3 : -(2 ^ 62) ≤ j) (h4 : j < 2 ^ 62) (h : R (Itr i (j - i).toNat) H) : RG2 [.int i, .int j] H R := ⟨i, j, rfl, ⟨h1, h2, h3, h4⟩, h⟩
def IL (K : PySem.W.Frag) (v : V) (H : Hp) (R : It → Hp → Prop) : Prop := iList K (tC v) [] H R
def IT (K : PySem.W.Frag) (v : V) (H : Hp) (R : It → Hp → Prop) : Prop := iTup K (tC v) [] H R
theorem w_ilist {tl : TE} (h : tl σ H fun v H1 => IL K v H1 R) : iList K tl σ H R := h
theorem w_itup {tl : TE} (h : tl σ H fun v H1 => IT K v H1 R) : iTup K tl σ H R := h
theorem w_IL {a : Addr} {xs : List V} (h : SqL K H a xs) (q : R (Itl K a) H) : IL K (.ref a) H R := ⟨a, rfl, ⟨xs, h⟩, q⟩
theorem w_IT {a : Addr} {xs : List V} (h : SqT K H a xs) (q : R (Itt K a) H) : IT K (.ref a) H R := ⟨a, rfl, ⟨xs, h⟩, q⟩
theorem fb_range {lo : Int} {n : Nat} {g : TG} {tb : TS} (Pv : Nat → L2.St → Hp → Prop) (h0 : Pv 0 σ H)
    (hs : ∀ i σ H, i < n → Pv i σ H → g (.int (lo + i)) σ H fun σ2 H2 => tb { D with nx := Pv (i + 1), ct := Pv (i + 1), bk := D.nx } σ2 H2) (hd : ∀ σ H, Pv n σ H → D.nx σ H) : FB (Itr lo n) g tb D σ H := for_range Pv h0 hs hd
theorem fb_list {a : Addr} (xs : List V) {g : TG} {tb : TS} (Pv : Nat → L2.St → Hp → Prop) (h0 : Pv 0 σ H) (hl : ∀ i σ H, i ≤ xs.length → Pv i σ H → SqL K H a xs)
    (hs : ∀ i x σ H, xs[i]? = some x → Pv i σ H → g x σ H fun σ2 H2 => tb { D with nx := Pv (i + 1), ct := Pv (i + 1), bk := D.nx } σ2 H2) (hd : ∀ σ H, Pv xs.length σ H → D.nx σ H) : FB (Itl K a) g tb D σ H := for_list Pv h0 hl hs hd
theorem fb_tup {a : Addr} (xs : List V) {g : TG} {tb : TS} (Pv : Nat → L2.St → Hp → Prop) (h0 : Pv 0 σ H) (hl : ∀ i σ H, i ≤ xs.length → Pv i σ H → SqT K H a xs)
    (hs : ∀ i x σ H, xs[i]? = some x → Pv i σ H → g x σ H fun σ2 H2 => tb { D with nx := Pv (i + 1), ct := Pv (i + 1), bk := D.nx } σ2 H2) (hd : ∀ σ H, Pv xs.length σ H → D.nx σ H) : FB (Itt K a) g tb D σ H := for_tup Pv h0 hl hs hd
def LB (J : It) (g : TG) (tt : TT) (te : TE) (vs : List Nat) (σ : L2.St) (H : Hp) (Q : VK) : Prop := tLc (fun _ H R => R J H) g tt te vs σ H Q
theorem w_lc {wi : TI} {g : TG} {tt : TT} {te : TE} {vs : List Nat} (h : wi σ H fun J H1 => LB J g tt te vs σ H1 Q) : tLc wi g tt te vs σ H Q := h
theorem lb_range {lo : Int} {n : Nat} {g : TG} {tt : TT} {te : TE} {vs : List Nat} (Pv : Addr → Nat → Hp → Prop) (h0 : ∀ D, H D = none → Pv D 0 (upd H D (.lst [])))
    (hs : ∀ D, H D = none → ∀ i H1, i < n → Pv D i H1 → g (.int (lo + i)) (wipe σ vs) H1 fun σ2 H2 => wipe σ2 vs = wipe σ vs ∧ tt σ2 H2 fun b H3 =>
      if b = true then te σ2 H3 fun y H4 => ∃ acc, H4 D = some (.lst acc) ∧ acc.length < sizeLine ∧ Pv D (i + 1) (upd H4 D (.lst (acc ++ [y]))) else Pv D (i + 1) H3) (hd : ∀ D, H D = none → ∀ H1, Pv D n H1 → Q (.ref D) H1) : LB (Itr lo n) g tt te vs σ H Q :=
  fun D hD => lc_range (Pv D) (h0 D hD) (hs D hD) (hd D hD)
theorem lb_list {a : Addr} (xs : List V) {g : TG} {tt : TT} {te : TE} {vs : List Nat} (Pv : Addr → Nat → Hp → Prop) (h0 : ∀ D, H D = none → Pv D 0 (upd H D (.lst []))) (hl : ∀ D, H D = none → ∀ i H1, i ≤ xs.length → Pv D i H1 → SqL K H1 a xs)
    (hs : ∀ D, H D = none → ∀ i x H1, xs[i]? = some x → Pv D i H1 → g x (wipe σ vs) H1 fun σ2 H2 => wipe σ2 vs = wipe σ vs ∧ tt σ2 H2 fun b H3 =>
      if b = true then te σ2 H3 fun y H4 => ∃ acc, H4 D = some (.lst acc) ∧ acc.length < sizeLine ∧ Pv D (i + 1) (upd H4 D (.lst (acc ++ [y]))) else Pv D (i + 1) H3) (hd : ∀ D, H D = none → ∀ H1, Pv D xs.length H1 → Q (.ref D) H1) : LB (Itl K a) g tt te vs σ H Q :=
  fun D hD => lc_list (Pv D) (h0 D hD) (hl D hD) (hs D hD) (hd D hD)
def IE (K : PySem.W.Frag) (vs : List V) (H : Hp) (R : It → Hp → Prop) : Prop := iEnum K (fun _ H Q => Q vs H) [] H R
theorem w_enum {ta : TA} (h : ta σ H fun vs H1 => IE K vs H1 R) : iEnum K ta σ H R := h
theorem w_IE {a : Addr} {xs : List V} (h : SqL K H a xs) (q : R (Ite K a) H) : IE K [.ref a] H R := ⟨a, xs, rfl, h, q⟩
theorem lb_enum {a : Addr} (xs : List V) {g : TG} {tt : TT} {te : TE} {vs : List Nat} (Pv : Addr → Nat → Hp → Prop) (h0 : ∀ D, H D = none → Pv D 0 (upd H D (.lst []))) (hl : ∀ D, H D = none → ∀ i H1, i ≤ xs.length → Pv D i H1 → SqL K H1 a xs)
    (hs : ∀ D, H D = none → ∀ i v T H1, xs[i]? = some v → Pv D i H1 → H1 T = none → g (.ref T) (wipe σ vs) (upd H1 T (.tup [.int (i : Nat), v])) fun σ2 H2 => wipe σ2 vs = wipe σ vs ∧ tt σ2 H2 fun b H3 =>
      if b = true then te σ2 H3 fun y H4 => ∃ acc, H4 D = some (.lst acc) ∧ acc.length < sizeLine ∧ Pv D (i + 1) (upd H4 D (.lst (acc ++ [y]))) else Pv D (i + 1) H3) (hd : ∀ D, H D = none → ∀ H1, Pv D xs.length H1 → Q (.ref D) H1) : LB (Ite K a) g tt te vs σ H Q :=
  fun D hD => lc_it (walk_enum (xs := xs)) (Pv D) (h0 D hD) (hl D hD) (fun i x H1 H2 _ p y => by
    obtain ⟨T, u, v, rfl, hT, rfl, e1, e2⟩ := y
    cases Option.some.inj e1
    exact hs D hD i v T H1 e2 p hT) (hd D hD)
theorem w_yes {QB : Bool → Hp → Prop} (h : QB true H) : tYes σ H QB := h
theorem w_gtup {n : Nat} {t : TGs} {a : Addr} {xs : List V} (h : SqT K H a xs) (e : xs.length = n) (q : t xs σ H QS) : gTup K n t (.ref a) σ H QS := ⟨a, xs, rfl, h, e, q⟩
theorem w_gcons {t : TG} {u : TGs} {v : V} {r : List V} (h : t v σ H fun σ' H' => u r σ' H' QS) : gCons t u (v :: r) σ H QS := ⟨v, r, rfl, h⟩
theorem w_gnil (h : QS σ H) : gNil [] σ H QS := ⟨rfl, h⟩
theorem w_gsub {to ti : TE} {t : TSet} {v : V} (h : to σ H fun o H1 => ti σ H1 fun i H2 => t o i v H2 fun H3 => QS σ H3) : gSub to ti t v σ H QS := h
theorem w_setL {p : Addr} {xs : List V} {k : Int} {j : Nat} {v : V} {QH : Hp → Prop} (h : H p = some (.lst xs)) (e : ixN xs.length k = some j) (q : QH (upd H p (.lst (xs.set j v)))) : rSetL (.ref p) (.int k) v H QH := ⟨p, xs, k, j, rfl, rfl, h, e, q⟩
theorem w_aug {i : Nat} {te : TE} {ti : TIp} {x : V} (e : σ[i]? = some (some x)) (h : te σ H fun y H1 => ti x y H1 fun z H2 => D.nx (σ.set i (some z)) H2) : tAug i te ti D σ H := ⟨x, e, h⟩
theorem w_ipI {f : Int → Int → Int} {i j : Int} (h : Q (.int (f i j)) H) : ipI f (.int i) (.int j) H Q := ⟨i, j, rfl, rfl, h⟩
theorem w_append {l : Addr} {xs : List V} {y : V} (h : H l = some (.lst xs)) (hl : xs.length < sizeLine) (q : Q .non (upd H l (.lst (xs ++ [y])))) : rAppend (.ref l) [y] H Q := ⟨l, xs, y, rfl, rfl, h, hl, q⟩
theorem ty_list {l : Addr} {xs : List V} (h : H l = some (.lst xs)) : tyV K "list" (.ref l) H := .inl ⟨rfl, _, .inl (.inl h)⟩
theorem w_mod {i j : Int} (h : 0 < j) (q : ∀ r, 0 ≤ r → r < j → Q (.int r) H) : rI (fun _ j => 0 < j) (fun i j => .int (i % j)) (.int i) (.int j) H Q :=
  ⟨i, j, rfl, rfl, h, q _ (Int.emod_nonneg _ (by omega)) (Int.emod_lt_of_pos _ h)⟩
theorem w_div {i j : Int} (h : CDivW i j) (q : ∀ r, Q (.int r) H) : rI CDivW (fun i j => .int (i / j)) (.int i) (.int j) H Q := ⟨i, j, rfl, rfl, h, q _⟩
theorem w_rIv {C : Int → Int → Prop} {g : Int → Int → V} {i j : Int} (v : V) (c : C i j) (e : g i j = v) (h : Q v H) : rI C g (.int i) (.int j) H Q := ⟨i, j, rfl, rfl, c, by rw [e]; exact h⟩
theorem w_isi {x : V} {n : String} {t : Value} {b : Bool} (ty : TyX K H x t) (k : PySem.W.kitOne K t (.type n) = some b) (q : Q (.bl b) H) : rIsi K [x, .ty n] H Q := ⟨x, .ty n, t, .type n, b, rfl, .ty n, ty, k, q⟩
theorem w_andV {ta tb : TE} (h : ta σ H fun x H1 => ∃ c, x = .bl c ∧ if c = true then tb σ H1 Q else Q (.bl false) H1) : tAndV ta tb σ H Q := h
theorem w_orV {ta tb : TE} (h : ta σ H fun x H1 => ∃ c, x = .bl c ∧ if c = true then Q (.bl true) H1 else tb σ H1 Q) : tOrV ta tb σ H Q := h
theorem w_notV {ta : TE} (h : ta σ H fun x H1 => ∃ c, x = .bl c ∧ Q (.bl (!c)) H1) : tNotV ta σ H Q := h
theorem w_slL {a : Addr} {xs : List V} {lo hi : Option Int} (h : SqL K H a xs) (q : ∀ p, H p = none → Q (.ref p) (upd H p (.lst (cutV xs lo hi)))) : rSlL K (.ref a) lo hi H Q := ⟨a, xs, rfl, h, q⟩
theorem w_sl {r : V → Option Int → Option Int → Hp → VK → Prop} {te : TE} {tl th : TO} (h : te σ H fun x H1 => tl σ H1 fun l H2 => th σ H2 fun u H3 => r x l u H3 Q) : tSl r te tl th σ H Q := h
theorem w_nopart {QO : Option Int → Hp → Prop} (h : QO none H) : tNoPart σ H QO := h
theorem w_part {QO : Option Int → Hp → Prop} {t : TE} (h : t σ H fun x H1 => ∃ i, x = .int i ∧ QO (some i) H1) : tPart t σ H QO := h
end
end Ct

namespace Ct
open PySem PySem.Spec PyProof.Rows L2
/-! parts, stands, what a push does -/
inductive Part where
  | wheel (z : Int) (ms : List Int) | click | rocker | spring (k : Int)
def Part.data : Part → PyData
  | .wheel z ms => .tuple [.str "wheel", .int z, .tuple (ms.map PyData.int)]
  | .click => .tuple [.str "click"]
  | .rocker => .tuple [.str "rocker"]
  | .spring k => .tuple [.str "spring", .int k]
def Part.places : Part → Int
  | .wheel z _ => z
  | .click => 1
  | .rocker => 2
  | .spring k => k
def Rise (z : Int) (ms : List Int) : Prop := ms.Pairwise (· < ·) ∧ ∀ m ∈ ms, 0 ≤ m ∧ m < z
def Part.ok : Part → Prop
  | .wheel z ms => 1 ≤ z ∧ z < 2 ^ 200 ∧ Rise z ms ∧ ms.length ≤ 1000
  | .click => True
  | .rocker => True
  | .spring k => 1 ≤ k ∧ k < 2 ^ 200
theorem Part.ok.pos {p : Part} (h : p.ok) : 1 ≤ p.places ∧ p.places < 2 ^ 200 := by
  cases p with
  | wheel z ms => exact ⟨h.1, h.2.1⟩
  | click => exact ⟨by decide, by decide⟩
  | rocker => exact ⟨by decide, by decide⟩
  | spring k => exact h
/-- the new place and what is given -/
def pp : Part → Int → Int → Int × Int
  | .wheel z ms, x, w => ((x + w) % z, if (if w = 1 then (x + w) % z else x) ∈ ms then w else 0)
  | .click, _, w => (0, if w = 1 then 1 else 0)
  | .rocker, x, w => (if w = 1 then 1 else 0, if w = 1 ∧ x = 0 then 1 else 0)
  | .spring k, x, w => if w = 1 then (if x = k - 1 then (0, 1) else (x + 1, 0)) else (if x - 1 > 0 then x - 1 else 0, 0)
def stands : List Part → Int
  | [] => 1
  | p :: r => p.places * stands r
def Sign (w : Int) : Prop := w = 1 ∨ w = -1
theorem pp_sign (p : Part) (x w : Int) (h : Sign w) : (pp p x w).2 = 0 ∨ Sign (pp p x w).2 := by
  cases p with
  | wheel z ms =>
    by_cases e : (if w = 1 then (x + w) % z else x) ∈ ms
    · rw [show (pp (.wheel z ms) x w).2 = w from if_pos e]
      exact .inr h
    · exact .inl (if_neg e)
  | click =>
    show (if w = 1 then (1 : Int) else 0) = 0 ∨ Sign (if w = 1 then (1 : Int) else 0)
    split
    · exact .inr (.inl rfl)
    · exact .inl rfl
  | rocker =>
    show (if w = 1 ∧ x = 0 then (1 : Int) else 0) = 0 ∨ Sign (if w = 1 ∧ x = 0 then (1 : Int) else 0)
    split
    · exact .inr (.inl rfl)
    · exact .inl rfl
  | spring k =>
    show (if w = 1 then (if x = k - 1 then ((0 : Int), (1 : Int)) else (x + 1, 0)) else (if x - 1 > 0 then x - 1 else 0, 0)).2 = 0 ∨ Sign (if w = 1 then (if x = k - 1 then ((0 : Int), (1 : Int)) else (x + 1, 0)) else (if x - 1 > 0 then x - 1 else 0, 0)).2
    split
    · split
      · exact .inr (.inl rfl)
      · exact .inl rfl
    · exact .inl rfl
/-- one part's turn in a push that goes along a train -/
def stp (ps : List Part) (s : List Int × Int) (n : Nat) : List Int × Int :=
  if s.2 = 0 then s else match ps[n]?, s.1[n]? with
    | some p, some x => (s.1.set n (pp p x s.2).1, (pp p x s.2).2)
    | _, _ => s
def runN (ps : List Part) (i : Nat) (s : List Int × Int) : Nat → List Int × Int
  | 0 => s
  | n + 1 => stp ps (runN ps i s n) (i + n)
theorem stp_zero {ps : List Part} {s : List Int × Int} {n : Nat} (h : s.2 = 0) : stp ps s n = s := by
  unfold stp
  rw [if_pos h]
theorem stp_at {ps : List Part} {s : List Int × Int} {n : Nat} {p : Part} {x : Int} (h : s.2 ≠ 0) (hp : ps[n]? = some p) (hx : s.1[n]? = some x) : stp ps s n = (s.1.set n (pp p x s.2).1, (pp p x s.2).2) := by
  unfold stp
  rw [if_neg h, hp, hx]
theorem runN_zero {ps : List Part} {i : Nat} {s : List Int × Int} {n : Nat} (h : (runN ps i s n).2 = 0) : ∀ m, runN ps i s (n + m) = runN ps i s n
  | 0 => rfl
  | m + 1 => by
    show stp ps (runN ps i s (n + m)) _ = _
    rw [runN_zero h m]
    exact stp_zero h
theorem stp_len (ps : List Part) (s : List Int × Int) (n : Nat) : (stp ps s n).1.length = s.1.length := by
  unfold stp
  split
  · rfl
  · split
    · show (s.1.set n _).length = _
      rw [List.length_set]
    · rfl
theorem runN_len (ps : List Part) (i : Nat) (s : List Int × Int) : ∀ n, (runN ps i s n).1.length = s.1.length
  | 0 => rfl
  | n + 1 => by
    show (stp ps _ _).1.length = _
    rw [stp_len, runN_len ps i s n]
theorem stp_other {ps : List Part} {s : List Int × Int} {n m : Nat} (h : n ≠ m) : (stp ps s n).1[m]? = s.1[m]? := by
  unfold stp
  split
  · rfl
  · split
    · show (s.1.set n _)[m]? = _
      rw [List.getElem?_set_ne h]
    · rfl
/-- parts not come to yet stand as they stood -/
theorem runN_ahead (ps : List Part) (i : Nat) (s : List Int × Int) : ∀ n m, i + n ≤ m → (runN ps i s n).1[m]? = s.1[m]?
  | 0, _, _ => rfl
  | n + 1, m, h => by
    show (stp ps _ _).1[m]? = _
    rw [stp_other (by omega), runN_ahead ps i s n m (by omega)]
theorem runN_sign (ps : List Part) (i : Nat) (s : List Int × Int) (h : Sign s.2) : ∀ n, (runN ps i s n).2 = 0 ∨ Sign (runN ps i s n).2
  | 0 => .inr h
  | n + 1 => by
    show (stp ps _ _).2 = 0 ∨ Sign (stp ps _ _).2
    rcases runN_sign ps i s h n with e | e
    · rw [stp_zero e]
      exact .inl e
    · unfold stp
      split
      · rename_i z
        exact .inl z
      · split
        · exact pp_sign _ _ _ e
        · exact .inr e
def StandOk (ps : List Part) (xs : List Int) : Prop := xs.length = ps.length ∧ ∀ (i : Nat) (p : Part) (x : Int), ps[i]? = some p → xs[i]? = some x → 0 ≤ x ∧ x < p.places
def run (ps : List Part) (xs : List Int) (i : Nat) (w : Int) : List Int × Int := runN ps i (xs, w) (ps.length - i)
/-! what stands for a part -/
section
variable {K : PySem.W.Frag} {H : Hp}
theorem tup_inv {v : V} {ds : List PyData} (h : Dp K H v (.tuple ds)) : ∃ a vs, v = .ref a ∧ SqT K H a vs ∧ DpAll K H vs ds := by
  cases h with
  | tup h t => exact ⟨_, _, rfl, h, t⟩
theorem lst_inv {v : V} {ds : List PyData} (h : Dp K H v (.list ds)) : ∃ a vs, v = .ref a ∧ SqL K H a vs ∧ DpAll K H vs ds := by
  cases h with
  | lst h t => exact ⟨_, _, rfl, h, t⟩
theorem wheel_inv {v : V} {z : Int} {ms : List Int} (h : Dp K H v (Part.wheel z ms).data) : ∃ a b, v = .ref a ∧ SqT K H a [.str "wheel", .int z, .ref b] ∧ SqT K H b (ms.map V.int) := by
  obtain ⟨a, vs, rfl, hs, ht⟩ := tup_inv h
  cases ht with
  | cons h1 t1 => cases h1; cases t1 with
    | cons h2 t2 => cases h2; cases t2 with
      | cons h3 t3 =>
        cases t3
        obtain ⟨b, ws, rfl, hb, hw⟩ := tup_inv h3
        cases dpAll_ints_inv ms hw
        exact ⟨a, b, rfl, hs, hb⟩
theorem spring_inv {v : V} {k : Int} (h : Dp K H v (Part.spring k).data) : ∃ a, v = .ref a ∧ SqT K H a [.str "spring", .int k] := by
  obtain ⟨a, vs, rfl, hs, ht⟩ := tup_inv h
  cases ht with
  | cons h1 t1 => cases h1; cases t1 with
    | cons h2 t2 => cases h2; cases t2; exact ⟨a, rfl, hs⟩
theorem click_inv {v : V} (h : Dp K H v Part.click.data) : ∃ a, v = .ref a ∧ SqT K H a [.str "click"] := by
  obtain ⟨a, vs, rfl, hs, ht⟩ := tup_inv h
  cases ht with
  | cons h1 t1 => cases h1; cases t1; exact ⟨a, rfl, hs⟩
theorem rocker_inv {v : V} (h : Dp K H v Part.rocker.data) : ∃ a, v = .ref a ∧ SqT K H a [.str "rocker"] := by
  obtain ⟨a, vs, rfl, hs, ht⟩ := tup_inv h
  cases ht with
  | cons h1 t1 => cases h1; cases t1; exact ⟨a, rfl, hs⟩
theorem wheel_dp {a b : Addr} {z : Int} {ms : List Int} (h : SqT K H a [.str "wheel", .int z, .ref b]) (hb : SqT K H b (ms.map V.int)) : Dp K H (.ref a) (Part.wheel z ms).data :=
  .tup h (.cons (.str _) (.cons (.int _) (.cons (.tup hb (dpAll_ints ms)) .nil)))
theorem spring_dp {a : Addr} {k : Int} (h : SqT K H a [.str "spring", .int k]) : Dp K H (.ref a) (Part.spring k).data := .tup h (.cons (.str _) (.cons (.int _) .nil))
theorem click_dp {a : Addr} (h : SqT K H a [.str "click"]) : Dp K H (.ref a) Part.click.data := .tup h (.cons (.str _) .nil)
theorem rocker_dp {a : Addr} (h : SqT K H a [.str "rocker"]) : Dp K H (.ref a) Part.rocker.data := .tup h (.cons (.str _) .nil)
/-- a train at a: its parts -/
def TrainAt (K : PySem.W.Frag) (H : Hp) (a : Addr) (ps : List Part) : Prop := ∃ vs, SqL K H a vs ∧ DpAll K H vs (ps.map Part.data)
theorem TrainAt.same {H' : Hp} {a : Addr} {ps : List Part} (e : Same H H') (h : TrainAt K H a ps) : TrainAt K H' a ps := by
  obtain ⟨vs, h1, h2⟩ := h
  exact ⟨vs, e.seq h1, dpAll_same e h2⟩
theorem TrainAt.at {a : Addr} {ps : List Part} {vs : List V} (h2 : DpAll K H vs (ps.map Part.data)) {i : Nat} {p : Part} (e : ps[i]? = some p) : ∃ v, vs[i]? = some v ∧ Dp K H v p.data :=
  dpAll_get h2 (by rw [List.getElem?_map, e]; rfl)
end
/-- a list that is changed leaves the parts as they are -/
theorem sqT_upd {K : PySem.W.Frag} {H : Hp} {a l : Addr} {xs ws : List V} {o : HO} (h : SqT K H a xs) (hl : H l = some (.lst ws)) : SqT K (upd H l o) a xs := by
  rcases h with (h | ⟨u, h⟩) | h
  · exact .inl (.inl (by rw [upd_ne (ne_of h hl (by intro z; cases z))]; exact h))
  · exact .inl (.inr ⟨u, by rw [upd_ne (ne_of h hl (by intro z; cases z))]; exact h⟩)
  · exact .inr h
theorem part_upd {K : PySem.W.Frag} {H : Hp} {l : Addr} {ws : List V} {o : HO} {v : V} {p : Part} (h : Dp K H v p.data) (hl : H l = some (.lst ws)) : Dp K (upd H l o) v p.data := by
  cases p with
  | wheel z ms =>
    obtain ⟨a, b, rfl, ha, hb⟩ := wheel_inv h
    exact wheel_dp (sqT_upd ha hl) (sqT_upd hb hl)
  | click =>
    obtain ⟨a, rfl, ha⟩ := click_inv h
    exact click_dp (sqT_upd ha hl)
  | rocker =>
    obtain ⟨a, rfl, ha⟩ := rocker_inv h
    exact rocker_dp (sqT_upd ha hl)
  | spring k =>
    obtain ⟨a, rfl, ha⟩ := spring_inv h
    exact spring_dp (sqT_upd ha hl)
theorem parts_upd {K : PySem.W.Frag} {H : Hp} {l : Addr} {ws : List V} {o : HO} (hl : H l = some (.lst ws)) : ∀ {vs : List V} (ps : List Part), DpAll K H vs (ps.map Part.data) → DpAll K (upd H l o) vs (ps.map Part.data)
  | _, [], .nil => .nil
  | _, p :: r, .cons h t => .cons (part_upd h hl) (parts_upd hl r t)
theorem stands_app : ∀ (ps : List Part) (p : Part), stands (ps ++ [p]) = stands ps * p.places
  | [], p => by
    show p.places * 1 = 1 * p.places
    rw [Int.mul_one, Int.one_mul]
  | a :: r, p => by
    show a.places * stands (r ++ [p]) = a.places * stands r * p.places
    rw [stands_app r p, Int.mul_assoc]
theorem stands_pos : ∀ (ps : List Part), (∀ p ∈ ps, p.ok) → 1 ≤ stands ps
  | [], _ => Int.le_refl _
  | a :: r, h => by
    have h1 := (h a List.mem_cons_self).pos.1
    have h2 := stands_pos r fun p hp => h p (List.mem_cons_of_mem _ hp)
    show 1 ≤ a.places * stands r
    have := Int.mul_le_mul h1 h2 (by decide) (by omega)
    omega
theorem room_step {s pl room most : Int} (hs : 1 ≤ s) (h1 : 1 ≤ pl) (h2 : pl ≤ room) (h : s * room ≤ most) : 1 ≤ room / pl ∧ s * pl * (room / pl) ≤ most := by
  refine ⟨Int.le_ediv_of_mul_le (by omega) (by omega), ?_⟩
  rw [Int.mul_assoc]
  exact Int.le_trans (Int.mul_le_mul_of_nonneg_left (Int.mul_ediv_self_le (by omega)) (by omega)) h
theorem room_end {s room most : Int} (hs : 1 ≤ s) (h1 : 1 ≤ room) (h : s * room ≤ most) : s ≤ most := by
  have := Int.mul_le_mul_of_nonneg_left h1 (show 0 ≤ s by omega)
  omega
/-! data that can be laid -/
theorem canLay_ints : ∀ ns : List Int, PyData.canLayAll0 (ns.map PyData.int) = true
  | [] => rfl
  | n :: r => by
    rw [List.map_cons, PyData.canLayAll0, canLay_ints r]
    rfl
theorem lay_all {n : Nat} : ∀ ds : List PyData, (∀ d ∈ ds, d.canLay0 = true ∧ d.depth ≤ n) → PyData.canLayAll0 ds = true ∧ PyData.depthAll ds ≤ n
  | [], _ => ⟨rfl, Nat.zero_le _⟩
  | d :: r, h => by
    have h1 := h d List.mem_cons_self
    have h2 := lay_all r fun e he => h e (List.mem_cons_of_mem _ he)
    rw [PyData.canLayAll0, PyData.depthAll, h1.1, h2.1]
    exact ⟨rfl, Nat.max_le.mpr ⟨h1.2, h2.2⟩⟩
theorem lay_tup {n : Nat} {ds : List PyData} (h : ∀ d ∈ ds, d.canLay0 = true ∧ d.depth ≤ n) : (PyData.tuple ds).canLay0 = true ∧ (PyData.tuple ds).depth ≤ n + 1 := by
  obtain ⟨h1, h2⟩ := lay_all ds h
  rw [PyData.canLay0, PyData.depth]
  exact ⟨h1, by omega⟩
theorem lay_lst {n : Nat} {ds : List PyData} (h : ∀ d ∈ ds, d.canLay0 = true ∧ d.depth ≤ n) : (PyData.list ds).canLay0 = true ∧ (PyData.list ds).depth ≤ n + 1 := by
  obtain ⟨h1, h2⟩ := lay_all ds h
  rw [PyData.canLay0, PyData.depth]
  exact ⟨h1, by omega⟩
theorem lay_int (n : Nat) (i : Int) : (PyData.int i).canLay0 = true ∧ (PyData.int i).depth ≤ n := ⟨rfl, Nat.zero_le _⟩
theorem lay_str (n : Nat) (x : Str) (h : (PyData.str x).canLay0 = true := by decide +kernel) : (PyData.str x).canLay0 = true ∧ (PyData.str x).depth ≤ n := ⟨h, Nat.zero_le _⟩
theorem lay_ints (ns : List Int) (n : Nat) : ∀ d ∈ ns.map PyData.int, d.canLay0 = true ∧ d.depth ≤ n := fun d hd => by
  obtain ⟨i, _, rfl⟩ := List.mem_map.mp hd
  exact lay_int n i
theorem lay_mono {d : PyData} {n m : Nat} (h : d.canLay0 = true ∧ d.depth ≤ n) (e : n ≤ m) : d.canLay0 = true ∧ d.depth ≤ m := ⟨h.1, Nat.le_trans h.2 e⟩
theorem lay_part (p : Part) : p.data.canLay0 = true ∧ p.data.depth ≤ 2 := by
  cases p with
  | wheel z ms =>
    refine lay_tup (n := 1) fun d hd => ?_
    rcases List.mem_cons.mp hd with rfl | hd
    · exact lay_str _ _
    rcases List.mem_cons.mp hd with rfl | hd
    · exact lay_int _ _
    rcases List.mem_cons.mp hd with rfl | hd
    · exact lay_tup (lay_ints ms 0)
    · cases hd
  | click => exact lay_mono (lay_tup (n := 0) fun d hd => by
      rcases List.mem_cons.mp hd with rfl | hd
      · exact lay_str _ _
      · cases hd) (by decide)
  | rocker => exact lay_mono (lay_tup (n := 0) fun d hd => by
      rcases List.mem_cons.mp hd with rfl | hd
      · exact lay_str _ _
      · cases hd) (by decide)
  | spring k => exact lay_mono (lay_tup (n := 0) fun d hd => by
      rcases List.mem_cons.mp hd with rfl | hd
      · exact lay_str _ _
      rcases List.mem_cons.mp hd with rfl | hd
      · exact lay_int _ _
      · cases hd) (by decide)
theorem lay_train (ps : List Part) : (PyData.list (ps.map Part.data)).canLay0 = true ∧ (PyData.list (ps.map Part.data)).depth ≤ 3 := lay_lst fun d hd => by
  obtain ⟨p, _, rfl⟩ := List.mem_map.mp hd
  exact lay_part p
theorem shaped_of {d : PyData} {n : Nat} (h : d.canLay0 = true ∧ d.depth ≤ n) (e : n ≤ 64) : SeqAt.shaped d = true := by
  unfold SeqAt.shaped
  rw [h.1, decide_eq_true (Nat.le_trans h.2 e)]
  rfl
theorem lay_told (xs : List Int) (y : Int) : (PyData.tuple [.tuple (xs.map PyData.int), .int y]).canLay0 = true ∧ (PyData.tuple [.tuple (xs.map PyData.int), .int y]).depth ≤ 2 := lay_tup (n := 1) fun d hd => by
  rcases List.mem_cons.mp hd with rfl | hd
  · exact lay_tup (lay_ints xs 0)
  rcases List.mem_cons.mp hd with rfl | hd
  · exact lay_int _ _
  · cases hd
theorem w_neSame {K : PySem.W.Frag} {H : Hp} {Q : VK} {x y : V} (d : PyData) {n : Nat} (hx : Dp K H x d) (hy : Dp K H y d) (h : d.canLay0 = true ∧ d.depth ≤ n) (e : n ≤ 64) (q : Q (.bl false) H) : rNeD K x y H Q :=
  ⟨d, d, hx, hy, shaped_of h e, shaped_of h e, by rw [SeqAt.eqv_refl d h.1]; exact q⟩
theorem tyx_T {K : PySem.W.Frag} {H : Hp} {a : Addr} {xs : List V} (h : SqT K H a xs) : TyX K H (.ref a) (.type "tuple") := by
  rcases h with (h | ⟨o, h⟩) | ⟨o, its, n, hk, hc, _⟩
  · exact .base (.tup h)
  · exact .fTuple h
  · exact .kTuple hk hc
theorem tyx_L {K : PySem.W.Frag} {H : Hp} {a : Addr} {xs : List V} (h : SqL K H a xs) : TyX K H (.ref a) (.type "list") := by
  rcases h with (h | ⟨o, h⟩) | ⟨o, its, n, hk, hc, _⟩
  · exact .base (.lst h)
  · exact .base (.frz h)
  · exact .kList hk hc
end Ct

namespace Ct
open PySem PySem.Spec PyProof.Rows L2
/-! zip of a list and a tuple: the list first -/
def ItM (K : PySem.W.Frag) (a b : Addr) : It where
  go := fun i H => ∃ (xs ys : List V) (x y : V), SqL K H a xs ∧ SqT K H b ys ∧ xs[i]? = some x ∧ ys[i]? = some y
  yld := fun i H v H' => ∃ T x y, v = .ref T ∧ H T = none ∧ H' = upd H T (.tup [x, y]) ∧ (∀ xs, SqL K H a xs → xs[i]? = some x) ∧ ∀ ys, SqT K H b ys → ys[i]? = some y
  stop := fun i H => ∃ xs ys : List V, SqL K H a xs ∧ SqT K H b ys ∧ min xs.length ys.length = i
abbrev ZSt (a b z TI TO i1 i2 : Addr) (i : Nat) (h : Heap) : Prop :=
  IsZip h z TI TO .none ∧ IsTupOf2 h TI (.ref i1) (.ref i2) ∧ (∃ a1 a2, IsTupOf2 h TO a1 a2) ∧ h.IsListIter i1 a i ∧ h.IsTupleIter i2 b i
theorem turnM {P : Program} {w : World} {K : PySem.W.Frag} {es : List Expr} {kk : Nat} {tp : Pos} {a b N : Nat} (ha : a < N) (hb : b < N) :
    Turn P w K (.Tuple es kk tp) (ItM K a b) [N + 4, N + 2, N + 3, N, N + 1] (N + 4) (ZSt a b (N + 4) (N + 2) (N + 3) N (N + 1)) := by
  have five : ∀ {c : Nat}, c ∈ [N + 4, N + 2, N + 3, N, N + 1] → N ≤ c := fun {c} hc => by
    simp only [List.mem_cons, List.not_mem_nil, or_false] at hc
    omega
  have sep : ZipSep2 (N + 4) (N + 2) (N + 3) N (N + 1) [N, a] [N + 1, b] := zip_sep2 (fun c hc => by rw [List.mem_singleton] at hc; rw [hc]; exact ha) fun c hc => by rw [List.mem_singleton] at hc; rw [hc]; exact hb
  have wrfp : ∀ {c : Nat}, c ∉ [N + 4, N + 2, N + 3, N, N + 1] → c ∉ [N + 4, N + 3, N, N + 1] := fun {c} hc hm => hc (by
    simp only [List.mem_cons, List.not_mem_nil, or_false] at hm ⊢
    omega)
  refine ⟨List.mem_cons_self, fun i h st c hc => ?_, fun i h h' st k => ?_, ?_, ?_, fun A i s Q E st h => wpAny_pyIter_zip st.1 h⟩
  · obtain ⟨s1, s2, ⟨u, v, s3⟩, ⟨o1, g1, _, d1⟩, ⟨o2, g2, _, d2⟩⟩ := st
    simp only [List.mem_cons, List.not_mem_nil, or_false] at hc
    rcases hc with e | e | e | e | e <;> subst e
    · exact ⟨_, s1, fun v q => nomatch q⟩
    · exact ⟨_, s2, fun v q => nomatch q⟩
    · exact ⟨_, s3, fun v q => nomatch q⟩
    · exact ⟨o1, g1, fun v q => by rw [d1] at q; cases q⟩
    · exact ⟨o2, g2, fun v q => by rw [d2] at q; cases q⟩
  · obtain ⟨s1, s2, ⟨u, v, s3⟩, s4, s5⟩ := st
    exact ⟨k _ (by simp) _ s1, k _ (by simp) _ s2, ⟨u, v, k _ (by simp) _ s3⟩, s4.at fun o q => k N (by simp) o q, s5.at fun o q => k (N + 1) (by simp) o q⟩
  · intro X eP ew eK calm i pins s σ H E I hf st hg
    subst eP ew eK
    obtain ⟨xs, ys, x, y, lx, ty, gx, gy⟩ := hg
    obtain ⟨us, rx, px, _⟩ := I.list lx
    obtain ⟨vs, ry, py, _⟩ := I.tuple ty
    obtain ⟨s1, s2, s3, s4, s5⟩ := st
    have hh : X.A.in1.handled = none := I.ok.hd calm
    have G := GoesN.zip2 (elts := es) (x1 := kk) (pos := tp) sep (Draws.list (prog := X.prog) (w := X.w) hh N a (Nat.ne_of_lt ha) us.toArray) (Draws.tuple (prog := X.prog) (w := X.w) hh (N + 1) b (Nat.ne_of_lt (Nat.lt_succ_of_lt hb)) vs.toArray)
    have lu := rx.length
    have lv := ry.length
    have ix : i < xs.length := (List.getElem?_eq_some_iff.mp gx).1
    have iy : i < ys.length := (List.getElem?_eq_some_iff.mp gy).1
    refine G.goes i s _ E (by rw [List.size_toArray, List.size_toArray]; omega) ⟨s1, s2, s3, ⟨s4, px.isList⟩, ⟨s5, py⟩⟩ fun v h' tk hY st' hk _ => ?_
    obtain ⟨T, u1, u2, rfl, hT, q1, q2, hTu⟩ := hY
    obtain ⟨w1, e1, r1⟩ := rx.get gx
    obtain ⟨w2, e2, r2⟩ := ry.get gy
    have f1 : w1 = u1 := Option.some.inj (e1.symm.trans (by simpa using q1))
    have f2 : w2 = u2 := Option.some.inj (e2.symm.trans (by simpa using q2))
    subst f1 f2
    have new : ObjOk X.prog X.w (upd H T (.tup [x, y])) h' T (.tup [x, y]) := ⟨len2 rfl, [w1, w2], .cons r1 (.cons r2 .nil), hTu⟩
    refine ⟨.ref T, _, I.turnedNew (t' := tk) (fun c o hc e => hk c o (wrfp hc) e) hf hT new, rfl, ⟨T, x, y, rfl, I.hok.fresh hT, rfl, fun l hl => by rw [I.list_inj hl lx]; exact gx, fun l hl => by rw [I.tuple_inj hl ty]; exact gy⟩, ⟨st'.1, st'.2.1, st'.2.2.1, st'.2.2.2.1.1, st'.2.2.2.2.1⟩, fun c hc => ?_⟩
    obtain ⟨o, g, _⟩ : ∃ o, s.heap.get? c = some o ∧ True := by
      obtain ⟨u, v, s3⟩ := s3
      obtain ⟨o1, g1, _⟩ := s4
      obtain ⟨o2, g2, _⟩ := s5
      simp only [List.mem_cons, List.not_mem_nil, or_false] at hc
      rcases hc with e | e | e | e | e <;> subst e
      · exact ⟨_, s1, trivial⟩
      · exact ⟨_, s2, trivial⟩
      · exact ⟨_, s3, trivial⟩
      · exact ⟨_, g1, trivial⟩
      · exact ⟨_, g2, trivial⟩
    rw [upd_ne (Nat.ne_of_lt (Nat.lt_of_lt_of_le (Heap.lt_size g) hT))]
    exact (hf c hc).1
  · intro X eP ew eK calm i pins s σ H E I hf st hg
    subst eP ew eK
    obtain ⟨xs, ys, lx, ty, hm⟩ := hg
    obtain ⟨us, rx, px, _⟩ := I.list lx
    obtain ⟨vs, ry, py, _⟩ := I.tuple ty
    obtain ⟨s1, s2, s3, s4, s5⟩ := st
    have hh : X.A.in1.handled = none := I.ok.hd calm
    have G := GoesN.zip2 (elts := es) (x1 := kk) (pos := tp) sep (Draws.list (prog := X.prog) (w := X.w) hh N a (Nat.ne_of_lt ha) us.toArray) (Draws.tuple (prog := X.prog) (w := X.w) hh (N + 1) b (Nat.ne_of_lt (Nat.lt_succ_of_lt hb)) vs.toArray)
    have lu := rx.length
    have lv := ry.length
    have hn : min us.toArray.size vs.toArray.size = i := by rw [List.size_toArray, List.size_toArray]; omega
    rw [hn] at G
    exact G.stops s _ E ⟨s1, s2, s3, ⟨s4, px.isList⟩, ⟨s5, py⟩⟩ fun h' tk hk _ => I.turnedL (t' := tk) (fun c o hc e => hk c o (wrfp hc) e) hf
def iM (K : PySem.W.Frag) (ta : TA) : TI := fun σ H R => ta σ H fun vs H1 => ∃ a b xs ys, vs = [.ref a, .ref b] ∧ SqL K H1 a xs ∧ SqT K H1 b ys ∧ R (ItM K a b) H1
theorem pi_zipM {X : Cx} {e e2 : Expr} {ta : TA} {p pos tp : Pos} {es : List Expr} {kk : Nat} (gl : Gl X "zip") (mz : X.mg "zip" = none) (pa : PA X [e, e2] ta)
    (se : starEach [e, e2] X.env = (false, eval e X.env) :: starEach [e2] X.env := by rfl) (bk : (backTo pos (starEach [e2] X.env)).any (·.1) = false := by rfl) : PI X (.Tuple es kk tp) (.Call (.Name "zip" p) [e, e2] [] pos) (iM X.K ta) := by
  refine ⟨fun pins s σ H R I h => Call_ (ld_blt I gl mz boot_zip (callWith_type1 (thn (pa.run pos pins s σ H _ I h) fun us s1 ⟨vs, H1, I1, r1, q1⟩ => ?_) se bk))⟩
  obtain ⟨a, b, xs, ys, rfl, lx, ty, q⟩ := q1
  cases r1 with
  | cons ra rr => cases rr with
    | cons rb rn =>
      cases rn
      cases ra
      cases rb
      obtain ⟨us, rx, px, _⟩ := I1.list lx
      obtain ⟨vs, ry, py, _⟩ := I1.tuple ty
      obtain ⟨ob, gb, _⟩ := id py
      refine zip_begins2 (begins_list a us.toArray) (begins_tuple b vs.toArray) px.isList py fun h' z1 z2 z3 g1 g2 _ hk => wpAny_pyIter_zip z1 ?_
      have I2 : Inv X pins σ H1 { s1 with heap := h' } := I1.kept (t' := s1.toks) hk
      refine ⟨_, _, _, _, H1, rfl, I2, turnM px.lt (Heap.lt_size gb), ⟨z1, z2, ⟨_, _, z3⟩, ⟨_, g1, rfl, rfl⟩, ⟨_, g2, rfl, rfl⟩⟩, fun c hc => ?_, q⟩
      have hle : s1.heap.objs.size ≤ c := by
        simp only [List.mem_cons, List.not_mem_nil, or_false] at hc
        rcases hc with e | e | e | e | e <;> subst e <;> first | exact Nat.le_add_right _ _ | exact Nat.le_refl _
      exact I1.fpOk hle (I1.hok.fresh hle)
section
variable {K : PySem.W.Frag} {H : Hp} {σ : L2.St} {D : Ends} {R : It → Hp → Prop}
def IM (K : PySem.W.Frag) (vs : List V) (H : Hp) (R : It → Hp → Prop) : Prop := iM K (fun _ H Q => Q vs H) [] H R
theorem w_im {ta : TA} (h : ta σ H fun vs H1 => IM K vs H1 R) : iM K ta σ H R := h
theorem w_IM {a b : Addr} {xs ys : List V} (h1 : SqL K H a xs) (h2 : SqT K H b ys) (q : R (ItM K a b) H) : IM K [.ref a, .ref b] H R := ⟨a, b, xs, ys, rfl, h1, h2, q⟩
theorem fb_zipM {a b : Addr} (xs ys : List V) (hl : xs.length = ys.length) {g : TG} {tb : TS} (Pv : Nat → L2.St → Hp → Prop) (h0 : Pv 0 σ H) (hq : ∀ i σ H, i ≤ xs.length → Pv i σ H → SqL K H a xs ∧ SqT K H b ys)
    (hs : ∀ i x y T σ H, xs[i]? = some x → ys[i]? = some y → Pv i σ H → H T = none → g (.ref T) σ (upd H T (.tup [x, y])) fun σ2 H2 => tb { D with nx := Pv (i + 1), ct := Pv (i + 1), bk := D.nx } σ2 H2) (hd : ∀ σ H, Pv xs.length σ H → D.nx σ H) : FB (ItM K a b) g tb D σ H := by
  refine ⟨fun i m σ H => m = xs.length - i ∧ i ≤ xs.length ∧ Pv i σ H, ⟨xs.length, rfl, Nat.zero_le _, h0⟩, ?_⟩
  rintro i m σ H ⟨rfl, hi, p⟩
  obtain ⟨q1, q2⟩ := hq i σ H hi p
  by_cases hlt : i < xs.length
  · refine .inr ⟨⟨xs, ys, _, _, q1, q2, List.getElem?_eq_getElem hlt, List.getElem?_eq_getElem (hl ▸ hlt)⟩, Pv (i + 1), fun σ' H' p' => ⟨xs.length - (i + 1), by omega, rfl, hlt, p'⟩, fun v H' y => ?_⟩
    obtain ⟨T, x1, x2, rfl, hT, rfl, f1, f2⟩ := y
    exact hs i x1 x2 T σ H (f1 _ q1) (f2 _ q2) p hT
  · exact .inl ⟨⟨xs, ys, q1, q2, by omega⟩, hd σ H (by rw [show xs.length = i by omega]; exact p)⟩
end
end Ct

namespace Ct
open PySem PySem.Spec PyProof.Rows L2
/-! pushes of one deed, reckoned at once -/
def cnt (ms : List Int) (r : Int) : Int := ((ms.filter fun m => decide (m ≤ r)).length : Int)
theorem cnt_nil (r : Int) : cnt [] r = 0 := rfl
theorem cnt_cons (m : Int) (ms : List Int) (r : Int) : cnt (m :: ms) r = (if m ≤ r then 1 else 0) + cnt ms r := by
  unfold cnt
  rw [List.filter_cons]
  by_cases h : m ≤ r
  · rw [if_pos h, if_pos (decide_eq_true h), List.length_cons]
    omega
  · rw [if_neg h, if_neg (by rw [decide_eq_false h]; exact Bool.false_ne_true)]
    omega
theorem cnt_all : ∀ {ms : List Int} {r : Int}, (∀ m ∈ ms, m ≤ r) → cnt ms r = ms.length
  | [], _, _ => rfl
  | m :: ms, r, h => by
    rw [cnt_cons, if_pos (h m List.mem_cons_self), cnt_all fun x hx => h x (List.mem_cons_of_mem _ hx), List.length_cons]
    omega
theorem cnt_zero : ∀ {ms : List Int} {r : Int}, (∀ m ∈ ms, r < m) → cnt ms r = 0
  | [], _, _ => rfl
  | m :: ms, r, h => by
    have h1 := h m List.mem_cons_self
    rw [cnt_cons, if_neg (by omega), cnt_zero fun x hx => h x (List.mem_cons_of_mem _ hx)]
    rfl
theorem cnt_split : ∀ (ms : List Int) (k : Nat) (r : Int), k ≤ ms.length → (∀ (j : Nat) (m : Int), j < k → ms[j]? = some m → m ≤ r) → (∀ (j : Nat) (m : Int), k ≤ j → ms[j]? = some m → r < m) → cnt ms r = k
  | ms, 0, r, _, _, h => cnt_zero fun m hm => by
    obtain ⟨j, hj, e⟩ := List.mem_iff_getElem.mp hm
    exact h j m (Nat.zero_le _) (by rw [List.getElem?_eq_getElem hj, e])
  | [], k + 1, r, hk, _, _ => absurd hk (by simp)
  | m :: ms, k + 1, r, hk, h1, h2 => by
    rw [cnt_cons, if_pos (h1 0 m (Nat.succ_pos k) rfl), cnt_split ms k r (by rw [List.length_cons] at hk; omega) (fun j x hj hx => h1 (j + 1) x (by omega) hx) fun j x hj hx => h2 (j + 1) x (by omega) hx]
    omega
theorem cnt_step : ∀ {ms : List Int} (r : Int), ms.Pairwise (· < ·) → cnt ms r = cnt ms (r - 1) + (if r ∈ ms then 1 else 0)
  | [], _, _ => rfl
  | m :: ms, r, h => by
    obtain ⟨h1, h2⟩ := List.pairwise_cons.mp h
    have ih := cnt_step r h2
    rw [cnt_cons, cnt_cons, ih]
    by_cases e : r = m
    · subst e
      have hn : r ∉ ms := fun z => by
        have := h1 r z
        omega
      rw [if_neg hn, if_pos List.mem_cons_self, if_pos (Int.le_refl _), if_neg (by omega)]
      omega
    · have hm : (r ∈ m :: ms) ↔ r ∈ ms := ⟨fun z => (List.mem_cons.mp z).resolve_left e, fun z => List.mem_cons_of_mem _ z⟩
      by_cases hr : r ∈ ms
      · rw [if_pos hr, if_pos (hm.mpr hr)]
        by_cases h3 : m ≤ r
        · rw [if_pos h3, if_pos (by omega)]
          omega
        · rw [if_neg h3, if_neg (by omega)]
          omega
      · rw [if_neg hr, if_neg (fun z => hr (hm.mp z))]
        by_cases h3 : m ≤ r
        · rw [if_pos h3, if_pos (by omega)]
          omega
        · rw [if_neg h3, if_neg (by omega)]
          omega
/-- marks up to a tooth, over all turns -/
def mah (z : Int) (ms : List Int) (y : Int) : Int := y / z * (ms.length : Int) + cnt ms (y % z)
theorem mah_step {z : Int} {ms : List Int} (hz : 1 ≤ z) (rs : Rise z ms) (y : Int) : mah z ms y = mah z ms (y - 1) + (if y % z ∈ ms then 1 else 0) := by
  unfold mah
  have e := Int.emod_add_mul_ediv y z
  have r0 := Int.emod_nonneg y (show z ≠ 0 by omega)
  have r1 := Int.emod_lt_of_pos y (show 0 < z by omega)
  by_cases h : y % z = 0
  · obtain ⟨e1, e2⟩ := (Int.ediv_emod_unique (a := y - 1) (b := z) (r := z - 1) (q := y / z - 1) (by omega)).mpr ⟨by rw [Int.mul_sub]; omega, by omega, by omega⟩
    rw [e1, e2, h, cnt_all (ms := ms) (r := z - 1) (fun m hm => by have := (rs.2 m hm).2; omega), cnt_step 0 rs.1, cnt_zero (ms := ms) (r := 0 - 1) (fun m hm => by have := (rs.2 m hm).1; omega), Int.sub_mul]
    omega
  · obtain ⟨e1, e2⟩ := (Int.ediv_emod_unique (a := y - 1) (b := z) (r := y % z - 1) (q := y / z) (by omega)).mpr ⟨by omega, by omega, by omega⟩
    rw [e1, e2, cnt_step (y % z) rs.1]
    omega
theorem mah_up {z : Int} {ms : List Int} (hz : 1 ≤ z) (rs : Rise z ms) (y : Int) : ∀ t : Nat, mah z ms y ≤ mah z ms (y + t)
  | 0 => by rw [show y + ((0 : Nat) : Int) = y by omega]; exact Int.le_refl _
  | t + 1 => by
    have h := mah_step hz rs (y + ((t + 1 : Nat) : Int))
    rw [show y + ((t + 1 : Nat) : Int) - 1 = y + t by omega] at h
    have ih := mah_up hz rs y t
    rw [h]
    split <;> omega
/-- so many pushes one way at a part: its place, and how many it gives -/
def pt (p : Part) (x w t : Int) : Int × Int := match p with
  | .wheel z ms => ((x + w * t) % z, if mah z ms (x + w * t) - mah z ms x < 0 then -(mah z ms (x + w * t) - mah z ms x) else mah z ms (x + w * t) - mah z ms x)
  | .click => (x, if w = 1 then t else 0)
  | .rocker => if t = 0 then (x, 0) else if w = -1 then (0, 0) else (1, 1 - x)
  | .spring k => if w = -1 then (if x - t > 0 then x - t else 0, 0) else ((x + t) % k, (x + t) / k)
theorem pt_zero {p : Part} {x w : Int} (ok : p.ok) (h0 : 0 ≤ x) (h1 : x < p.places) : pt p x w 0 = (x, 0) := by
  cases p with
  | wheel z ms =>
    have h2 : x < z := h1
    simp only [pt, Int.mul_zero, Int.add_zero, Int.emod_eq_of_lt h0 h2, Int.sub_self]
    rfl
  | click =>
    simp only [pt]
    split <;> rfl
  | rocker => rfl
  | spring k =>
    have h2 : x < k := h1
    simp only [pt]
    split
    · rw [show (if x - 0 > 0 then x - 0 else 0) = x by split <;> omega]
    · rw [Int.add_zero, Int.emod_eq_of_lt h0 h2, Int.ediv_eq_zero_of_lt h0 h2]
theorem pp_way (p : Part) (x w : Int) (h : Sign w) : (pp p x w).2 = 0 ∨ (pp p x w).2 = w := by
  cases p with
  | wheel z ms =>
    by_cases e : (if w = 1 then (x + w) % z else x) ∈ ms
    · exact .inr (if_pos e)
    · exact .inl (if_neg e)
  | click =>
    by_cases e : w = 1
    · exact .inr (by simp only [pp, if_pos e]; exact e.symm)
    · exact .inl (if_neg e)
  | rocker =>
    by_cases e : w = 1 ∧ x = 0
    · exact .inr (by simp only [pp, if_pos e]; exact e.1.symm)
    · exact .inl (if_neg e)
  | spring k =>
    by_cases e : w = 1
    · by_cases e2 : x = k - 1
      · exact .inr (by simp only [pp, if_pos e, if_pos e2]; exact e.symm)
      · exact .inl (by simp only [pp, if_pos e, if_neg e2])
    · exact .inl (by simp only [pp, if_neg e])
theorem neg_abs {d : Int} (h : 0 ≤ d) : (if d < 0 then -d else d) = d := if_neg (by omega)
theorem abs_neg {d : Int} (h : d ≤ 0) : (if d < 0 then -d else d) = -d := by
  split <;> omega
/-- one push more -/
theorem pt_step {p : Part} {x w : Int} (ok : p.ok) (h0 : 0 ≤ x) (h1 : x < p.places) (hw : Sign w) (t : Nat) :
    pt p x w ((t + 1 : Nat) : Int) = ((pp p (pt p x w t).1 w).1, (pt p x w t).2 + if (pp p (pt p x w t).1 w).2 = 0 then 0 else 1) := by
  cases p with
  | wheel z ms =>
    have hz : 1 ≤ z := ok.1
    have rs : Rise z ms := ok.2.2.1
    rcases hw with rfl | rfl
    · have u1 := mah_up hz rs x t
      have u2 := mah_up hz rs x (t + 1)
      have st := mah_step hz rs (x + ((t + 1 : Nat) : Int))
      rw [show x + ((t + 1 : Nat) : Int) - 1 = x + t by omega] at st
      simp only [pt, pp, Int.one_mul, if_true]
      rw [neg_abs (by omega), neg_abs (by omega)]
      have em : ((x + (t : Int)) % z + 1) % z = (x + ((t + 1 : Nat) : Int)) % z := by
        rw [Int.emod_add_emod]
        congr 1
        omega
      rw [em]
      by_cases hm : (x + ((t + 1 : Nat) : Int)) % z ∈ ms
      · rw [if_pos hm] at st ⊢
        rw [if_neg (by decide)]
        exact Prod.ext rfl (by show mah z ms _ - mah z ms x = mah z ms _ - mah z ms x + 1; omega)
      · rw [if_neg hm] at st ⊢
        rw [if_pos rfl]
        exact Prod.ext rfl (by show mah z ms _ - mah z ms x = mah z ms _ - mah z ms x + 0; omega)
    · have v1 := mah_up hz rs (x - t) t
      have v2 := mah_up hz rs (x - ((t + 1 : Nat) : Int)) (t + 1)
      have st := mah_step hz rs (x - t)
      rw [show x - t + t = x by omega] at v1
      rw [show x - ((t + 1 : Nat) : Int) + ((t + 1 : Nat) : Int) = x by omega] at v2
      simp only [pt, pp, show ∀ y : Int, x + -1 * y = x - y from fun y => by omega, if_neg (show ¬ (-1 : Int) = 1 by decide)]
      rw [abs_neg (by omega), abs_neg (by omega)]
      have em : ((x - (t : Int)) % z + -1) % z = (x - ((t + 1 : Nat) : Int)) % z := by
        rw [Int.emod_add_emod]
        congr 1
        omega
      rw [em]
      rw [show x - (t : Int) - 1 = x - ((t + 1 : Nat) : Int) by omega] at st
      by_cases hm : (x - (t : Int)) % z ∈ ms
      · rw [if_pos hm] at st ⊢
        rw [if_neg (by decide)]
        exact Prod.ext rfl (by show -(mah z ms _ - mah z ms x) = -(mah z ms _ - mah z ms x) + 1; omega)
      · rw [if_neg hm] at st ⊢
        rw [if_pos rfl]
        exact Prod.ext rfl (by show -(mah z ms _ - mah z ms x) = -(mah z ms _ - mah z ms x) + 0; omega)
  | click =>
    have h2 : x < 1 := h1
    have ex : x = 0 := by omega
    subst ex
    rcases hw with rfl | rfl
    · simp only [pt, pp, if_true]
      rw [if_neg (by decide)]
      exact Prod.ext rfl (by show ((t + 1 : Nat) : Int) = (t : Int) + 1; omega)
    · rfl
  | rocker =>
    have h2 : x < 2 := h1
    rcases hw with rfl | rfl
    · simp only [pt, pp, if_neg (show ¬ ((t + 1 : Nat) : Int) = 0 by omega), if_neg (show ¬ (1 : Int) = -1 by decide), if_true]
      by_cases ht : (t : Int) = 0
      · rw [if_pos ht]
        by_cases hx : x = 0
        · subst hx
          rfl
        · have hx1 : x = 1 := by omega
          subst hx1
          rfl
      · rw [if_neg ht]
        simp
    · simp only [pt, pp, if_neg (show ¬ ((t + 1 : Nat) : Int) = 0 by omega), if_true]
      by_cases ht : (t : Int) = 0
      · rw [if_pos ht]
        rfl
      · rw [if_neg ht]
        rfl
  | spring k =>
    have h2 : x < k := h1
    have hk : 1 ≤ k := ok.1
    rcases hw with rfl | rfl
    · simp only [pt, pp, if_neg (show ¬ (1 : Int) = -1 by decide), if_true]
      have e := Int.emod_add_mul_ediv (x + t) k
      have r0 := Int.emod_nonneg (x + t) (show k ≠ 0 by omega)
      have r1 := Int.emod_lt_of_pos (x + t) (show 0 < k by omega)
      by_cases hx : (x + (t : Int)) % k = k - 1
      · obtain ⟨e1, e2⟩ := (Int.ediv_emod_unique (a := x + ((t + 1 : Nat) : Int)) (b := k) (r := 0) (q := (x + t) / k + 1) (by omega)).mpr ⟨by rw [Int.mul_add]; omega, by omega, by omega⟩
        rw [if_pos hx, e1, e2]
        rfl
      · obtain ⟨e1, e2⟩ := (Int.ediv_emod_unique (a := x + ((t + 1 : Nat) : Int)) (b := k) (r := (x + t) % k + 1) (q := (x + t) / k) (by omega)).mpr ⟨by omega, by omega, by omega⟩
        rw [if_neg hx, e1, e2]
        exact Prod.ext rfl (by show (x + (t : Int)) / k = (x + (t : Int)) / k + 0; omega)
    · simp only [pt, pp, if_true, if_neg (show ¬ (-1 : Int) = 1 by decide)]
      refine Prod.ext ?_ rfl
      show (if x - ((t + 1 : Nat) : Int) > 0 then x - ((t + 1 : Nat) : Int) else 0) = (if (if x - (t : Int) > 0 then x - (t : Int) else 0) - 1 > 0 then (if x - (t : Int) > 0 then x - (t : Int) else 0) - 1 else 0)
      by_cases hx : x - (t : Int) > 0
      · rw [if_pos hx]
        split <;> split <;> omega
      · rw [if_neg hx]
        split <;> split <;> omega
theorem pt_nn {p : Part} {x w : Int} (ok : p.ok) (h0 : 0 ≤ x) (h1 : x < p.places) (hw : Sign w) : ∀ t : Nat, 0 ≤ (pt p x w t).2
  | 0 => by
    show 0 ≤ (pt p x w 0).2
    rw [pt_zero ok h0 h1]
    exact Int.le_refl _
  | t + 1 => by
    rw [pt_step ok h0 h1 hw t]
    have := pt_nn ok h0 h1 hw t
    show 0 ≤ (pt p x w t).2 + _
    split <;> omega
theorem pt_le {p : Part} {x w : Int} (ok : p.ok) (h0 : 0 ≤ x) (h1 : x < p.places) (hw : Sign w) : ∀ t : Nat, (pt p x w t).2 ≤ t
  | 0 => by
    show (pt p x w 0).2 ≤ 0
    rw [pt_zero ok h0 h1]
    exact Int.le_refl _
  | t + 1 => by
    rw [pt_step ok h0 h1 hw t]
    have := pt_le ok h0 h1 hw t
    show (pt p x w t).2 + _ ≤ _
    split <;> omega
theorem pp_place {p : Part} {x w : Int} (ok : p.ok) (h0 : 0 ≤ x) (h1 : x < p.places) (hw : Sign w) : 0 ≤ (pp p x w).1 ∧ (pp p x w).1 < p.places := by
  cases p with
  | wheel z ms =>
    have hz : 1 ≤ z := ok.1
    exact ⟨Int.emod_nonneg _ (by omega), Int.emod_lt_of_pos _ (by omega)⟩
  | click => exact ⟨Int.le_refl _, show (0 : Int) < 1 by decide⟩
  | rocker =>
    rcases hw with rfl | rfl
    · exact ⟨show (0 : Int) ≤ 1 by decide, show (1 : Int) < 2 by decide⟩
    · exact ⟨show (0 : Int) ≤ 0 by decide, show (0 : Int) < 2 by decide⟩
  | spring k =>
    have h2 : x < k := h1
    rcases hw with rfl | rfl
    · simp only [pp, if_true]
      by_cases e : x = k - 1
      · rw [if_pos e]
        exact ⟨Int.le_refl _, show (0 : Int) < k by omega⟩
      · rw [if_neg e]
        exact ⟨show 0 ≤ x + 1 by omega, show x + 1 < k by omega⟩
    · simp only [pp, if_neg (show ¬ (-1 : Int) = 1 by decide)]
      refine ⟨?_, ?_⟩
      · show 0 ≤ (if x - 1 > 0 then x - 1 else 0)
        split <;> omega
      · show (if x - 1 > 0 then x - 1 else 0) < k
        split <;> omega
theorem pt_place {p : Part} {x w : Int} (ok : p.ok) (h0 : 0 ≤ x) (h1 : x < p.places) (hw : Sign w) : ∀ t : Nat, 0 ≤ (pt p x w t).1 ∧ (pt p x w t).1 < p.places
  | 0 => by
    show 0 ≤ (pt p x w 0).1 ∧ (pt p x w 0).1 < p.places
    rw [pt_zero ok h0 h1]
    exact ⟨h0, h1⟩
  | t + 1 => by
    rw [pt_step ok h0 h1 hw t]
    obtain ⟨a, b⟩ := pt_place ok h0 h1 hw t
    exact pp_place ok a b hw
/-! along a train -/
def gen (f : Part → Int → Int → Int × Int) : List Part → List Int → Int → List Int × Int
  | p :: ps, x :: xs, a => ((f p x a).1 :: (gen f ps xs (f p x a).2).1, (gen f ps xs (f p x a).2).2)
  | _, xs, a => (xs, a)
def stF (f : Part → Int → Int → Int × Int) (ps : List Part) (s : List Int × Int) (n : Nat) : List Int × Int := match ps[n]?, s.1[n]? with
  | some p, some x => (s.1.set n (f p x s.2).1, (f p x s.2).2)
  | _, _ => s
def rnF (f : Part → Int → Int → Int × Int) (ps : List Part) (i : Nat) (s : List Int × Int) : Nat → List Int × Int
  | 0 => s
  | n + 1 => stF f ps (rnF f ps i s n) (i + n)
theorem stF_at {f : Part → Int → Int → Int × Int} {ps : List Part} {s : List Int × Int} {n : Nat} {p : Part} {x : Int} (hp : ps[n]? = some p) (hx : s.1[n]? = some x) : stF f ps s n = (s.1.set n (f p x s.2).1, (f p x s.2).2) := by
  unfold stF
  rw [hp, hx]
theorem rnF_first (f : Part → Int → Int → Int × Int) (ps : List Part) (i : Nat) (s : List Int × Int) : ∀ n, rnF f ps i s (n + 1) = rnF f ps (i + 1) (stF f ps s i) n
  | 0 => rfl
  | n + 1 => by
    show stF f ps (rnF f ps i s (n + 1)) (i + (n + 1)) = stF f ps (rnF f ps (i + 1) (stF f ps s i) n) (i + 1 + n)
    rw [rnF_first f ps i s n, show i + (n + 1) = i + 1 + n by omega]
theorem rnF_len (f : Part → Int → Int → Int × Int) (ps : List Part) (i : Nat) (s : List Int × Int) : ∀ n, (rnF f ps i s n).1.length = s.1.length
  | 0 => rfl
  | n + 1 => by
    show (stF f ps _ _).1.length = _
    rw [← rnF_len f ps i s n]
    unfold stF
    split
    · show (List.set _ _ _).length = _
      rw [List.length_set]
    · rfl
theorem rnF_ahead (f : Part → Int → Int → Int × Int) (ps : List Part) (i : Nat) (s : List Int × Int) : ∀ n m, i + n ≤ m → (rnF f ps i s n).1[m]? = s.1[m]?
  | 0, _, _ => rfl
  | n + 1, m, h => by
    rw [← rnF_ahead f ps i s n m (by omega)]
    show (stF f ps _ _).1[m]? = _
    unfold stF
    split
    · show (List.set _ _ _)[m]? = _
      rw [List.getElem?_set_ne (by omega)]
    · rfl
/-- places one by one, by number, or by going down the train -/
theorem rnF_gen (f : Part → Int → Int → Int × Int) (ps : List Part) : ∀ (n i : Nat) (xs : List Int) (a : Int), xs.length = ps.length → i + n = ps.length →
    rnF f ps i (xs, a) n = (xs.take i ++ (gen f (ps.drop i) (xs.drop i) a).1, (gen f (ps.drop i) (xs.drop i) a).2)
  | 0, i, xs, a, hl, hn => by
    have e1 : ps.drop i = [] := List.drop_of_length_le (by omega)
    have e2 : xs.drop i = [] := List.drop_of_length_le (by omega)
    rw [e1, e2]
    show (xs, a) = (xs.take i ++ [], a)
    rw [List.append_nil, List.take_of_length_le (by omega)]
  | n + 1, i, xs, a, hl, hn => by
    have hi : i < ps.length := by omega
    have hx : i < xs.length := by omega
    rw [rnF_first, stF_at (List.getElem?_eq_getElem hi) (List.getElem?_eq_getElem hx), rnF_gen f ps n (i + 1) _ _ (by rw [List.length_set]; exact hl) (by omega)]
    rw [List.drop_eq_getElem_cons hi, List.drop_eq_getElem_cons hx]
    show (List.take (i + 1) (xs.set i _) ++ (gen f _ (List.drop (i + 1) (xs.set i _)) _).1, _) = (xs.take i ++ ((f ps[i] xs[i] a).1 :: (gen f (ps.drop (i + 1)) (xs.drop (i + 1)) (f ps[i] xs[i] a).2).1), (gen f (ps.drop (i + 1)) (xs.drop (i + 1)) (f ps[i] xs[i] a).2).2)
    rw [List.drop_set_of_lt (by omega), show List.take (i + 1) (xs.set i (f ps[i] xs[i] a).1) = xs.take i ++ [(f ps[i] xs[i] a).1] by
      rw [List.take_set, List.take_add_one, List.getElem?_eq_getElem hx, List.set_append_right _ _ (by rw [List.length_take]; omega), List.length_take, show i - min i xs.length = 0 by omega]
      rfl, List.append_assoc]
    rfl
/-- a push that may be none -/
def ppz (p : Part) (x g : Int) : Int × Int := if g = 0 then (x, 0) else pp p x g
theorem stp_stF (ps : List Part) (s : List Int × Int) (n : Nat) : stp ps s n = stF ppz ps s n := by
  unfold stp stF
  split
  · rename_i h
    cases e1 : ps[n]? with
    | none => rfl
    | some p =>
      cases e2 : s.1[n]? with
      | none => rfl
      | some x =>
        obtain ⟨hn, hx⟩ := List.getElem?_eq_some_iff.mp e2
        show s = (s.1.set n (ppz p x s.2).1, (ppz p x s.2).2)
        unfold ppz
        rw [if_pos h]
        show s = (s.1.set n x, 0)
        rw [← hx, List.set_getElem_self, ← h]
  · rename_i h
    cases e1 : ps[n]? with
    | none => rfl
    | some p =>
      cases e2 : s.1[n]? with
      | none => rfl
      | some x =>
        show _ = (s.1.set n (ppz p x s.2).1, (ppz p x s.2).2)
        unfold ppz
        rw [if_neg h]
theorem runN_rnF (ps : List Part) (i : Nat) (s : List Int × Int) : ∀ n, runN ps i s n = rnF ppz ps i s n
  | 0 => rfl
  | n + 1 => by
    show stp ps _ _ = stF ppz ps _ _
    rw [stp_stF, runN_rnF ps i s n]
theorem run_gen {ps : List Part} {xs : List Int} {i : Nat} {w : Int} (hl : xs.length = ps.length) (hi : i ≤ ps.length) : Ct.run ps xs i w = (xs.take i ++ (gen ppz (ps.drop i) (xs.drop i) w).1, (gen ppz (ps.drop i) (xs.drop i) w).2) := by
  unfold Ct.run
  rw [runN_rnF, rnF_gen ppz ps _ _ _ _ hl (by omega)]
/-- pushes one by one -/
def itP (ps : List Part) (w : Int) : Nat → List Int → List Int × Int
  | 0, xs => (xs, 0)
  | t + 1, xs => ((gen ppz ps (itP ps w t xs).1 w).1, (itP ps w t xs).2 + (gen ppz ps (itP ps w t xs).1 w).2)
def ptw (w : Int) (p : Part) (x t : Int) : Int × Int := pt p x w t
theorem gen_ppz_zero : ∀ (ps : List Part) (xs : List Int), gen ppz ps xs 0 = (xs, 0)
  | [], _ => rfl
  | _ :: _, [] => rfl
  | p :: ps, x :: xs => by
    show ((ppz p x 0).1 :: (gen ppz ps xs (ppz p x 0).2).1, (gen ppz ps xs (ppz p x 0).2).2) = _
    rw [show ppz p x 0 = (x, 0) from rfl, gen_ppz_zero ps xs]
def StandL : List Part → List Int → Prop
  | [], [] => True
  | p :: ps, x :: xs => p.ok ∧ 0 ≤ x ∧ x < p.places ∧ StandL ps xs
  | _, _ => False
theorem itP_cons {p : Part} {x : Int} (ps : List Part) (xs : List Int) {w : Int} (ok : p.ok) (h0 : 0 ≤ x) (h1 : x < p.places) (hw : Sign w) : ∀ t : Nat,
    itP (p :: ps) w t (x :: xs) = ((pt p x w t).1 :: (itP ps w (pt p x w t).2.toNat xs).1, (itP ps w (pt p x w t).2.toNat xs).2)
  | 0 => by
    show (x :: xs, (0 : Int)) = ((pt p x w 0).1 :: (itP ps w (pt p x w 0).2.toNat xs).1, (itP ps w (pt p x w 0).2.toNat xs).2)
    rw [pt_zero ok h0 h1]
    rfl
  | t + 1 => by
    have w0 : w ≠ 0 := by rcases hw with rfl | rfl <;> decide
    have nn := pt_nn ok h0 h1 hw t
    show ((gen ppz (p :: ps) (itP (p :: ps) w t (x :: xs)).1 w).1, (itP (p :: ps) w t (x :: xs)).2 + (gen ppz (p :: ps) (itP (p :: ps) w t (x :: xs)).1 w).2) = _
    rw [itP_cons ps xs ok h0 h1 hw t, pt_step ok h0 h1 hw t]
    generalize hy : (pt p x w t).1 = y
    generalize hn : (pt p x w t).2 = n at nn
    show ((ppz p y w).1 :: (gen ppz ps (itP ps w n.toNat xs).1 (ppz p y w).2).1, (itP ps w n.toNat xs).2 + (gen ppz ps (itP ps w n.toNat xs).1 (ppz p y w).2).2) = _
    rw [show ppz p y w = pp p y w from if_neg w0]
    rcases pp_way p y w hw with e | e
    · rw [e, gen_ppz_zero, if_pos rfl]
      show ((pp p y w).1 :: (itP ps w n.toNat xs).1, (itP ps w n.toNat xs).2 + 0) = ((pp p y w).1 :: (itP ps w (n + 0).toNat xs).1, (itP ps w (n + 0).toNat xs).2)
      rw [Int.add_zero, Int.add_zero]
    · rw [e, if_neg w0]
      show ((pp p y w).1 :: (gen ppz ps (itP ps w n.toNat xs).1 w).1, (itP ps w n.toNat xs).2 + (gen ppz ps (itP ps w n.toNat xs).1 w).2) = ((pp p y w).1 :: (itP ps w (n + 1).toNat xs).1, (itP ps w (n + 1).toNat xs).2)
      rw [show (n + 1).toNat = n.toNat + 1 by omega]
      rfl
theorem itP_nil (w : Int) : ∀ (t : Nat), itP [] w t [] = ([], w * t)
  | 0 => by
    show (([] : List Int), (0 : Int)) = ([], w * ((0 : Nat) : Int))
    rw [show ((0 : Nat) : Int) = 0 from rfl, Int.mul_zero]
  | t + 1 => by
    show ((gen ppz [] (itP [] w t []).1 w).1, (itP [] w t []).2 + (gen ppz [] (itP [] w t []).1 w).2) = _
    rw [itP_nil w t]
    refine Prod.ext rfl ?_
    show w * t + w = w * ((t + 1 : Nat) : Int)
    rw [show ((t + 1 : Nat) : Int) = (t : Int) + 1 by omega, Int.mul_add, Int.mul_one]
/-- THE promise: reckoned at once is as pushed one by one -/
theorem itP_gen {w : Int} (hw : Sign w) : ∀ (ps : List Part) (xs : List Int) (t : Nat), StandL ps xs → itP ps w t xs = ((gen (ptw w) ps xs t).1, w * (gen (ptw w) ps xs t).2)
  | [], [], t, _ => itP_nil w t
  | p :: ps, x :: xs, t, ⟨ok, h0, h1, h⟩ => by
    rw [itP_cons ps xs ok h0 h1 hw t, itP_gen hw ps xs _ h]
    have nn := pt_nn ok h0 h1 hw t
    show _ = ((pt p x w t).1 :: (gen (ptw w) ps xs (pt p x w t).2).1, w * (gen (ptw w) ps xs (pt p x w t).2).2)
    rw [show (((pt p x w t).2.toNat : Nat) : Int) = (pt p x w t).2 by omega]
theorem gen_stand {w : Int} (hw : Sign w) : ∀ (ps : List Part) (xs : List Int) (t : Int), 0 ≤ t → StandL ps xs → StandL ps (gen (ptw w) ps xs t).1 ∧ 0 ≤ (gen (ptw w) ps xs t).2
  | [], [], t, ht, _ => ⟨trivial, ht⟩
  | p :: ps, x :: xs, t, ht, ⟨ok, h0, h1, h⟩ => by
    have e : ((t.toNat : Nat) : Int) = t := by omega
    have a := pt_place ok h0 h1 hw t.toNat
    have n := pt_nn ok h0 h1 hw t.toNat
    rw [e] at a n
    have ih := gen_stand hw ps xs (pt p x w t).2 n h
    exact ⟨⟨ok, a.1, a.2, ih.1⟩, ih.2⟩
theorem stand_drop : ∀ {ps : List Part} {xs : List Int} (i : Nat), StandL ps xs → StandL (ps.drop i) (xs.drop i)
  | [], [], i, _ => by rw [List.drop_nil, List.drop_nil]; trivial
  | p :: ps, x :: xs, 0, h => h
  | p :: ps, x :: xs, i + 1, ⟨_, _, _, h⟩ => stand_drop (ps := ps) (xs := xs) i h
theorem stand_join : ∀ {ps : List Part} {xs ys : List Int} (i : Nat), StandL ps xs → StandL (ps.drop i) ys → StandL ps (xs.take i ++ ys)
  | ps, xs, ys, 0, _, h => h
  | [], [], ys, i + 1, _, h => by
    rw [List.drop_nil] at h
    exact h
  | p :: ps, x :: xs, ys, i + 1, ⟨a, b, c, d⟩, h => ⟨a, b, c, stand_join (ps := ps) (xs := xs) i d h⟩
theorem StandL.len : ∀ {ps : List Part} {xs : List Int}, StandL ps xs → xs.length = ps.length
  | [], [], _ => rfl
  | p :: ps, x :: xs, ⟨_, _, _, h⟩ => by rw [List.length_cons, List.length_cons, StandL.len (ps := ps) (xs := xs) h]
theorem StandL.okp : ∀ {ps : List Part} {xs : List Int}, StandL ps xs → ∀ p ∈ ps, p.ok
  | [], [], _, p, hp => by cases hp
  | a :: ps, x :: xs, ⟨h, _, _, hr⟩, p, hp => by
    rcases List.mem_cons.mp hp with rfl | hp
    · exact h
    · exact StandL.okp (ps := ps) (xs := xs) hr p hp
theorem standL_of : ∀ {ps : List Part} {xs : List Int}, (∀ p ∈ ps, p.ok) → StandOk ps xs → StandL ps xs
  | [], [], _, _ => trivial
  | [], _ :: _, _, h => by have := h.1; simp at this
  | _ :: _, [], _, h => by have := h.1; simp at this
  | p :: ps, x :: xs, hp, h => by
    have a := h.2 0 p x rfl rfl
    exact ⟨hp p List.mem_cons_self, a.1, a.2, standL_of (fun q hq => hp q (List.mem_cons_of_mem _ hq)) ⟨by have := h.1; rw [List.length_cons, List.length_cons] at this; omega, fun i q y hq hy => h.2 (i + 1) q y hq hy⟩⟩
theorem StandL.ok : ∀ {ps : List Part} {xs : List Int}, StandL ps xs → StandOk ps xs
  | [], [], _ => ⟨rfl, fun i p x h _ => by simp at h⟩
  | p :: ps, x :: xs, ⟨_, a, b, h⟩ => by
    have ih := StandL.ok (ps := ps) (xs := xs) h
    refine ⟨by rw [List.length_cons, List.length_cons, ih.1], fun i q y hq hy => ?_⟩
    cases i with
    | zero =>
      cases Option.some.inj hq
      cases Option.some.inj hy
      exact ⟨a, b⟩
    | succ i => exact ih.2 i q y hq hy
/-! rows -/
structure Deed where
  i : Nat
  w : Int
  t : Nat
def Deed.ok (d : Deed) (n : Nat) : Prop := d.i < n ∧ Sign d.w
def Deed.data (d : Deed) : PyData := .tuple [.int d.i, .int d.w, .int d.t]
/-- one deed, at once -/
def deedL (ps : List Part) (xs : List Int) (d : Deed) : List Int × Int := (xs.take d.i ++ (gen (ptw d.w) (ps.drop d.i) (xs.drop d.i) d.t).1, d.w * (gen (ptw d.w) (ps.drop d.i) (xs.drop d.i) d.t).2)
def rowL (ps : List Part) : List Deed → List Int × Int → List Int × Int
  | [], s => s
  | d :: ds, s => rowL ps ds ((deedL ps s.1 d).1, s.2 + (deedL ps s.1 d).2)
theorem rowL_app (ps : List Part) : ∀ (ds es : List Deed) (s : List Int × Int), rowL ps (ds ++ es) s = rowL ps es (rowL ps ds s)
  | [], _, _ => rfl
  | d :: ds, es, s => rowL_app ps ds es _
theorem deedL_stand {ps : List Part} {xs : List Int} {d : Deed} (h : StandL ps xs) (hd : d.ok ps.length) : StandL ps (deedL ps xs d).1 :=
  stand_join d.i h (gen_stand hd.2 _ _ d.t (by omega) (stand_drop d.i h)).1
theorem rowL_stand {ps : List Part} : ∀ {ds : List Deed} {s : List Int × Int}, StandL ps s.1 → (∀ d ∈ ds, d.ok ps.length) → StandL ps (rowL ps ds s).1
  | [], _, h, _ => h
  | d :: ds, s, h, hd => rowL_stand (ds := ds) (deedL_stand h (hd d List.mem_cons_self)) fun e he => hd e (List.mem_cons_of_mem _ he)
/-- a deed, push by push: each push goes along the train from part i -/
def pushes (ps : List Part) (i : Nat) (w : Int) : Nat → List Int × Int → List Int × Int
  | 0, s => s
  | t + 1, s => ((Ct.run ps (pushes ps i w t s).1 i w).1, (pushes ps i w t s).2 + (Ct.run ps (pushes ps i w t s).1 i w).2)
theorem pushes_itP {ps : List Part} {xs : List Int} {i : Nat} {w : Int} (hl : xs.length = ps.length) (hi : i ≤ ps.length) (a : Int) : ∀ t, pushes ps i w t (xs, a) = (xs.take i ++ (itP (ps.drop i) w t (xs.drop i)).1, a + (itP (ps.drop i) w t (xs.drop i)).2) ∧ (itP (ps.drop i) w t (xs.drop i)).1.length = ps.length - i
  | 0 => by
    refine ⟨Prod.ext ?_ ?_, ?_⟩
    · show xs = xs.take i ++ xs.drop i
      rw [List.take_append_drop]
    · show a = a + 0
      omega
    · show (xs.drop i).length = _
      rw [List.length_drop, hl]
  | t + 1 => by
    obtain ⟨ih, il⟩ := pushes_itP hl hi a t
    have tl : (xs.take i).length = i := by rw [List.length_take]; omega
    have gl : ∀ (qs : List Part) (ys : List Int) (g : Int), (gen ppz qs ys g).1.length = ys.length := fun qs => by
      induction qs with
      | nil => intro ys g; rfl
      | cons q qs ih =>
        intro ys g
        cases ys with
        | nil => rfl
        | cons y ys =>
          show ((ppz q y g).1 :: (gen ppz qs ys (ppz q y g).2).1).length = _
          rw [List.length_cons, List.length_cons, ih]
    refine ⟨?_, ?_⟩
    · show ((Ct.run ps (pushes ps i w t (xs, a)).1 i w).1, (pushes ps i w t (xs, a)).2 + (Ct.run ps (pushes ps i w t (xs, a)).1 i w).2) = _
      rw [ih]
      rw [run_gen (by show (xs.take i ++ _).length = _; rw [List.length_append, tl, il]; omega) hi]
      show (List.take i (xs.take i ++ _) ++ (gen ppz (ps.drop i) (List.drop i (xs.take i ++ _)) w).1, a + _ + (gen ppz (ps.drop i) (List.drop i (xs.take i ++ _)) w).2) = _
      rw [List.take_left' tl, List.drop_left' tl]
      refine Prod.ext rfl ?_
      show a + (itP (ps.drop i) w t (xs.drop i)).2 + (gen ppz (ps.drop i) (itP (ps.drop i) w t (xs.drop i)).1 w).2 = a + ((itP (ps.drop i) w t (xs.drop i)).2 + (gen ppz (ps.drop i) (itP (ps.drop i) w t (xs.drop i)).1 w).2)
      omega
    · show (gen ppz (ps.drop i) (itP (ps.drop i) w t (xs.drop i)).1 w).1.length = _
      rw [gl, il]
theorem pushes_deed {ps : List Part} {xs : List Int} {d : Deed} (h : StandL ps xs) (hd : d.ok ps.length) (a : Int) : pushes ps d.i d.w d.t (xs, a) = ((deedL ps xs d).1, a + (deedL ps xs d).2) := by
  rw [(pushes_itP h.len (Nat.le_of_lt hd.1) a d.t).1, itP_gen hd.2 _ _ _ (stand_drop d.i h)]
  rfl
theorem pushes_stand {ps : List Part} {xs : List Int} {i : Nat} {w : Int} (h : StandL ps xs) (hi : i < ps.length) (hw : Sign w) (a : Int) (t : Nat) : StandL ps (pushes ps i w t (xs, a)).1 := by
  have := deedL_stand (d := ⟨i, w, t⟩) h ⟨hi, hw⟩
  rw [pushes_deed (d := ⟨i, w, t⟩) h ⟨hi, hw⟩ a]
  exact this
section
variable {K : PySem.W.Frag} {H : Hp}
theorem deed_inv {v : V} {d : Deed} (h : Dp K H v d.data) : ∃ a, v = .ref a ∧ SqT K H a [.int d.i, .int d.w, .int d.t] := by
  obtain ⟨a, vs, rfl, hs, ht⟩ := tup_inv h
  cases ht with
  | cons h1 t1 => cases h1; cases t1 with
    | cons h2 t2 => cases h2; cases t2 with
      | cons h3 t3 => cases h3; cases t3; exact ⟨a, rfl, hs⟩
theorem deed_dp {a : Addr} {d : Deed} (h : SqT K H a [.int d.i, .int d.w, .int d.t]) : Dp K H (.ref a) d.data := .tup h (.cons (.int _) (.cons (.int _) (.cons (.int _) .nil)))
theorem deeds_upd {l : Addr} {ws : List V} {o : HO} (hl : H l = some (.lst ws)) : ∀ {vs : List V} (ds : List Deed), DpAll K H vs (ds.map Deed.data) → DpAll K (upd H l o) vs (ds.map Deed.data)
  | _, [], .nil => .nil
  | _, d :: r, .cons h t => by
    obtain ⟨a, rfl, ha⟩ := deed_inv h
    exact .cons (deed_dp (sqT_upd ha hl)) (deeds_upd hl r t)
def RowAt (K : PySem.W.Frag) (H : Hp) (a : Addr) (ds : List Deed) : Prop := ∃ vs, SqL K H a vs ∧ DpAll K H vs (ds.map Deed.data)
theorem RowAt.same {H' : Hp} {a : Addr} {ds : List Deed} (e : Same H H') (h : RowAt K H a ds) : RowAt K H' a ds := by
  obtain ⟨vs, h1, h2⟩ := h
  exact ⟨vs, e.seq h1, dpAll_same e h2⟩
theorem deed_get {ds : List Deed} {vs : List V} (h2 : DpAll K H vs (ds.map Deed.data)) {i : Nat} {d : Deed} (e : ds[i]? = some d) : ∃ v, vs[i]? = some v ∧ Dp K H v d.data :=
  dpAll_get h2 (by rw [List.getElem?_map, e]; rfl)
end
theorem lay_deed (d : Deed) : d.data.canLay0 = true ∧ d.data.depth ≤ 1 := lay_tup (n := 0) (lay_ints [(d.i : Int), d.w, (d.t : Int)] 0)
theorem lay_row (ds : List Deed) : (PyData.list (ds.map Deed.data)).canLay0 = true ∧ (PyData.list (ds.map Deed.data)).depth ≤ 2 := lay_lst fun d hd => by
  obtain ⟨e, _, rfl⟩ := List.mem_map.mp hd
  exact lay_deed e
/-! what the checks look at -/
def isW : PyData → Bool
  | .int _ => true
  | _ => false
def risesD (last z : Int) : List PyData → Bool
  | [] => true
  | .int m :: r => if m ≤ last ∨ z ≤ m then false else risesD m z r
  | _ :: _ => false
def areM (d : PyData) (z : Int) : Bool := match d with
  | .tuple ds => risesD (-1) z ds
  | _ => false
def wheelT : List PyData → Bool
  | [.int z, m] => decide (1 ≤ z) && areM m z
  | _ => false
def springT : List PyData → Bool
  | [.int k] => decide (1 ≤ k)
  | _ => false
def isP : PyData → Bool
  | .tuple (h :: t) =>
    if PyData.eqv h (.str "wheel") = true then wheelT t
    else if PyData.eqv h (.str "spring") = true then springT t
    else PyData.eqv (.tuple (h :: t)) (.tuple [.str "click"]) || PyData.eqv (.tuple (h :: t)) (.tuple [.str "rocker"])
  | _ => false
theorem rises_of : ∀ {ms : List Int} {last z : Int}, ms.Pairwise (· < ·) → (∀ m ∈ ms, last < m ∧ m < z) → risesD last z (ms.map PyData.int) = true
  | [], _, _, _, _ => rfl
  | m :: ms, last, z, h, hm => by
    obtain ⟨h1, h2⟩ := List.pairwise_cons.mp h
    have hm1 := hm m List.mem_cons_self
    show (if m ≤ last ∨ z ≤ m then false else risesD m z (ms.map PyData.int)) = true
    rw [if_neg (by omega)]
    exact rises_of h2 fun x hx => ⟨h1 x hx, (hm x (List.mem_cons_of_mem _ hx)).2⟩
theorem isP_of {p : Part} (ok : p.ok) : isP p.data = true := by
  cases p with
  | wheel z ms =>
    simp only [isP, Part.data, wheelT, areM]
    rw [if_pos (by decide +kernel), decide_eq_true ok.1, rises_of ok.2.2.1.1 fun m hm => ?_]
    · rfl
    · have := ok.2.2.1.2 m hm
      omega
  | click => decide +kernel
  | rocker => decide +kernel
  | spring k =>
    simp only [isP, Part.data, springT]
    rw [if_neg (by decide +kernel), if_pos (by decide +kernel)]
    exact decide_eq_true ok.1
def isD (d : PyData) (n : Int) : Bool := match d with
  | .tuple [.int i, .int w, .int t] => decide (0 ≤ i) && decide (i < n) && (decide (w = 1) || decide (w = -1)) && decide (0 ≤ t)
  | _ => false
theorem dpAll_drop {K : PySem.W.Frag} {H : Hp} : ∀ {vs : List V} {ds : List PyData} (k : Nat), DpAll K H vs ds → DpAll K H (vs.drop k) (ds.drop k)
  | _, _, 0, h => h
  | _, _, _ + 1, .nil => .nil
  | _, _, k + 1, .cons _ t => dpAll_drop k t
theorem dpAll_take {K : PySem.W.Frag} {H : Hp} : ∀ {vs : List V} {ds : List PyData} (k : Nat), DpAll K H vs ds → DpAll K H (vs.take k) (ds.take k)
  | _, _, 0, _ => .nil
  | _, _, _ + 1, .nil => .nil
  | _, _, k + 1, .cons h t => .cons h (dpAll_take k t)
theorem dpAll_cut {K : PySem.W.Frag} {H : Hp} {vs : List V} {ds : List Deed} (lo hi : Option Int) (h : DpAll K H vs (ds.map Deed.data)) : ∃ es : List Deed, DpAll K H (cutV vs lo hi) (es.map Deed.data) ∧ ∀ d ∈ es, d ∈ ds := by
  refine ⟨(ds.drop (HT.sIx vs.length 0 lo)).take (HT.sIx vs.length vs.length hi - HT.sIx vs.length 0 lo), ?_, fun d hd => List.mem_of_mem_drop (List.mem_of_mem_take hd)⟩
  rw [List.map_take, List.map_drop]
  exact dpAll_take _ (dpAll_drop _ h)
/-! how often each mark is met -/
def wsum (z : Int) : List Int → Int → Int
  | [], _ => 0
  | m :: r, y => (y - m) / z + wsum z r y
theorem wsum_app (z y : Int) : ∀ (ms : List Int) (m : Int), wsum z (ms ++ [m]) y = wsum z ms y + (y - m) / z
  | [], m => by
    show (y - m) / z + 0 = 0 + (y - m) / z
    omega
  | a :: r, m => by
    show (y - a) / z + wsum z (r ++ [m]) y = (y - a) / z + wsum z r y + (y - m) / z
    rw [wsum_app z y r m]
    omega
theorem wsum_mah {z : Int} (hz : 1 ≤ z) (y : Int) : ∀ {ms : List Int}, (∀ m ∈ ms, 0 ≤ m ∧ m < z) → wsum z ms y = mah z ms y - ms.length
  | [], _ => by
    show (0 : Int) = y / z * ((0 : Nat) : Int) + 0 - ((0 : Nat) : Int)
    rw [show ((0 : Nat) : Int) = 0 from rfl, Int.mul_zero]
    rfl
  | m :: r, h => by
    have hm := h m List.mem_cons_self
    have ih := wsum_mah hz y (ms := r) fun x hx => h x (List.mem_cons_of_mem _ hx)
    have e := Int.emod_add_mul_ediv y z
    have r0 := Int.emod_nonneg y (show z ≠ 0 by omega)
    have r1 := Int.emod_lt_of_pos y (show 0 < z by omega)
    show (y - m) / z + wsum z r y = _
    rw [ih]
    unfold mah
    rw [cnt_cons, List.length_cons, show ((r.length + 1 : Nat) : Int) = (r.length : Int) + 1 by omega, Int.mul_add, Int.mul_one]
    by_cases hmr : m ≤ y % z
    · obtain ⟨e1, _⟩ := (Int.ediv_emod_unique (a := y - m) (b := z) (r := y % z - m) (q := y / z) (by omega)).mpr ⟨by omega, by omega, by omega⟩
      rw [e1, if_pos hmr]
      omega
    · obtain ⟨e1, _⟩ := (Int.ediv_emod_unique (a := y - m) (b := z) (r := y % z - m + z) (q := y / z - 1) (by omega)).mpr ⟨by rw [Int.mul_sub]; omega, by omega, by omega⟩
      rw [e1, if_neg hmr]
      omega
theorem wsum_up {z : Int} {ms : List Int} {x : Int} (ok : (Part.wheel z ms).ok) (t : Nat) : wsum z ms (x + t) - wsum z ms x = (pt (.wheel z ms) x 1 t).2 := by
  have rs : Rise z ms := ok.2.2.1
  have u := mah_up ok.1 rs x t
  rw [wsum_mah ok.1 _ rs.2, wsum_mah ok.1 _ rs.2]
  simp only [pt, Int.one_mul]
  rw [neg_abs (by omega)]
  omega
theorem wsum_down {z : Int} {ms : List Int} {x : Int} (ok : (Part.wheel z ms).ok) (t : Nat) : wsum z ms x - wsum z ms (x - t) = (pt (.wheel z ms) x (-1) t).2 := by
  have rs : Rise z ms := ok.2.2.1
  have u := mah_up ok.1 rs (x - t) t
  rw [show x - (t : Int) + t = x by omega] at u
  rw [wsum_mah ok.1 _ rs.2, wsum_mah ok.1 _ rs.2]
  simp only [pt, show x + -1 * (t : Int) = x - t by omega]
  rw [abs_neg (by omega)]
  omega
/-! a deed in two -/
theorem pushes_add (ps : List Part) (i : Nat) (w : Int) (a : Nat) (s : List Int × Int) : ∀ b, pushes ps i w (a + b) s = pushes ps i w b (pushes ps i w a s)
  | 0 => rfl
  | b + 1 => by
    show ((Ct.run ps (pushes ps i w (a + b) s).1 i w).1, (pushes ps i w (a + b) s).2 + (Ct.run ps (pushes ps i w (a + b) s).1 i w).2) = _
    rw [pushes_add ps i w a s b]
    rfl
theorem rowL_one {ps : List Part} {s : List Int × Int} {d : Deed} (h : StandL ps s.1) (hd : d.ok ps.length) : rowL ps [d] s = pushes ps d.i d.w d.t s := (pushes_deed h hd s.2).symm
def halves : List Deed → List Deed
  | [] => []
  | d :: r => ⟨d.i, d.w, d.t / 2⟩ :: ⟨d.i, d.w, d.t - d.t / 2⟩ :: halves r
theorem halves_app : ∀ (ds es : List Deed), halves (ds ++ es) = halves ds ++ halves es
  | [], _ => rfl
  | d :: r, es => by
    show _ :: _ :: halves (r ++ es) = _ :: _ :: (halves r ++ halves es)
    rw [halves_app r es]
theorem halves_ok {n : Nat} {b : Nat} : ∀ {ds : List Deed}, (∀ d ∈ ds, d.ok n ∧ d.t < b) → ∀ d ∈ halves ds, d.ok n ∧ d.t < b
  | [], _, d, hd => by cases hd
  | e :: r, h, d, hd => by
    have he := h e List.mem_cons_self
    rcases List.mem_cons.mp hd with rfl | hd
    · exact ⟨he.1, Nat.lt_of_le_of_lt (Nat.div_le_self _ _) he.2⟩
    rcases List.mem_cons.mp hd with rfl | hd
    · exact ⟨he.1, Nat.lt_of_le_of_lt (Nat.sub_le _ _) he.2⟩
    · exact halves_ok (fun d hd => h d (List.mem_cons_of_mem _ hd)) d hd
theorem rowL_halves {ps : List Part} : ∀ {ds : List Deed} {s : List Int × Int}, StandL ps s.1 → (∀ d ∈ ds, d.ok ps.length) → rowL ps (halves ds) s = rowL ps ds s
  | [], _, _, _ => rfl
  | d :: r, s, h, hd => by
    have hd0 := hd d List.mem_cons_self
    have k1 : Deed.ok ⟨d.i, d.w, d.t / 2⟩ ps.length := hd0
    have k2 : Deed.ok ⟨d.i, d.w, d.t - d.t / 2⟩ ps.length := hd0
    show rowL ps ([⟨d.i, d.w, d.t / 2⟩] ++ ([⟨d.i, d.w, d.t - d.t / 2⟩] ++ halves r)) s = rowL ps ([d] ++ r) s
    have h1 : StandL ps (rowL ps [⟨d.i, d.w, d.t / 2⟩] s).1 := rowL_stand h fun e he => by rw [List.mem_singleton] at he; rw [he]; exact k1
    have h2 : StandL ps (rowL ps [⟨d.i, d.w, d.t - d.t / 2⟩] (rowL ps [⟨d.i, d.w, d.t / 2⟩] s)).1 := rowL_stand h1 fun e he => by rw [List.mem_singleton] at he; rw [he]; exact k2
    rw [rowL_app, rowL_app, rowL_app, rowL_halves h2 fun e he => hd e (List.mem_cons_of_mem _ he)]
    rw [rowL_one h1 k2, rowL_one h k1, rowL_one h hd0, ← pushes_add, show d.t / 2 + (d.t - d.t / 2) = d.t by omega]
theorem run_deed {ps : List Part} {xs : List Int} {i : Nat} {w : Int} (h : StandL ps xs) (hi : i < ps.length) (hw : Sign w) : deedL ps xs ⟨i, w, 1⟩ = Ct.run ps xs i w := by
  have e : ((Ct.run ps xs i w).1, 0 + (Ct.run ps xs i w).2) = ((deedL ps xs ⟨i, w, 1⟩).1, 0 + (deedL ps xs ⟨i, w, 1⟩).2) := pushes_deed (d := ⟨i, w, 1⟩) h ⟨hi, hw⟩ 0
  obtain ⟨e1, e2⟩ := Prod.mk.inj e
  exact Prod.ext e1.symm (by omega)
theorem rowL_snoc (ps : List Part) (ds : List Deed) (d : Deed) (s : List Int × Int) : rowL ps (ds ++ [d]) s = ((deedL ps (rowL ps ds s).1 d).1, (rowL ps ds s).2 + (deedL ps (rowL ps ds s).1 d).2) := rowL_app ps ds [d] s
theorem told_dp {K : PySem.W.Frag} {H : Hp} {q u : Addr} {xs : List Int} {y : Int} (h : SqT K H q [.ref u, .int y]) (hu : SqT K H u (xs.map V.int)) : Dp K H (.ref q) (.tuple [.tuple (xs.map PyData.int), .int y]) :=
  .tup h (.cons (.tup hu (dpAll_ints xs)) (.cons (.int y) .nil))
end Ct

namespace Ct
open PySem PySem.Spec PyProof.Rows L2
/-! all stands of a train -/
theorem ip_mul {X : Cx} : PIp X .Mult (rI CMul fun i j => .int (i * j)) := iop_mul
def rowS (s : List Int) (k : Nat) : List (List Int) := (List.range k).map fun (x : Nat) => s ++ [(x : Int)]
def grow (ss : List (List Int)) (p : Part) : List (List Int) := ss.flatMap fun s => rowS s p.places.toNat
def allS (ps : List Part) : List (List Int) := ps.foldl grow [[]]
def tupD (s : List Int) : PyData := .tuple (s.map PyData.int)
theorem rowS_len (s : List Int) (k : Nat) : (rowS s k).length = k := by
  unfold rowS
  rw [List.length_map, List.length_range]
theorem rowS_succ (s : List Int) (k : Nat) : rowS s (k + 1) = rowS s k ++ [s ++ [(k : Int)]] := by
  unfold rowS
  rw [List.range_succ, List.map_append]
  rfl
theorem flat_len (k : Nat) : ∀ ss : List (List Int), (ss.flatMap fun s => rowS s k).length = ss.length * k
  | [] => by simp
  | s :: r => by
    rw [List.flatMap_cons, List.length_append, rowS_len, flat_len k r, List.length_cons, Nat.add_mul, Nat.one_mul]
    omega
theorem allS_snoc (ps : List Part) (p : Part) : allS (ps ++ [p]) = grow (allS ps) p := by
  unfold allS
  rw [List.foldl_append]
  rfl
theorem allS_take {ps : List Part} {n : Nat} {p : Part} (h : ps[n]? = some p) : allS (ps.take (n + 1)) = grow (allS (ps.take n)) p := by
  rw [List.take_add_one, h]
  exact allS_snoc _ _
theorem stands_take {ps : List Part} {n : Nat} {p : Part} (h : ps[n]? = some p) : stands (ps.take (n + 1)) = stands (ps.take n) * p.places := by
  rw [List.take_add_one, h]
  exact stands_app _ _
theorem allS_len {ps : List Part} (hok : ∀ p ∈ ps, p.ok) : ∀ n, n ≤ ps.length → ((allS (ps.take n)).length : Int) = stands (ps.take n)
  | 0, _ => rfl
  | n + 1, hn => by
    obtain ⟨p, hp⟩ : ∃ p, ps[n]? = some p := ⟨_, List.getElem?_eq_getElem (by omega)⟩
    have po := (hok p (List.mem_of_getElem? hp)).pos.1
    rw [allS_take hp, stands_take hp, ← allS_len hok n (by omega)]
    unfold grow
    rw [flat_len, Int.natCast_mul, Int.toNat_of_nonneg (by omega)]
theorem stands_le {ps : List Part} (hok : ∀ p ∈ ps, p.ok) : ∀ n, n ≤ ps.length → stands (ps.take (ps.length - n)) ≤ stands ps
  | 0, _ => by
    rw [Nat.sub_zero, List.take_length]
    exact Int.le_refl _
  | n + 1, hn => by
    have ih := stands_le hok n (by omega)
    obtain ⟨p, hp⟩ : ∃ p, ps[ps.length - (n + 1)]? = some p := ⟨_, List.getElem?_eq_getElem (by omega)⟩
    have po := (hok p (List.mem_of_getElem? hp)).pos.1
    have e := stands_take hp
    rw [show ps.length - (n + 1) + 1 = ps.length - n by omega] at e
    have sp := stands_pos (ps.take (ps.length - (n + 1))) fun q hq => hok q (List.mem_of_mem_take hq)
    rw [e] at ih
    have := Int.mul_le_mul_of_nonneg_left po (show 0 ≤ stands (ps.take (ps.length - (n + 1))) by omega)
    omega
theorem stands_le' {ps : List Part} (hok : ∀ p ∈ ps, p.ok) {n : Nat} (hn : n ≤ ps.length) : stands (ps.take n) ≤ stands ps := by
  have := stands_le hok (ps.length - n) (by omega)
  rw [show ps.length - (ps.length - n) = n by omega] at this
  exact this
theorem place_le {ps : List Part} (hok : ∀ p ∈ ps, p.ok) {n : Nat} {p : Part} (hp : ps[n]? = some p) : p.places ≤ stands ps := by
  have hn : n < ps.length := (List.getElem?_eq_some_iff.mp hp).1
  have po := (hok p (List.mem_of_getElem? hp)).pos.1
  have h3 := stands_le' hok (n := n + 1) hn
  have sp := stands_pos (ps.take n) fun q hq => hok q (List.mem_of_mem_take hq)
  rw [stands_take hp] at h3
  have := Int.mul_le_mul_of_nonneg_right sp (show 0 ≤ p.places by omega)
  omega
theorem fold_each {k : Nat} : ∀ (ps : List Part) (ss : List (List Int)), (∀ s ∈ ss, s.length = k) → ∀ s ∈ ps.foldl grow ss, s.length = k + ps.length
  | [], ss, h, s, hs => h s hs
  | p :: ps, ss, h, s, hs => by
    have := fold_each (k := k + 1) ps (grow ss p) (fun t ht => by
      obtain ⟨u, hu, hr⟩ := List.mem_flatMap.mp ht
      obtain ⟨x, _, rfl⟩ := List.mem_map.mp hr
      rw [List.length_append, h u hu]
      rfl) s hs
    rw [List.length_cons]
    omega
theorem allS_each (ps : List Part) (s : List Int) (h : s ∈ allS ps) : s.length = ps.length := by
  have := fold_each (k := 0) ps [[]] (fun t ht => by rw [List.mem_singleton] at ht; rw [ht]; rfl) s h
  omega
theorem grow_le {ps : List Part} (hok : ∀ p ∈ ps, p.ok) {n : Nat} {p : Part} (hp : ps[n]? = some p) {i : Nat} : (((allS (ps.take n)).take i).flatMap fun s => rowS s p.places.toNat).length ≤ (stands ps).toNat := by
  have hn : n < ps.length := (List.getElem?_eq_some_iff.mp hp).1
  have h1 : (((allS (ps.take n)).take i).flatMap fun s => rowS s p.places.toNat).length ≤ (grow (allS (ps.take n)) p).length := by
    unfold grow
    rw [flat_len, flat_len, List.length_take]
    exact Nat.mul_le_mul_right _ (Nat.min_le_right _ _)
  rw [← allS_take hp] at h1
  have h2 := allS_len hok (n + 1) hn
  have h3 := stands_le' hok (n := n + 1) hn
  omega
section
variable {K : PySem.W.Frag} {H : Hp}
theorem tupD_inv {v : V} {s : List Int} (h : Dp K H v (tupD s)) : ∃ a, v = .ref a ∧ SqT K H a (s.map V.int) := by
  obtain ⟨a, vs, rfl, hs, ht⟩ := tup_inv h
  cases dpAll_ints_inv s ht
  exact ⟨a, rfl, hs⟩
theorem tupD_dp {a : Addr} {s : List Int} (h : SqT K H a (s.map V.int)) : Dp K H (.ref a) (tupD s) := .tup h (dpAll_ints s)
theorem tups_upd {l : Addr} {ws : List V} {o : HO} (hl : H l = some (.lst ws)) : ∀ {vs : List V} (ss : List (List Int)), DpAll K H vs (ss.map tupD) → DpAll K (upd H l o) vs (ss.map tupD)
  | _, [], .nil => .nil
  | _, s :: r, .cons h t => by
    obtain ⟨a, rfl, ha⟩ := tupD_inv h
    exact .cons (tupD_dp (sqT_upd ha hl)) (tups_upd hl r t)
theorem tup_get {ss : List (List Int)} {vs : List V} (h2 : DpAll K H vs (ss.map tupD)) {i : Nat} {s : List Int} (e : ss[i]? = some s) : ∃ a, vs[i]? = some (.ref a) ∧ SqT K H a (s.map V.int) := by
  obtain ⟨v, hv, hd⟩ := dpAll_get h2 (d := tupD s) (by rw [List.getElem?_map, e]; rfl)
  obtain ⟨a, rfl, ha⟩ := tupD_inv hd
  exact ⟨a, hv, ha⟩
end
theorem lay_tupD (s : List Int) : (tupD s).canLay0 = true ∧ (tupD s).depth ≤ 1 := lay_tup (lay_ints s 0)
theorem lay_tups (ss : List (List Int)) : (PyData.list (ss.map tupD)).canLay0 = true ∧ (PyData.list (ss.map tupD)).depth ≤ 2 := lay_lst fun d hd => by
  obtain ⟨s, _, rfl⟩ := List.mem_map.mp hd
  exact lay_tupD s
theorem stands_rev : ∀ ps : List Part, stands ps.reverse = stands ps
  | [] => rfl
  | p :: r => by
    rw [List.reverse_cons, stands_app, stands_rev r]
    exact Int.mul_comm _ _
theorem dpAll_rev {K : PySem.W.Frag} {H : Hp} : ∀ {vs : List V} {ds : List PyData}, DpAll K H vs ds → DpAll K H vs.reverse ds.reverse
  | _, _, .nil => .nil
  | _, _, .cons h t => by
    rw [List.reverse_cons, List.reverse_cons]
    exact dpAll_app (dpAll_rev t) (.cons h .nil)
/-! two fors in one list -/
section
variable {K : PySem.W.Frag} {H : Hp} {σ : L2.St} {Q : VK}
def LB2 (J : It) (g : TG) (tt : TT) (wi1 : TI) (g1 : TG) (tt1 : TT) (te : TE) (vs vs1 : List Nat) (σ : L2.St) (H : Hp) (Q : VK) : Prop := tLc2 (fun _ H R => R J H) g tt wi1 g1 tt1 te vs vs1 σ H Q
theorem w_lc2 {wi wi1 : TI} {g g1 : TG} {tt tt1 : TT} {te : TE} {vs vs1 : List Nat} (h : wi σ H fun J H1 => LB2 J g tt wi1 g1 tt1 te vs vs1 σ H1 Q) : tLc2 wi g tt wi1 g1 tt1 te vs vs1 σ H Q := h
/-- the inner loop, from which Nx is reached -/
def IB (J : It) (g : TG) (tt : TT) (te : TE) (vs : List Nat) (D : Addr) (σ : L2.St) (H : Hp) (Nx : Hp → Prop) : Prop :=
  ∃ U : Nat → Nat → Hp → Prop, (∃ m, U 0 m H) ∧
    ∀ j k H, U j k H → (J.stop j H ∧ Nx H) ∨
      (J.go j H ∧ ∃ Z : Hp → Prop, (∀ H', Z H' → ∃ k', k' < k ∧ U (j + 1) k' H') ∧
        ∀ x H', J.yld j H x H' →
          g x (wipe σ vs) H' fun σ3 H5 => wipe σ3 vs = wipe σ vs ∧ tt σ3 H5 fun b H6 =>
            if b = true then te σ3 H6 fun y H7 => ∃ acc, H7 D = some (.lst acc) ∧ acc.length < sizeLine ∧ Z (upd H7 D (.lst (acc ++ [y]))) else Z H6)
theorem ib_range {lo : Int} {n : Nat} {g : TG} {tt : TT} {te : TE} {vs : List Nat} {D : Addr} {Nx : Hp → Prop} (Pi : Nat → Hp → Prop) (h0 : Pi 0 H)
    (hs : ∀ j H, j < n → Pi j H → g (.int (lo + j)) (wipe σ vs) H fun σ3 H5 => wipe σ3 vs = wipe σ vs ∧ tt σ3 H5 fun b H6 =>
      if b = true then te σ3 H6 fun y H7 => ∃ acc, H7 D = some (.lst acc) ∧ acc.length < sizeLine ∧ Pi (j + 1) (upd H7 D (.lst (acc ++ [y]))) else Pi (j + 1) H6) (hd : ∀ H, Pi n H → Nx H) : IB (Itr lo n) g tt te vs D σ H Nx := by
  refine ⟨fun j k H => k = n - j ∧ j ≤ n ∧ Pi j H, ⟨n, rfl, Nat.zero_le _, h0⟩, ?_⟩
  rintro j k H ⟨rfl, hj, p⟩
  by_cases hlt : j < n
  · refine .inr ⟨hlt, Pi (j + 1), fun H' p' => ⟨n - (j + 1), by omega, rfl, hlt, p'⟩, fun x H' y => ?_⟩
    obtain ⟨e1, e2⟩ := y
    subst e1 e2
    exact hs j _ hlt p
  · have e : j = n := by omega
    subst e
    exact .inl ⟨Nat.le_refl _, hd H p⟩
theorem lb2_list {a : Addr} (xs : List V) {wi1 : TI} {g g1 : TG} {tt tt1 : TT} {te : TE} {vs vs1 : List Nat} (Pv : Addr → Nat → Hp → Prop) (h0 : ∀ D, H D = none → Pv D 0 (upd H D (.lst []))) (hl : ∀ D, H D = none → ∀ i H1, i ≤ xs.length → Pv D i H1 → SqL K H1 a xs)
    (hs : ∀ D, H D = none → ∀ i x H1, xs[i]? = some x → Pv D i H1 → g x (wipe σ vs) H1 fun σ2 H2 => wipe σ2 vs = wipe σ vs ∧ tt σ2 H2 fun b H3 =>
      if b = true then wi1 σ2 H3 fun J1 H4 => IB J1 g1 tt1 te vs1 D σ2 H4 (Pv D (i + 1)) else Pv D (i + 1) H3) (hd : ∀ D, H D = none → ∀ H1, Pv D xs.length H1 → Q (.ref D) H1) : LB2 (Itl K a) g tt wi1 g1 tt1 te vs vs1 σ H Q := by
  intro D hD
  refine ⟨fun i m H1 => m = xs.length - i ∧ i ≤ xs.length ∧ Pv D i H1, ⟨xs.length, rfl, Nat.zero_le _, h0 D hD⟩, ?_⟩
  rintro i m H1 ⟨rfl, hi, p⟩
  have q := hl D hD i H1 hi p
  by_cases hlt : i < xs.length
  · refine .inr ⟨⟨xs, _, q, List.getElem?_eq_getElem hlt⟩, Pv D (i + 1), fun H' p' => ⟨xs.length - (i + 1), by omega, rfl, hlt, p'⟩, fun x H' y => ?_⟩
    obtain ⟨e, y⟩ := y
    subst e
    exact hs D hD i x _ (y xs q) p
  · have e : i = xs.length := by omega
    subst e
    exact .inl ⟨⟨xs, q, Nat.le_refl _⟩, hd D hD H1 p⟩
theorem w_star {te : TE} {t : TA} {QA : List V → Hp → Prop} (h : te σ H fun x H1 => ∃ p xs, x = V.ref p ∧ (SqT K H1 p xs ∨ SqL K H1 p xs) ∧ t σ H1 fun ys H2 => QA (xs ++ ys) H2) : StX.tStar K te t σ H QA := h
theorem lb_tup {a : Addr} (xs : List V) {g : TG} {tt : TT} {te : TE} {vs : List Nat} (Pv : Addr → Nat → Hp → Prop) (h0 : ∀ D, H D = none → Pv D 0 (upd H D (.lst []))) (hl : ∀ D, H D = none → ∀ i H1, i ≤ xs.length → Pv D i H1 → SqT K H1 a xs)
    (hs : ∀ D, H D = none → ∀ i x H1, xs[i]? = some x → Pv D i H1 → g x (wipe σ vs) H1 fun σ2 H2 => wipe σ2 vs = wipe σ vs ∧ tt σ2 H2 fun b H3 =>
      if b = true then te σ2 H3 fun y H4 => ∃ acc, H4 D = some (.lst acc) ∧ acc.length < sizeLine ∧ Pv D (i + 1) (upd H4 D (.lst (acc ++ [y]))) else Pv D (i + 1) H3) (hd : ∀ D, H D = none → ∀ H1, Pv D xs.length H1 → Q (.ref D) H1) : LB (Itt K a) g tt te vs σ H Q :=
  fun D hD => lc_tup (Pv D) (h0 D hD) (hl D hD) (hs D hD) (hd D hD)
theorem w_revL {te : TE} (h : te σ H fun x H1 => ∃ a xs, x = .ref a ∧ SqL K H1 a xs ∧ ∀ p, H1 p = none → Q (.ref p) (upd H1 p (.lst xs.reverse))) : tRevL K te σ H Q := h
end
end Ct
namespace Ct
open PySem PySem.Spec PyProof.Rows L2
theorem w_catA {K : PySem.W.Frag} {H : Hp} {Q : VK} {a b : Addr} {xs ys : List V} (ha : SqT K H a xs) (hb : SqT K H b ys) (l : xs.length + ys.length ≤ 1000) (q : ∀ u H', Same H H' → SqT K H' u (xs ++ ys) → Q (.ref u) H') : rCatA K (.ref a) (.ref b) H Q := by
  refine ⟨a, b, xs, ys, rfl, rfl, ha, hb, Nat.le_of_lt (small1000 l), fun hx => ?_, fun _ hy => ?_, fun _ _ p np => ?_⟩
  · refine q b H (Same.refl H) ?_
    rw [hx, List.nil_append]
    exact hb
  · refine q a H (Same.refl H) ?_
    rw [hy, List.append_nil]
    exact ha
  · exact q p _ (same_upd np) (.of upd_same)
end Ct
namespace Ct
open PySem PySem.Spec PyProof.Rows L2
theorem standL_app : ∀ {ps qs : List Part} {xs ys : List Int}, StandL ps xs → StandL qs ys → StandL (ps ++ qs) (xs ++ ys)
  | [], _, [], _, _, h => h
  | _ :: _, _, _ :: _, _, ⟨a, b, c, d⟩, h => ⟨a, b, c, standL_app d h⟩
end Ct
namespace Ct
open PySem PySem.Spec PyProof.Rows L2
/-! signs fed to a train -/
def isSg : PyData → Bool
  | .int i => decide (i ∈ [(1 : Int), -1, 0])
  | _ => false
theorem isSg_of {s : Int} (h : s = 0 ∨ Sign s) : isSg (.int s) = true := by
  rcases h with h | h | h <;> rw [h] <;> decide
theorem run_zero (ps : List Part) (xs : List Int) (i : Nat) : Ct.run ps xs i 0 = (xs, 0) := by
  unfold Ct.run
  have z := runN_zero (ps := ps) (i := i) (s := (xs, 0)) (n := 0) rfl (ps.length - i)
  rw [Nat.zero_add] at z
  exact z
theorem run_stand {ps : List Part} {xs : List Int} {i : Nat} {w : Int} (h : StandL ps xs) (hi : i < ps.length) (hw : w = 0 ∨ Sign w) : StandL ps (Ct.run ps xs i w).1 := by
  rcases hw with e | e
  · rw [e, run_zero]
    exact h
  · rw [← run_deed h hi e]
    exact deedL_stand h ⟨hi, e⟩
def fedS (ps : List Part) : List Int → List Int → List Int × List Int
  | xs, [] => (xs, [])
  | xs, s :: r => ((fedS ps (Ct.run ps xs 0 s).1 r).1, (Ct.run ps xs 0 s).2 :: (fedS ps (Ct.run ps xs 0 s).1 r).2)
theorem fedS_snoc (ps : List Part) (s : Int) : ∀ (ss : List Int) (xs : List Int), fedS ps xs (ss ++ [s]) = ((Ct.run ps (fedS ps xs ss).1 0 s).1, (fedS ps xs ss).2 ++ [(Ct.run ps (fedS ps xs ss).1 0 s).2])
  | [], xs => rfl
  | a :: r, xs => by
    rw [List.cons_append, fedS, fedS_snoc ps s r, fedS]
    rfl
theorem fedS_take {ps : List Part} {ss : List Int} {k : Nat} {s : Int} (xs : List Int) (h : ss[k]? = some s) : fedS ps xs (ss.take (k + 1)) = ((Ct.run ps (fedS ps xs (ss.take k)).1 0 s).1, (fedS ps xs (ss.take k)).2 ++ [(Ct.run ps (fedS ps xs (ss.take k)).1 0 s).2]) := by
  rw [← fedS_snoc, List.take_add_one, h]
  rfl
theorem fedS_stand {ps : List Part} (h1 : 1 ≤ ps.length) : ∀ {ss : List Int} {xs : List Int}, StandL ps xs → (∀ s ∈ ss, s = 0 ∨ Sign s) → StandL ps (fedS ps xs ss).1
  | [], _, h, _ => h
  | s :: r, _, h, hs => fedS_stand (ss := r) h1 (run_stand h h1 (hs s List.mem_cons_self)) fun t ht => hs t (List.mem_cons_of_mem s ht)
theorem fedS_len (ps : List Part) : ∀ (ss : List Int) (xs : List Int), (fedS ps xs ss).2.length = ss.length
  | [], _ => rfl
  | s :: r, xs => by
    rw [fedS, List.length_cons, List.length_cons, fedS_len ps r]
end Ct
namespace Ct
open PySem PySem.Spec PyProof.Rows L2
theorem fold_mem : ∀ (ps : List Part) (ss : List (List Int)) (xs : List Int), (∀ p ∈ ps, p.ok) → (xs ∈ ps.foldl grow ss ↔ ∃ s ∈ ss, ∃ ys, xs = s ++ ys ∧ StandL ps ys)
  | [], ss, xs, _ => by
    constructor
    · intro h
      exact ⟨xs, h, [], (List.append_nil xs).symm, trivial⟩
    · rintro ⟨s, hs, ys, rfl, hy⟩
      cases ys with
      | nil => rw [List.append_nil]; exact hs
      | cons _ _ => exact nomatch hy
  | p :: ps, ss, xs, ok => by
    have po := (ok p List.mem_cons_self).pos.1
    rw [List.foldl_cons, fold_mem ps (grow ss p) xs fun q hq => ok q (List.mem_cons_of_mem _ hq)]
    constructor
    · rintro ⟨s', hs', ys, rfl, hy⟩
      obtain ⟨s, hs, hin⟩ := List.mem_flatMap.mp hs'
      obtain ⟨k, hk, rfl⟩ := List.mem_map.mp hin
      rw [List.mem_range] at hk
      exact ⟨s, hs, (k : Int) :: ys, by rw [List.append_assoc]; rfl, ok p List.mem_cons_self, by omega, by omega, hy⟩
    · rintro ⟨s, hs, ys, rfl, hy⟩
      cases ys with
      | nil => exact nomatch hy
      | cons y ys =>
        obtain ⟨_, y0, y1, hy⟩ := hy
        refine ⟨s ++ [y], List.mem_flatMap.mpr ⟨s, hs, List.mem_map.mpr ⟨y.toNat, List.mem_range.mpr (by omega), by rw [Int.toNat_of_nonneg y0]⟩⟩, ys, by rw [List.append_assoc]; rfl, hy⟩
theorem allS_mem {ps : List Part} (ok : ∀ p ∈ ps, p.ok) (xs : List Int) : xs ∈ allS ps ↔ StandL ps xs := by
  rw [allS, fold_mem ps [[]] xs ok]
  constructor
  · rintro ⟨s, hs, ys, rfl, hy⟩
    rw [List.mem_singleton] at hs
    rw [hs]
    exact hy
  · intro h
    exact ⟨[], List.mem_singleton.mpr rfl, xs, rfl, h⟩
/-! one-way trains -/
def gvb : Part → Bool
  | .wheel _ ms => decide (0 < ms.length)
  | _ => false
theorem pp_back {p : Part} {x w : Int} (hw : Sign w) (h : (pp p x w).2 = -1) : w = -1 ∧ gvb p = true := by
  have e := pp_way p x w hw
  rw [h] at e
  have hw1 : w = -1 := by
    rcases e with e | e
    · exact absurd e (by decide)
    · exact e.symm
  refine ⟨hw1, ?_⟩
  subst hw1
  cases p with
  | wheel z ms =>
    have h : (if (if (-1 : Int) = 1 then (x + -1) % z else x) ∈ ms then (-1 : Int) else 0) = -1 := h
    by_cases e2 : (if (-1 : Int) = 1 then (x + -1) % z else x) ∈ ms
    · exact decide_eq_true (List.length_pos_of_mem e2)
    · rw [if_neg e2] at h
      exact absurd h (by decide)
  | click => exact absurd (show (if (-1 : Int) = 1 then (1 : Int) else 0) = -1 from h) (by decide)
  | rocker =>
    have h : (if (-1 : Int) = 1 ∧ x = 0 then (1 : Int) else 0) = -1 := h
    rw [if_neg (by intro z; exact absurd z.1 (by decide))] at h
    exact absurd h (by decide)
  | spring k => exact absurd (show (0 : Int) = -1 from h) (by decide)
/-- what is shown below nought comes through all parts -/
theorem gen_back : ∀ {ps : List Part} {xs : List Int} {w : Int}, w = 0 ∨ Sign w → xs.length = ps.length → (gen ppz ps xs w).2 = -1 → w = -1 ∧ ps.all gvb = true
  | [], [], w, _, _, h => ⟨h, rfl⟩
  | p :: ps, x :: xs, w, hw, hl, h => by
    have hl' : xs.length = ps.length := Nat.succ.inj hl
    have h' : (gen ppz ps xs (ppz p x w).2).2 = -1 := h
    have hz : (ppz p x w).2 = 0 ∨ Sign (ppz p x w).2 := by
      unfold ppz
      split
      · exact .inl rfl
      · rename_i e
        exact pp_sign p x w (hw.resolve_left e)
    obtain ⟨h1, h2⟩ := gen_back hz hl' h'
    have e : w ≠ 0 := fun z => by
      rw [show ppz p x w = (x, 0) from if_pos z] at h1
      exact absurd (show (0 : Int) = -1 from h1) (by decide)
    unfold ppz at h1
    rw [if_neg e] at h1
    obtain ⟨h3, h4⟩ := pp_back (hw.resolve_left e) h1
    exact ⟨h3, by rw [List.all_cons, h4, h2]; rfl⟩
/-- a stand at which each wheel stands at a mark -/
def atMarks : List Part → List Int
  | [] => []
  | .wheel _ (m :: _) :: r => m :: atMarks r
  | _ :: r => 0 :: atMarks r
theorem marks_back : ∀ {ps : List Part}, (∀ p ∈ ps, p.ok) → ps.all gvb = true → StandL ps (atMarks ps) ∧ (gen ppz ps (atMarks ps) (-1)).2 = -1
  | [], _, _ => ⟨trivial, rfl⟩
  | .wheel z (m :: ms) :: r, ok, h => by
    rw [List.all_cons, Bool.and_eq_true] at h
    have o := ok _ List.mem_cons_self
    obtain ⟨h1, h2⟩ := marks_back (fun p hp => ok p (List.mem_cons_of_mem _ hp)) h.2
    have hm := o.2.2.1.2 m List.mem_cons_self
    refine ⟨⟨o, hm.1, hm.2, h1⟩, ?_⟩
    show (gen ppz r (atMarks r) (ppz (.wheel z (m :: ms)) m (-1)).2).2 = -1
    rw [show (ppz (.wheel z (m :: ms)) m (-1)).2 = -1 from if_pos List.mem_cons_self]
    exact h2
  | .wheel z [] :: r, _, h => by
    rw [List.all_cons, Bool.and_eq_true] at h
    exact absurd (show false = true from h.1) (by decide)
  | .click :: r, _, h => by
    rw [List.all_cons, Bool.and_eq_true] at h
    exact absurd h.1 (by decide)
  | .rocker :: r, _, h => by
    rw [List.all_cons, Bool.and_eq_true] at h
    exact absurd h.1 (by decide)
  | .spring k :: r, _, h => by
    rw [List.all_cons, Bool.and_eq_true] at h
    exact absurd (show false = true from h.1) (by decide)
theorem run_back {ps : List Part} {xs : List Int} {w : Int} (hl : xs.length = ps.length) (hw : Sign w) (h : (Ct.run ps xs 0 w).2 = -1) : w = -1 ∧ ps.all gvb = true := by
  rw [run_gen hl (Nat.zero_le _)] at h
  exact gen_back (.inr hw) hl h
theorem run_marks {ps : List Part} (ok : ∀ p ∈ ps, p.ok) (h : ps.all gvb = true) : StandL ps (atMarks ps) ∧ (Ct.run ps (atMarks ps) 0 (-1)).2 = -1 := by
  obtain ⟨h1, h2⟩ := marks_back ok h
  refine ⟨h1, ?_⟩
  rw [run_gen h1.len (Nat.zero_le _)]
  exact h2
/-! worn teeth -/
def offMark (ms : List Int) (m : Int) : List Int := ms.filter fun k => !decide (k = m)
def wornP (ps : List Part) : Option (Nat × Int) → List Part
  | none => ps
  | some (i, m) => match ps[i]? with
    | some (.wheel z ms) => ps.set i (.wheel z (offMark ms m))
    | _ => ps
theorem offMark_ok {z : Int} {ms : List Int} {m : Int} (h : (Part.wheel z ms).ok) : (Part.wheel z (offMark ms m)).ok :=
  ⟨h.1, h.2.1, ⟨h.2.2.1.1.filter _, fun k hk => h.2.2.1.2 k (List.mem_filter.mp hk).1⟩, Nat.le_trans (List.length_filter_le _ _) h.2.2.2⟩
theorem wornP_ok {ps : List Part} (h : ∀ p ∈ ps, p.ok) (w : Option (Nat × Int)) : ∀ p ∈ wornP ps w, p.ok := by
  unfold wornP
  split
  · exact h
  · split
    · rename_i i m z ms e
      intro p hp
      rcases List.mem_or_eq_of_mem_set hp with hp | hp
      · exact h p hp
      · rw [hp]
        exact offMark_ok (h _ (List.mem_of_getElem? e))
    · exact h
theorem wornP_len (ps : List Part) (w : Option (Nat × Int)) : (wornP ps w).length = ps.length := by
  unfold wornP
  split
  · rfl
  · split
    · rw [List.length_set]
    · rfl
/-- a wear as it is handed in -/
def WearAt (K : PySem.W.Frag) (H : Hp) (v : V) : Option (Nat × Int) → Prop
  | none => v = .non
  | some (i, m) => ∃ g, v = .ref g ∧ SqT K H g [.int i, .int m]
end Ct
namespace Ct
open PySem PySem.Spec PyProof.Rows L2
theorem dpAll_set {K : PySem.W.Frag} {H : Hp} : ∀ {vs : List V} {ds : List PyData} {i : Nat} {v : V} {d : PyData}, DpAll K H vs ds → Dp K H v d → DpAll K H (vs.set i v) (ds.set i d)
  | _, _, _, _, _, .nil, _ => .nil
  | _, _, 0, _, _, .cons _ t, h => .cons h t
  | _, _, _ + 1, _, _, .cons a t, h => .cons a (dpAll_set t h)
theorem WearAt.same {K : PySem.W.Frag} {H H' : Hp} {v : V} {w : Option (Nat × Int)} (s : Same H H') (h : WearAt K H v w) : WearAt K H' v w := by
  cases w with
  | none => exact h
  | some im =>
    obtain ⟨g, e, hg⟩ := h
    exact ⟨g, e, Same.tup s hg⟩
end Ct
namespace Ct
open PySem PySem.Spec PyProof.Rows L2
/-! trains behind one another -/
theorem gen_app (f : Part → Int → Int → Int × Int) (qs : List Part) (ys : List Int) : ∀ (ps : List Part) (xs : List Int) (a : Int), xs.length = ps.length →
    gen f (ps ++ qs) (xs ++ ys) a = ((gen f ps xs a).1 ++ (gen f qs ys (gen f ps xs a).2).1, (gen f qs ys (gen f ps xs a).2).2)
  | [], [], _, _ => rfl
  | p :: ps, x :: xs, a, h => by
    have ih := gen_app f qs ys ps xs (f p x a).2 (Nat.succ.inj h)
    show ((f p x a).1 :: (gen f (ps ++ qs) (xs ++ ys) (f p x a).2).1, (gen f (ps ++ qs) (xs ++ ys) (f p x a).2).2) = _
    rw [ih]
    rfl
theorem run0 {ps : List Part} {xs : List Int} (w : Int) (hx : xs.length = ps.length) : Ct.run ps xs 0 w = gen ppz ps xs w := by
  rw [run_gen hx (Nat.zero_le _)]
  rfl
theorem run_len (ps : List Part) (xs : List Int) (w : Int) : (Ct.run ps xs 0 w).1.length = xs.length := runN_len ps 0 (xs, w) _
theorem run_app {ps qs : List Part} {xs ys : List Int} (w : Int) (hx : xs.length = ps.length) (hy : ys.length = qs.length) :
    Ct.run (ps ++ qs) (xs ++ ys) 0 w = ((Ct.run ps xs 0 w).1 ++ (Ct.run qs ys 0 (Ct.run ps xs 0 w).2).1, (Ct.run qs ys 0 (Ct.run ps xs 0 w).2).2) := by
  rw [run0 w (by rw [List.length_append, List.length_append, hx, hy]), gen_app ppz qs ys ps xs w hx, run0 w hx, run0 _ hy]
theorem run_sg {ps : List Part} {xs : List Int} {w : Int} (hw : w = 0 ∨ Sign w) : (Ct.run ps xs 0 w).2 = 0 ∨ Sign (Ct.run ps xs 0 w).2 := by
  rcases hw with e | e
  · rw [e, run_zero]
    exact .inl rfl
  · exact runN_sign ps 0 (xs, w) e _
theorem fedS_sg {ps : List Part} : ∀ {ss : List Int} {xs : List Int}, (∀ s ∈ ss, s = 0 ∨ Sign s) → ∀ s ∈ (fedS ps xs ss).2, s = 0 ∨ Sign s
  | [], _, _, _, h => by cases h
  | s :: r, xs, hs, t, h => by
    rcases List.mem_cons.mp h with h | h
    · rw [h]
      exact run_sg (hs s List.mem_cons_self)
    · exact fedS_sg (ss := r) (fun u hu => hs u (List.mem_cons_of_mem s hu)) t h
theorem fedS_len1 (ps : List Part) : ∀ (ss : List Int) (xs : List Int), (fedS ps xs ss).1.length = xs.length
  | [], _ => rfl
  | s :: r, xs => by rw [fedS, fedS_len1 ps r, run_len]
theorem fed_app {ps qs : List Part} : ∀ {ss : List Int} {xs ys : List Int}, xs.length = ps.length → ys.length = qs.length →
    fedS (ps ++ qs) (xs ++ ys) ss = ((fedS ps xs ss).1 ++ (fedS qs ys (fedS ps xs ss).2).1, (fedS qs ys (fedS ps xs ss).2).2)
  | [], _, _, _, _ => rfl
  | s :: r, xs, ys, hx, hy => by
    have ih := fed_app (ss := r) (xs := (Ct.run ps xs 0 s).1) (ys := (Ct.run qs ys 0 (Ct.run ps xs 0 s).2).1) (by rw [run_len, hx]) (by rw [run_len, hy])
    rw [fedS, run_app s hx hy, fedS]
    show ((fedS (ps ++ qs) ((Ct.run ps xs 0 s).1 ++ (Ct.run qs ys 0 (Ct.run ps xs 0 s).2).1) r).1, (Ct.run qs ys 0 (Ct.run ps xs 0 s).2).2 :: (fedS (ps ++ qs) ((Ct.run ps xs 0 s).1 ++ (Ct.run qs ys 0 (Ct.run ps xs 0 s).2).1) r).2) = _
    rw [ih]
    rfl
theorem gen_nought {w : Int} : ∀ {ps : List Part} {xs : List Int}, StandL ps xs → gen (ptw w) ps xs 0 = (xs, 0)
  | [], [], _ => rfl
  | p :: ps, x :: xs, h => by
    obtain ⟨ok, x0, x1, hr⟩ := h
    show ((ptw w p x 0).1 :: (gen (ptw w) ps xs (ptw w p x 0).2).1, (gen (ptw w) ps xs (ptw w p x 0).2).2) = _
    rw [show ptw w p x 0 = (x, 0) from pt_zero ok x0 x1, gen_nought hr]
theorem gen_upto {w : Int} (hw : Sign w) : ∀ {ps : List Part} {xs : List Int} {t : Int}, 0 ≤ t → StandL ps xs → 0 ≤ (gen (ptw w) ps xs t).2 ∧ (gen (ptw w) ps xs t).2 ≤ t
  | [], [], t, h, _ => ⟨h, Int.le_refl _⟩
  | p :: ps, x :: xs, t, h, hs => by
    obtain ⟨ok, x0, x1, hr⟩ := hs
    have e : ((t.toNat : Nat) : Int) = t := Int.toNat_of_nonneg h
    have h1 := pt_nn ok x0 x1 hw t.toNat
    have h2 := pt_le ok x0 x1 hw t.toNat
    rw [e] at h1 h2
    have ih := gen_upto (ps := ps) (xs := xs) (t := (ptw w p x t).2) hw h1 hr
    exact ⟨ih.1, Int.le_trans ih.2 h2⟩
/-- a deed at a part of the first train: what it gives comes to the second one -/
theorem deed_front {ps qs : List Part} {xs ys : List Int} {d : Deed} (hx : StandL ps xs) (hy : StandL qs ys) (hd : d.ok ps.length) {w' : Int} {t' : Nat} (hw' : w' = if (deedL ps xs d).2 < 0 then -1 else 1) (ht' : (t' : Int) = if (deedL ps xs d).2 < 0 then -(deedL ps xs d).2 else (deedL ps xs d).2) :
    t' ≤ d.t ∧ deedL (ps ++ qs) (xs ++ ys) d = ((deedL ps xs d).1 ++ (deedL qs ys ⟨0, w', t'⟩).1, (deedL qs ys ⟨0, w', t'⟩).2) := by
  have hl := hx.len
  have e1 : (xs ++ ys).take d.i = xs.take d.i := List.take_append_of_le_length (by have := hd.1; omega)
  have e2 : (xs ++ ys).drop d.i = xs.drop d.i ++ ys := List.drop_append_of_le_length (by have := hd.1; omega)
  have e3 : (ps ++ qs).drop d.i = ps.drop d.i ++ qs := List.drop_append_of_le_length (by have := hd.1; omega)
  have hg := gen_upto (t := (d.t : Int)) hd.2 (by omega) (stand_drop d.i hx)
  have ga := gen_app (ptw d.w) qs ys (ps.drop d.i) (xs.drop d.i) d.t (by rw [List.length_drop, List.length_drop, hl])
  unfold deedL at hw' ht' ⊢
  rw [e1, e2, e3, ga]
  generalize gen (ptw d.w) (ps.drop d.i) (xs.drop d.i) d.t = r at *
  have hw' : w' = if d.w * r.2 < 0 then -1 else 1 := hw'
  have ht' : (t' : Int) = if d.w * r.2 < 0 then -(d.w * r.2) else d.w * r.2 := ht'
  have et : (t' : Int) = r.2 := by
    rcases hd.2 with e | e <;> rw [e] at ht' <;> split at ht' <;> omega
  refine ⟨by omega, ?_⟩
  show (xs.take d.i ++ (r.1 ++ (gen (ptw d.w) qs ys r.2).1), d.w * (gen (ptw d.w) qs ys r.2).2) = ((xs.take d.i ++ r.1) ++ ([] ++ (gen (ptw w') qs ys (t' : Int)).1), w' * (gen (ptw w') qs ys (t' : Int)).2)
  rw [et, List.nil_append, List.append_assoc]
  by_cases h0 : r.2 = 0
  · rw [h0, gen_nought hy, gen_nought hy, Int.mul_zero, Int.mul_zero]
  · have ew : w' = d.w := by
      rcases hd.2 with e | e <;> rw [e] at hw' ⊢ <;> rw [hw'] <;> split <;> omega
    rw [ew]
theorem deed_behind {ps qs : List Part} {xs ys : List Int} {d : Deed} {j : Nat} (hx : xs.length = ps.length) (hi : d.i = ps.length + j) : deedL (ps ++ qs) (xs ++ ys) d = (xs ++ (deedL qs ys ⟨j, d.w, d.t⟩).1, (deedL qs ys ⟨j, d.w, d.t⟩).2) := by
  unfold deedL
  rw [hi]
  have e1 : (xs ++ ys).take (ps.length + j) = xs ++ ys.take j := by rw [← hx, List.take_length_add_append]
  have e2 : (xs ++ ys).drop (ps.length + j) = ys.drop j := by rw [← hx, List.drop_length_add_append]
  have e3 : (ps ++ qs).drop (ps.length + j) = qs.drop j := by rw [List.drop_length_add_append]
  rw [e1, e2, e3, List.append_assoc]
end Ct

namespace Ct
open PySem PySem.Spec PyProof.Rows L2
/-! a row done often -/
def itR (ps : List Part) (ds : List Deed) : Nat → List Int → List Int × Int
  | 0, xs => (xs, 0)
  | n + 1, xs => ((rowL ps ds ((itR ps ds n xs).1, 0)).1, (itR ps ds n xs).2 + (rowL ps ds ((itR ps ds n xs).1, 0)).2)
theorem itR_stand {ps : List Part} {ds : List Deed} {xs : List Int} (h : StandL ps xs) (hd : ∀ d ∈ ds, d.ok ps.length) : ∀ n, StandL ps (itR ps ds n xs).1
  | 0 => h
  | n + 1 => rowL_stand (s := ((itR ps ds n xs).1, 0)) (itR_stand h hd n) hd
theorem itR_round {ps : List Part} {ds : List Deed} {xs : List Int} {j k : Nat} (e : (itR ps ds j xs).1 = (itR ps ds k xs).1) : ∀ m, (itR ps ds (k + m) xs).1 = (itR ps ds (j + m) xs).1 ∧ (itR ps ds (k + m) xs).2 - (itR ps ds (j + m) xs).2 = (itR ps ds k xs).2 - (itR ps ds j xs).2
  | 0 => ⟨e.symm, rfl⟩
  | m + 1 => by
    obtain ⟨h1, h2⟩ := itR_round e m
    show (rowL ps ds ((itR ps ds (k + m) xs).1, 0)).1 = (rowL ps ds ((itR ps ds (j + m) xs).1, 0)).1 ∧ (itR ps ds (k + m) xs).2 + (rowL ps ds ((itR ps ds (k + m) xs).1, 0)).2 - ((itR ps ds (j + m) xs).2 + (rowL ps ds ((itR ps ds (j + m) xs).1, 0)).2) = _
    rw [h1]
    exact ⟨rfl, by omega⟩
theorem itR_rounds {ps : List Part} {ds : List Deed} {xs : List Int} {j k : Nat} (hjk : j ≤ k) (e : (itR ps ds j xs).1 = (itR ps ds k xs).1) (m : Nat) : ∀ r : Nat, itR ps ds (j + m + r * (k - j)) xs = ((itR ps ds (j + m) xs).1, (itR ps ds (j + m) xs).2 + (r : Int) * ((itR ps ds k xs).2 - (itR ps ds j xs).2))
  | 0 => by
    rw [Nat.zero_mul, Nat.add_zero, show ((0 : Nat) : Int) = 0 from rfl, Int.zero_mul, Int.add_zero]
  | r + 1 => by
    have ih := itR_rounds hjk e m r
    have hr := itR_round e (m + r * (k - j))
    rw [← Nat.add_assoc j m, ih] at hr
    rw [show j + m + (r + 1) * (k - j) = k + (m + r * (k - j)) by rw [Nat.add_mul, Nat.one_mul]; omega]
    refine Prod.ext hr.1 ?_
    have h2 : (itR ps ds (k + (m + r * (k - j))) xs).2 - ((itR ps ds (j + m) xs).2 + (r : Int) * ((itR ps ds k xs).2 - (itR ps ds j xs).2)) = (itR ps ds k xs).2 - (itR ps ds j xs).2 := hr.2
    show (itR ps ds (k + (m + r * (k - j))) xs).2 = (itR ps ds (j + m) xs).2 + ((r + 1 : Nat) : Int) * ((itR ps ds k xs).2 - (itR ps ds j xs).2)
    rw [show ((r + 1 : Nat) : Int) = (r : Int) + 1 by omega, Int.add_mul, Int.one_mul]
    omega
/-- the way round, reckoned -/
theorem itR_at {ps : List Part} {ds : List Deed} {xs : List Int} {j k n : Nat} (hjk : j < k) (hn : j ≤ n) (e : (itR ps ds j xs).1 = (itR ps ds k xs).1) :
    itR ps ds n xs = ((itR ps ds (j + (n - j) % (k - j)) xs).1, (itR ps ds (j + (n - j) % (k - j)) xs).2 + (((n - j) / (k - j) : Nat) : Int) * ((itR ps ds k xs).2 - (itR ps ds j xs).2)) := by
  have h := itR_rounds (Nat.le_of_lt hjk) e ((n - j) % (k - j)) ((n - j) / (k - j))
  rw [show j + (n - j) % (k - j) + (n - j) / (k - j) * (k - j) = n by
    have := Nat.mod_add_div (n - j) (k - j)
    rw [Nat.mul_comm (k - j)] at this
    omega] at h
  exact h
/-! no more unlike stands than there are -/
theorem filt_len {N : Nat} : ∀ {l : List Nat}, l.Nodup → (∀ x ∈ l, x < N + 1) → l.length ≤ (l.filter fun x => decide (x < N)).length + 1
  | [], _, _ => Nat.zero_le _
  | a :: r, hn, h => by
    obtain ⟨h1, h2⟩ := List.nodup_cons.mp hn
    by_cases ha : a < N
    · rw [List.filter_cons, if_pos (decide_eq_true ha), List.length_cons, List.length_cons]
      have := filt_len h2 fun x hx => h x (List.mem_cons_of_mem _ hx)
      omega
    · have ea : a = N := by
        have := h a List.mem_cons_self
        omega
      have : (r.filter fun x => decide (x < N)) = r := List.filter_eq_self.mpr fun x hx => decide_eq_true (by
        have h3 := h x (List.mem_cons_of_mem _ hx)
        have h4 : x ≠ N := fun z => h1 (by rw [ea, ← z]; exact hx)
        omega)
      rw [List.filter_cons, if_neg (by rw [decide_eq_false ha]; exact Bool.false_ne_true), this, List.length_cons]
      omega
theorem holes : ∀ (N : Nat) (l : List Nat), l.Nodup → (∀ x ∈ l, x < N) → l.length ≤ N
  | 0, [], _, _ => Nat.le_refl _
  | 0, a :: _, _, h => absurd (h a List.mem_cons_self) (Nat.not_lt_zero a)
  | N + 1, l, hn, h => by
    have h1 := filt_len hn h
    have h2 := holes N (l.filter fun x => decide (x < N)) (hn.filter _) fun x hx => of_decide_eq_true (List.mem_filter.mp hx).2
    omega
def code : List Part → List Int → Nat
  | _ :: ps, x :: xs => x.toNat * (stands ps).toNat + code ps xs
  | _, _ => 0
theorem code_lt : ∀ {ps : List Part} {xs : List Int}, StandL ps xs → code ps xs < (stands ps).toNat
  | [], [], _ => by decide
  | p :: ps, x :: xs, ⟨ok, h0, h1, h⟩ => by
    have ih := code_lt (ps := ps) (xs := xs) h
    have po := ok.pos.1
    show x.toNat * (stands ps).toNat + code ps xs < (p.places * stands ps).toNat
    have sp : 1 ≤ stands ps := stands_pos ps h.okp
    have e : (p.places * stands ps).toNat = p.places.toNat * (stands ps).toNat := by
      rw [Int.toNat_mul (by omega) (by omega)]
    rw [e]
    have hx : x.toNat + 1 ≤ p.places.toNat := by omega
    have := Nat.mul_le_mul_right (stands ps).toNat hx
    rw [Nat.add_mul, Nat.one_mul] at this
    omega
theorem code_inj : ∀ {ps : List Part} {xs ys : List Int}, StandL ps xs → StandL ps ys → code ps xs = code ps ys → xs = ys
  | [], [], [], _, _, _ => rfl
  | p :: ps, x :: xs, y :: ys, ⟨_, a0, _, ha⟩, ⟨_, b0, _, hb⟩, e => by
    have la := code_lt ha
    have lb := code_lt hb
    have e2 : x.toNat * (stands ps).toNat + code ps xs = y.toNat * (stands ps).toNat + code ps ys := e
    generalize (stands ps).toNat = N at *
    have d1 : (x.toNat * N + code ps xs) / N = x.toNat := by
      rw [Nat.mul_comm, Nat.mul_add_div (by omega), Nat.div_eq_of_lt la, Nat.add_zero]
    have d2 : (y.toNat * N + code ps ys) / N = y.toNat := by
      rw [Nat.mul_comm, Nat.mul_add_div (by omega), Nat.div_eq_of_lt lb, Nat.add_zero]
    rw [e2, d2] at d1
    have ex : x = y := by omega
    subst ex
    rw [code_inj ha hb (by omega)]
theorem few_stands {ps : List Part} {ds : List Deed} {xs : List Int} (h : StandL ps xs) (hd : ∀ d ∈ ds, d.ok ps.length) {k : Nat} (dist : ∀ i j, i < j → j < k → (itR ps ds i xs).1 ≠ (itR ps ds j xs).1) : k ≤ (stands ps).toNat := by
  have := holes (stands ps).toNat ((List.range k).map fun i => code ps (itR ps ds i xs).1) ?_ ?_
  · rw [List.length_map, List.length_range] at this
    exact this
  · rw [List.nodup_iff_pairwise_ne, List.pairwise_map]
    refine List.Pairwise.imp_of_mem (fun {a b} ha hb hab => ?_) (List.pairwise_lt_range (n := k))
    rw [List.mem_range] at ha hb
    exact fun z => dist a b hab hb (code_inj (itR_stand h hd a) (itR_stand h hd b) z)
  · intro x hx
    obtain ⟨i, _, rfl⟩ := List.mem_map.mp hx
    exact code_lt (itR_stand h hd i)
/-! how great a sum may be -/
theorem gen_le {w : Int} (hw : Sign w) : ∀ (ps : List Part) (xs : List Int) (t : Int), 0 ≤ t → StandL ps xs → (gen (ptw w) ps xs t).2 ≤ t
  | [], [], t, _, _ => Int.le_refl _
  | p :: ps, x :: xs, t, ht, ⟨ok, h0, h1, h⟩ => by
    have e : ((t.toNat : Nat) : Int) = t := by omega
    have a := pt_le ok h0 h1 hw t.toNat
    have n := pt_nn ok h0 h1 hw t.toNat
    rw [e] at a n
    exact Int.le_trans (gen_le hw ps xs (pt p x w t).2 n h) a
theorem deedL_sum {ps : List Part} {xs : List Int} {d : Deed} (h : StandL ps xs) (hd : d.ok ps.length) : -(d.t : Int) ≤ (deedL ps xs d).2 ∧ (deedL ps xs d).2 ≤ d.t := by
  have g1 := (gen_stand hd.2 _ _ (d.t : Int) (by omega) (stand_drop d.i h)).2
  have g2 := gen_le hd.2 _ _ (d.t : Int) (by omega) (stand_drop d.i h)
  show -(d.t : Int) ≤ d.w * (gen (ptw d.w) (ps.drop d.i) (xs.drop d.i) d.t).2 ∧ d.w * (gen (ptw d.w) (ps.drop d.i) (xs.drop d.i) d.t).2 ≤ d.t
  generalize (gen (ptw d.w) (ps.drop d.i) (xs.drop d.i) d.t).2 = g at *
  rcases hd.2 with e | e
  · rw [e, Int.one_mul]
    exact ⟨by omega, g2⟩
  · rw [e]
    exact ⟨by omega, by omega⟩
theorem rowL_sum {ps : List Part} : ∀ {ds : List Deed} {s : List Int × Int}, StandL ps s.1 → (∀ d ∈ ds, d.ok ps.length ∧ d.t < 2 ^ 200) → s.2 - ds.length * 2 ^ 200 ≤ (rowL ps ds s).2 ∧ (rowL ps ds s).2 ≤ s.2 + ds.length * 2 ^ 200
  | [], s, _, _ => by
    show s.2 - ((0 : Nat) : Int) * 2 ^ 200 ≤ s.2 ∧ s.2 ≤ s.2 + ((0 : Nat) : Int) * 2 ^ 200
    rw [show ((0 : Nat) : Int) = 0 from rfl, Int.zero_mul]
    omega
  | d :: ds, s, h, hd => by
    have d0 := hd d List.mem_cons_self
    have a := deedL_sum h d0.1
    have ih := rowL_sum (ds := ds) (s := ((deedL ps s.1 d).1, s.2 + (deedL ps s.1 d).2)) (deedL_stand h d0.1) fun e he => hd e (List.mem_cons_of_mem _ he)
    have i1 : s.2 + (deedL ps s.1 d).2 - (ds.length : Int) * 2 ^ 200 ≤ (rowL ps (d :: ds) s).2 := ih.1
    have i2 : (rowL ps (d :: ds) s).2 ≤ s.2 + (deedL ps s.1 d).2 + (ds.length : Int) * 2 ^ 200 := ih.2
    have dt := d0.2
    rw [List.length_cons, show ((ds.length + 1 : Nat) : Int) = (ds.length : Int) + 1 by omega, Int.add_mul, Int.one_mul]
    omega
theorem itR_sum {ps : List Part} {ds : List Deed} {xs : List Int} (h : StandL ps xs) (hd : ∀ d ∈ ds, d.ok ps.length ∧ d.t < 2 ^ 200) (hl : ds.length ≤ 1000) : ∀ n : Nat, -(n : Int) * 2 ^ 210 ≤ (itR ps ds n xs).2 ∧ (itR ps ds n xs).2 ≤ (n : Int) * 2 ^ 210
  | 0 => by
    show -((0 : Nat) : Int) * 2 ^ 210 ≤ 0 ∧ (0 : Int) ≤ ((0 : Nat) : Int) * 2 ^ 210
    decide
  | n + 1 => by
    have ih := itR_sum h hd hl n
    have r := rowL_sum (s := ((itR ps ds n xs).1, 0)) (itR_stand h (fun d hm => (hd d hm).1) n) hd
    have r1 : (0 : Int) - ds.length * 2 ^ 200 ≤ (rowL ps ds ((itR ps ds n xs).1, 0)).2 := r.1
    have r2 : (rowL ps ds ((itR ps ds n xs).1, 0)).2 ≤ 0 + ds.length * 2 ^ 200 := r.2
    show -((n + 1 : Nat) : Int) * 2 ^ 210 ≤ (itR ps ds n xs).2 + (rowL ps ds ((itR ps ds n xs).1, 0)).2 ∧ (itR ps ds n xs).2 + (rowL ps ds ((itR ps ds n xs).1, 0)).2 ≤ ((n + 1 : Nat) : Int) * 2 ^ 210
    rw [show ((n + 1 : Nat) : Int) = (n : Int) + 1 by omega]
    omega
theorem inl_inj : ∀ {xs ys : List Int}, xs.map (Sum.inl : Int → Key) = ys.map Sum.inl → xs = ys
  | [], [], _ => rfl
  | [], _ :: _, h => nomatch h
  | _ :: _, [], h => nomatch h
  | x :: xs, y :: ys, h => by
    injection h with h1 h2
    injection h1 with h3
    rw [h3, inl_inj h2]
theorem key_map (xs : List Int) : (xs.map (Sum.inl : Int → Key)).map kV = xs.map V.int := by
  rw [List.map_map]
  rfl
theorem units65 {k : Nat} {A : Around} (r : Room k A) : A.units + 65 < cLine := by
  have := r.un
  omega
theorem eqv_ints : ∀ (xs ys : List Int), PyData.eqvAll (xs.map PyData.int) (ys.map PyData.int) = decide (xs = ys)
  | [], [] => rfl
  | [], _ :: _ => rfl
  | _ :: _, [] => rfl
  | x :: xs, y :: ys => by
    rw [List.map_cons, List.map_cons, PyData.eqvAll, eqv_ints xs ys, PyData.eqv]
    by_cases e : x = y
    · subst e
      by_cases e2 : xs = ys
      · subst e2
        simp
      · rw [decide_eq_false e2, decide_eq_false (fun z => e2 (List.cons.inj z).2), Bool.and_false]
    · rw [decide_eq_false (fun z => e (List.cons.inj z).1), show (x == y) = false from beq_eq_false_iff_ne.mpr e, Bool.false_and]
theorem eqv_tupD (xs ys : List Int) : PyData.eqv (tupD xs) (tupD ys) = decide (xs = ys) := by
  unfold tupD
  rw [PyData.eqv]
  exact eqv_ints xs ys
theorem itR_one {ps : List Part} {xs : List Int} {i : Nat} {w : Int} (h : StandL ps xs) (hi : i < ps.length) (hw : Sign w) : ∀ n, itR ps [⟨i, w, 1⟩] n xs = pushes ps i w n (xs, 0)
  | 0 => rfl
  | n + 1 => by
    have ih := itR_one h hi hw n
    have hs : StandL ps (pushes ps i w n (xs, 0)).1 := pushes_stand h hi hw 0 n
    have e : rowL ps [⟨i, w, 1⟩] ((pushes ps i w n (xs, 0)).1, 0) = pushes ps i w 1 ((pushes ps i w n (xs, 0)).1, 0) := rowL_one (s := ((pushes ps i w n (xs, 0)).1, 0)) (d := ⟨i, w, 1⟩) hs ⟨hi, hw⟩
    show ((rowL ps [⟨i, w, 1⟩] ((itR ps [⟨i, w, 1⟩] n xs).1, 0)).1, (itR ps [⟨i, w, 1⟩] n xs).2 + (rowL ps [⟨i, w, 1⟩] ((itR ps [⟨i, w, 1⟩] n xs).1, 0)).2) = _
    rw [ih, e]
    refine Prod.ext rfl ?_
    show (pushes ps i w n (xs, 0)).2 + (0 + (Ct.run ps (pushes ps i w n (xs, 0)).1 i w).2) = (pushes ps i w n (xs, 0)).2 + (Ct.run ps (pushes ps i w n (xs, 0)).1 i w).2
    omega
theorem itR_deed {ps : List Part} {xs : List Int} {i : Nat} {w : Int} (h : StandL ps xs) (hi : i < ps.length) (hw : Sign w) (n : Nat) : itR ps [⟨i, w, 1⟩] n xs = rowL ps [⟨i, w, n⟩] (xs, 0) := by
  rw [itR_one h hi hw n, rowL_one (s := (xs, 0)) (d := ⟨i, w, n⟩) h ⟨hi, hw⟩]
theorem itR_add {ps : List Part} {ds : List Deed} (a : Nat) (xs : List Int) : ∀ b, itR ps ds (a + b) xs = ((itR ps ds b (itR ps ds a xs).1).1, (itR ps ds a xs).2 + (itR ps ds b (itR ps ds a xs).1).2)
  | 0 => Prod.ext rfl (Int.add_zero _).symm
  | b + 1 => by
    have ih := itR_add (ps := ps) (ds := ds) a xs b
    show ((rowL ps ds ((itR ps ds (a + b) xs).1, 0)).1, (itR ps ds (a + b) xs).2 + (rowL ps ds ((itR ps ds (a + b) xs).1, 0)).2) = _
    rw [ih]
    refine Prod.ext rfl ?_
    show (itR ps ds a xs).2 + (itR ps ds b (itR ps ds a xs).1).2 + _ = (itR ps ds a xs).2 + ((itR ps ds b (itR ps ds a xs).1).2 + _)
    rw [Int.add_assoc]
section
variable {K : PySem.W.Frag} {H : Hp} {σ : L2.St} {Q : VK} {D : Ends}
theorem w_dnewT (h : ∀ p, H p = none → Q (.ref p) (upd H p (.dT []))) : tDNewT σ H Q := h
theorem w_dnotin {ty td : TE} (h : ty σ H fun y H1 => td σ H1 fun x H2 => ∃ a o, x = .ref a ∧ DGet H2 a y o ∧ Q (.bl (!o.isSome)) H2) : tDNotIn ty td σ H Q := h
theorem w_dget {td ty : TE} (h : td σ H fun x H1 => ty σ H1 fun y H2 => ∃ a v, x = .ref a ∧ DGet H2 a y (some v) ∧ Q v H2) : tDGet td ty σ H Q := h
theorem w_dput {td ty tv : TE} (h : tv σ H fun v H1 => td σ H1 fun x H2 => ty σ H2 fun y H3 => ∃ a H4, x = .ref a ∧ DPut H3 a y v H4 ∧ D.nx σ H4) : sDPut td ty tv D σ H := h
end
end Ct

/-! all(.. for .. in ..), any(.. for .. in ..): the generator's own frame -/
namespace Ct
open PySem PySem.Spec PyProof.Rows L2 GenW
/-- the table of a def's code objects, whatever it holds -/
def TabX (P : Addr) : HO := .ext fun h => ∃ ps : Array Value, h.get? P = some { cls := .none, data := .fields ps } ∧ TriplesOk ps.toList
theorem over_gen {A : Around} {elt : Expr} {gs : List Comprehension} {scope : Scope} {pos : Pos} {it acc : Value} {env : Env} : A.over (.compLoop (.GeneratorExp elt gs scope pos) 0 it acc env) [] = A.deeper env := by
  first
    | rfl
    | (obtain ⟨hd, d, fr, gu, u⟩ := A; simp [Around.over, Around.deeper, marksOver, frameCount, unitsOf, envsOf, guardsOf, pushEnvs, pushGuards, Code.envs, Code.env?, Code.isFrame, Code.guards, Code.isGuard, Code.weight, Code.frames, Code.isCreation, Code.isCaller, Code.cUnits])
theorem over_genS {A : Around} {elt : Expr} {gs : List Comprehension} {scope : Scope} {pos : Pos} {it acc : Value} {env : Env} : A.over (.compStart (.GeneratorExp elt gs scope pos) 0 it acc env) [] = A.deeper env := by
  first
    | rfl
    | (obtain ⟨hd, d, fr, gu, u⟩ := A; simp [Around.over, Around.deeper, marksOver, frameCount, unitsOf, envsOf, guardsOf, pushEnvs, pushGuards, Code.envs, Code.env?, Code.isFrame, Code.guards, Code.isGuard, Code.weight, Code.frames, Code.isCreation, Code.isCaller, Code.cUnits])
section
variable {X : Cx} {pins : List (Addr × Obj)} {σ : L2.St} {H : Hp} {s : Shared}
theorem tabx_ok {P0 : Program} {w : World} {H : Hp} {h : Heap} {P : Addr} {ps : Array Value} (hm : h.get? P = some { cls := .none, data := .fields ps }) (ht : TriplesOk ps.toList) : ObjOk P0 w H h P (TabX P) :=
  ⟨⟨ps, hm, ht⟩, ⟨_, hm⟩, fun h1 h2 ⟨qs, a, b⟩ st => ⟨qs, st _ a, b⟩⟩
/-- the table has grown, all else is kept -/
theorem inv_tabX {P : Addr} {ps : Array Value} {h' : Heap} {g' : Array GenState} {d' : Drawn} {t' : Nat} (I : Inv X pins σ H s) (hP : H P = some (TabX P)) (k : ∀ b o, b ≠ P → s.heap.get? b = some o → h'.get? b = some o)
    (hm : h'.get? P = some { cls := .none, data := .fields ps }) (ht : TriplesOk ps.toList) (hg : AllBare g') : Inv X pins σ H { s with heap := h', gens := g', drawn := d', toks := t' } := by
  have nP : ∀ b u, H b = some u → u ≠ TabX P → b ≠ P := fun b u e q z => by
    rw [z, hP] at e
    exact q (Option.some.inj e).symm
  have nN : ∀ b, H b = none → b ≠ P := fun b e z => by
    rw [z, hP] at e
    cases e
  refine I.step (g' := g') (d' := d') (ch := []) (fun b hb => absurd hb (by simp)) (fun b o _ _ _ e n => k b o (nN b n) e) (fun b o _ _ _ e n => ⟨o.slots, k b o (nN b n) e⟩)
    (fun b o _ e n => n) (fun b o _ e => ?_) (fun b xs e => e) (fun b o u e => e) (fun b qs e => ⟨#[], by rw [e]; simp⟩) (fun m hn => ?_) (fun b u e => ?_) hg
  · by_cases hb : b = P
    · rw [hb]
      exact ⟨_, hm⟩
    · exact ⟨o, k b o hb e⟩
  · obtain ⟨ob, es, ep, ho, r⟩ := hn
    exact ⟨ob, es, ep, k _ ob (nN _ I.free) ho, r⟩
  · by_cases hb2 : b = P
    · rw [hb2, hP] at e
      cases e
      rw [hb2]
      exact tabx_ok hm ht
    · refine (I.hok b u e).stay (fun d v hd q => k d v ?_ q) (fun d q => q) fun d xs q => q
      rcases hd with z | z
      · rw [z]
        exact hb2
      · exact nP d _ z (fun q => by unfold TabX at q; cases q)
/-- the context of a generator expression's frame: its iterator's objects at fp, what stands at pn -/
abbrev gxc (X : Cx) (B : Around) (s : Shared) (H : Hp) (scope : Scope) (cenv : Env) (fp : List Addr) (pn : List (Addr × Obj)) : Cx :=
  { X with A := B.deeper cenv, s_0 := s, H_0 := H, env := cenv, outer := X.stack, stack := cenv :: X.stack, ex := fp, fn := fun x => scope.names.lookup x == some .cell, pn := pn, xe := fun _ _ => False }
theorem lookup_clo {cells : List (Str × Addr)} {names : List (Str × NameKind)} {y : Str} {c : Addr} (e : (cloFrom cells names []).lookup y = some c) : (y, NameKind.free) ∈ names ∧ c = (cells.lookup y).getD 0 := by
  rcases cloFrom_mem (PySem.mem_of_lookup e) with z | z
  · cases z
  · exact z
/-- the frame is made -/
theorem gx_start {B : Around} {scope : Scope} {own : List (Str × Nat)} {fp : List Addr} {code : Value} {itv : Value} {h5 : Heap} {g5 : Array GenState} {t5 : Nat} {d5 : Drawn} {a : Addr} {go : Obj}
    (I : Inv X pins σ H s) (hB : B.frames = some X.stack) (hBh : B.handled = none) (ok : BlkOk X.N X.env.scope scope own) (hN : X.N.Nodup) (hcell : ∀ y ∈ scope.names, y.2 ≠ .cell) (hfp : ∀ b ∈ fp, FpOk X pins H b ∧ b < s.heap.objs.size)
    (hns : h5.Ns s.heap.objs.size (fun y => if y = ".0" then some itv else none)) (kp : ∀ b o, s.heap.get? b = some o → h5.get? b = some o)
    (ha : s.heap.objs.size < a) (hgo : h5.get? a = some go) (hgc : ∀ v, go.data ≠ .cell v) (hg5 : AllBare g5) :
    Inv (gxc X B s H scope (genEnv scope (cloFrom X.env.cells scope.names []) s.heap.objs.size code builtinsNs X.env) fp [(a, go)]) [] (wipe σ (own.map (·.2))) H { s with heap := h5, gens := g5, toks := t5, drawn := d5 } := by
  have hfree : ∀ y ∈ scope.names, y.2 = .free → ∃ c, X.env.cells.lookup y.1 = some c := fun y hy e => by
    rcases ok.free y hy e with k | k
    · exact I.ok.has _ (.inl k)
    · exact I.ok.has _ (.inr k)
  generalize hcenv : genEnv scope (cloFrom X.env.cells scope.names []) s.heap.objs.size code builtinsNs X.env = cenv
  have hL : cenv.locals = s.heap.objs.size := by rw [← hcenv]; rfl
  have hcl : cenv.cells = cloFrom X.env.cells scope.names [] := by rw [← hcenv]; rfl
  have hsc : cenv.scope = scope := by rw [← hcenv]; rfl
  have mem : ∀ {y c}, cenv.cells.lookup y = some c → X.env.cells.lookup y = some c ∧ c < s.heap.objs.size := fun {y c} e => by
    rw [hcl] at e
    obtain ⟨h1, rfl⟩ := lookup_clo e
    obtain ⟨c, hc⟩ := hfree _ h1 rfl
    rw [hc]
    obtain ⟨w, z⟩ := I.cell _ _ hc
    exact ⟨rfl, z.lt⟩
  have look : ∀ {y}, scope.names.lookup y = some .free → ∃ c, cenv.cells.lookup y = some c ∧ X.env.cells.lookup y = some c := fun {y} hl => by
    have hy : (y, NameKind.free) ∈ scope.names := PySem.mem_of_lookup hl
    obtain ⟨c', e'⟩ := mem_lookup (cloFrom_has (cells := X.env.cells) (acc := []) hy)
    rw [← hcl] at e'
    exact ⟨c', e', (mem e').1⟩
  have okB : (gxc X B s H scope cenv fp [(a, go)]).Ok := by
    refine ⟨I.ok.mod, by show cenv.scope.kind = _; rw [hsc]; exact ok.kind, by show cenv.globals = _; rw [← hcenv]; exact I.ok.glob, by show cenv.builtins = _; rw [← hcenv]; rfl, by show s.heap.objs.size ≤ cenv.locals; rw [hL]; exact Nat.le_refl _,
      fun y z c e1 e2 => I.ok.inj y z c (mem e1).1 (mem e2).1, fun y hy => ?_, fun y c z e => ?_, fun _ => hBh, Around.frames_deeper hB, .inr ⟨rfl, ?_⟩, fun b hb => ⟨?_, fun y c e z => ?_⟩, I.bs, Nat.le_trans I.ok.bsz I.sz, fun b o e hb => ?_, fun b hb z => ?_, I.stack, I.stkFree⟩
    · have hy : cenv.scope.names.lookup y = some .cell ∨ cenv.scope.names.lookup y = some .free := hy
      rw [hsc] at hy
      rcases hy with hy | hy
      · exact absurd rfl (hcell _ (PySem.mem_of_lookup hy))
      · obtain ⟨c, h1, _⟩ := look hy
        exact ⟨c, h1⟩
    · have z : (scope.names.lookup y == some NameKind.cell) = true := z
      have z : scope.names.lookup y = some .cell := by simpa using z
      exact absurd rfl (hcell _ (PySem.mem_of_lookup z))
    · show cenv.frame = some cenv.locals
      rw [← hcenv]
      rfl
    · show b ≠ cenv.locals
      rw [hL]
      exact Nat.ne_of_lt (hfp b hb).2
    · exact (hfp b hb).1.2.2.2.2.1 y c (mem e).1 z
    · rcases (hfp b hb).1.2.2.2.1 with z | z
      · exact I.ok.noex b o e z
      · exact absurd (Nat.lt_of_lt_of_le (Heap.lt_size e) (Nat.le_trans I.ok.bsz z)) (Nat.lt_irrefl _)
    · rcases List.mem_cons.mp (I.stkSub b z) with z | z
      · exact (hfp b hb).1.2.1 z
      · exact (hfp b hb).1.2.2.1 z
  refine ⟨okB, rfl, hg5, Un.kept kp, ⟨fun y => if y = ".0" then some itv else none, ?_, fun i y av e1 e2 e3 => ?_⟩, fun y c e => ?_, ?_, fun y c e => ?_, fun p hp => ?_, I.hok.kept kp, by rw [wipe_length]; exact I.len⟩
  · show Heap.Ns _ cenv.locals _
    rw [hL]
    exact hns
  · obtain ⟨e2, hne⟩ := wipe_some e2
    have hfr : scope.names.lookup y = some .free := by
      have e3 : Vis cenv.scope y := e3
      rw [hsc] at e3
      have no : ∀ k, scope.names.lookup y = some k → ¬ (k = .local ∨ k = .cell) := fun k e hh => by
        rcases ok.own _ (PySem.mem_of_lookup e) hh with e' | e'
        · obtain ⟨p, hp, hpy⟩ := List.mem_map.mp e'
          have e3 := ok.ix p hp
          have : p.1 = y := hpy
          rw [this] at e3
          exact hne (List.mem_map.mpr ⟨p, hp, nodup_ix hN e3 e1⟩)
        · exact e' (List.mem_of_getElem? e1)
      rcases e3 with e3 | e3 | e3
      · exact absurd (.inl rfl) (no _ e3)
      · exact absurd (.inr rfl) (no _ e3)
      · exact e3
    obtain ⟨m, hn, hl⟩ := I.loc
    have hvis : Vis X.env.scope y := (ok.free _ (PySem.mem_of_lookup hfr) rfl).elim (fun k => .inr (.inl k)) (fun k => .inr (.inr k))
    obtain ⟨w, r, q⟩ := hl i y av e1 e2 hvis
    refine ⟨w, r, .inr ⟨.inr (by show cenv.scope.names.lookup y = _; rw [hsc]; exact hfr), ?_⟩⟩
    obtain ⟨c, h1, h2⟩ := look hfr
    rcases q with ⟨k, _⟩ | ⟨_, c', e', z⟩
    · have k : X.env.scope.names.lookup y = some .local := k
      rcases ok.free _ (PySem.mem_of_lookup hfr) rfl with k' | k' <;> rw [show X.env.scope.names.lookup y = _ from k'] at k <;> cases k
    · rw [h2] at e'
      cases e'
      exact ⟨c, h1, z.keeps kp⟩
  · obtain ⟨w, z⟩ := I.cell y c (mem e).1
    exact ⟨w, z.keeps kp⟩
  · show H cenv.locals = none
    rw [hL]
    exact I.hok.fresh (Nat.le_refl _)
  · exact I.freeC y c (mem e).1
  · have hp : p ∈ [(a, go)] ++ [] := hp
    rw [List.append_nil, List.mem_singleton] at hp
    subst hp
    refine ⟨hgo, I.hok.fresh (Nat.le_of_lt ha), ?_, ?_, hgc⟩
    · show a ≠ cenv.locals
      rw [hL]
      exact Nat.ne_of_gt ha
    · show a ∉ frs X.stack
      intro z
      rcases List.mem_cons.mp (I.stkSub a z) with z | z
      · have h1 := I.lt
        rw [← z] at h1
        exact Nat.lt_irrefl _ (Nat.lt_trans h1 ha)
      · exact I.nofs (Nat.le_of_lt ha) z
end
end Ct
namespace Ct
open PySem PySem.Spec PyProof.Rows L2 GenW
section
variable {X : Cx}
/-- what is known where the whole is done: b the answer -/
def GFin (P : Program) (w : World) (fr fp : List Addr) (H4 : Hp) (h4 : Heap) (Q : VK) (b : Bool) (h : Heap) : Prop := ∃ H', Un fr fp H4 H' h4 h ∧ HOk P w H' h ∧ Q (.bl b) H'
def GDone (P : Program) (w : World) (fr fp : List Addr) (H4 : Hp) (s4 : Shared) (Q : VK) (st : Bool) : Nat → Shared → Shared → Prop := fun _ _ s1 => s1.os = s4.os ∧ AllBare s1.gens ∧ GFin P w fr fp H4 s4.heap Q (!st) s1.heap
/-- the generator hands out a truth: the one that ends the walk, or another one, and goes on -/
def GYld (P : Program) (w : World) (fr fp : List Addr) (H4 : Hp) (s4 : Shared) (Q : VK) (st : Bool) (a : Addr) (g : Nat) : Protocol := fun _ _ v s1 kap =>
  ∃ b, v = .bool b ∧ s1.os = s4.os ∧ AllBare s1.gens ∧ s1.heap.NoLimit ∧ s1.heap.IsGen a g ∧ (if b = st then GFin P w fr fp H4 s4.heap Q st s1.heap else ∀ s' : Shared, s'.heap = s1.heap → s'.os = s1.os → AllBare s'.gens → kap (.send .none) s')
/-- all(..) with st = false, any(..) with st = true -/
def tGen (P : Addr) (st : Bool) (wi : TI) (g : TG) (te : TE) (vs : List Nat) : TE := fun σ H Q => wi σ H fun J H1 => H1 P = some (TabX P) ∧ ∃ W : Nat → Nat → Hp → Prop, (∃ m, W 0 m H1) ∧ ∀ i m H, W i m H →
  (J.stop i H ∧ Q (.bl (!st)) H) ∨ (J.go i H ∧ ∃ Nx : Hp → Prop, (∀ H', Nx H' → ∃ m', m' < m ∧ W (i + 1) m' H') ∧ ∀ x H', J.yld i H x H' → g x (wipe σ vs) H' fun σ2 H2 => wipe σ2 vs = wipe σ vs ∧ te σ2 H2 fun y H3 => ∃ b, y = .bl b ∧ if b = st then Q (.bl st) H3 else Nx H3)

theorem seg_gx {B : Around} {scope : Scope} {own : List (Str × Nat)} {fp : List Addr} {s4 : Shared} {H4 : Hp} {cenv : Env} {a : Addr} {go : Obj} {gn : Nat} {elt tg iter : Expr} {pos : Pos} {it : Addr} {tn : Nat → Heap → Prop} {J : It} {g : TG} {te : TE} {σ : L2.St} {Q : VK} {st : Bool} {W : Nat → Nat → Hp → Prop}
    (hc : X.calm = true) (hco : cenv.scope.isCoroutine = false) (hgn : ∀ h : Heap, h.get? a = some go → h.IsGen a gn)
    (T : Turn X.prog X.w X.K tg J fp it tn) (pg : PG (gxc X B s4 H4 scope cenv fp [(a, go)]) tg g) (pe : PE (gxc X B s4 H4 scope cenv fp [(a, go)]) elt te) (hfa : ∀ b ∈ fp, b ≠ a)
    (turn : ∀ i m H, W i m H → (J.stop i H ∧ Q (.bl (!st)) H) ∨ (J.go i H ∧ ∃ Nx : Hp → Prop, (∀ H', Nx H' → ∃ m', m' < m ∧ W (i + 1) m' H') ∧ ∀ x H', J.yld i H x H' → g x (wipe σ (own.map (·.2))) H' fun σ2 H2 => wipe σ2 (own.map (·.2)) = wipe σ (own.map (·.2)) ∧ te σ2 H2 fun y H3 => ∃ b, y = .bl b ∧ if b = st then Q (.bl st) H3 else Nx H3)) :
    ∀ (m n : Nat), m < n → ∀ (i : Nat) (s₀ s : Shared) (H : Hp), W i m H → Inv (gxc X B s4 H4 scope cenv fp [(a, go)]) [] (wipe σ (own.map (·.2))) H s → tn i s.heap → (∀ b ∈ fp, H b = none) →
      Seg (model X.prog X.w) B (fun n s₀ r s₁ => r = .ok .next ∧ GDone X.prog X.w (frs X.stack) fp H4 s4 Q st n s₀ s₁) (GYld X.prog X.w (frs X.stack) fp H4 s4 Q st a gn) n s₀
        (.compLoop (.GeneratorExp elt [⟨tg, iter, [], 0⟩] scope pos) 0 (.ref it) .none cenv)
        ((model X.prog X.w).den (.compLoop (.GeneratorExp elt [⟨tg, iter, [], 0⟩] scope pos) 0 (.ref it) .none cenv)) [] s := by
  intro m
  induction m using Nat.strongRecOn with
  | ind m ih =>
    intro n hmn i s₀ s H w I st5 n5
    have stat : ∀ {σ' : L2.St} {H' : Hp} {s' : Shared}, Inv (gxc X B s4 H4 scope cenv fp [(a, go)]) [] σ' H' s' → (∀ b ∈ fp, H' b = none) → ∀ b ∈ fp, FpOk (gxc X B s4 H4 scope cenv fp [(a, go)]) [] H' b := fun {σ' H' s'} I' hn b hb =>
      ⟨hn b hb, (I'.ok.exf b hb).1, I'.ok.exfs b hb, .inl hb, fun x c e => (I'.ok.exf b hb).2 x c e, fun p hp => by
        have hp : p ∈ [(a, go)] ++ [] := hp
        rw [List.append_nil, List.mem_singleton] at hp
        subst hp
        exact fun z => hfa b hb z.symm⟩
    have pinned : ∀ {pins' : List (Addr × Obj)} {σ' : L2.St} {H' : Hp} {s' : Shared}, Inv (gxc X B s4 H4 scope cenv fp [(a, go)]) pins' σ' H' s' → s'.heap.IsGen a gn := fun {pins' σ' H' s'} I' =>
      hgn _ (I'.pin (a, go) (List.mem_append_left _ (List.mem_singleton.mpr rfl))).1
    show Seg _ B _ _ _ s₀ _ ((compTurn (.GeneratorExp elt [⟨tg, iter, [], 0⟩] scope pos) 0 (.ref it) .none cenv).onRaise (leaving cenv)) [] s
    rw [compTurn_gen, Sem.onRaise_eq_wrap]
    refine seg_bind_wrap (wpAny_standAt ?_)
    rcases turn i m H w with ⟨stop, qq⟩ | ⟨goes, Nx, hNx, step⟩
    · refine seg_bind_wrap ?_
      rw [over_gen]
      refine wpAny_mono (T.done (gxc X B s4 H4 scope cenv fp [(a, go)]) rfl rfl rfl hc i [] s _ H (fun _ _ => False) I (stat I n5) st5 stop) (fun r s6 hr => ?_) (fun _ _ z => z.elim)
      obtain ⟨rfl, I6⟩ := hr
      exact seg_end (.ok .next) ⟨rfl, I6.os, I6.bare, H, I6.base, I6.hok, qq⟩
    · refine seg_bind_wrap ?_
      rw [over_gen]
      refine wpAny_mono (T.item (gxc X B s4 H4 scope cenv fp [(a, go)]) rfl rfl rfl hc i [] s _ H (fun _ _ => False) I (stat I n5) st5 goes) (fun r s6 hr => ?_) (fun _ _ z => z.elim)
      obtain ⟨u, rfl, h6⟩ := hr
      refine seg_bind_wrap ?_
      rw [over_gen]
      refine wpAny_mono h6 (fun _ s7 h7 => ?_) (fun _ _ z => z.elim)
      obtain ⟨x, H7, I7, r7, y7, st7, n7⟩ := h7
      have I7' := I7.pinned (stat I7 n7) (T.obj _ _ st7)
      refine seg_bind_wrap ?_
      rw [over_gen]
      refine wpAny_mono (pg.run _ s7 _ H7 x u _ I7' r7 (step x H7 y7)) (fun _ s8 h8 => ?_) (fun _ _ z => z.elim)
      obtain ⟨σ8, H8, I8, hw8, q8⟩ := h8
      refine seg_bind_wrap (wpAny_tests_nil ?_)
      simp only [if_true]
      have hy : ∀ v, yieldOut cenv v = yieldValue v := fun v => by simp only [yieldOut, hco, Bool.false_eq_true, if_false]
      simp only [hy]
      rw [Sem.bind_eq_wrap', Sem.bind_eq_wrap', Sem.wrap_wrap, Sem.wrap_wrap]
      refine seg_wrap ?_
      rw [over_gen]
      refine wpAny_mono (pe.run _ s8 σ8 H8 _ I8 q8) (fun z s9 h9 => ?_) (fun _ _ z => z.elim)
      obtain ⟨y, H9, I9, r9, b, rfl, q9⟩ := h9
      have r9 : z = Value.bool b := r9
      subst r9
      have hlim : s9.heap.NoLimit := I9.nolimit
      by_cases hb : b = st
      · obtain ⟨k, rfl⟩ : ∃ k, n = k + 1 := ⟨n - 1, by omega⟩
        rw [if_pos hb] at q9
        refine seg_at (seg_yield rfl rfl rfl ⟨b, rfl, I9.os, I9.bare, hlim, pinned I9, ?_⟩)
        rw [if_pos hb]
        exact ⟨H9, I9.base, I9.hok, q9⟩
      · rw [if_neg hb] at q9
        obtain ⟨m', hm, w'⟩ := hNx H9 q9
        obtain ⟨k, rfl⟩ : ∃ k, n = k + 1 := ⟨n - 1, by omega⟩
        refine seg_at (seg_yield rfl rfl rfl ⟨b, rfl, I9.os, I9.bare, hlim, pinned I9, ?_⟩)
        rw [if_neg hb]
        intro s' e1 e2 e3
        have pin' : ∀ b ∈ fp, ∀ o, s7.heap.get? b = some o → s9.heap.get? b = some o ∧ H9 b = none := fun b hb o e =>
          let z := I9.pin (b, o) (List.mem_append_right _ (List.mem_append_right _ (mem_pinsAt hb e)))
          ⟨z.1, z.2.1⟩
        have hl : (wipe σ (own.map (·.2))).length = σ8.length := by rw [← hw8, wipe_length]
        have I10 : Inv (gxc X B s4 H4 scope cenv fp [(a, go)]) [] (wipe σ (own.map (·.2))) H9 s9 := (I9.unpinned (pins := [])).weak hl (fun j v e => by
          rw [← hw8] at e
          exact (wipe_some e).1)
        have I11 : Inv (gxc X B s4 H4 scope cenv fp [(a, go)]) [] (wipe σ (own.map (·.2))) H9 s' := by
          refine I10.call' (ch := []) e2 (Un.kept fun b o e => by rw [e1]; exact e) (by rw [e1]; exact I10.hok) e3 fun b z => by simp at z
        refine seg_again rfl (ih m' hm k (by omega) (i + 1) s' s' H9 w' I11 ?_ fun b hb => ?_)
        · rw [e1]
          exact T.keep _ _ _ st7 fun b hb o e => (pin' b hb o e).1
        · obtain ⟨o, e, _⟩ := T.obj _ _ st7 b hb
          exact (pin' b hb o e).2
end
end Ct
namespace Ct
open PySem PySem.Spec PyProof.Rows L2 GenW
section
variable {P : Program} {w : World} {A : Around} {fr fp : List Addr} {H4 : Hp} {s4 : Shared} {Q : VK} {a : Addr} {g : Nat} {R : Result → Shared → Prop}
theorem all_gx (hh : A.handled = none) (hd : A.depth < recursionLimit) (hend : ∀ b (s' : Shared), s'.os = s4.os → AllBare s'.gens → GFin P w fr fp H4 s4.heap Q b s'.heap → R (.ok (.ret (.bool b))) s') :
    ∀ (m : Nat) (s : Shared), s.heap.IsGen a g → s.heap.NoLimit →
      (∃ gs, s.gens[g]? = some gs ∧ gs.Goes (model P w) A.in1.in1 (fun n s₀ r s₁ => r = .ok .next ∧ GDone P w fr fp H4 s4 Q false n s₀ s₁) (GYld P w fr fp H4 s4 Q false a g) m (.send .none) (s.setGen g .running)) →
      codeAny (model P w) A (.builtin "all.loop" ⟨[.ref a], []⟩) R s := by
  intro m
  induction m with
  | zero =>
    intro s hg hl ⟨gs, hgs, hgo⟩
    refine codeAny_builtin F.entry_all_loop ?_
    rw [Around.under_plainId F.plain_all_loop _]
    show wpAny _ A.in1 (pyNext (.ref a) >>= _) _ _ s
    refine wpAny_bind (wpAny_pyNext_genexpQ (A := A.in1) hh hl hd hg hgs hgo (fun v s₁ gs' hbare hv => ?_) (fun s₁ hp h' hk => ?_))
    · obtain ⟨b, rfl, os1, hb1, hl1, hg1, q⟩ := hv
      refine wpAny_bind (wpAny_holding (wpAny_truthy_bool ?_))
      refine wpAny_bind (wpAny_letGo ?_)
      by_cases hb : b = false
      · rw [if_pos hb] at q
        subst hb
        simp only [Bool.false_eq_true, if_false]
        refine wpAny_bind (wpAny_rule (wpAny_pure ?_))
        exact hend false _ os1 (allBare_setGen hb1 hbare) q
      · rw [if_neg hb] at q
        exact False.elim (q s₁ rfl rfl hb1)
    · obtain ⟨os1, hb1, H', un, hok, hQ⟩ := hp
      refine wpAny_bind (wpAny_rule (wpAny_pure ?_))
      exact hend true _ os1 (allBare_setGen hb1 rfl) ⟨H', un.trans (Un.kept hk), hok.kept hk, hQ⟩
  | succ m ih =>
    intro s hg hl ⟨gs, hgs, hgo⟩
    have hgl : g < s.gens.size := (Array.getElem?_eq_some_iff.mp hgs).1
    refine codeAny_builtin F.entry_all_loop ?_
    rw [Around.under_plainId F.plain_all_loop _]
    show wpAny _ A.in1 (pyNext (.ref a) >>= _) _ _ s
    refine wpAny_bind (wpAny_gsz (n := g + 1) hgl (wpAny_pyNext_genexpQ (A := A.in1) hh hl hd hg hgs hgo (fun v s₁ gs' hbare hv => ?_) (fun s₁ hp h' hk => ?_)))
    · intro hsz
      obtain ⟨b, rfl, os1, hb1, hl1, hg1, q⟩ := hv
      refine wpAny_bind (wpAny_holding (wpAny_truthy_bool ?_))
      refine wpAny_bind (wpAny_letGo ?_)
      have hsz1 : g < s₁.gens.size := by
        have q : (s₁.setGen g gs').gens.size = s₁.gens.size := setGen_size _ _ _
        have hsz' : g + 1 ≤ (s₁.setGen g gs').gens.size := hsz
        omega
      by_cases hb : b = false
      · rw [if_pos hb] at q
        subst hb
        simp only [Bool.false_eq_true, if_false]
        refine wpAny_bind (wpAny_rule (wpAny_pure ?_))
        exact hend false _ os1 (allBare_setGen hb1 hbare) q
      · rw [if_neg hb] at q
        have hb2 : b = true := by
          cases b with
          | true => rfl
          | false => exact absurd rfl hb
        subst hb2
        simp only [if_true]
        refine wpAny_pure ⟨plainId_quiet F.plain_all_loop _, ?_⟩
        exact ih (s₁.setGen g gs') hg1 hl1 ⟨gs', setGen_at hsz1, q _ rfl rfl (allBare_setGen (allBare_setGen hb1 hbare) rfl)⟩
    · intro _
      obtain ⟨os1, hb1, H', un, hok, hQ⟩ := hp
      refine wpAny_bind (wpAny_rule (wpAny_pure ?_))
      exact hend true _ os1 (allBare_setGen hb1 rfl) ⟨H', un.trans (Un.kept hk), hok.kept hk, hQ⟩
theorem any_gx (hh : A.handled = none) (hd : A.depth < recursionLimit) (hend : ∀ b (s' : Shared), s'.os = s4.os → AllBare s'.gens → GFin P w fr fp H4 s4.heap Q b s'.heap → R (.ok (.ret (.bool b))) s') :
    ∀ (m : Nat) (s : Shared), s.heap.IsGen a g → s.heap.NoLimit →
      (∃ gs, s.gens[g]? = some gs ∧ gs.Goes (model P w) A.in1.in1 (fun n s₀ r s₁ => r = .ok .next ∧ GDone P w fr fp H4 s4 Q true n s₀ s₁) (GYld P w fr fp H4 s4 Q true a g) m (.send .none) (s.setGen g .running)) →
      codeAny (model P w) A (.builtin "any.loop" ⟨[.ref a], []⟩) R s := by
  intro m
  induction m with
  | zero =>
    intro s hg hl ⟨gs, hgs, hgo⟩
    refine codeAny_builtin F.entry_any_loop ?_
    rw [Around.under_plainId F.plain_any_loop _]
    show wpAny _ A.in1 (pyNext (.ref a) >>= _) _ _ s
    refine wpAny_bind (wpAny_pyNext_genexpQ (A := A.in1) hh hl hd hg hgs hgo (fun v s₁ gs' hbare hv => ?_) (fun s₁ hp h' hk => ?_))
    · obtain ⟨b, rfl, os1, hb1, hl1, hg1, q⟩ := hv
      refine wpAny_bind (wpAny_holding (wpAny_truthy_bool ?_))
      refine wpAny_bind (wpAny_letGo ?_)
      by_cases hb : b = true
      · rw [if_pos hb] at q
        subst hb
        simp only [if_true]
        refine wpAny_bind (wpAny_rule (wpAny_pure ?_))
        exact hend true _ os1 (allBare_setGen hb1 hbare) q
      · rw [if_neg hb] at q
        exact False.elim (q s₁ rfl rfl hb1)
    · obtain ⟨os1, hb1, H', un, hok, hQ⟩ := hp
      refine wpAny_bind (wpAny_rule (wpAny_pure ?_))
      exact hend false _ os1 (allBare_setGen hb1 rfl) ⟨H', un.trans (Un.kept hk), hok.kept hk, hQ⟩
  | succ m ih =>
    intro s hg hl ⟨gs, hgs, hgo⟩
    have hgl : g < s.gens.size := (Array.getElem?_eq_some_iff.mp hgs).1
    refine codeAny_builtin F.entry_any_loop ?_
    rw [Around.under_plainId F.plain_any_loop _]
    show wpAny _ A.in1 (pyNext (.ref a) >>= _) _ _ s
    refine wpAny_bind (wpAny_gsz (n := g + 1) hgl (wpAny_pyNext_genexpQ (A := A.in1) hh hl hd hg hgs hgo (fun v s₁ gs' hbare hv => ?_) (fun s₁ hp h' hk => ?_)))
    · intro hsz
      obtain ⟨b, rfl, os1, hb1, hl1, hg1, q⟩ := hv
      refine wpAny_bind (wpAny_holding (wpAny_truthy_bool ?_))
      refine wpAny_bind (wpAny_letGo ?_)
      have hsz1 : g < s₁.gens.size := by
        have q : (s₁.setGen g gs').gens.size = s₁.gens.size := setGen_size _ _ _
        have hsz' : g + 1 ≤ (s₁.setGen g gs').gens.size := hsz
        omega
      by_cases hb : b = true
      · rw [if_pos hb] at q
        subst hb
        simp only [if_true]
        refine wpAny_bind (wpAny_rule (wpAny_pure ?_))
        exact hend true _ os1 (allBare_setGen hb1 hbare) q
      · rw [if_neg hb] at q
        have hb2 : b = false := by
          cases b with
          | false => rfl
          | true => exact absurd rfl hb
        subst hb2
        simp only [Bool.false_eq_true, if_false]
        refine wpAny_pure ⟨plainId_quiet F.plain_any_loop _, ?_⟩
        exact ih (s₁.setGen g gs') hg1 hl1 ⟨gs', setGen_at hsz1, q _ rfl rfl (allBare_setGen (allBare_setGen hb1 hbare) rfl)⟩
    · intro _
      obtain ⟨os1, hb1, H', un, hok, hQ⟩ := hp
      refine wpAny_bind (wpAny_rule (wpAny_pure ?_))
      exact hend false _ os1 (allBare_setGen hb1 rfl) ⟨H', un.trans (Un.kept hk), hok.kept hk, hQ⟩
end
end Ct
namespace Ct
open PySem PySem.Spec PyProof.Rows L2 GenW
section
variable {X : Cx}
theorem gen_eval {pins : List (Addr × Obj)} {σ : L2.St} {H : Hp} {s : Shared} {Q : VK} {c P : Addr} {elt tg iter : Expr} {scope : Scope} {own : List (Str × Nat)} {pos : Pos} {wi : TI} {g : TG} {te : TE} {st : Bool} {k : Nat} {Q' : Value → Shared → Prop}
    (hr : Room (k + 1) X.A) (hc : X.calm = true) (hN : X.N.Nodup) (TB : GxR.TabB X.base X.mg c P) (hcode : X.env.code = .ref c) (hi : PI X tg iter wi) (ok : BlkOk X.N X.env.scope scope own) (hcell : ∀ y ∈ scope.names, y.2 ≠ .cell) (hco : scope.isCoroutine = false) (hdot : scope.names.lookup (".0" : Str) = some NameKind.local)
    (hg : ∀ (s : Shared) (H : Hp) (C : Addr) (cl : List (Str × Addr)) (cd : Value) (fp : List Addr) (pn : List (Addr × Obj)) (B : Around), PG (gxc X B s H scope (genEnv scope cl C cd builtinsNs X.env) fp pn) tg g)
    (he : ∀ (s : Shared) (H : Hp) (C : Addr) (cl : List (Str × Addr)) (cd : Value) (fp : List Addr) (pn : List (Addr × Obj)) (B : Around), Room k (B.deeper (genEnv scope cl C cd builtinsNs X.env)) → PE (gxc X B s H scope (genEnv scope cl C cd builtinsNs X.env) fp pn) elt te)
    (hs : ∀ x, genFold iter X.env x = pure x) (I : Inv X pins σ H s) (h : tGen P st wi g te (own.map (·.2)) σ H Q)
    (hQ : ∀ (a : Addr) (gn : Nat) (s4 s5 : Shared) (H4 : Hp) (fp : List Addr) (m : Nat) (gs : GenState), Inv X pins σ H4 s4 → (∀ b ∈ fp, FpOk X pins H4 b) → s5.heap.IsGen a gn → s5.heap.NoLimit → s5.gens[gn]? = some gs →
      gs.Goes (model X.prog X.w) X.A.in1.in1 (fun n s₀ r s₁ => r = .ok .next ∧ GDone X.prog X.w (frs X.stack) fp H4 s4 Q st n s₀ s₁) (GYld X.prog X.w (frs X.stack) fp H4 s4 Q st a gn) m (.send .none) (s5.setGen gn .running) → Q' (.ref a) s5) :
    wpAny (model X.prog X.w) X.A (eval (.GeneratorExp elt [⟨tg, iter, [], 0⟩] scope pos) X.env) Q' X.xe s := by
  have hfree : ∀ y ∈ scope.names, y.2 = .free → ∃ c, X.env.cells.lookup y.1 = some c := fun y hy e => by
    rcases ok.free y hy e with k | k
    · exact I.ok.has _ (.inl k)
    · exact I.ok.has _ (.inr k)
  refine wpAny_GeneratorExp_make hco (closure_ok hfree) hcell hdot ok.kind hr.depth (thn (hi.run pins s σ H _ I h) fun xv s1 hx => thn hx fun itv s2 h2 => ?_) hs
  obtain ⟨it, fp, tn, J, H2, rfl, I2, T, st2, f2, hTab, W, ⟨m0, w0⟩, turn⟩ := h2
  obtain ⟨⟨ps, hP2, ht⟩, _, _⟩ := I2.hok P _ hTab
  have hPlt : P < s2.heap.objs.size := Heap.lt_size hP2
  have cd : PySem.W.CodeHd s2.heap c P := TB.code.keeps I2.bk
  have nP : ∀ b, H2 b = none → b ≠ P := fun b e z => by
    rw [z, hTab] at e
    cases e
  have cont : ∀ (code : Value) (h3 : Heap) (tk : Nat) (ps' : Array Value), Heap.ExtBut P s2.heap h3 → s2.heap.objs.size ≤ h3.objs.size → h3.get? P = some { cls := .none, data := .fields ps' } → TriplesOk ps'.toList →
      wpAny (model X.prog X.w) X.A (builtinsFor X.env.globals X.env.builtins) (fun bi s₄ =>
        ∀ h', h'.Ns s₄.heap.objs.size (fun y => if y = ".0" then some (Value.ref it) else none) → Heap.SameBut s₄.heap.objs.size (s₄.heap.push { cls := .type "frame", data := .dict #[] }) h' →
          Q' (.ref h'.objs.size) { s₄ with
            gens := s₄.gens.push (.fresh (.compStart (.GeneratorExp elt [⟨tg, iter, [], 0⟩] scope pos) 0 (.ref it) .none (genEnv scope (cloFrom X.env.cells scope.names []) s₄.heap.objs.size code bi X.env))),
            toks := s₄.toks + 1 + 1 + 1,
            heap := h'.push { cls := .type "generator", data := .fields #[.int s₄.gens.size 0, .str "<genexpr>" (s₄.toks + 1), .str (X.env.qual ++ "<genexpr>") (s₄.toks + 1 + 1)] } }) X.xe { s2 with heap := h3, toks := tk } := by
    intro code h3 tk ps' hx hsz hP3 ht3
    obtain ⟨bm, ob, e1, e2, e3, e4, e5, e6, e7, e8⟩ := TB.bm
    have keep3 : ∀ b u, b ≠ P → s2.heap.get? b = some u → h3.get? b = some u := fun b u hb e => hx b u hb e
    refine wpAny_builtinsFor (m := X.mg) (by rw [I2.ok.glob]; exact (I2.mod.glob.keeps I2.bk).extBut hx TB.gP) e1 e2 (keep3 _ _ e4 (I2.bk _ _ e5)) e6 e7 e8 ?_
    intro h' hn' hs'
    have I4 : Inv X pins σ H2 { s2 with heap := h3, toks := tk } := inv_tabX (g' := s2.gens) (d' := s2.drawn) (t' := tk) I2 hTab keep3 hP3 ht3 I2.bare
    generalize hs4 : ({ s2 with heap := h3, toks := tk } : Shared) = s4 at *
    have h4 : s4.heap = h3 := by rw [← hs4]
    have keep' : ∀ b o, s4.heap.get? b = some o → h'.get? b = some o := fun b o e => hs'.extBut b o (Nat.ne_of_lt (Heap.lt_size e)) (Heap.get?_push_of_some _ e)
    have hsz' : h'.objs.size = s4.heap.objs.size + 1 := by rw [hs'.1, Heap.size_push]
    generalize hgo : ({ cls := .type "generator", data := .fields #[.int s4.gens.size 0, .str "<genexpr>" (s4.toks + 1), .str (X.env.qual ++ "<genexpr>") (s4.toks + 1 + 1)] } : Obj) = go
    have hgn : ∀ h : Heap, h.get? h'.objs.size = some go → h.IsGen h'.objs.size s4.gens.size := fun h e => ⟨go, _, _, e, by rw [← hgo], by rw [← hgo], by rw [← hgo]⟩
    have keep5 : ∀ b o, s4.heap.get? b = some o → (h'.push go).get? b = some o := fun b o e => Heap.get?_push_of_some _ (keep' b o e)
    have hgoat : (h'.push go).get? h'.objs.size = some go := Heap.get?_push_size _ (by rw [← hgo]; rfl)
    have f4 : ∀ b ∈ fp, FpOk X pins H2 b ∧ b < s4.heap.objs.size := fun b hb => by
      obtain ⟨o, e, _⟩ := T.obj _ _ st2 b hb
      refine ⟨f2 b hb, ?_⟩
      rw [h4]
      exact Heap.lt_size (keep3 b o (nP b (f2 b hb).1) e)
    have kfp : ∀ b ∈ fp, ∀ o, s2.heap.get? b = some o → (h'.push go).get? b = some o := fun b hb o e => keep5 b o (by rw [h4]; exact keep3 b o (nP b (f2 b hb).1) e)
    have lim5 : (h'.push go).NoLimit := I4.nolimit.keeps keep5
    refine hQ h'.objs.size s4.gens.size s4 _ H2 fp (m0 + 1) _ I4 f2 (hgn _ hgoat) lim5 (Array.getElem?_push_size ..) ?_
    have hns5 : (h'.push go).Ns s4.heap.objs.size (fun y => if y = ".0" then some (Value.ref it) else none) := hn'.push _
    have hfa : ∀ b ∈ fp, b ≠ h'.objs.size := fun b hb => by
      have := (f4 b hb).2
      intro z
      rw [z, hsz'] at this
      exact absurd (Nat.lt_trans (Nat.lt_succ_self _) this) (Nat.lt_irrefl _)
    have J5 : ∀ (g5 : Array GenState), AllBare g5 → Inv (gxc X X.A.in1.in1 s4 H2 scope (genEnv scope (cloFrom X.env.cells scope.names []) s4.heap.objs.size code builtinsNs X.env) fp [(h'.objs.size, go)]) [] (wipe σ (own.map (·.2))) H2 { s4 with heap := h'.push go, gens := g5, toks := s4.toks + 1 + 1 + 1, drawn := s4.drawn } := fun g5 b5 =>
      gx_start (B := X.A.in1.in1) I4 I4.ok.frames hr.hd ok hN hcell f4 hns5 keep5 (by rw [hsz']; exact Nat.lt_succ_self _) hgoat (fun v z => by rw [← hgo] at z; cases z) b5
    have room : Room k (X.A.in1.in1.deeper (genEnv scope (cloFrom X.env.cells scope.names []) s4.heap.objs.size code builtinsNs X.env)) :=
      ⟨hr.hd, by have := hr.dp; show X.A.depth + 1 + 3 * k + 5 < _; omega, by have := hr.un; show X.A.units + 1 + 1 + 3 + 16 * k + 200 < _; omega⟩
    have b5 : AllBare ((s4.gens.push (.fresh (.compStart (.GeneratorExp elt [⟨tg, iter, [], 0⟩] scope pos) 0 (.ref it) .none (genEnv scope (cloFrom X.env.cells scope.names []) s4.heap.objs.size code builtinsNs X.env)))).setIfInBounds s4.gens.size .running) :=
      allBare_setGen (s := { s4 with gens := s4.gens.push (.fresh (.compStart (.GeneratorExp elt [⟨tg, iter, [], 0⟩] scope pos) 0 (.ref it) .none (genEnv scope (cloFrom X.env.cells scope.names []) s4.heap.objs.size code builtinsNs X.env))) }) (g := s4.gens.size) (AllBare.push I4.bare rfl) rfl
    have loop := seg_gx (iter := iter) (pos := pos) (σ := σ) (own := own) (Q := Q) (st := st) hc hco hgn T (hg s4 H2 _ _ code fp [(h'.objs.size, go)] X.A.in1.in1) (he s4 H2 _ _ code fp [(h'.objs.size, go)] X.A.in1.in1 room) hfa turn m0 (m0 + 1) (Nat.lt_succ_self _) 0
      (Shared.setGen { s4 with heap := h'.push go, gens := s4.gens.push (.fresh (.compStart (.GeneratorExp elt [⟨tg, iter, [], 0⟩] scope pos) 0 (.ref it) .none (genEnv scope (cloFrom X.env.cells scope.names []) s4.heap.objs.size code builtinsNs X.env))), toks := s4.toks + 1 + 1 + 1 } s4.gens.size .running)
      (Shared.setGen { s4 with heap := h'.push go, gens := s4.gens.push (.fresh (.compStart (.GeneratorExp elt [⟨tg, iter, [], 0⟩] scope pos) 0 (.ref it) .none (genEnv scope (cloFrom X.env.cells scope.names []) s4.heap.objs.size code builtinsNs X.env))), toks := s4.toks + 1 + 1 + 1 } s4.gens.size .running)
      H2 w0 (J5 _ b5) (T.keep _ _ _ st2 kfp) (fun b hb => (f2 b hb).1)
    refine ⟨rfl, ?_⟩
    show Seg _ X.A.in1.in1 _ _ _ _ _ ((compStart (.GeneratorExp elt [⟨tg, iter, [], 0⟩] scope pos) 0 (.ref it) .none (genEnv scope (cloFrom X.env.cells scope.names []) s4.heap.objs.size code builtinsNs X.env)).onRaise (leaving (genEnv scope (cloFrom X.env.cells scope.names []) s4.heap.objs.size code builtinsNs X.env))) [] _
    unfold compStart
    rw [Sem.onRaise_eq_wrap]
    show Seg _ X.A.in1.in1 _ _ _ _ _ ((ask >>= _).wrap _ _ _ _) [] _
    refine seg_bind_wrap (wpAny_askSetting ?_)
    split
    · exact seg_again rfl loop
    · first
        | exact seg_bind_wrap (wpAny_rule (seg_bind_wrap (wpAny_standAt (seg_bind_wrap (T.self _ 0 _ _ _ (T.keep _ _ _ st2 kfp) (seg_again rfl loop))))))
        | (refine seg_bind_wrap (wpAny_rule ?_); show Seg _ _ _ _ _ _ _ ((standAt iter.pos >>= _).wrap _ _ _ _) [] _; exact seg_bind_wrap (wpAny_standAt (seg_bind_wrap (T.self _ 0 _ _ _ (T.keep _ _ _ st2 kfp) (seg_again rfl loop)))))
  refine ⟨I2.nolimit, ?_⟩
  cases hf : codeAmong pos ps.toList with
  | none =>
    refine wpAny_genexprCodeX hcode (cd.code hP2 ht) (cd.tab hP2) hf fun c' h' tk hx hge hlt hco' _ htab' _ => ?_
    obtain ⟨o1, vs, f1, tf, fl, tg, inF, tx, tt, op, _, _, _, _, _, _, _, _, _, htr, _⟩ := hco'
    exact cont _ h' tk _ hx (Nat.le_trans hge (Nat.le_of_lt hlt)) htab'.2 htr
  | some cv =>
    refine wpAny_genexprCode_hit hcode (cd.code hP2 ht) hf ?_
    exact cont cv s2.heap s2.toks ps (Heap.ExtBut.refl _ _) (Nat.le_refl _) hP2 ht
end
end Ct
namespace Ct
open PySem PySem.Spec PyProof.Rows L2 GenW
section
variable {X : Cx}
theorem gx_end {pins : List (Addr × Obj)} {σ : L2.St} {H4 : Hp} {s4 s' : Shared} {fp : List Addr} {Q : VK} {b : Bool} (I4 : Inv X pins σ H4 s4) (f4 : ∀ b ∈ fp, FpOk X pins H4 b) (os : s'.os = s4.os) (bare : AllBare s'.gens) (h : GFin X.prog X.w (frs X.stack) fp H4 s4.heap Q b s'.heap) : EP X pins σ Q (.bool b) s' := by
  obtain ⟨H', un, hok, q⟩ := h
  exact ⟨.bl b, H', I4.call' (ch := fp) os un hok bare fun b hb => ⟨(f4 b hb).2.2.2.1, (f4 b hb).2.1, (f4 b hb).2.2.2.2.1, (f4 b hb).2.2.2.2.2⟩, rfl, q⟩
/-- all(elt for tg in iter) -/
theorem pe_allX {c P : Addr} {elt tg iter : Expr} {scope : Scope} {own : List (Str × Nat)} {p pos gpos : Pos} {wi : TI} {g : TG} {te : TE} {k : Nat}
    (hr : Room (k + 1) X.A) (hgl : Gl X "all") (hm : X.mg "all" = none) (hc : X.calm = true) (hN : X.N.Nodup) (TB : GxR.TabB X.base X.mg c P) (hcode : X.env.code = .ref c) (hi : PI X tg iter wi) (ok : BlkOk X.N X.env.scope scope own) (hcell : ∀ y ∈ scope.names, y.2 ≠ .cell) (hco : scope.isCoroutine = false) (hdot : scope.names.lookup (".0" : Str) = some NameKind.local)
    (hg : ∀ (s : Shared) (H : Hp) (C : Addr) (cl : List (Str × Addr)) (cd : Value) (fp : List Addr) (pn : List (Addr × Obj)) (B : Around), PG (gxc X B s H scope (genEnv scope cl C cd builtinsNs X.env) fp pn) tg g)
    (he : ∀ (s : Shared) (H : Hp) (C : Addr) (cl : List (Str × Addr)) (cd : Value) (fp : List Addr) (pn : List (Addr × Obj)) (B : Around), Room k (B.deeper (genEnv scope cl C cd builtinsNs X.env)) → PE (gxc X B s H scope (genEnv scope cl C cd builtinsNs X.env) fp pn) elt te)
    (hs : ∀ x, genFold iter X.env x = pure x := by intro _; rfl) (hb : bootBuiltins "all" = some (.builtin "all") := by decide +kernel)
    (hst : starEach [.GeneratorExp elt [⟨tg, iter, [], 0⟩] scope gpos] X.env = (false, eval (.GeneratorExp elt [⟨tg, iter, [], 0⟩] scope gpos) X.env) :: starEach [] X.env := by rfl) :
    PE X (.Call (.Name "all" p) [.GeneratorExp elt [⟨tg, iter, [], 0⟩] scope gpos] [] pos) (tGen P false wi g te (own.map (·.2))) := by
  refine ⟨fun pins s σ H Q I h => ?_⟩
  refine wpAny_Call_Name_kw (ld_blt I hgl hm hb ?_)
  refine PyProof.Rows.callWith_builtin1 ?_ hst (by rfl)
  rw [hst]
  show wpAny _ _ (spliced ((false, eval (.GeneratorExp elt [⟨tg, iter, [], 0⟩] scope gpos) X.env) :: backTo pos (starEach [] X.env))) _ _ s
  refine Calls.spliced_cons (gen_eval hr hc hN TB hcode hi ok hcell hco hdot hg he hs I h fun a gn s4 s5 H4 fp m gs I4 f4 hgen hlim hgs hgo => ?_)
  refine Calls.spliced_nil ?_
  refine call_function_tree F.kind_all F.plain_all F.entry_all (F.args_all1 _) ?_
  unfold Builtin.«all»
  refine wpAny_bind (m := oneArg "all" _) (wpAny_pure ?_)
  refine wpAny_bind (wpAny_pyIter_gen hgen ?_)
  exact wpAny_pure ⟨plainId_quiet F.plain_all_loop _, all_gx hr.hd hr.depth (fun b s' os bare fin => gx_end I4 f4 os bare fin) m s5 hgen hlim ⟨gs, hgs, hgo⟩⟩
/-- any(elt for tg in iter) -/
theorem pe_anyX {c P : Addr} {elt tg iter : Expr} {scope : Scope} {own : List (Str × Nat)} {p pos gpos : Pos} {wi : TI} {g : TG} {te : TE} {k : Nat}
    (hr : Room (k + 1) X.A) (hgl : Gl X "any") (hm : X.mg "any" = none) (hc : X.calm = true) (hN : X.N.Nodup) (TB : GxR.TabB X.base X.mg c P) (hcode : X.env.code = .ref c) (hi : PI X tg iter wi) (ok : BlkOk X.N X.env.scope scope own) (hcell : ∀ y ∈ scope.names, y.2 ≠ .cell) (hco : scope.isCoroutine = false) (hdot : scope.names.lookup (".0" : Str) = some NameKind.local)
    (hg : ∀ (s : Shared) (H : Hp) (C : Addr) (cl : List (Str × Addr)) (cd : Value) (fp : List Addr) (pn : List (Addr × Obj)) (B : Around), PG (gxc X B s H scope (genEnv scope cl C cd builtinsNs X.env) fp pn) tg g)
    (he : ∀ (s : Shared) (H : Hp) (C : Addr) (cl : List (Str × Addr)) (cd : Value) (fp : List Addr) (pn : List (Addr × Obj)) (B : Around), Room k (B.deeper (genEnv scope cl C cd builtinsNs X.env)) → PE (gxc X B s H scope (genEnv scope cl C cd builtinsNs X.env) fp pn) elt te)
    (hs : ∀ x, genFold iter X.env x = pure x := by intro _; rfl) (hb : bootBuiltins "any" = some (.builtin "any") := by decide +kernel)
    (hst : starEach [.GeneratorExp elt [⟨tg, iter, [], 0⟩] scope gpos] X.env = (false, eval (.GeneratorExp elt [⟨tg, iter, [], 0⟩] scope gpos) X.env) :: starEach [] X.env := by rfl) :
    PE X (.Call (.Name "any" p) [.GeneratorExp elt [⟨tg, iter, [], 0⟩] scope gpos] [] pos) (tGen P true wi g te (own.map (·.2))) := by
  refine ⟨fun pins s σ H Q I h => ?_⟩
  refine wpAny_Call_Name_kw (ld_blt I hgl hm hb ?_)
  refine PyProof.Rows.callWith_builtin1 ?_ hst (by rfl)
  rw [hst]
  show wpAny _ _ (spliced ((false, eval (.GeneratorExp elt [⟨tg, iter, [], 0⟩] scope gpos) X.env) :: backTo pos (starEach [] X.env))) _ _ s
  refine Calls.spliced_cons (gen_eval hr hc hN TB hcode hi ok hcell hco hdot hg he hs I h fun a gn s4 s5 H4 fp m gs I4 f4 hgen hlim hgs hgo => ?_)
  refine Calls.spliced_nil ?_
  refine call_function_tree F.kind_any F.plain_any F.entry_any (F.args_any1 _) ?_
  unfold Builtin.«any»
  refine wpAny_bind (m := oneArg "any" _) (wpAny_pure ?_)
  refine wpAny_bind (wpAny_pyIter_gen hgen ?_)
  exact wpAny_pure ⟨plainId_quiet F.plain_any_loop _, any_gx hr.hd hr.depth (fun b s' os bare fin => gx_end I4 f4 os bare fin) m s5 hgen hlim ⟨gs, hgs, hgo⟩⟩
end
end Ct
namespace Ct
open PySem PySem.Spec PyProof.Rows L2
/-! walking it -/
def GB (P : Addr) (st : Bool) (J : It) (g : TG) (te : TE) (vs : List Nat) (σ : L2.St) (H : Hp) (Q : VK) : Prop := tGen P st (fun _ H R => R J H) g te vs σ H Q
theorem w_gen {P : Addr} {st : Bool} {wi : TI} {g : TG} {te : TE} {vs : List Nat} {σ : L2.St} {H : Hp} {Q : VK} (h : wi σ H fun J H1 => GB P st J g te vs σ H1 Q) : tGen P st wi g te vs σ H Q := h
theorem gb_it {P : Addr} {st : Bool} {J : It} {n : Nat} {G : Hp → Prop} {Y : Nat → Hp → V → Hp → Prop} (w : Walk J n G Y) {g : TG} {te : TE} {vs : List Nat} {σ : L2.St} {H : Hp} {Q : VK} (Pv : Nat → Hp → Prop) (hT : H P = some (TabX P)) (h0 : Pv 0 H) (hG : ∀ i H1, i ≤ n → Pv i H1 → G H1)
    (hs : ∀ i x H1 H2, i < n → Pv i H1 → Y i H1 x H2 → g x (wipe σ vs) H2 fun σ3 H3 => wipe σ3 vs = wipe σ vs ∧ te σ3 H3 fun y H4 => ∃ b, y = .bl b ∧ if b = st then Q (.bl st) H4 else Pv (i + 1) H4) (hd : ∀ H1, Pv n H1 → Q (.bl (!st)) H1) : GB P st J g te vs σ H Q := by
  refine ⟨hT, fun i m H1 => m = n - i ∧ i ≤ n ∧ Pv i H1, ⟨n, by simp, Nat.zero_le _, h0⟩, ?_⟩
  rintro i m H1 ⟨rfl, hi, p⟩
  have q := hG i H1 hi p
  by_cases hlt : i < n
  · exact .inr ⟨w.goes i H1 hlt q, Pv (i + 1), fun H' p' => ⟨n - (i + 1), by omega, rfl, hlt, p'⟩, fun x H' y => hs i x H1 H' hlt p (w.yields i H1 x H' hlt q y)⟩
  · have e : i = n := by omega
    subst e
    exact .inl ⟨w.stops H1 q, hd H1 p⟩
theorem gb_list {K : PySem.W.Frag} {P : Addr} {st : Bool} {a : Addr} (xs : List V) {g : TG} {te : TE} {vs : List Nat} {σ : L2.St} {H : Hp} {Q : VK} (Pv : Nat → Hp → Prop) (hT : H P = some (TabX P)) (h0 : Pv 0 H) (hl : ∀ i H1, i ≤ xs.length → Pv i H1 → SqL K H1 a xs)
    (hs : ∀ i x H1, xs[i]? = some x → Pv i H1 → g x (wipe σ vs) H1 fun σ3 H3 => wipe σ3 vs = wipe σ vs ∧ te σ3 H3 fun y H4 => ∃ b, y = .bl b ∧ if b = st then Q (.bl st) H4 else Pv (i + 1) H4) (hd : ∀ H1, Pv xs.length H1 → Q (.bl (!st)) H1) : GB P st (Itl K a) g te vs σ H Q :=
  gb_it (walk_list (xs := xs)) Pv hT h0 hl (fun i x H1 H2 _ p y => by
    obtain ⟨e, y⟩ := y
    subst e
    exact hs i x _ y p) hd
theorem gb_tup {K : PySem.W.Frag} {P : Addr} {st : Bool} {a : Addr} (xs : List V) {g : TG} {te : TE} {vs : List Nat} {σ : L2.St} {H : Hp} {Q : VK} (Pv : Nat → Hp → Prop) (hT : H P = some (TabX P)) (h0 : Pv 0 H) (hl : ∀ i H1, i ≤ xs.length → Pv i H1 → SqT K H1 a xs)
    (hs : ∀ i x H1, xs[i]? = some x → Pv i H1 → g x (wipe σ vs) H1 fun σ3 H3 => wipe σ3 vs = wipe σ vs ∧ te σ3 H3 fun y H4 => ∃ b, y = .bl b ∧ if b = st then Q (.bl st) H4 else Pv (i + 1) H4) (hd : ∀ H1, Pv xs.length H1 → Q (.bl (!st)) H1) : GB P st (Itt K a) g te vs σ H Q :=
  gb_it (walk_tup (xs := xs)) Pv hT h0 hl (fun i x H1 H2 _ p y => by
    obtain ⟨e, y⟩ := y
    subst e
    exact hs i x _ y p) hd
/-- the tables of the defs that hold generator expressions -/
def Tb (T : List Addr) (H : Hp) : Prop := ∀ P ∈ T, H P = some (TabX P)
theorem Tb.same {T : List Addr} {H H' : Hp} (h : Tb T H) (s : Same H H') : Tb T H' := fun P hP => s _ _ (h P hP)
/-- a def whose own code object is known -/
theorem okC {P : Program} {w : World} {K : PySem.W.Frag} {mg : Str → Option Value} {base : Heap} {x qual : Str} {st : Stmt} {f : Addr} {fd : FuncData} {N ps : List Str} {k : Nat} {sp : Sp} (F : Fun K x qual st f fd) (S : FnScope N ps (defScope st)) (len : ∀ vs H Q E, sp vs H Q E → vs.length = ps.length)
    (hbody : ∀ (A : Around) (outer : List Env) (s : Shared) (H : Hp) (vs : List V) (Q : VK) (E : XK), Room k (A.deeper (envOfC qual (defScope st) s.heap.objs.size f fd.code)) → sp vs H Q E →
      ∃ t, PSs (cxOf CX0 P w K mg base N qual (defScope st) f fd.code A outer s H E).nox (defBody st) t ∧ t { nx := fun _ H' => Q .non H', rt := Q } (start N vs) H) : FnOk P w K mg base CX0 (k + 1) f fd ps sp := by
  obtain ⟨oc, od, kV, doc, pm, an, cdv, ct, osl, rfl, lk, hcd⟩ := F.ex
  refine fn_of lk hcd S len fun A outer s H vs Q E hr hsp => ?_
  obtain ⟨t, h, q⟩ := hbody A outer s H vs Q E hr hsp
  exact ⟨t, h.nox, q⟩
end Ct

/-! the end of a law whose defs hold generator expressions -/
namespace Ct
open PySem PySem.Spec PyProof.Rows L2
def codeOf : Value → Addr
  | .ref c => c
  | _ => 0
/-- where the table of a code object stands -/
def tabOf (K : PySem.W.Frag) (cd : Value) : Addr := match K.lookup (codeOf cd) with
  | some ⟨_, _, .fields vs, _⟩ => (match (vs : Array Value)[11]? with | some (Value.ref P) => P | _ => 0)
  | _ => 0
def tabOkB (K : PySem.W.Frag) (cd : Value) : Bool := match cd with
  | .ref c => (match K.lookup c with
    | some ⟨_, _, .fields vs, _⟩ => (match (vs : Array Value)[11]? with | some (Value.ref P) => (K.lookup P).isNone | _ => false)
    | _ => false)
  | _ => false
theorem tab_inv {K : PySem.W.Frag} {cd : Value} (h : tabOkB K cd = true) : ∃ e dd vs sl, cd = .ref (codeOf cd) ∧ K.lookup (codeOf cd) = some ⟨e, dd, .fields vs, sl⟩ ∧ vs[11]? = some (.ref (tabOf K cd)) ∧ K.lookup (tabOf K cd) = none := by
  unfold tabOkB at h
  cases cd with
  | ref c =>
    cases q : K.lookup c with
    | none =>
      simp only [q] at h
      cases h
    | some o =>
      obtain ⟨e, dd, dt, sl⟩ := o
      cases dt with
      | fields vs =>
        simp only [q] at h
        cases r : vs[11]? with
        | none =>
          simp only [r] at h
          cases h
        | some u =>
          cases u with
          | ref P =>
            simp only [r] at h
            have t : tabOf K (.ref c) = P := by
              unfold tabOf codeOf
              simp only [q, r]
            refine ⟨e, dd, vs, sl, rfl, q, ?_, ?_⟩
            · rw [t]
              exact r
            · rw [t]
              exact Option.isNone_iff_eq_none.mp h
          | _ =>
            simp only [r] at h
            cases h
      | _ =>
        simp only [q] at h
        cases h
  | _ => cases h
/-- a def that is called on the script -/
def RunOk (P : Program) (w : World) (K : PySem.W.Frag) (mg : Str → Option Value) (base : Heap) (fa : Addr) (fd : FuncData) (x : Str) (sp : Sp) : Prop :=
  ∀ (z : Shared) (H : Hp) (ws : List Value) (vs : List V) (Q : VK) (E : XK), Env0 P w K mg base callerA [] z H → BindsTo z fd ⟨ws, []⟩ ([x].zip ws) → Vals vs ws → sp vs H Q E → codeAny (model P w) callerA (.call (.ref fa) ⟨ws, []⟩) (CR CX0 [] P w H z Q E) z
theorem law_callX {P : Program} {w : World} {K : PySem.W.Frag} {mg mb : Str → Option Value} {fa a : Addr} {cs : List (Addr × Addr)} {fd : FuncData} {x : Str} {sp : Sp} {s₁ : Shared} {vs : List Value} {ns : List Int}
    (KX : K.In s₁.heap) (hns : s₁.heap.Ns mainGlobals mg) (hb : s₁.heap.Ns builtinsNs mb) (hbb : ∀ x : Str, x ≠ "__name__" → mb x = bootBuiltins x) (hlim : s₁.heap.NoLimit) (hg : s₁.gens = #[])
    (hT : ∀ p ∈ cs, s₁.heap.get? p.2 = some { cls := .none, data := .fields #[] }) (nT : ∀ p ∈ cs, K.lookup p.2 = none) (C : ∀ p ∈ cs, PySem.W.CodeHd s₁.heap p.1 p.2)
    (hbm : ∃ (bm : Addr) (ob : Obj), mg "__builtins__" = some (.ref bm) ∧ bm ≠ builtinsNs ∧ s₁.heap.get? bm = some ob ∧ ob.cls = .type "module" ∧ ob.dict = some builtinsNs ∧ ob.data = .plain)
    (ha : s₁.heap.get? a = some { cls := .type "list", data := .seq vs.toArray }) (hi : IntsAre vs ns) (hl : ns.length ≤ sizeLine)
    (F : ∀ base : Heap, K.In base → base.Ns mainGlobals mg → (∀ p ∈ cs, GxR.TabB base mg p.1 p.2) → RunOk P w K mg base fa fd x sp) (hbind : ∀ (s : Shared) (u : Value), BindsTo s fd ⟨[u], []⟩ [(x, u)])
    (hsp : ∀ H : Hp, (∀ p ∈ cs, H p.2 = some (TabX p.2)) → SqL K H a (ns.map V.int) → sp [.ref a] H (fun v H' => v = .bl true ∧ Same H H') fun _ _ _ => False) :
    codeAny (model P w) callerA (.call (.ref fa) ⟨[.ref a], []⟩) (fun r s' => r = .ok (.ret (.bool true)) ∧ OldK s₁.heap s'.heap ∧ s'.os = s₁.os ∧ AllBare s'.gens) s₁ := by
  have rv := vals_ints hi
  have lenV := hi.length
  have isT : ∀ b : Addr, b ∈ cs.map (·.2) → s₁.heap.get? b = some { cls := .none, data := .fields #[] } := fun b hb => by
    obtain ⟨p, hp, e⟩ := List.mem_map.mp hb
    rw [← e]
    exact hT p hp
  have aT : a ∉ cs.map (·.2) := fun z => by
    have q := isT a z
    rw [ha] at q
    have z' : Data.seq vs.toArray _ = Data.fields #[] := congrArg Obj.data (Option.some.inj q)
    cases z'
  have memT : ∀ p ∈ cs, p.2 ∈ cs.map (·.2) := fun p hp => List.mem_map.mpr ⟨p, hp, rfl⟩
  have core : ∀ H : Hp, (∀ b, b ∈ cs.map (·.2) → H b = some (TabX b)) → (∀ b, H b = none ∨ b ∈ cs.map (·.2) ∨ ∃ o xs, H b = some (.frz o (.lst xs))) → SqL K H a (ns.map V.int) → HOk P w H s₁.heap → (∀ b, H b ≠ none → b = a ∨ b ∈ cs.map (·.2)) → (H a ≠ none → K.lookup a = none) →
      codeAny (model P w) callerA (.call (.ref fa) ⟨[.ref a], []⟩) (fun r s' => r = .ok (.ret (.bool true)) ∧ OldK s₁.heap s'.heap ∧ s'.os = s₁.os ∧ AllBare s'.gens) s₁ := by
    intro H hH hO hS hok hA hK
    have base_of : ∀ {b : Addr} {o : Obj}, s₁.heap.get? b = some o → H b = none → (hidT s₁.heap H).get? b = some o := fun e n => hidT_get e n
    have noD : ∀ {b : Addr} {o : Obj}, s₁.heap.get? b = some o → (∀ vs n, o.data ≠ .seq vs n) → o.data ≠ .fields #[] → H b = none := fun {b o} e h1 h2 => by
      cases q : H b with
      | none => rfl
      | some u =>
        rcases hA b (by rw [q]; simp) with e' | e'
        · rw [e', ha] at e
          cases e
          exact (h1 _ _ rfl).elim
        · rw [isT b e'] at e
          cases e
          exact (h2 rfl).elim
    have noA : ∀ {b : Addr} {o : Obj} {es : Array DictEntry} {ep : Nat}, s₁.heap.get? b = some o → o.data = .dict es ep → H b = none := fun {b o es ep} e d => by
      refine noD e (fun vs n z => ?_) fun z => ?_
      · rw [d] at z
        cases z
      · rw [d] at z
        cases z
    have nsK : ∀ {b : Addr} {m : Str → Option Value}, s₁.heap.Ns b m → (hidT s₁.heap H).Ns b m := fun {b m} ⟨o, es, ep, e, d, r⟩ => ⟨o, es, ep, base_of e (noA e d), d, r⟩
    have hKb : K.In (hidT s₁.heap H) := fun b o e => base_of (KX b o e) (by
      cases q : H b with
      | none => rfl
      | some u =>
        rcases hA b (by rw [q]; simp) with e' | e'
        · rw [e'] at e q
          rw [hK (by rw [q]; simp)] at e
          cases e
        · obtain ⟨p, hp, ep⟩ := List.mem_map.mp e'
          rw [← ep, nT p hp] at e
          cases e)
    have hM : L2.Mod K mg (hidT s₁.heap H) := ⟨hKb, nsK hns, ⟨mb, nsK hb, hbb⟩, let ⟨mc, h1, h2⟩ := hlim; ⟨mc, nsK h1, h2⟩⟩
    have TB : ∀ p ∈ cs, GxR.TabB (hidT s₁.heap H) mg p.1 p.2 := fun p hp => by
      have hTp := hT p hp
      refine ⟨?_, ?_, fun z => ?_⟩
      · obtain ⟨o, us, file, tf, flags, tg, inF, text, tt, e1, r1, r2, r3, r4, r5, r6, r7, r8, hne⟩ := C p hp
        refine ⟨o, us, file, tf, flags, tg, inF, text, tt, base_of e1 (noD e1 (fun vs n z => ?_) fun z => ?_), r1, r2, r3, r4, r5, r6, r7, r8, hne⟩
        · rw [r2] at z
          cases z
        · rw [r2] at z
          cases z
          simp at r3
      · obtain ⟨bm, ob, b1, b2, b3, b4, b5, b6⟩ := hbm
        have nG : bm ≠ mainGlobals := fun q => by
          obtain ⟨o, es, ep, e, hd, _⟩ := hns
          rw [q, e] at b3
          cases b3
          rw [hd] at b6
          cases b6
        have nP : bm ≠ p.2 := fun q => by
          rw [q, hTp] at b3
          cases b3
          cases b6
        refine ⟨bm, ob, b1, b2, nG, nP, base_of b3 (noD b3 (fun vs n z => ?_) fun z => ?_), b4, b5, b6⟩
        · rw [b6] at z
          cases z
        · rw [b6] at z
          cases z
      · obtain ⟨o, es, ep, e, hd, _⟩ := hns
        rw [z, hTp] at e
        cases e
        cases hd
    have e0 : Env0 P w K mg (hidT s₁.heap H) callerA [] s₁ H := ⟨rfl, hM, fun b o e => of_hidT e, Nat.le_of_eq (hidT_size _ _), trivial, fun b hb => absurd (show b ∈ ([] : List Addr) from hb) (by simp), hok, .of_eq hg⟩
    refine codeAny_mono (F _ hKb (nsK hns) TB s₁ H [.ref a] [.ref a] _ _ e0 (hbind s₁ (.ref a)) (.cons rfl .nil) (hsp H (fun p hp => hH _ (memT p hp)) hS)) fun r s' h => ?_
    cases r with
    | error e => exact (show False from h).elim
    | ok fl =>
      cases fl with
      | next => exact False.elim h
      | brk => exact False.elim h
      | cont => exact False.elim h
      | ret u =>
        obtain ⟨v, H', os, bare, un, hok', r', q, sm⟩ := h
        subst q
        obtain rfl : u = Value.bool true := r'
        have key : ∀ b o, b ∉ cs.map (·.2) → s₁.heap.get? b = some o → s'.heap.get? b = some o := fun b o nb e => by
          cases q : H b with
          | none => exact un.keep b o e q (by intro z; exact absurd (show b ∈ ([] : List Addr) from z) (by simp)) (by simp)
          | some u =>
            rcases hO b with z | z | ⟨ob, xs, z⟩
            · rw [q] at z; cases z
            · exact absurd z nb
            · have z2 := un.frzs b ob _ z
              obtain ⟨e1, _⟩ := hok b _ z
              obtain ⟨e2, _⟩ := hok' b _ z2
              rw [e] at e1; cases e1
              exact e2
        have grown : ∀ p ∈ cs, ∃ more : Array Value, s'.heap.get? p.2 = some { cls := .none, data := .fields more } := fun p hp => by
          obtain ⟨⟨more, z, _⟩, _⟩ := hok' p.2 _ (sm _ _ (hH _ (memT p hp)))
          exact ⟨_, z⟩
        refine ⟨rfl, ⟨fun b o e => ?_, fun b o e => ?_⟩, os, bare⟩
        · by_cases hb : b ∈ cs.map (·.2)
          · obtain ⟨p, hp, ep⟩ := List.mem_map.mp hb
            obtain ⟨more, hm⟩ := grown p hp
            rw [← ep] at e ⊢
            rw [hT p hp] at e
            cases e
            exact .inr (.inl ⟨((C p hp).tab (hT p hp)).isCodeTable, rfl, #[], more, rfl, by rw [Array.empty_append]; exact hm⟩)
          · exact .inl (key b o hb e)
        · by_cases hb : b ∈ cs.map (·.2)
          · obtain ⟨p, hp, ep⟩ := List.mem_map.mp hb
            obtain ⟨more, hm⟩ := grown p hp
            rw [← ep]
            exact ⟨_, hm⟩
          · exact ⟨o, key b o hb e⟩
  cases hk : K.lookup a with
  | some o =>
    have e := KX a o hk
    rw [ha] at e
    cases e
    refine core (fun b => if b ∈ cs.map (·.2) then some (TabX b) else none) (fun b hb => if_pos hb) (fun b => ?_) (.inr ⟨_, vs.toArray, _, hk, rfl, rfl, rfl, by rw [List.size_toArray, lenV]; exact hl, by simpa using rv⟩) (fun b u z => ?_) (fun b z => ?_) fun z => absurd (show (if a ∈ cs.map (·.2) then some (TabX a) else none) = none from if_neg aT) z
    · by_cases hb : b ∈ cs.map (·.2)
      · exact .inr (.inl hb)
      · exact .inl (if_neg hb)
    · by_cases hb : b ∈ cs.map (·.2)
      · have z' := (if_pos hb).symm.trans z
        cases z'
        exact tabx_ok (isT b hb) True.intro
      · have z' := (if_neg hb).symm.trans z
        cases z'
    · by_cases hb : b ∈ cs.map (·.2)
      · exact .inr hb
      · exact absurd (if_neg hb) z
  | none =>
    refine core (fun b => if b = a then some (.frz { cls := .type "list", data := .seq vs.toArray } (.lst (ns.map V.int))) else if b ∈ cs.map (·.2) then some (TabX b) else none) (fun b hb => (if_neg (show ¬ b = a from fun z => aT (by rw [← z]; exact hb))).trans (if_pos hb)) (fun b => ?_)
      (.inl (.inr ⟨{ cls := .type "list", data := .seq vs.toArray }, if_pos rfl⟩)) (fun b u z => ?_) (fun b z => ?_) fun _ => hk
    · by_cases hb : b = a
      · exact .inr (.inr ⟨_, _, if_pos hb⟩)
      · by_cases hb2 : b ∈ cs.map (·.2)
        · exact .inr (.inl hb2)
        · exact .inl ((if_neg hb).trans (if_neg hb2))
    · by_cases hb : b = a
      · have z' := (if_pos hb).symm.trans z
        cases z'
        rw [hb]
        exact ⟨ha, by rw [List.length_map]; exact hl, vs, _, rv, ha⟩
      · have z1 := (if_neg hb).symm.trans z
        by_cases hb2 : b ∈ cs.map (·.2)
        · have z' := (if_pos hb2).symm.trans z1
          cases z'
          exact tabx_ok (isT b hb2) True.intro
        · have z' := (if_neg hb2).symm.trans z1
          cases z'
    · by_cases hb : b = a
      · exact .inl hb
      · by_cases hb2 : b ∈ cs.map (·.2)
        · exact .inr hb2
        · exact absurd ((if_neg hb).trans (if_neg hb2)) z
/-- what is known of the law's promise: cs, the defs that hold generator expressions and their code objects -/
def LawAtX (l : PySem.W.OpenLaw) (w : World) (K : PySem.W.Frag) (n : Nat) (x : Str) (mg : Str → Option Value) (fa : Addr) (defs : List Str) : Prop :=
  ∃ (fd : FuncData) (cs : List (Str × Value)) (sp : Sp), (∀ p ∈ cs, p.1 ∈ defs ∧ ∃ (f : Addr) (oc : Value) (od : Option Addr) (fdx : FuncData) (osl : Array (Option Value)), mg p.1 = some (.ref f) ∧ K.lookup f = some ⟨oc, od, .func fdx, osl⟩ ∧ fdx.code = p.2 ∧ tabOkB K p.2 = true) ∧ (∀ (s : Shared) (u : Value), BindsTo s fd ⟨[u], []⟩ [(x, u)]) ∧
    (∀ (H : Hp) (a : Addr) (ns : List Int), ns.length ≤ n → (∀ p ∈ cs, H (tabOf K p.2) = some (TabX (tabOf K p.2))) → SqL K H a (ns.map V.int) → sp [.ref a] H (fun v H' => v = .bl true ∧ Same H H') fun _ _ _ => False) ∧
    ∀ base : Heap, K.In base → base.Ns mainGlobals mg → (∀ p ∈ cs, GxR.TabB base mg (codeOf p.2) (tabOf K p.2)) → RunOk l.prog w K mg base fa fd x sp
theorem walk_ofX {l : PySem.W.OpenLaw} {n : Nat} {q : Program} {loose : List Str} {XP : (Str → Option Value) → Heap → Prop} {YP : World → Heap → Prop} {d : DefRec} {K : Params → PySem.W.Frag} {x : Str} {defs : List Str}
    (hn : l.most = some n) (hn2 : n ≤ sizeLine) (hdf : d.params.defaults = []) (hrec : (defs.all fun y => (recsOf q).any fun e => e.name == y) = true) (hY : ∀ (w : World) (h : Heap), YP w h → (K w.params).In h)
    (F : ∀ (w : World) (mg : Str → Option Value) (fa : Addr) (h : Heap), (K w.params).In h → h.Ns mainGlobals mg → mg d.name = some (.ref fa) → LawAtX l w (K w.params) n x mg fa defs) :
    PySem.W.WalkO q loose XP YP l.row.toRowW d [] (fun f vs => PySem.call f vs) := by
  refine Att.attach_callB hn hdf fun w s₀ s₁ mg mb fa o pm cd doc a vs ns G Y ho hd hcd hmg hobj hints hlen hbits hg => ?_
  have KX := hY w _ Y
  obtain ⟨fd, cs, sp, hcs, hb, hsp, hF⟩ := F w mg fa _ KX G.T.g hmg
  have facts : ∀ p ∈ cs, s₁.heap.get? (tabOf (K w.params) p.2) = some { cls := .none, data := .fields #[] } ∧ (K w.params).lookup (tabOf (K w.params) p.2) = none ∧ PySem.W.CodeHd s₁.heap (codeOf p.2) (tabOf (K w.params) p.2) := fun p hp => by
    obtain ⟨hm, f, oc, od, fdx, osl, g1, g2, g3, g4⟩ := hcs p hp
    obtain ⟨e, dd, us, sl, t1, t2, t3, t4⟩ := tab_inv g4
    obtain ⟨dL, hdm, hn1⟩ := List.any_eq_true.mp (List.all_eq_true.mp hrec _ hm)
    have hn2 : dL.name = p.1 := beq_iff_eq.mp hn1
    obtain ⟨a', o', fd', c', P', h1, h2, h3, h4, h5, h6⟩ := G.T.tab dL hdm
    rw [hn2, g1] at h1
    cases h1
    rw [KX _ _ g2] at h2
    cases h2
    cases h3
    rw [g3, t1] at h4
    cases h4
    obtain ⟨⟨ob, vc, e1, e2, e3, e4⟩, hP⟩ := id h6
    rw [KX _ _ t2] at e1
    cases e1
    cases e3
    rw [t3] at e4
    cases e4
    exact ⟨hP, t4, .of h5 h6⟩
  refine law_callX (cs := cs.map fun p => (codeOf p.2, tabOf (K w.params) p.2)) KX G.T.g G.T.b G.T.builtins G.T.nolimit hg ?_ ?_ ?_ G.T.bmain hobj hints (Nat.le_trans hlen hn2) (fun base h1 h2 h3 => hF base h1 h2 fun p hp => h3 _ (List.mem_map.mpr ⟨p, hp, rfl⟩)) hb fun H hH hS => hsp H a ns hlen (fun p hp => hH _ (List.mem_map.mpr ⟨p, hp, rfl⟩)) hS
  · intro p hp
    obtain ⟨q, hq, rfl⟩ := List.mem_map.mp hp
    exact (facts q hq).1
  · intro p hp
    obtain ⟨q, hq, rfl⟩ := List.mem_map.mp hp
    exact (facts q hq).2.1
  · intro p hp
    obtain ⟨q, hq, rfl⟩ := List.mem_map.mp hp
    exact (facts q hq).2.2
theorem RunOk.of {P : Program} {w : World} {K : PySem.W.Frag} {mg : Str → Option Value} {base : Heap} {k : Nat} {fa : Addr} {fd : FuncData} {x : Str} {sp : Sp} (hr : Room k callerA) (F : FnOk P w K mg base CX0 k fa fd [x] sp) : RunOk P w K mg base fa fd x sp :=
  fun z H ws vs Q E e b r h => F.run callerA [] z H ⟨ws, []⟩ ws vs Q E hr e b r h
end Ct

namespace Ct
open PySem PySem.Spec PyProof.Rows L2
section
variable {K : PySem.W.Frag} {H : Hp} {σ : L2.St} {D : Ends} {Q : VK}
theorem w_parB {i j : Nat} {ta : TA} (h : ta σ H fun vs H1 => ∃ v w, vs = [v, w] ∧ D.nx ((σ.set i (some v)).set j (some w)) H1) : tPar i j ta D σ H := h
theorem fb_enum {a : Addr} (xs : List V) {g : TG} {tb : TS} (Pv : Nat → L2.St → Hp → Prop) (h0 : Pv 0 σ H) (hl : ∀ i σ H, i ≤ xs.length → Pv i σ H → SqL K H a xs)
    (hs : ∀ i v T σ H, xs[i]? = some v → Pv i σ H → H T = none → g (.ref T) σ (upd H T (.tup [.int (i : Nat), v])) fun σ2 H2 => tb { D with nx := Pv (i + 1), ct := Pv (i + 1), bk := D.nx } σ2 H2) (hd : ∀ σ H, Pv xs.length σ H → D.nx σ H) : FB (Ite K a) g tb D σ H :=
  for_it (walk_enum (xs := xs)) Pv h0 hl (fun i x σ H H' _ p y => by
    obtain ⟨T, u, v, rfl, hT, rfl, e1, e2⟩ := y
    cases Option.some.inj e1
    exact hs i v T σ H e2 p hT) hd
end
/-- len of a list or a tuple, told for a block of a generator -/
abbrev rLenS (K : PySem.W.Frag) : List V → Hp → VK → Prop := fun xs H Q => ∃ p ys, xs = [.ref p] ∧ (SqL K H p ys ∨ SqT K H p ys) ∧ Q (.int ys.length) H
theorem w_inS {K : PySem.W.Frag} {H : Hp} {Q : VK} {p : Addr} {xs : List V} {x : V} (b : Bool) (h : SqL K H p xs) (fx : flatV x = true) (f : xs.all flatV = true) (e : inV x xs = b) (q : Q (.bl b) H) : rIn K false x (.ref p) H Q := ⟨p, xs, rfl, .inl h, fx, f, by rw [if_neg Bool.false_ne_true, e]; exact q⟩
def wearsN (ps : List Part) : Nat → List (Option (Nat × Int))
  | 0 => [none]
  | n + 1 => wearsN ps n ++ (match ps[n]? with | some (.wheel _ ms) => ms.map fun m => some (n, m) | _ => [])
def wearD : Option (Nat × Int) → PyData
  | none => .none
  | some (i, m) => .tuple [.int (i : Nat), .int m]
theorem wear_at {K : PySem.W.Frag} {H : Hp} {v : V} : ∀ {w : Option (Nat × Int)}, Dp K H v (wearD w) → WearAt K H v w
  | none, h => by cases h; rfl
  | some (i, m), h => by
    obtain ⟨a, vs, rfl, h1, h2⟩ := tup_inv h
    cases h2 with
    | cons h3 h2 => cases h2 with
      | cons h4 h2 =>
        cases h2
        cases h3
        cases h4
        exact ⟨a, rfl, h1⟩
theorem wear_upd {K : PySem.W.Frag} {H : Hp} {l : Addr} {ws : List V} {o : HO} (hl : H l = some (.lst ws)) {v : V} {w : Option (Nat × Int)} (h : Dp K H v (wearD w)) : Dp K (upd H l o) v (wearD w) := by
  cases w with
  | none => cases h; exact .non
  | some im =>
    obtain ⟨g, rfl, hg⟩ := wear_at h
    obtain ⟨i, m⟩ := im
    exact .tup (sqT_upd hg hl) (.cons (.int _) (.cons (.int _) .nil))
theorem wears_upd {K : PySem.W.Frag} {H : Hp} {l : Addr} {ws : List V} {o : HO} (hl : H l = some (.lst ws)) : ∀ {vs : List V} {ss : List (Option (Nat × Int))}, DpAll K H vs (ss.map wearD) → DpAll K (upd H l o) vs (ss.map wearD)
  | _, [], .nil => .nil
  | _, s :: ss, .cons h t => .cons (wear_upd hl h) (wears_upd hl t)
theorem wears_is {ps : List Part} : ∀ {n : Nat} {i : Nat} {m : Int}, some (i, m) ∈ wearsN ps n → ∃ z ms, ps[i]? = some (.wheel z ms)
  | 0, i, m, h => by
    rw [wearsN, List.mem_singleton] at h
    cases h
  | n + 1, i, m, h => by
    rw [wearsN] at h
    rcases List.mem_append.mp h with h | h
    · exact wears_is h
    · split at h
      · rename_i z ms e
        obtain ⟨m', _, e2⟩ := List.mem_map.mp h
        cases e2
        exact ⟨z, ms, e⟩
      · cases h
theorem wears_len {ps : List Part} (ok : ∀ p ∈ ps, p.ok) : ∀ n, (wearsN ps n).length ≤ 1 + 1000 * n
  | 0 => Nat.le_refl _
  | n + 1 => by
    rw [wearsN, List.length_append]
    have ih := wears_len ok n
    split
    · rename_i z ms e
      have := (ok _ (List.mem_of_getElem? e)).2.2.2
      rw [List.length_map]
      omega
    · rw [List.length_nil]
      omega
theorem lay_wear (w : Option (Nat × Int)) : (wearD w).canLay0 = true ∧ (wearD w).depth ≤ 1 := by
  cases w with
  | none => exact ⟨rfl, Nat.zero_le _⟩
  | some im => exact lay_tup (n := 0) (lay_ints [(im.1 : Int), im.2] 0)
theorem lay_wears (ws : List (Option (Nat × Int))) : (PyData.list (ws.map wearD)).canLay0 = true ∧ (PyData.list (ws.map wearD)).depth ≤ 2 := lay_lst fun d hd => by
  obtain ⟨w, _, rfl⟩ := List.mem_map.mp hd
  exact lay_wear w
abbrev Show := Nat × Int × Int
def showD (s : Show) : PyData := .tuple [.int (s.1 : Nat), .int s.2.1, .int s.2.2]
def ShowOk (n : Nat) (s : Show) : Prop := s.1 < n ∧ Sign s.2.1 ∧ (s.2.2 = 0 ∨ Sign s.2.2)
theorem lay_shows (ss : List Show) : (PyData.list (ss.map showD)).canLay0 = true ∧ (PyData.list (ss.map showD)).depth ≤ 2 := lay_lst fun d hd => by
  obtain ⟨w, _, rfl⟩ := List.mem_map.mp hd
  exact lay_tup (n := 0) (lay_ints [(w.1 : Int), w.2.1, w.2.2] 0)
theorem show_inv {K : PySem.W.Frag} {H : Hp} {v : V} {s : Show} (h : Dp K H v (showD s)) : ∃ a, v = .ref a ∧ SqT K H a [.int (s.1 : Nat), .int s.2.1, .int s.2.2] := by
  obtain ⟨a, vs, rfl, h1, h2⟩ := tup_inv h
  cases dpAll_ints_inv [(s.1 : Int), s.2.1, s.2.2] h2
  exact ⟨a, rfl, h1⟩
theorem show_dp {K : PySem.W.Frag} {H : Hp} {a : Addr} {s : Show} (h : SqT K H a [.int (s.1 : Nat), .int s.2.1, .int s.2.2]) : Dp K H (.ref a) (showD s) := .tup h (.cons (.int _) (.cons (.int _) (.cons (.int _) .nil)))
def explB (ps : List Part) : List Int → List Show → Bool
  | _, [] => true
  | xs, s :: r => decide ((Ct.run ps xs s.1 s.2.1).2 = s.2.2) && explB ps (Ct.run ps xs s.1 s.2.1).1 r
theorem standOk_run {ps : List Part} {xs : List Int} {i : Nat} {w : Int} (h : StandL ps xs) (hi : i < ps.length) (hw : Sign w) : StandL ps (Ct.run ps xs i w).1 := run_stand h hi (.inr hw)
theorem worn_get {ps : List Part} {j : Nat} {m : Int} {i : Nat} {p : Part} (hp : (wornP ps (some (j, m)))[i]? = some p) : ∃ p0, ps[i]? = some p0 ∧ p0.places = p.places := by
  cases e : ps[j]? with
  | none =>
    rw [show wornP ps (some (j, m)) = ps by unfold wornP; simp only [e]] at hp
    exact ⟨p, hp, rfl⟩
  | some q =>
    cases q with
    | wheel z ms =>
      rw [show wornP ps (some (j, m)) = ps.set j (.wheel z (offMark ms m)) by unfold wornP; simp only [e]] at hp
      by_cases c : j = i
      · subst c
        rw [List.getElem?_set_self (List.getElem?_eq_some_iff.mp e).1] at hp
        cases Option.some.inj hp
        exact ⟨_, e, rfl⟩
      · rw [List.getElem?_set_ne c] at hp
        exact ⟨p, hp, rfl⟩
    | click =>
      rw [show wornP ps (some (j, m)) = ps by unfold wornP; simp only [e]] at hp
      exact ⟨p, hp, rfl⟩
    | rocker =>
      rw [show wornP ps (some (j, m)) = ps by unfold wornP; simp only [e]] at hp
      exact ⟨p, hp, rfl⟩
    | spring k =>
      rw [show wornP ps (some (j, m)) = ps by unfold wornP; simp only [e]] at hp
      exact ⟨p, hp, rfl⟩
theorem worn_stand {ps : List Part} {w : Option (Nat × Int)} {xs : List Int} (h : StandL ps xs) : StandL (wornP ps w) xs := by
  cases w with
  | none => exact h
  | some im =>
    obtain ⟨j, m⟩ := im
    refine standL_of (wornP_ok h.okp _) ⟨by rw [wornP_len]; exact h.ok.1, fun i p x hp hx => ?_⟩
    obtain ⟨p0, e, pl⟩ := worn_get hp
    have := h.ok.2 i p0 x e hx
    rw [pl] at this
    exact this
theorem wears_pos (ps : List Part) : ∀ n, 1 ≤ (wearsN ps n).length
  | 0 => Nat.le_refl _
  | n + 1 => by
    rw [wearsN, List.length_append]
    have := wears_pos ps n
    omega
theorem run_sgn {ps : List Part} {xs : List Int} {i : Nat} {w : Int} (hw : Sign w) : (Ct.run ps xs i w).2 = 0 ∨ Sign (Ct.run ps xs i w).2 := by
  unfold Ct.run
  exact runN_sign ps i (xs, w) hw _
theorem show_upd {K : PySem.W.Frag} {H : Hp} {l : Addr} {ws : List V} {o : HO} (hl : H l = some (.lst ws)) {v : V} {s : Show} (h : Dp K H v (showD s)) : Dp K (upd H l o) v (showD s) := by
  obtain ⟨g, rfl, hg⟩ := show_inv h
  exact show_dp (sqT_upd hg hl)
theorem shows_upd {K : PySem.W.Frag} {H : Hp} {l : Addr} {ws : List V} {o : HO} (hl : H l = some (.lst ws)) : ∀ {vs : List V} {ss : List Show}, DpAll K H vs (ss.map showD) → DpAll K (upd H l o) vs (ss.map showD)
  | _, [], .nil => .nil
  | _, s :: ss, .cons h t => .cons (show_upd hl h) (shows_upd hl t)
theorem way_of {r : Int} (h0 : 0 ≤ r) (h1 : r < 3) : ∃ w : Int, Sign w ∧ atI [V.int 1, .int 1, .int (-1)] r = some (.int w) := by
  have : r = 0 ∨ r = 1 ∨ r = 2 := by omega
  rcases this with rfl | rfl | rfl
  · exact ⟨1, .inl rfl, at0⟩
  · exact ⟨1, .inl rfl, at1⟩
  · exact ⟨-1, .inr rfl, at2⟩
theorem at_lastB {xs : List V} {v : V} {n : Nat} (l : xs.length = n + 1) (e : xs[n]? = some v) : atI xs (-1) = some v := by
  have z : ixN xs.length (-1) = some n := by
    rw [l]
    unfold ixN
    simp
    omega
  unfold atI
  rw [z]
  exact e
theorem w_slB {K : PySem.W.Frag} {H : Hp} {Q : VK} {a : Addr} {xs : List V} {lo hi : Option Int} (h : SqT K H a xs) (q : ∀ p H', Same H H' → SqT K H' p (cutV xs lo hi) → Q (.ref p) H') : rSlA K (.ref a) lo hi H Q := by
  refine ⟨a, xs, rfl, h, fun z => q a H (Same.refl H) ?_, fun _ p np => q p _ (same_upd np) (.of upd_same)⟩
  have e : cutV xs lo hi = xs := by
    unfold cutV
    rw [z.1, z.2, List.drop_zero, Nat.sub_zero, List.take_length]
  rw [e]
  exact h
theorem cut_lastB (xs : List Int) {n : Nat} (l : xs.length = n + 1) : cutV (xs.map V.int) none (some (-1)) = (xs.take n).map V.int := by
  unfold cutV
  have e1 : HT.sIx (xs.map V.int).length 0 none = 0 := HT.sIx_none ..
  have e2 : HT.sIx (xs.map V.int).length (xs.map V.int).length (some (-1)) = n := by
    rw [List.length_map, l]
    unfold HT.sIx
    simp
    try omega
  rw [e1, e2, List.drop_zero, Nat.sub_zero, List.map_take]
theorem stand_last {ps : List Part} {xs : List Int} {n : Nat} {p : Part} {y : Int} (h : StandL ps xs) (hn : ps.length = n + 1) (hp : ps[n]? = some p) (h0 : 0 ≤ y) (h1 : y < p.places) : StandL ps (xs.take n ++ [y]) := by
  have xl := h.ok.1
  refine standL_of h.okp ⟨by rw [List.length_append, List.length_take]; show min n xs.length + 1 = ps.length; omega, fun i p' x hp' hx => ?_⟩
  by_cases c : i < n
  · rw [List.getElem?_append_left (by rw [List.length_take]; omega), List.getElem?_take_of_lt c] at hx
    exact h.ok.2 i p' x hp' hx
  · have hi := (List.getElem?_eq_some_iff.mp hp').1
    have e : i = n := by omega
    subst e
    cases Option.some.inj (hp.symm.trans hp')
    rw [List.getElem?_append_right (by rw [List.length_take]; omega), List.length_take, show i - min i xs.length = 0 by omega] at hx
    cases Option.some.inj hx
    exact ⟨h0, h1⟩
theorem lay_ints_tup (xs : List Int) : (PyData.tuple (xs.map PyData.int)).canLay0 = true ∧ (PyData.tuple (xs.map PyData.int)).depth ≤ 1 := lay_tup (lay_ints xs 0)
theorem lay_wheelcut (z : Int) (ms : List Int) : (PyData.tuple [.int z, .tuple (ms.map PyData.int)]).canLay0 = true ∧ (PyData.tuple [.int z, .tuple (ms.map PyData.int)]).depth ≤ 2 := lay_tup (n := 1) fun d hd => by
  rcases List.mem_cons.mp hd with rfl | hd
  · exact lay_int _ _
  rcases List.mem_cons.mp hd with rfl | hd
  · exact lay_tup (lay_ints ms 0)
  · cases hd
end Ct

local macro_rules | `(tactic| walk_at "ct") => `(tactic| repeat (first
  | with_reducible refine Ct.w_seq ?_ | with_reducible refine Ct.w_gen ?_ | with_reducible refine Ct.w_asg ?_ | with_reducible refine Ct.w_ret ?_ | with_reducible refine Ct.w_ifS ?_ | with_reducible refine Ct.w_drop ?_ | with_reducible refine Ct.w_next ?_
  | with_reducible refine Ct.w_op ?_ | with_reducible refine Ct.w_c ?_ | with_reducible refine Ct.w_chain ?_ | with_reducible refine Ct.w_un ?_ | with_reducible refine Ct.w_test ?_ | with_reducible refine Ct.w_B ?_ | with_reducible refine Ct.w_and ?_ | with_reducible refine Ct.w_or ?_ | with_reducible refine Ct.w_not ?_ | with_reducible refine Ct.w_if ?_
  | with_reducible refine Ct.w_andV ?_ | with_reducible refine Ct.w_orV ?_ | with_reducible refine Ct.w_notV ?_
  | with_reducible refine Ct.w_nil ?_ | with_reducible refine Ct.w_cons ?_ | with_reducible refine Ct.w_cb ?_ | with_reducible refine Ct.w_call ?_ | with_reducible refine Ct.w_tup ?_ | with_reducible refine Ct.w_lst ?_ | with_reducible refine Ct.w_bm ?_
  | with_reducible refine Ct.w_for ?_ | with_reducible refine Ct.w_rng1 ?_ | with_reducible refine Ct.w_rng2 ?_ | with_reducible refine Ct.w_ilist ?_ | with_reducible refine Ct.w_itup ?_ | with_reducible refine Ct.w_im ?_ | with_reducible refine Ct.w_enum ?_ | with_reducible refine Ct.w_irev ?_ | with_reducible refine Ct.w_dcT ?_ | with_reducible refine Ct.w_bm0 ?_ | with_reducible refine Ct.w_dnewT ?_ | with_reducible refine Ct.w_dnotin ?_ | with_reducible refine Ct.w_dget ?_ | with_reducible refine Ct.w_dput ?_ | with_reducible refine Ct.w_lc ?_ | with_reducible refine Ct.w_lc2 ?_ | with_reducible refine Ct.w_star ?_ | with_reducible refine Ct.w_revL ?_ | with_reducible refine Ct.w_yes ?_
  | with_reducible refine Ct.w_gcons ?_ | with_reducible refine Ct.w_gnil ?_ | with_reducible refine Ct.w_gsub ?_ | with_reducible refine Ct.w_sl ?_ | with_reducible refine Ct.w_nopart ?_ | with_reducible refine Ct.w_part ?_
  | with_reducible refine Ct.w_rI0 ?_ | with_reducible refine Ct.w_rU ?_ | with_reducible refine Ct.w_rEqI ?_ | with_reducible refine Ct.w_rNeI ?_ | with_reducible refine Ct.w_ipI ?_ | with_reducible refine Ct.w_bl ?_ | with_reducible refine Ct.w_in ?_ | with_reducible refine Ct.w_break ?_ | with_reducible refine Ct.w_cont ?_ | with_reducible refine Ct.w_nT ?_ | with_reducible refine Ct.w_nF ?_ | with_reducible refine L2.iteT ?_ | with_reducible refine L2.iteF ?_
  | ((with_reducible refine Ct.w_rEqS (b := true) ?ceq ?_); (case ceq => decide +kernel)) | ((with_reducible refine Ct.w_rEqS (b := false) ?ceq ?_); (case ceq => decide +kernel))
  | with_reducible refine Ct.w_var rfl ?_
  | ((with_reducible refine' Ct.w_ixT ?cas ?cix ?_); (case cas => assumption); (case cix => first | exact Ct.at0 | exact Ct.at1 | exact Ct.at2 | exact rfl))
  | ((with_reducible refine' Ct.w_name ?cnm ?_); (case cnm => simp only [L2.wipe, List.map, List.set_cons_zero, List.set_cons_succ]; exact rfl)) ))

namespace My
open PySem PySem.Spec PyProof.Rows L2 Ct
def topS (i : Nat) : Stmt := PySem.Challenge.pw_clicktrain_k41_wears_and_what_explains.main.body.getD i (.Pass ⟨0, 0, 0, 0⟩)
section
variable {P : Program} {w : World} {K : PySem.W.Frag} {mg : Str → Option Value} {base : Heap}
abbrev S_is_whole : Stmt := topS 6
theorem sc_is_whole : FnScope ["thing"] ["thing"] (defScope S_is_whole) := ⟨rfl, rfl, rfl, by decide +kernel, rfl, by decide +kernel, by decide +kernel⟩
def sp_is_whole (K : PySem.W.Frag) : Sp := fun vs H Q _ => ∃ (v : V) (d : PyData), vs = [v] ∧ Dp K H v d ∧ Q (.bl (isW d)) H
theorem ok_is_whole {f : Addr} {fd : FuncData} (F : Fun K "is_whole" "is_whole" S_is_whole f fd) (m_isinstance : mg "isinstance" = none) (m_int : mg "int" = none) (m_bool : mg "bool" = none) :
    FnOk P w K mg base CX0 1 f fd ["thing"] (sp_is_whole K) := by
  refine F.ok sc_is_whole (fun vs H Q E h => ?_) (fun cdv A outer s H vs Q E hr h => ?_)
  ·
    obtain ⟨v, d, rfl, _⟩ := h
    rfl
  ·
    obtain ⟨v, d, rfl, hd, q⟩ := h
    refine ⟨_, (pss_one (ps_ret (pe_and (pe_callB (r := rIsi K) call_isi (by rfl) m_isinstance (by decide +kernel) (pa_cons (pv 0) (pa_cons (pe_bltn (v := .ty "int") (u := .type "int") (by rfl) m_int (by decide +kernel) rfl) pa_nil))) (pe_one (pe_not (pe_callB (r := rIsi K) call_isi (by rfl) m_isinstance (by decide +kernel) (pa_cons (pv 0) (pa_cons (pe_bltn (v := .ty "bool") (u := .type "bool") (by rfl) m_bool (by decide +kernel) rfl) pa_nil)))))))), ?_⟩
    refine w_st (σ' := [some v]) rfl ?_
    walk_at "ct"
    cases hd with
    | non =>
      refine w_isi (b := false) (.base .non) (kit_ty (by decide +kernel)) ?_
      walk_at "ct"
      exact q
    | bl b =>
      refine w_isi (b := true) (.base (.bl b)) (kit_ty (by decide +kernel)) ?_
      walk_at "ct"
      refine w_isi (b := true) (.base (.bl b)) (kit_ty (by decide +kernel)) ?_
      walk_at "ct"
      exact q
    | int i =>
      refine w_isi (b := true) (.base (.int i)) (kit_ty (by decide +kernel)) ?_
      walk_at "ct"
      refine w_isi (b := false) (.base (.int i)) (kit_ty (by decide +kernel)) ?_
      walk_at "ct"
      exact q
    | str x =>
      refine w_isi (b := false) (.base (.str x)) (kit_ty (by decide +kernel)) ?_
      walk_at "ct"
      exact q
    | lst hs ht =>
      refine w_isi (b := false) (tyx_L hs) (kit_ty (by decide +kernel)) ?_
      walk_at "ct"
      exact q
    | tup hs ht =>
      refine w_isi (b := false) (tyx_T hs) (kit_ty (by decide +kernel)) ?_
      walk_at "ct"
      exact q
abbrev S_are_marks : Stmt := topS 7
theorem sc_are_marks : FnScope ["thing", "teeth", "last", "mark"] ["thing", "teeth"] (defScope S_are_marks) := ⟨rfl, rfl, rfl, by decide +kernel, rfl, by decide +kernel, by decide +kernel⟩
def sp_are_marks (K : PySem.W.Frag) : Sp := fun vs H Q _ => ∃ (v : V) (d : PyData) (z : Int), vs = [v, .int z] ∧ Dp K H v d ∧ Q (.bl (areM d z)) H
theorem ok_are_marks {f : Addr} {fd : FuncData} {f_is_whole : Addr} {fd_is_whole : FuncData} (F : Fun K "are_marks" "are_marks" S_are_marks f fd)
    (F_is_whole : Fun K "is_whole" "is_whole" S_is_whole f_is_whole fd_is_whole) (b_is_whole : Binds K fd_is_whole ["thing"] []) (g_is_whole : mg "is_whole" = some (.ref f_is_whole)) (G_is_whole : FnOk P w K mg base CX0 1 f_is_whole fd_is_whole ["thing"] (sp_is_whole K)) (m_isinstance : mg "isinstance" = none) (m_tuple : mg "tuple" = none) :
    FnOk P w K mg base CX0 2 f fd ["thing", "teeth"] (sp_are_marks K) := by
  refine F.ok sc_are_marks (fun vs H Q E h => ?_) (fun cdv A outer s H vs Q E hr h => ?_)
  ·
    obtain ⟨v, d, z, rfl, _⟩ := h
    rfl
  ·
    obtain ⟨v, d, z, rfl, hd, q⟩ := h
    refine ⟨_, (pss_cons (ps_if (pt_not (pt_val (pe_callB (r := rIsi K) call_isi (by rfl) m_isinstance (by decide +kernel) (pa_cons (pv 0) (pa_cons (pe_bltn (v := .ty "tuple") (u := .type "tuple") (by rfl) m_tuple (by decide +kernel) rfl) pa_nil))))) (pss_one (ps_ret pe_bl)) pss_nil)
      (pss_cons (ps_set (i := 2) sc_are_marks.nd rfl (.inl rfl) (pe_un un_neg pe_int))
      (pss_cons (ps_for PassesOwn.never rfl (pi_tup (pv 0)) (pg_name (i := 3) sc_are_marks.nd rfl (.inl rfl))
      (pss_cons (ps_if (PW.pt (pw_or (pt_not (pt_val (pe_call G_is_whole (hr.mono (by decide)) (by rfl) g_is_whole F_is_whole.kp b_is_whole .nil pass0 (pa_cons (pv 3) pa_nil)))) (pw_or (pt_cmpR op_le (pv 3) (pv 2) (nomark _)) (pw_or1 (pt_cmpR op_ge (pv 3) (pv 1) (nomark _)))))) (pss_one (ps_ret pe_bl)) pss_nil)
      (pss_one (ps_set (i := 2) sc_are_marks.nd rfl (.inl rfl) (pv 3)))))
      (pss_one (ps_ret pe_bl))))), ?_⟩
    refine w_st (σ' := [some v, some (.int z), none, none]) rfl ?_
    walk_at "ct"
    cases hd with
    | non =>
      refine w_isi (b := false) (.base .non) (kit_ty (by decide +kernel)) ?_
      walk_at "ct"
      exact q
    | bl b =>
      refine w_isi (b := false) (.base (.bl b)) (kit_ty (by decide +kernel)) ?_
      walk_at "ct"
      exact q
    | int i =>
      refine w_isi (b := false) (.base (.int i)) (kit_ty (by decide +kernel)) ?_
      walk_at "ct"
      exact q
    | str x =>
      refine w_isi (b := false) (.base (.str x)) (kit_ty (by decide +kernel)) ?_
      walk_at "ct"
      exact q
    | lst hs ht =>
      refine w_isi (b := false) (tyx_L hs) (kit_ty (by decide +kernel)) ?_
      walk_at "ct"
      exact q
    | @tup a xs ds hs ht =>
      refine w_isi (b := true) (tyx_T hs) (kit_ty (by decide +kernel)) ?_
      walk_at "ct"
      refine w_IT hs ?_
      have hxl := dpAll_len ht
      refine fb_tup xs (fun n σ H' => ∃ (last : Int) (y : Option V), σ = [some (.ref a), some (.int z), some (.int last), y] ∧ H' = H ∧ risesD (-1) z ds = risesD last z (ds.drop n)) ⟨-1, none, rfl, rfl, rfl⟩ ?_ ?_ ?_
      · rintro n σ H' hn ⟨last, y, rfl, rfl, _⟩
        exact hs
      · rintro n x σ H' hx ⟨last, y, rfl, rfl, hr⟩
        have hn : n < xs.length := (List.getElem?_eq_some_iff.mp hx).1
        obtain ⟨e, he⟩ : ∃ e, ds[n]? = some e := ⟨_, List.getElem?_eq_getElem (by omega)⟩
        obtain ⟨x', hx', hde⟩ := dpAll_get ht he
        cases Option.some.inj (hx.symm.trans hx')
        have hdr : ds.drop n = e :: ds.drop (n + 1) := by
          rw [List.drop_eq_getElem_cons (by omega)]
          congr 1
          rw [List.getElem?_eq_getElem (by omega)] at he
          exact Option.some.inj he
        rw [hdr] at hr
        have hq : risesD last z (e :: ds.drop (n + 1)) = false → Q (.bl false) H' := fun z => by
          rw [z] at hr
          rw [show areM (.tuple ds) _ = risesD (-1) _ ds from rfl, hr] at q
          exact q
        walk_at "ct"
        refine ⟨x, e, rfl, hde, ?_⟩
        cases hde with
        | int m =>
          refine w_bl (w_nT ?_)
          walk_at "ct"
          refine w_ite (fun e1 => ?_) (fun e1 => ?_)
          · walk_at "ct"
            exact hq (if_pos (.inl e1))
          · walk_at "ct"
            refine w_ite (fun e2 => ?_) (fun e2 => ?_)
            · walk_at "ct"
              exact hq (if_pos (.inr e2))
            · walk_at "ct"
              exact ⟨m, _, rfl, rfl, hr.trans (if_neg (by omega))⟩
        | non =>
          refine w_bl (w_nF ?_)
          walk_at "ct"
          exact hq rfl
        | bl b =>
          refine w_bl (w_nF ?_)
          walk_at "ct"
          exact hq rfl
        | str s =>
          refine w_bl (w_nF ?_)
          walk_at "ct"
          exact hq rfl
        | lst h1 h2 =>
          refine w_bl (w_nF ?_)
          walk_at "ct"
          exact hq rfl
        | tup h1 h2 =>
          refine w_bl (w_nF ?_)
          walk_at "ct"
          exact hq rfl
      · rintro σ H' ⟨last, y, rfl, rfl, hr⟩
        walk_at "ct"
        rw [show areM (.tuple ds) z = risesD (-1) z ds from rfl, hr, List.drop_of_length_le (by omega)] at q
        exact q
abbrev S_is_part : Stmt := topS 8
theorem sc_is_part : FnScope ["thing"] ["thing"] (defScope S_is_part) := ⟨rfl, rfl, rfl, by decide +kernel, rfl, by decide +kernel, by decide +kernel⟩
def sp_is_part (K : PySem.W.Frag) : Sp := fun vs H Q _ => ∃ (v : V) (d : PyData) (n : Nat), vs = [v] ∧ Dp K H v d ∧ d.canLay0 = true ∧ d.depth ≤ n ∧ n ≤ 60 ∧ ∀ H', Same H H' → Q (.bl (isP d)) H'
theorem ok_is_part {f : Addr} {fd : FuncData} {f_is_whole : Addr} {fd_is_whole : FuncData} {f_are_marks : Addr} {fd_are_marks : FuncData} (F : Fun K "is_part" "is_part" S_is_part f fd)
    (F_is_whole : Fun K "is_whole" "is_whole" S_is_whole f_is_whole fd_is_whole) (b_is_whole : Binds K fd_is_whole ["thing"] []) (g_is_whole : mg "is_whole" = some (.ref f_is_whole)) (G_is_whole : FnOk P w K mg base CX0 1 f_is_whole fd_is_whole ["thing"] (sp_is_whole K))
    (F_are_marks : Fun K "are_marks" "are_marks" S_are_marks f_are_marks fd_are_marks) (b_are_marks : Binds K fd_are_marks ["thing", "teeth"] []) (g_are_marks : mg "are_marks" = some (.ref f_are_marks)) (G_are_marks : FnOk P w K mg base CX0 2 f_are_marks fd_are_marks ["thing", "teeth"] (sp_are_marks K)) (m_isinstance : mg "isinstance" = none) (m_tuple : mg "tuple" = none) (m_len : mg "len" = none) :
    FnOk P w K mg base CX0 3 f fd ["thing"] (sp_is_part K) := by
  refine F.ok sc_is_part (fun vs H Q E h => ?_) (fun cdv A outer s H vs Q E hr h => ?_)
  ·
    obtain ⟨v, d, n, rfl, _⟩ := h
    rfl
  ·
    obtain ⟨v, d, n, rfl, hd, lay, dep, n60, q⟩ := h
    refine ⟨_, (pss_cons (ps_if (PW.pt (pw_or (pt_not (pt_val (pe_callB (r := rIsi K) call_isi (by rfl) m_isinstance (by decide +kernel) (pa_cons (pv 0) (pa_cons (pe_bltn (v := .ty "tuple") (u := .type "tuple") (by rfl) m_tuple (by decide +kernel) rfl) pa_nil))))) (pw_or1 (pt_cmpR op_eq (pe_callB call_len_seq (by rfl) m_len (by decide +kernel) (pa_cons (pv 0) pa_nil)) pe_int (nomark _))))) (pss_one (ps_ret pe_bl)) pss_nil)
      (pss_cons (ps_if (pt_cmpR (r := rEqD K) (op_eqD hr.units) (pe_ix (r := rIxT K) ix_tup (pv 0) pe_int (fun _ _ => rfl)) pe_str (nomark _)) (pss_one (ps_ret (pe_and (pe_cmpR op_eq (pe_callB call_len_seq (by rfl) m_len (by decide +kernel) (pa_cons (pv 0) pa_nil)) pe_int (nomark _)) (pe_and (pe_call G_is_whole (hr.mono (by decide)) (by rfl) g_is_whole F_is_whole.kp b_is_whole .nil pass0 (pa_cons (pe_ix (r := rIxT K) ix_tup (pv 0) pe_int (fun _ _ => rfl)) pa_nil)) (pe_and (pe_cmpR op_ge (pe_ix (r := rIxT K) ix_tup (pv 0) pe_int (fun _ _ => rfl)) pe_int (nomark _)) (pe_one (pe_call G_are_marks (hr.mono (by decide)) (by rfl) g_are_marks F_are_marks.kp b_are_marks .nil pass0 (pa_cons (pe_ix (r := rIxT K) ix_tup (pv 0) pe_int (fun _ _ => rfl)) (pa_cons (pe_ix (r := rIxT K) ix_tup (pv 0) pe_int (fun _ _ => rfl)) pa_nil))))))))) pss_nil)
      (pss_cons (ps_if (pt_cmpR (r := rEqD K) (op_eqD hr.units) (pe_ix (r := rIxT K) ix_tup (pv 0) pe_int (fun _ _ => rfl)) pe_str (nomark _)) (pss_one (ps_ret (pe_and (pe_cmpR op_eq (pe_callB call_len_seq (by rfl) m_len (by decide +kernel) (pa_cons (pv 0) pa_nil)) pe_int (nomark _)) (pe_and (pe_call G_is_whole (hr.mono (by decide)) (by rfl) g_is_whole F_is_whole.kp b_is_whole .nil pass0 (pa_cons (pe_ix (r := rIxT K) ix_tup (pv 0) pe_int (fun _ _ => rfl)) pa_nil)) (pe_one (pe_cmpR op_ge (pe_ix (r := rIxT K) ix_tup (pv 0) pe_int (fun _ _ => rfl)) pe_int (nomark _))))))) pss_nil)
      (pss_one (ps_ret (pe_or (pe_cmpR (r := rEqD K) (op_eqD hr.units) (pv 0) (pe_tup (pa_cons pe_str pa_nil)) (nomark _)) (pe_one (pe_cmpR (r := rEqD K) (op_eqD hr.units) (pv 0) (pe_tup (pa_cons pe_str pa_nil)) (nomark _))))))))), ?_⟩
    refine w_st (σ' := [some v]) rfl ?_
    walk_at "ct"
    cases hd with
    | non =>
      refine w_isi (b := false) (.base .non) (kit_ty (by decide +kernel)) ?_
      walk_at "ct"
      exact q H (Same.refl H)
    | bl b =>
      refine w_isi (b := false) (.base (.bl b)) (kit_ty (by decide +kernel)) ?_
      walk_at "ct"
      exact q H (Same.refl H)
    | int i =>
      refine w_isi (b := false) (.base (.int i)) (kit_ty (by decide +kernel)) ?_
      walk_at "ct"
      exact q H (Same.refl H)
    | str x =>
      refine w_isi (b := false) (.base (.str x)) (kit_ty (by decide +kernel)) ?_
      walk_at "ct"
      exact q H (Same.refl H)
    | lst hs ht =>
      refine w_isi (b := false) (tyx_L hs) (kit_ty (by decide +kernel)) ?_
      walk_at "ct"
      exact q H (Same.refl H)
    | @tup a xs ds hs ht =>
      refine w_isi (b := true) (tyx_T hs) (kit_ty (by decide +kernel)) ?_
      walk_at "ct"
      refine ⟨a, xs, rfl, .inr hs, ?_⟩
      walk_at "ct"
      cases ht with
      | nil =>
        refine w_ite (fun e => ?_) (fun e => absurd rfl e)
        walk_at "ct"
        exact q H (Same.refl H)
      | @cons v0 vs0 d0 ds0 h0 t0 =>
        have hw : SeqAt.shaped (.str "wheel") = true := by decide +kernel
        have hsp : SeqAt.shaped (.str "spring") = true := by decide +kernel
        rw [PyData.canLay0, PyData.canLayAll0, Bool.and_eq_true] at lay
        rw [PyData.depth, PyData.depthAll] at dep
        have sh0 : SeqAt.shaped d0 = true := shaped_of (n := n) ⟨lay.1, by omega⟩ (by omega)
        have hwhole : ∀ H', Same H H' → Dp K H' (.ref a) (.tuple (d0 :: ds0)) := fun H' s => .tup (Same.tup s hs) (.cons (dp_same s h0) (dpAll_same s t0))
        have shw : SeqAt.shaped (.tuple (d0 :: ds0)) = true := shaped_of (n := n) ⟨by rw [PyData.canLay0, PyData.canLayAll0, lay.1, lay.2]; rfl, by rw [PyData.depth, PyData.depthAll]; omega⟩ (by omega)
        refine w_ite (fun e => absurd e (by rw [List.length_cons]; omega)) (fun e => ?_)
        walk_at "ct"
        refine ⟨d0, .str "wheel", h0, .str _, sh0, hw, ?_⟩
        walk_at "ct"
        by_cases e1 : PyData.eqv d0 (.str "wheel") = true
        · rw [if_pos e1]
          have hq : ∀ b : Bool, b = isP (.tuple (d0 :: ds0)) → Q (.bl b) H := fun b hb => by
            rw [hb]
            exact q H (Same.refl H)
          have hP : isP (.tuple (d0 :: ds0)) = wheelT ds0 := by
            simp only [isP, if_pos e1]
          walk_at "ct"
          refine ⟨a, _, rfl, .inr hs, ?_⟩
          walk_at "ct"
          have l0 := dpAll_len t0
          cases t0 with
          | nil =>
            refine w_ite (fun e => absurd e (by show ¬ ((1 : Nat) : Int) = 3; decide)) (fun e => ?_)
            exact hq _ hP.symm
          | @cons v1 vs1 d1 ds1 h1 t1 =>
            cases t1 with
            | nil =>
              refine w_ite (fun e => absurd e (by show ¬ ((2 : Nat) : Int) = 3; decide)) (fun e => ?_)
              exact hq _ (by rw [hP]; cases d1 <;> rfl)
            | @cons v2 vs2 d2 ds2 h2 t2 =>
              cases t2 with
              | nil =>
                refine w_ite (fun e => ?_) (fun e => absurd rfl e)
                walk_at "ct"
                refine ⟨v1, d1, rfl, h1, ?_⟩
                cases h1 with
                | int z =>
                  refine w_bl ?_
                  refine iteT ?_
                  walk_at "ct"
                  refine w_ite (fun e => ?_) (fun e => ?_)
                  · walk_at "ct"
                    refine ⟨v2, d2, z, rfl, h2, ?_⟩
                    exact hq _ (by rw [hP]; show _ = (decide (1 ≤ z) && areM d2 z); rw [decide_eq_true e]; rfl)
                  · exact hq _ (by rw [hP]; show _ = (decide (1 ≤ z) && areM d2 z); rw [decide_eq_false e]; rfl)
                | non => exact w_bl (iteF (hq _ hP.symm))
                | bl b => exact w_bl (iteF (hq _ hP.symm))
                | str s => exact w_bl (iteF (hq _ hP.symm))
                | lst g1 g2 => exact w_bl (iteF (hq _ hP.symm))
                | tup g1 g2 => exact w_bl (iteF (hq _ hP.symm))
              | @cons v3 vs3 d3 ds3 h3 t3 =>
                refine w_ite (fun e => absurd e (by rw [List.length_cons, List.length_cons, List.length_cons, List.length_cons]; omega)) (fun e => ?_)
                exact hq _ (by rw [hP]; cases d1 <;> rfl)
        · rw [if_neg e1]
          walk_at "ct"
          refine ⟨d0, .str "spring", h0, .str _, sh0, hsp, ?_⟩
          walk_at "ct"
          by_cases e2 : PyData.eqv d0 (.str "spring") = true
          · rw [if_pos e2]
            have hq : ∀ b : Bool, b = isP (.tuple (d0 :: ds0)) → Q (.bl b) H := fun b hb => by
              rw [hb]
              exact q H (Same.refl H)
            have hP : isP (.tuple (d0 :: ds0)) = springT ds0 := by
              simp only [isP, if_neg e1, if_pos e2]
            walk_at "ct"
            refine ⟨a, _, rfl, .inr hs, ?_⟩
            walk_at "ct"
            cases t0 with
            | nil =>
              refine w_ite (fun e => absurd e (by show ¬ ((1 : Nat) : Int) = 2; decide)) (fun e => ?_)
              exact hq _ hP.symm
            | @cons v1 vs1 d1 ds1 h1 t1 =>
              cases t1 with
              | nil =>
                refine w_ite (fun e => ?_) (fun e => absurd rfl e)
                walk_at "ct"
                refine ⟨v1, d1, rfl, h1, ?_⟩
                cases h1 with
                | int z =>
                  refine w_bl ?_
                  refine iteT ?_
                  walk_at "ct"
                  exact hq _ hP.symm
                | non => exact w_bl (iteF (hq _ hP.symm))
                | bl b => exact w_bl (iteF (hq _ hP.symm))
                | str s => exact w_bl (iteF (hq _ hP.symm))
                | lst g1 g2 => exact w_bl (iteF (hq _ hP.symm))
                | tup g1 g2 => exact w_bl (iteF (hq _ hP.symm))
              | @cons v2 vs2 d2 ds2 h2 t2 =>
                refine w_ite (fun e => absurd e (by rw [List.length_cons, List.length_cons, List.length_cons]; omega)) (fun e => ?_)
                exact hq _ (by rw [hP]; cases d1 <;> rfl)
          · rw [if_neg e2]
            have hP : isP (.tuple (d0 :: ds0)) = (PyData.eqv (.tuple (d0 :: ds0)) (.tuple [.str "click"]) || PyData.eqv (.tuple (d0 :: ds0)) (.tuple [.str "rocker"])) := by
              simp only [isP, if_neg e1, if_neg e2]
            rw [hP] at q
            walk_at "ct"
            refine ⟨len2 rfl, fun p np => ?_⟩
            have s1 : Same H (upd H p (.tup [.str "click"])) := same_upd np
            refine ⟨.tuple (d0 :: ds0), .tuple [.str "click"], hwhole _ s1, .tup (.of upd_same) (.cons (.str _) .nil), shw, by decide +kernel, ?_⟩
            walk_at "ct"
            by_cases e3 : PyData.eqv (.tuple (d0 :: ds0)) (.tuple [.str "click"]) = true
            · rw [if_pos e3]
              rw [e3] at q
              exact q _ s1
            · rw [if_neg e3]
              rw [Bool.not_eq_true] at e3
              rw [e3] at q
              walk_at "ct"
              refine ⟨len2 rfl, fun p2 np2 => ?_⟩
              have s2 := same_new (o := .tup [.str "rocker"]) s1 (s1.free np2)
              refine ⟨.tuple (d0 :: ds0), .tuple [.str "rocker"], hwhole _ s2, .tup (.of upd_same) (.cons (.str _) .nil), shw, by decide +kernel, ?_⟩
              exact q _ s2
abbrev S_check_train : Stmt := topS 9
theorem sc_check_train : FnScope ["train", "part"] ["train"] (defScope S_check_train) := ⟨rfl, rfl, rfl, by decide +kernel, rfl, by decide +kernel, by decide +kernel⟩
def sp_check_train (K : PySem.W.Frag) : Sp := fun vs H Q _ => ∃ (a : Addr) (ps : List Part), vs = [.ref a] ∧ TrainAt K H a ps ∧ (∀ p ∈ ps, p.ok) ∧ 1 ≤ ps.length ∧ ∀ H', Same H H' → Q .non H'
theorem ok_check_train {f : Addr} {fd : FuncData} {f_is_part : Addr} {fd_is_part : FuncData} (F : Fun K "check_train" "check_train" S_check_train f fd)
    (F_is_part : Fun K "is_part" "is_part" S_is_part f_is_part fd_is_part) (b_is_part : Binds K fd_is_part ["thing"] []) (g_is_part : mg "is_part" = some (.ref f_is_part)) (G_is_part : FnOk P w K mg base CX0 3 f_is_part fd_is_part ["thing"] (sp_is_part K)) (m_isinstance : mg "isinstance" = none) (m_list : mg "list" = none) (m_len : mg "len" = none) :
    FnOk P w K mg base CX0 4 f fd ["train"] (sp_check_train K) := by
  refine F.ok sc_check_train (fun vs H Q E h => ?_) (fun cdv A outer s H vs Q E hr h => ?_)
  ·
    obtain ⟨a, ps, rfl, _⟩ := h
    rfl
  ·
    obtain ⟨a, ps, rfl, ⟨vs, hv, hd⟩, hok, hps, q⟩ := h
    refine ⟨_, (pss_cons (ps_if (PW.pt (pw_or (pt_not (pt_val (pe_callB (r := rIsi K) call_isi (by rfl) m_isinstance (by decide +kernel) (pa_cons (pv 0) (pa_cons (pe_bltn (v := .ty "list") (u := .type "list") (by rfl) m_list (by decide +kernel) rfl) pa_nil))))) (pw_or1 (pt_cmpR op_eq (pe_callB call_len_seq (by rfl) m_len (by decide +kernel) (pa_cons (pv 0) pa_nil)) pe_int (nomark _))))) (pss_one ps_never) pss_nil)
      (pss_one (ps_for PassesOwn.never rfl (pi_list (pv 0)) (pg_name (i := 1) sc_check_train.nd rfl (.inl rfl))
      (pss_one (ps_if (pt_not (pt_val (pe_call G_is_part (hr.mono (by decide)) (by rfl) g_is_part F_is_part.kp b_is_part .nil pass0 (pa_cons (pv 1) pa_nil)))) (pss_one ps_never) pss_nil))))), ?_⟩
    refine w_st (σ' := [some (.ref a), none]) rfl ?_
    have hvl : vs.length = ps.length := by rw [dpAll_len hd, List.length_map]
    walk_at "ct"
    refine w_isi (b := true) (tyx_L hv) (kit_ty (by decide +kernel)) ?_
    walk_at "ct"
    refine ⟨a, vs, rfl, .inl hv, ?_⟩
    walk_at "ct"
    refine w_ite (fun e => absurd e (by omega)) (fun e => ?_)
    walk_at "ct"
    refine w_IL hv ?_
    refine fb_list vs (fun n σ H' => ∃ y, σ = [some (.ref a), y] ∧ Same H H') ⟨none, rfl, Same.refl H⟩ ?_ ?_ ?_
    · rintro n σ H' hn ⟨y, rfl, sm⟩
      exact sm.seq hv
    · rintro n v σ H' hx ⟨y, rfl, sm⟩
      have hn : n < vs.length := (List.getElem?_eq_some_iff.mp hx).1
      obtain ⟨p, hp⟩ : ∃ p, ps[n]? = some p := ⟨_, List.getElem?_eq_getElem (by omega)⟩
      obtain ⟨v', hv1, hd1⟩ := TrainAt.at (a := a) hd hp
      cases Option.some.inj (hx.symm.trans hv1)
      walk_at "ct"
      refine ⟨v, p.data, 2, rfl, dp_same sm hd1, (lay_part p).1, (lay_part p).2, by decide, fun H1 s1 => ?_⟩
      rw [isP_of (hok p (List.mem_of_getElem? hp))]
      walk_at "ct"
      exact ⟨_, rfl, sm.trans s1⟩
    · rintro σ H' ⟨y, rfl, sm⟩
      exact q H' sm
abbrev S_place_count : Stmt := topS 10
theorem sc_place_count : FnScope ["part"] ["part"] (defScope S_place_count) := ⟨rfl, rfl, rfl, by decide +kernel, rfl, by decide +kernel, by decide +kernel⟩
def sp_place_count (K : PySem.W.Frag) : Sp := fun vs H Q _ => ∃ (v : V) (p : Part), vs = [v] ∧ Dp K H v p.data ∧ Q (.int p.places) H
theorem ok_place_count {f : Addr} {fd : FuncData} (F : Fun K "place_count" "place_count" S_place_count f fd) :
    FnOk P w K mg base CX0 1 f fd ["part"] (sp_place_count K) := by
  refine F.ok sc_place_count (fun vs H Q E h => ?_) (fun cdv A outer s H vs Q E hr h => ?_)
  ·
    obtain ⟨v, p, rfl, _⟩ := h
    rfl
  ·
    obtain ⟨v, p, rfl, hp, q⟩ := h
    refine ⟨_, (pss_cons (ps_if (pt_cmpR op_eq (pe_ix (r := rIxT K) ix_tup (pv 0) pe_int (fun _ _ => rfl)) pe_str (nomark _)) (pss_one (ps_ret pe_int)) pss_nil)
      (pss_cons (ps_if (pt_cmpR op_eq (pe_ix (r := rIxT K) ix_tup (pv 0) pe_int (fun _ _ => rfl)) pe_str (nomark _)) (pss_one (ps_ret pe_int)) pss_nil)
      (pss_one (ps_ret (pe_ix (r := rIxT K) ix_tup (pv 0) pe_int (fun _ _ => rfl)))))), ?_⟩
    refine w_st (σ' := [some v]) rfl ?_
    cases p with
    | wheel z ms =>
      obtain ⟨a, b, rfl, ha, hb⟩ := wheel_inv hp
      walk_at "ct"
      exact q
    | click =>
      obtain ⟨a, rfl, ha⟩ := click_inv hp
      walk_at "ct"
      exact q
    | rocker =>
      obtain ⟨a, rfl, ha⟩ := rocker_inv hp
      walk_at "ct"
      exact q
    | spring k =>
      obtain ⟨a, rfl, ha⟩ := spring_inv hp
      walk_at "ct"
      exact q
abbrev S_is_stand : Stmt := topS 11
theorem sc_is_stand : FnScope ["train", "thing", "part", "place"] ["train", "thing"] (defScope S_is_stand) := ⟨rfl, rfl, rfl, by decide +kernel, rfl, by decide +kernel, by decide +kernel⟩
def sp_is_stand (K : PySem.W.Frag) : Sp := fun vs H Q _ => ∃ (a t : Addr) (ps : List Part) (xs : List Int), vs = [.ref a, .ref t] ∧ TrainAt K H a ps ∧ SqT K H t (xs.map V.int) ∧ StandOk ps xs ∧ ∀ H', Same H H' → Q (.bl true) H'
theorem ok_is_stand {f : Addr} {fd : FuncData} {f_place_count : Addr} {fd_place_count : FuncData} {f_is_whole : Addr} {fd_is_whole : FuncData} (F : Fun K "is_stand" "is_stand" S_is_stand f fd)
    (F_place_count : Fun K "place_count" "place_count" S_place_count f_place_count fd_place_count) (b_place_count : Binds K fd_place_count ["part"] []) (g_place_count : mg "place_count" = some (.ref f_place_count)) (G_place_count : FnOk P w K mg base CX0 1 f_place_count fd_place_count ["part"] (sp_place_count K))
    (F_is_whole : Fun K "is_whole" "is_whole" S_is_whole f_is_whole fd_is_whole) (b_is_whole : Binds K fd_is_whole ["thing"] []) (g_is_whole : mg "is_whole" = some (.ref f_is_whole)) (G_is_whole : FnOk P w K mg base CX0 1 f_is_whole fd_is_whole ["thing"] (sp_is_whole K)) (m_zip : mg "zip" = none) (m_isinstance : mg "isinstance" = none) (m_tuple : mg "tuple" = none) (m_len : mg "len" = none) :
    FnOk P w K mg base CX0 2 f fd ["train", "thing"] (sp_is_stand K) := by
  refine F.ok sc_is_stand (fun vs H Q E h => ?_) (fun cdv A outer s H vs Q E hr h => ?_)
  ·
    obtain ⟨a, t, ps, xs, rfl, _⟩ := h
    rfl
  ·
    obtain ⟨a, t, ps, xs, rfl, ⟨vs, hv, hd⟩, hS, hso, q⟩ := h
    have s1 := Same.refl H
    refine ⟨_, (pss_cons (ps_if (PW.pt (pw_or (pt_not (pt_val (pe_callB (r := rIsi K) call_isi (by rfl) m_isinstance (by decide +kernel) (pa_cons (pv 1) (pa_cons (pe_bltn (v := .ty "tuple") (u := .type "tuple") (by rfl) m_tuple (by decide +kernel) rfl) pa_nil))))) (pw_or1 (pt_cmpR op_ne (pe_callB call_len_seq (by rfl) m_len (by decide +kernel) (pa_cons (pv 1) pa_nil)) (pe_callB call_len_seq (by rfl) m_len (by decide +kernel) (pa_cons (pv 0) pa_nil)) (nomark _))))) (pss_one (ps_ret pe_bl)) pss_nil)
      (pss_cons (ps_for PassesOwn.never rfl (pi_zipM (by rfl) m_zip (pa_cons (pv 0) (pa_cons (pv 1) pa_nil))) (pg_tup rfl (pgs_cons (pg_name (i := 2) sc_is_stand.nd rfl (.inl rfl)) (pgs_cons (pg_name (i := 3) sc_is_stand.nd rfl (.inl rfl)) pgs_nil)))
      (pss_one (ps_if (PW.pt (pw_or (pt_not (pt_val (pe_call G_is_whole (hr.mono (by decide)) (by rfl) g_is_whole F_is_whole.kp b_is_whole .nil pass0 (pa_cons (pv 3) pa_nil)))) (pw_or (pt_cmpR op_lt (pv 3) pe_int (nomark _)) (pw_or1 (pt_cmpR op_ge (pv 3) (pe_call G_place_count (hr.mono (by decide)) (by rfl) g_place_count F_place_count.kp b_place_count .nil pass0 (pa_cons (pv 2) pa_nil)) (nomark _)))))) (pss_one (ps_ret pe_bl)) pss_nil)))
      (pss_one (ps_ret pe_bl)))), ?_⟩
    refine w_st (σ' := [some (.ref a), some (.ref t), none, none]) rfl ?_
    have hvl : vs.length = ps.length := by rw [dpAll_len hd, List.length_map]
    have hxl := hso.1
    walk_at "ct"
    refine w_isi (b := true) (tyx_T (Same.tup s1 hS)) (kit_ty (by decide +kernel)) ?_
    walk_at "ct"
    refine ⟨t, _, rfl, .inr (Same.tup s1 hS), ?_⟩
    walk_at "ct"
    refine ⟨a, _, rfl, .inl (s1.seq hv), ?_⟩
    walk_at "ct"
    refine w_iteN (fun e => absurd (by rw [List.length_map, hxl, hvl]) e) (fun e => ?_)
    walk_at "ct"
    refine w_IM (s1.seq hv) (Same.tup s1 hS) ?_
    refine fb_zipM vs (xs.map V.int) (by rw [List.length_map]; omega) (fun n σ H' => ∃ y z, σ = [some (.ref a), some (.ref t), y, z] ∧ Same H H') ⟨none, none, rfl, s1⟩ ?_ ?_ ?_
    · rintro n σ H' hn ⟨y, z, rfl, sm⟩
      exact ⟨sm.seq hv, Same.tup sm hS⟩
    · rintro n v u T σ H' hx hu ⟨y, z, rfl, sm⟩ hT
      have hn : n < vs.length := (List.getElem?_eq_some_iff.mp hx).1
      obtain ⟨p, hp⟩ : ∃ p, ps[n]? = some p := ⟨_, List.getElem?_eq_getElem (by omega)⟩
      obtain ⟨v', hv1, hd1⟩ := TrainAt.at (a := a) hd hp
      cases Option.some.inj (hx.symm.trans hv1)
      obtain ⟨x, hxx⟩ : ∃ x, xs[n]? = some x := ⟨_, List.getElem?_eq_getElem (by omega)⟩
      rw [List.getElem?_map, hxx] at hu
      cases Option.some.inj hu
      have hb := hso.2 n p x hp hxx
      have s2 : Same H (upd H' T (.tup [v, .int x])) := same_new sm (sm.free hT)
      refine w_gtup (.of upd_same) rfl ?_
      walk_at "ct"
      refine ⟨.int x, .int x, rfl, .int x, ?_⟩
      walk_at "ct"
      refine w_nT ?_
      walk_at "ct"
      refine w_ite (fun e => absurd e (by omega)) (fun e => ?_)
      walk_at "ct"
      refine ⟨v, p, rfl, dp_same s2 hd1, ?_⟩
      walk_at "ct"
      refine w_ite (fun e => absurd e (by omega)) (fun e => ?_)
      walk_at "ct"
      exact ⟨_, _, rfl, s2⟩
    · rintro σ H' ⟨y, z, rfl, sm⟩
      walk_at "ct"
      exact q H' sm
abbrev S_check_stand : Stmt := topS 12
theorem sc_check_stand : FnScope ["train", "stand"] ["train", "stand"] (defScope S_check_stand) := ⟨rfl, rfl, rfl, by decide +kernel, rfl, by decide +kernel, by decide +kernel⟩
def sp_check_stand (K : PySem.W.Frag) : Sp := fun vs H Q _ => ∃ (a t : Addr) (ps : List Part) (xs : List Int), vs = [.ref a, .ref t] ∧ TrainAt K H a ps ∧ (∀ p ∈ ps, p.ok) ∧ 1 ≤ ps.length ∧ SqT K H t (xs.map V.int) ∧ StandOk ps xs ∧ ∀ H', Same H H' → Q .non H'
theorem ok_check_stand {f : Addr} {fd : FuncData} {f_is_stand : Addr} {fd_is_stand : FuncData} {f_check_train : Addr} {fd_check_train : FuncData} (F : Fun K "check_stand" "check_stand" S_check_stand f fd)
    (F_is_stand : Fun K "is_stand" "is_stand" S_is_stand f_is_stand fd_is_stand) (b_is_stand : Binds K fd_is_stand ["train", "thing"] []) (g_is_stand : mg "is_stand" = some (.ref f_is_stand)) (G_is_stand : FnOk P w K mg base CX0 2 f_is_stand fd_is_stand ["train", "thing"] (sp_is_stand K))
    (F_check_train : Fun K "check_train" "check_train" S_check_train f_check_train fd_check_train) (b_check_train : Binds K fd_check_train ["train"] []) (g_check_train : mg "check_train" = some (.ref f_check_train)) (G_check_train : FnOk P w K mg base CX0 4 f_check_train fd_check_train ["train"] (sp_check_train K)) :
    FnOk P w K mg base CX0 5 f fd ["train", "stand"] (sp_check_stand K) := by
  refine F.ok sc_check_stand (fun vs H Q E h => ?_) (fun cdv A outer s H vs Q E hr h => ?_)
  ·
    obtain ⟨a, t, ps, xs, rfl, _⟩ := h
    rfl
  ·
    obtain ⟨a, t, ps, xs, rfl, hT, hok, hps, hS, hso, q⟩ := h
    refine ⟨_, (pss_cons (ps_expr (pe_call G_check_train (hr.mono (by decide)) (by rfl) g_check_train F_check_train.kp b_check_train .nil pass0 (pa_cons (pv 0) pa_nil)))
      (pss_one (ps_if (pt_not (pt_val (pe_call G_is_stand (hr.mono (by decide)) (by rfl) g_is_stand F_is_stand.kp b_is_stand .nil pass0 (pa_cons (pv 0) (pa_cons (pv 1) pa_nil))))) (pss_one ps_never) pss_nil))), ?_⟩
    refine w_st (σ' := [some (.ref a), some (.ref t)]) rfl ?_
    walk_at "ct"
    refine ⟨a, ps, rfl, hT, hok, hps, fun H1 s1 => ?_⟩
    walk_at "ct"
    refine ⟨a, t, ps, xs, rfl, hT.same s1, Same.tup s1 hS, hso, fun H2 s2 => ?_⟩
    walk_at "ct"
    exact q H2 (s1.trans s2)
abbrev S_is_way : Stmt := topS 13
theorem sc_is_way : FnScope ["thing"] ["thing"] (defScope S_is_way) := ⟨rfl, rfl, rfl, by decide +kernel, rfl, by decide +kernel, by decide +kernel⟩
def isWay : PyData → Bool
  | .int i => decide (i = 1) || decide (i = -1)
  | _ => false
def sp_is_way (K : PySem.W.Frag) : Sp := fun vs H Q _ => ∃ (v : V) (d : PyData), vs = [v] ∧ Dp K H v d ∧ ∀ H', Same H H' → Q (.bl (isWay d)) H'
theorem ok_is_way {f : Addr} {fd : FuncData} {f_is_whole : Addr} {fd_is_whole : FuncData} (F : Fun K "is_way" "is_way" S_is_way f fd)
    (F_is_whole : Fun K "is_whole" "is_whole" S_is_whole f_is_whole fd_is_whole) (b_is_whole : Binds K fd_is_whole ["thing"] []) (g_is_whole : mg "is_whole" = some (.ref f_is_whole)) (G_is_whole : FnOk P w K mg base CX0 1 f_is_whole fd_is_whole ["thing"] (sp_is_whole K)) :
    FnOk P w K mg base CX0 2 f fd ["thing"] (sp_is_way K) := by
  refine F.ok sc_is_way (fun vs H Q E h => ?_) (fun cdv A outer s H vs Q E hr h => ?_)
  ·
    obtain ⟨v, d, rfl, _⟩ := h
    rfl
  ·
    obtain ⟨v, d, rfl, hd, q⟩ := h
    refine ⟨_, (pss_one (ps_ret (pe_and (pe_call G_is_whole (hr.mono (by decide)) (by rfl) g_is_whole F_is_whole.kp b_is_whole .nil pass0 (pa_cons (pv 0) pa_nil)) (pe_one (pe_cmpR (r := rIn K false) op_in_seq (pv 0) (pe_tup (pa_cons pe_int (pa_cons (pe_un un_neg pe_int) pa_nil))) (by rfl)))))), ?_⟩
    refine w_st (σ' := [some v]) rfl ?_
    walk_at "ct"
    refine ⟨v, d, rfl, hd, ?_⟩
    cases hd with
    | int i =>
      refine w_bl (iteT ?_)
      walk_at "ct"
      refine ⟨len2 rfl, fun p np => ?_⟩
      refine w_inT (ns := [1, -1]) (.of upd_same) ?_
      have e : decide (i ∈ ([1, -1] : List Int)) = isWay (.int i) := by
        rw [Bool.eq_iff_iff, decide_eq_true_iff, isWay, Bool.or_eq_true, decide_eq_true_iff, decide_eq_true_iff]
        simp
      rw [e]
      exact q _ (same_upd np)
    | non =>
      refine w_bl (iteF ?_)
      exact q H (Same.refl H)
    | bl b =>
      refine w_bl (iteF ?_)
      exact q H (Same.refl H)
    | str s =>
      refine w_bl (iteF ?_)
      exact q H (Same.refl H)
    | lst g1 g2 =>
      refine w_bl (iteF ?_)
      exact q H (Same.refl H)
    | tup g1 g2 =>
      refine w_bl (iteF ?_)
      exact q H (Same.refl H)
abbrev S_wheel_pushed : Stmt := topS 14
theorem sc_wheel_pushed : FnScope ["part", "place", "way", "after", "tooth"] ["part", "place", "way"] (defScope S_wheel_pushed) := ⟨rfl, rfl, rfl, by decide +kernel, rfl, by decide +kernel, by decide +kernel⟩
def sp_wheel_pushed (K : PySem.W.Frag) : Sp := fun vs H Q _ => ∃ (v : V) (z : Int) (ms : List Int) (x w : Int), vs = [v, .int x, .int w] ∧ Dp K H v (Part.wheel z ms).data ∧ 1 ≤ z ∧ Sign w ∧ ∀ t H', Same H H' → H t = none → H' t = some (.tup [.int (pp (.wheel z ms) x w).1, .int (pp (.wheel z ms) x w).2]) → Q (.ref t) H'
theorem ok_wheel_pushed {f : Addr} {fd : FuncData} (F : Fun K "wheel_pushed" "wheel_pushed" S_wheel_pushed f fd) :
    FnOk P w K mg base CX0 1 f fd ["part", "place", "way"] (sp_wheel_pushed K) := by
  refine F.ok sc_wheel_pushed (fun vs H Q E h => ?_) (fun cdv A outer s H vs Q E hr h => ?_)
  ·
    obtain ⟨v, z, ms, x, w, rfl, _⟩ := h
    rfl
  ·
    obtain ⟨v, z, ms, x, w, rfl, hp, hz, hw, q⟩ := h
    refine ⟨_, (pss_cons (ps_set (i := 3) sc_wheel_pushed.nd rfl (.inl rfl) (pe_op op_mod (pe_op op_add (pv 1) (pv 2)) (pe_ix (r := rIxT K) ix_tup (pv 0) pe_int (fun _ _ => rfl))))
      (pss_cons (ps_set (i := 4) sc_wheel_pushed.nd rfl (.inl rfl) (pe_ifExp (pt_cmpR op_eq (pv 2) pe_int (nomark _)) (pv 3) (pv 1)))
      (pss_one (ps_ret (pe_tup (pa_cons (pv 3) (pa_cons (pe_ifExp (pt_cmpR (r := rIn K false) op_in_seq (pv 4) (pe_ix (r := rIxT K) ix_tup (pv 0) pe_int (fun _ _ => rfl)) (by rfl)) (pv 2) pe_int) pa_nil))))))), ?_⟩
    obtain ⟨a, b, rfl, ha, hb⟩ := wheel_inv hp
    refine w_st (σ' := [some (.ref a), some (.int x), some (.int w), none, none]) rfl ?_
    walk_at "ct"
    refine w_rI (by omega) ?_
    walk_at "ct"
    refine w_ite (fun e => ?_) (fun e => ?_)
    · walk_at "ct"
      refine w_inT hb ?_
      walk_at "ct"
      refine w_ite (fun e2 => ?_) (fun e2 => ?_)
      · walk_at "ct"
        refine ⟨len2 rfl, fun p np => ?_⟩
        refine q _ _ (same_upd np) np ?_
        rw [upd_same]
        simp only [pp]
        rw [if_pos e, if_pos e2]
      · walk_at "ct"
        refine ⟨len2 rfl, fun p np => ?_⟩
        refine q _ _ (same_upd np) np ?_
        rw [upd_same]
        simp only [pp]
        rw [if_pos e, if_neg e2]
    · walk_at "ct"
      refine w_inT hb ?_
      walk_at "ct"
      refine w_ite (fun e2 => ?_) (fun e2 => ?_)
      · walk_at "ct"
        refine ⟨len2 rfl, fun p np => ?_⟩
        refine q _ _ (same_upd np) np ?_
        rw [upd_same]
        simp only [pp]
        rw [if_neg e, if_pos e2]
      · walk_at "ct"
        refine ⟨len2 rfl, fun p np => ?_⟩
        refine q _ _ (same_upd np) np ?_
        rw [upd_same]
        simp only [pp]
        rw [if_neg e, if_neg e2]
abbrev S_rocker_pushed : Stmt := topS 15
theorem sc_rocker_pushed : FnScope ["place", "way"] ["place", "way"] (defScope S_rocker_pushed) := ⟨rfl, rfl, rfl, by decide +kernel, rfl, by decide +kernel, by decide +kernel⟩
def sp_rocker_pushed (K : PySem.W.Frag) : Sp := fun vs H Q _ => ∃ (x w : Int), vs = [.int x, .int w] ∧ Sign w ∧ ∀ t H', Same H H' → H t = none → H' t = some (.tup [.int (pp .rocker x w).1, .int (pp .rocker x w).2]) → Q (.ref t) H'
theorem ok_rocker_pushed {f : Addr} {fd : FuncData} (F : Fun K "rocker_pushed" "rocker_pushed" S_rocker_pushed f fd) :
    FnOk P w K mg base CX0 1 f fd ["place", "way"] (sp_rocker_pushed K) := by
  refine F.ok sc_rocker_pushed (fun vs H Q E h => ?_) (fun cdv A outer s H vs Q E hr h => ?_)
  ·
    obtain ⟨x, w, rfl, _⟩ := h
    rfl
  ·
    obtain ⟨x, w, rfl, hw, q⟩ := h
    refine ⟨_, (pss_cons (ps_if (pt_cmpR op_eq (pv 1) pe_int (nomark _)) (pss_one (ps_ret (pe_tup (pa_cons pe_int (pa_cons (pe_ifExp (pt_cmpR op_eq (pv 0) pe_int (nomark _)) pe_int pe_int) pa_nil))))) pss_nil)
      (pss_one (ps_ret (pe_tup (pa_cons pe_int (pa_cons pe_int pa_nil)))))), ?_⟩
    refine w_st (σ' := [some (.int x), some (.int w)]) rfl ?_
    walk_at "ct"
    refine w_ite (fun e => ?_) (fun e => ?_)
    · walk_at "ct"
      refine w_ite (fun e2 => ?_) (fun e2 => ?_)
      · walk_at "ct"
        refine ⟨len2 rfl, fun p np => ?_⟩
        refine q _ _ (same_upd np) np ?_
        rw [upd_same]
        simp only [pp]
        rw [if_pos e, if_pos ⟨e, e2⟩]
      · walk_at "ct"
        refine ⟨len2 rfl, fun p np => ?_⟩
        refine q _ _ (same_upd np) np ?_
        rw [upd_same]
        simp only [pp]
        rw [if_pos e, if_neg fun z => e2 z.2]
    · walk_at "ct"
      refine ⟨len2 rfl, fun p np => ?_⟩
      refine q _ _ (same_upd np) np ?_
      rw [upd_same]
      simp only [pp]
      rw [if_neg e, if_neg fun z => e z.1]
abbrev S_spring_pushed : Stmt := topS 16
theorem sc_spring_pushed : FnScope ["part", "place", "way"] ["part", "place", "way"] (defScope S_spring_pushed) := ⟨rfl, rfl, rfl, by decide +kernel, rfl, by decide +kernel, by decide +kernel⟩
def sp_spring_pushed (K : PySem.W.Frag) : Sp := fun vs H Q _ => ∃ (v : V) (k x w : Int), vs = [v, .int x, .int w] ∧ Dp K H v (Part.spring k).data ∧ 0 ≤ x ∧ Sign w ∧ ∀ t H', Same H H' → H t = none → H' t = some (.tup [.int (pp (.spring k) x w).1, .int (pp (.spring k) x w).2]) → Q (.ref t) H'
theorem ok_spring_pushed {f : Addr} {fd : FuncData} (F : Fun K "spring_pushed" "spring_pushed" S_spring_pushed f fd) (m_max : mg "max" = none) :
    FnOk P w K mg base CX0 1 f fd ["part", "place", "way"] (sp_spring_pushed K) := by
  refine F.ok sc_spring_pushed (fun vs H Q E h => ?_) (fun cdv A outer s H vs Q E hr h => ?_)
  ·
    obtain ⟨v, k, x, w, rfl, _⟩ := h
    rfl
  ·
    obtain ⟨v, k, x, w, rfl, hp, x0, hw, q⟩ := h
    refine ⟨_, (pss_cons (ps_if (pt_cmpR op_eq (pv 2) (pe_un un_neg pe_int) (nomark _)) (pss_one (ps_ret (pe_tup (pa_cons (pe_callB (call_max2 rfl) (by rfl) m_max (by decide +kernel) (pa_cons pe_int (pa_cons (pe_op op_sub (pv 1) pe_int) pa_nil))) (pa_cons pe_int pa_nil))))) pss_nil)
      (pss_cons (ps_if (pt_cmpR op_eq (pv 1) (pe_op op_sub (pe_ix (r := rIxT K) ix_tup (pv 0) pe_int (fun _ _ => rfl)) pe_int) (nomark _)) (pss_one (ps_ret (pe_tup (pa_cons pe_int (pa_cons pe_int pa_nil))))) pss_nil)
      (pss_one (ps_ret (pe_tup (pa_cons (pe_op op_add (pv 1) pe_int) (pa_cons pe_int pa_nil))))))), ?_⟩
    obtain ⟨a, rfl, ha⟩ := spring_inv hp
    refine w_st (σ' := [some (.ref a), some (.int x), some (.int w)]) rfl ?_
    walk_at "ct"
    refine w_ite (fun e => ?_) (fun e => ?_)
    · walk_at "ct"
      refine ⟨_, _, rfl, ?_⟩
      walk_at "ct"
      refine ⟨len2 rfl, fun p np => ?_⟩
      refine q _ _ (same_upd np) np ?_
      rw [upd_same]
      simp only [pp]
      rw [if_neg (show ¬ w = 1 by omega)]
    · have e1 : w = 1 := hw.elim id fun z => absurd z e
      walk_at "ct"
      refine w_ite (fun e2 => ?_) (fun e2 => ?_)
      · walk_at "ct"
        refine ⟨len2 rfl, fun p np => ?_⟩
        refine q _ _ (same_upd np) np ?_
        rw [upd_same]
        simp only [pp]
        rw [if_pos e1, if_pos e2]
      · walk_at "ct"
        refine ⟨len2 rfl, fun p np => ?_⟩
        refine q _ _ (same_upd np) np ?_
        rw [upd_same]
        simp only [pp]
        rw [if_pos e1, if_neg e2]
abbrev S_part_pushed : Stmt := topS 17
theorem sc_part_pushed : FnScope ["part", "place", "way"] ["part", "place", "way"] (defScope S_part_pushed) := ⟨rfl, rfl, rfl, by decide +kernel, rfl, by decide +kernel, by decide +kernel⟩
def sp_part_pushed (K : PySem.W.Frag) : Sp := fun vs H Q _ => ∃ (v : V) (p : Part) (x w : Int), vs = [v, .int x, .int w] ∧ Dp K H v p.data ∧ p.ok ∧ 0 ≤ x ∧ x < p.places ∧ Sign w ∧ ∀ t H', Same H H' → H t = none → H' t = some (.tup [.int (pp p x w).1, .int (pp p x w).2]) → Q (.ref t) H'
theorem ok_part_pushed {f : Addr} {fd : FuncData} {f_spring_pushed : Addr} {fd_spring_pushed : FuncData} {f_rocker_pushed : Addr} {fd_rocker_pushed : FuncData} {f_wheel_pushed : Addr} {fd_wheel_pushed : FuncData} (F : Fun K "part_pushed" "part_pushed" S_part_pushed f fd)
    (F_spring_pushed : Fun K "spring_pushed" "spring_pushed" S_spring_pushed f_spring_pushed fd_spring_pushed) (b_spring_pushed : Binds K fd_spring_pushed ["part", "place", "way"] []) (g_spring_pushed : mg "spring_pushed" = some (.ref f_spring_pushed)) (G_spring_pushed : FnOk P w K mg base CX0 1 f_spring_pushed fd_spring_pushed ["part", "place", "way"] (sp_spring_pushed K))
    (F_rocker_pushed : Fun K "rocker_pushed" "rocker_pushed" S_rocker_pushed f_rocker_pushed fd_rocker_pushed) (b_rocker_pushed : Binds K fd_rocker_pushed ["place", "way"] []) (g_rocker_pushed : mg "rocker_pushed" = some (.ref f_rocker_pushed)) (G_rocker_pushed : FnOk P w K mg base CX0 1 f_rocker_pushed fd_rocker_pushed ["place", "way"] (sp_rocker_pushed K))
    (F_wheel_pushed : Fun K "wheel_pushed" "wheel_pushed" S_wheel_pushed f_wheel_pushed fd_wheel_pushed) (b_wheel_pushed : Binds K fd_wheel_pushed ["part", "place", "way"] []) (g_wheel_pushed : mg "wheel_pushed" = some (.ref f_wheel_pushed)) (G_wheel_pushed : FnOk P w K mg base CX0 1 f_wheel_pushed fd_wheel_pushed ["part", "place", "way"] (sp_wheel_pushed K)) :
    FnOk P w K mg base CX0 2 f fd ["part", "place", "way"] (sp_part_pushed K) := by
  refine F.ok sc_part_pushed (fun vs H Q E h => ?_) (fun cdv A outer s H vs Q E hr h => ?_)
  ·
    obtain ⟨v, p, x, w, rfl, _⟩ := h
    rfl
  ·
    obtain ⟨v, p, x, w, rfl, hp, hok, x0, x1, hw, q⟩ := h
    refine ⟨_, (pss_cons (ps_if (pt_cmpR op_eq (pe_ix (r := rIxT K) ix_tup (pv 0) pe_int (fun _ _ => rfl)) pe_str (nomark _)) (pss_one (ps_ret (pe_call G_wheel_pushed (hr.mono (by decide)) (by rfl) g_wheel_pushed F_wheel_pushed.kp b_wheel_pushed .nil pass0 (pa_cons (pv 0) (pa_cons (pv 1) (pa_cons (pv 2) pa_nil)))))) pss_nil)
      (pss_cons (ps_if (pt_cmpR op_eq (pe_ix (r := rIxT K) ix_tup (pv 0) pe_int (fun _ _ => rfl)) pe_str (nomark _)) (pss_one (ps_ret (pe_call G_rocker_pushed (hr.mono (by decide)) (by rfl) g_rocker_pushed F_rocker_pushed.kp b_rocker_pushed .nil pass0 (pa_cons (pv 1) (pa_cons (pv 2) pa_nil))))) pss_nil)
      (pss_cons (ps_if (pt_cmpR op_eq (pe_ix (r := rIxT K) ix_tup (pv 0) pe_int (fun _ _ => rfl)) pe_str (nomark _)) (pss_one (ps_ret (pe_call G_spring_pushed (hr.mono (by decide)) (by rfl) g_spring_pushed F_spring_pushed.kp b_spring_pushed .nil pass0 (pa_cons (pv 0) (pa_cons (pv 1) (pa_cons (pv 2) pa_nil)))))) pss_nil)
      (pss_one (ps_ret (pe_tup (pa_cons (pv 1) (pa_cons (pe_ifExp (pt_cmpR op_eq (pv 2) pe_int (nomark _)) pe_int pe_int) pa_nil)))))))), ?_⟩
    refine w_st (σ' := [some v, some (.int x), some (.int w)]) rfl ?_
    cases p with
    | wheel z ms =>
      obtain ⟨a, b, rfl, ha, hb⟩ := wheel_inv hp
      walk_at "ct"
      exact ⟨_, z, ms, x, w, rfl, hp, hok.1, hw, q⟩
    | click =>
      obtain ⟨a, rfl, ha⟩ := click_inv hp
      have x2 : x < 1 := x1
      have ex : x = 0 := by omega
      subst ex
      walk_at "ct"
      refine w_ite (fun e => ?_) (fun e => ?_)
      · walk_at "ct"
        refine ⟨len2 rfl, fun p np => ?_⟩
        refine q _ _ (same_upd np) np ?_
        rw [upd_same]
        simp only [pp]
        rw [if_pos e]
      · walk_at "ct"
        refine ⟨len2 rfl, fun p np => ?_⟩
        refine q _ _ (same_upd np) np ?_
        rw [upd_same]
        simp only [pp]
        rw [if_neg e]
    | rocker =>
      obtain ⟨a, rfl, ha⟩ := rocker_inv hp
      walk_at "ct"
      exact ⟨x, w, rfl, hw, q⟩
    | spring k =>
      obtain ⟨a, rfl, ha⟩ := spring_inv hp
      walk_at "ct"
      exact ⟨_, k, x, w, rfl, hp, x0, hw, q⟩
abbrev S_pushed : Stmt := topS 18
theorem sc_pushed : FnScope ["train", "stand", "i", "way", "places", "given", "number"] ["train", "stand", "i", "way"] (defScope S_pushed) := ⟨rfl, rfl, rfl, by decide +kernel, rfl, by decide +kernel, by decide +kernel⟩
def sp_pushed (K : PySem.W.Frag) : Sp := fun vs H Q _ => ∃ (a t : Addr) (ps : List Part) (xs : List Int) (i : Nat) (w : Int), vs = [.ref a, .ref t, .int i, .int w] ∧ TrainAt K H a ps ∧ (∀ p ∈ ps, p.ok) ∧ SqT K H t (xs.map V.int) ∧ StandOk ps xs ∧ i ≤ ps.length ∧ ps.length ≤ 1000 ∧ Sign w ∧
  ∀ q u H', Same H H' → H u = none → H q = none → H' u = some (.tup ((run ps xs i w).1.map V.int)) → H' q = some (.tup [.ref u, .int (run ps xs i w).2]) → Q (.ref q) H'
theorem ok_pushed {f : Addr} {fd : FuncData} {f_part_pushed : Addr} {fd_part_pushed : FuncData} (F : Fun K "pushed" "pushed" S_pushed f fd)
    (F_part_pushed : Fun K "part_pushed" "part_pushed" S_part_pushed f_part_pushed fd_part_pushed) (b_part_pushed : Binds K fd_part_pushed ["part", "place", "way"] []) (g_part_pushed : mg "part_pushed" = some (.ref f_part_pushed)) (G_part_pushed : FnOk P w K mg base CX0 2 f_part_pushed fd_part_pushed ["part", "place", "way"] (sp_part_pushed K)) (m_list : mg "list" = none) (m_range : mg "range" = none) (m_len : mg "len" = none) (m_tuple : mg "tuple" = none) :
    FnOk P w K mg base CX0 3 f fd ["train", "stand", "i", "way"] (sp_pushed K) := by
  refine F.ok sc_pushed (fun vs H Q E h => ?_) (fun cdv A outer s H vs Q E hr h => ?_)
  ·
    obtain ⟨a, t, ps, xs, i, w, rfl, _⟩ := h
    rfl
  ·
    obtain ⟨a, t, ps, xs, i, w, rfl, ⟨vs, hv, hd⟩, hok, hS, hso, hi, hps, hw, q⟩ := h
    refine ⟨_, (pss_cons (ps_set (i := 4) sc_pushed.nd rfl (.inl rfl) (pe_callTy call_list_of (by rfl) m_list (by decide +kernel) (pa_cons (pv 1) pa_nil)))
      (pss_cons (ps_set (i := 5) sc_pushed.nd rfl (.inl rfl) (pv 3))
      (pss_cons (ps_for PassesOwn.never rfl (pi_range2 (by rfl) m_range (pa_cons (pv 2) (pa_cons (pe_callB call_len_seq (by rfl) m_len (by decide +kernel) (pa_cons (pv 0) pa_nil)) pa_nil))) (pg_name (i := 6) sc_pushed.nd rfl (.inl rfl))
      (pss_cons (ps_if (pt_cmpR op_eq (pv 5) pe_int (nomark _)) (pss_one ps_break) pss_nil)
      (pss_one (ps_asg (pe_call G_part_pushed (hr.mono (by decide)) (by rfl) g_part_pushed F_part_pushed.kp b_part_pushed .nil pass0 (pa_cons (pe_ix (r := rIxL K) ix_list (pv 0) (pv 6) (fun _ _ => rfl)) (pa_cons (pe_ix (r := rIxL K) ix_list (pv 4) (pv 6) (fun _ _ => rfl)) (pa_cons (pv 5) pa_nil)))) (pg_tup rfl (pgs_cons (pg_sub (pv 4) (pv 6) set_list) (pgs_cons (pg_name (i := 5) sc_pushed.nd rfl (.inl rfl)) pgs_nil)))))))
      (pss_one (ps_ret (pe_tup (pa_cons (pe_callTy call_tuple_of (by rfl) m_tuple (by decide +kernel) (pa_cons (pv 4) pa_nil)) (pa_cons (pv 5) pa_nil)))))))), ?_⟩
    refine w_st (σ' := [some (.ref a), some (.ref t), some (.int i), some (.int w), none, none, none]) rfl ?_
    have hvl : vs.length = ps.length := by rw [dpAll_len hd, List.length_map]
    have hxl : xs.length = ps.length := hso.1
    walk_at "ct"
    refine ⟨t, _, rfl, .inr hS, fun l nl => ?_⟩
    walk_at "ct"
    refine ⟨a, vs, rfl, .inl ((same_upd nl).seq hv), ?_⟩
    walk_at "ct"
    refine w_RG2 (by omega) (by omega) (by omega) (by omega) ?_
    rw [show ((vs.length : Int) - (i : Int)).toNat = ps.length - i by omega]
    refine fb_range (fun n σ H' => ∃ y, σ = [some (.ref a), some (.ref t), some (.int i), some (.int w), some (.ref l), some (.int (runN ps i (xs, w) n).2), y] ∧ Same H H' ∧ H' l = some (.lst ((runN ps i (xs, w) n).1.map V.int))) ⟨none, rfl, same_upd nl, upd_same⟩ ?_ ?_
    · rintro n σ H' hn ⟨y, rfl, sm, hl⟩
      obtain ⟨p, hp⟩ : ∃ p, ps[i + n]? = some p := ⟨_, List.getElem?_eq_getElem (by omega)⟩
      obtain ⟨v, hv1, hd1⟩ := TrainAt.at (a := a) hd hp
      obtain ⟨x, hx⟩ : ∃ x, xs[i + n]? = some x := ⟨_, List.getElem?_eq_getElem (by omega)⟩
      have hx2 : (runN ps i (xs, w) n).1[i + n]? = some x := by
        rw [runN_ahead ps i (xs, w) n (i + n) (Nat.le_refl _)]
        exact hx
      have hx0 := hso.2 _ _ _ hp hx
      walk_at "ct"
      refine w_ite (fun e => ?_) (fun e => ?_)
      · walk_at "ct"
        have er : run ps xs i w = runN ps i (xs, w) n := by
          unfold Ct.run
          rw [show ps.length - i = n + (ps.length - i - n) by omega]
          exact runN_zero e _
        rw [← er] at hl
        rw [← er]
        refine ⟨l, _, rfl, .inl ⟨.of hl, fun u nu => ?_⟩⟩
        walk_at "ct"
        refine ⟨len2 rfl, fun p np => ?_⟩
        have s2 : Same H (upd H' u (.tup ((run ps xs i w).1.map V.int))) := same_new sm (sm.free nu)
        exact q p u _ (same_new s2 (s2.free np)) (sm.free nu) (s2.free np) (by rw [upd_ne (ne_of_none upd_same np)]; exact upd_same) upd_same
      ·
        walk_at "ct"
        refine w_ixL (sm.seq hv) (at_of (j := i + n) (by omega) hv1) ?_
        walk_at "ct"
        refine w_ixL (.of hl) (at_of (j := i + n) (by omega) (by rw [List.getElem?_map, hx2]; rfl)) ?_
        walk_at "ct"
        refine ⟨v, p, x, _, rfl, dp_same sm hd1, hok p (List.mem_of_getElem? hp), hx0.1, hx0.2, (runN_sign ps i (xs, w) hw n).resolve_left e, fun u H1 s1 n1 hu => ?_⟩
        refine w_gtup (.of hu) rfl ?_
        walk_at "ct"
        refine w_setL (s1 _ _ hl) (ix_at (j := i + n) (by omega) (by rw [List.length_map, runN_len]; show i + n < xs.length; omega)) ?_
        walk_at "ct"
        have er : runN ps i (xs, w) (n + 1) = ((runN ps i (xs, w) n).1.set (i + n) (pp p x (runN ps i (xs, w) n).2).1, (pp p x (runN ps i (xs, w) n).2).2) := stp_at e hp hx2
        refine ⟨some (.int ((i : Int) + (n : Int))), ?_, same_new (sm.trans s1) nl, ?_⟩
        · rw [er]
        · rw [er, upd_same, List.map_set]
    · rintro σ H' ⟨y, rfl, sm, hl⟩
      ·
        walk_at "ct"
        refine ⟨l, _, rfl, .inl ⟨.of hl, fun u nu => ?_⟩⟩
        walk_at "ct"
        refine ⟨len2 rfl, fun p np => ?_⟩
        have s2 : Same H (upd H' u (.tup ((run ps xs i w).1.map V.int))) := same_new sm (sm.free nu)
        exact q p u _ (same_new s2 (s2.free np)) (sm.free nu) (s2.free np) (by rw [upd_ne (ne_of_none upd_same np)]; exact upd_same) upd_same
abbrev S_wears : Stmt := topS 20
theorem sc_wears : FnScope ["train", "found", "i", "part", "mark"] ["train"] (defScope S_wears) := ⟨rfl, rfl, rfl, by decide +kernel, rfl, by decide +kernel, by decide +kernel⟩
def sp_wears (K : PySem.W.Frag) : Sp := fun vs H Q _ => ∃ (a : Addr) (ps : List Part), vs = [.ref a] ∧ TrainAt K H a ps ∧ (∀ p ∈ ps, p.ok) ∧ 1 ≤ ps.length ∧ ps.length ≤ 10 ∧
  ∀ l ws H', Same H H' → H l = none → H' l = some (.lst ws) → DpAll K H' ws ((wearsN ps ps.length).map wearD) → Q (.ref l) H'
theorem ok_wears {f : Addr} {fd : FuncData} {f_check_train : Addr} {fd_check_train : FuncData} (F : Fun K "wears" "wears" S_wears f fd)
    (F_check_train : Fun K "check_train" "check_train" S_check_train f_check_train fd_check_train) (b_check_train : Binds K fd_check_train ["train"] []) (g_check_train : mg "check_train" = some (.ref f_check_train)) (G_check_train : FnOk P w K mg base CX0 4 f_check_train fd_check_train ["train"] (sp_check_train K)) (m_enumerate : mg "enumerate" = none) :
    FnOk P w K mg base CX0 5 f fd ["train"] (sp_wears K) := by
  refine F.ok sc_wears (fun vs H Q E h => ?_) (fun cdv A outer s H vs Q E hr h => ?_)
  ·
    obtain ⟨a, ps, rfl, _⟩ := h
    rfl
  ·
    obtain ⟨a, ps, rfl, ⟨vs, hv, hd⟩, hok, hp1, hps, q⟩ := h
    refine ⟨_, (pss_cons (ps_expr (pe_call G_check_train (hr.mono (by decide)) (by rfl) g_check_train F_check_train.kp b_check_train .nil pass0 (pa_cons (pv 0) pa_nil)))
      (pss_cons (ps_set (i := 1) sc_wears.nd rfl (.inl rfl) (pe_lst (pa_cons pe_non pa_nil)))
      (pss_cons (ps_for PassesOwn.never rfl (pi_enum (by rfl) m_enumerate (pa_cons (pv 0) pa_nil)) (pg_tup rfl (pgs_cons (pg_name (i := 2) sc_wears.nd rfl (.inr rfl)) (pgs_cons (pg_name (i := 3) sc_wears.nd rfl (.inl rfl)) pgs_nil)))
      (pss_one (ps_if (pt_cmpR op_eq (pe_ix (r := rIxT K) ix_tup (pv 3) pe_int (fun _ _ => rfl)) pe_str (nomark _)) (pss_one (ps_expr (pe_bm PySem.F.plainAttrs_list PySem.F.slot_list_extend PySem.F.type_list_extend mt_extend (pv 1) (pa_cons (pe_lc (own := [("mark", 4)]) (g := gName 4)  rfl sc_wears.nd  (pi_tup (pe_ix (r := rIxT K) ix_tup (pv 3) pe_int (fun _ _ => rfl))) (blkOk_by (own := [("mark", 4)]) (N := ["train", "found", "i", "part", "mark"]) (sc := defScope S_wears) (by decide +kernel)) (fun _ _ _ _ _ => pg_name (i := 4) sc_wears.nd rfl (Or.inl rfl)) (fun _ _ _ _ _ => pts_nil) (fun _ _ _ _ _ => (pe_tup (pa_cons (pv 2) (pa_cons (pv 4) pa_nil))))) pa_nil)))) pss_nil)))
      (pss_one (ps_ret (pv 1)))))), ?_⟩
    refine w_st (σ' := [some (.ref a), none, none, none, none]) rfl ?_
    have hvl : vs.length = ps.length := by rw [dpAll_len hd, List.length_map]
    walk_at "ct"
    refine ⟨a, ps, rfl, ⟨vs, hv, hd⟩, hok, hp1, fun H1 s1 => ?_⟩
    walk_at "ct"
    refine ⟨len2 rfl, fun l nl => ?_⟩
    have s2 : Same H1 (upd H1 l (.lst [.non])) := same_upd nl
    have h2 : (upd H1 l (.lst [.non])) l = some (.lst [.non]) := upd_same
    generalize upd H1 l _ = H2 at *
    have s12 := s1.trans s2
    have nlH := s1.free nl
    walk_at "ct"
    refine w_IE (s12.seq hv) ?_
    refine fb_enum vs (fun n σ G => ∃ (y2 y3 : Option V) (ws : List V), σ = [some (.ref a), some (.ref l), y2, y3, none] ∧ Same H G ∧ G l = some (.lst ws) ∧ DpAll K G ws ((wearsN ps n).map wearD)) ⟨none, none, _, rfl, s12, h2, .cons .non .nil⟩ ?_ ?_ ?_
    · rintro n σ G _ ⟨y2, y3, ws, rfl, sG, _⟩
      exact sG.seq hv
    · rintro n v T σ G hx ⟨y2, y3, ws, rfl, sG, hl, hw⟩ nT
      have hn : n < vs.length := (List.getElem?_eq_some_iff.mp hx).1
      obtain ⟨p, hp⟩ : ∃ p, ps[n]? = some p := ⟨_, List.getElem?_eq_getElem (by omega)⟩
      obtain ⟨v', hv1, hd1⟩ := TrainAt.at (a := a) hd hp
      cases Option.some.inj (hx.symm.trans hv1)
      have sT : Same G (upd G T (.tup [.int (n : Nat), v])) := same_upd nT
      have hT : (upd G T (.tup [.int (n : Nat), v])) T = some (.tup [.int (n : Nat), v]) := upd_same
      generalize upd G T _ = G1 at *
      have s3 := sG.trans sT
      have hl3 := sT _ _ hl
      have hw3 := dpAll_same sT hw
      have hd3 := dp_same s3 hd1
      have wl : ws.length ≤ 1 + 1000 * n := by
        rw [dpAll_len hw, List.length_map]
        exact wears_len hok n
      refine w_gtup (.of hT) rfl ?_
      cases p with
      | wheel z ms =>
        obtain ⟨g, b, rfl, hg, hb⟩ := wheel_inv hd3
        have ml : ms.length ≤ 1000 := (hok _ (List.mem_of_getElem? hp)).2.2.2
        walk_at "ct"
        refine ⟨ty_list hl3, ?_⟩
        walk_at "ct"
        refine w_IT hb ?_
        refine lb_tup (ms.map V.int) (fun D i G2 => Same G1 G2 ∧ ∃ us, G2 D = some (.lst us) ∧ DpAll K G2 us (((ms.take i).map fun m => some (n, m)).map wearD)) (fun D hD => ⟨same_upd hD, [], upd_same, .nil⟩) (fun D hD i G2 _ h => Same.tup h.1 hb) ?_ ?_
        · rintro D hD i x G2 hx2 ⟨sm, us, hus, hdd⟩
          obtain ⟨c, hc, rfl⟩ : ∃ c : Int, ms[i]? = some c ∧ x = .int c := by
            rw [List.getElem?_map] at hx2
            cases e : ms[i]? with
            | none => rw [e] at hx2; cases hx2
            | some c => rw [e] at hx2; exact ⟨c, rfl, (Option.some.inj hx2).symm⟩
          have hi : i < ms.length := (List.getElem?_eq_some_iff.mp hc).1
          have ul : us.length ≤ i := by
            rw [dpAll_len hdd, List.length_map, List.length_map, List.length_take]
            omega
          walk_at "ct"
          refine ⟨rfl, ?_⟩
          walk_at "ct"
          refine ⟨len2 rfl, fun k nk => ?_⟩
          have v1 := same_upd (o := .tup [.int (n : Nat), .int c]) nk
          have kD : D ≠ k := ne_of_none hus nk
          refine ⟨us, by rw [upd_ne kD]; exact hus, small1000 (by omega), same_new (sm.trans v1) hD, us ++ [.ref k], upd_same, ?_⟩
          rw [List.take_add_one, hc, Option.toList_some, List.map_append, List.map_append]
          refine dpAll_app (wears_upd (by rw [upd_ne kD]; exact hus) (dpAll_same v1 hdd)) (.cons (wear_upd (by rw [upd_ne kD]; exact hus) (.tup (.of upd_same) (.cons (.int _) (.cons (.int _) .nil)))) .nil)
        · rintro D hD G2 ⟨sm, us, hus, hdd⟩
          rw [List.length_map, List.take_length] at hdd
          have ul : us.length ≤ 1000 := by
            rw [dpAll_len hdd, List.length_map, List.length_map]
            omega
          have eW : (wearsN ps (n + 1)).map wearD = (wearsN ps n).map wearD ++ (ms.map fun m => some (n, m)).map wearD := by
            rw [wearsN, hp, List.map_append]
          walk_at "ct"
          refine ⟨l, D, ws, us, rfl, rfl, sm _ _ hl3, hus, Nat.le_trans (show ws.length + us.length ≤ 20000 by omega) (by decide), ?_⟩
          walk_at "ct"
          refine ⟨_, _, _, rfl, same_new (s3.trans sm) nlH, upd_same, ?_⟩
          rw [eW]
          exact dpAll_app (wears_upd (sm _ _ hl3) (dpAll_same sm hw3)) (wears_upd (sm _ _ hl3) hdd)
      | click =>
        obtain ⟨g, rfl, hg⟩ := click_inv hd3
        walk_at "ct"
        refine ⟨_, _, ws, rfl, s3, hl3, ?_⟩
        rw [wearsN, hp, List.append_nil]
        exact hw3
      | rocker =>
        obtain ⟨g, rfl, hg⟩ := rocker_inv hd3
        walk_at "ct"
        refine ⟨_, _, ws, rfl, s3, hl3, ?_⟩
        rw [wearsN, hp, List.append_nil]
        exact hw3
      | spring k =>
        obtain ⟨g, rfl, hg⟩ := spring_inv hd3
        walk_at "ct"
        refine ⟨_, _, ws, rfl, s3, hl3, ?_⟩
        rw [wearsN, hp, List.append_nil]
        exact hw3
    · rintro σ G ⟨y2, y3, ws, rfl, sG, hl, hw⟩
      rw [hvl] at hw
      walk_at "ct"
      exact q l ws G sG nlH hl hw
abbrev S_without_mark : Stmt := topS 21
theorem sc_without_mark : FnScope ["wheel", "mark", "kept"] ["wheel", "mark"] (defScope S_without_mark) := ⟨rfl, rfl, rfl, by decide +kernel, rfl, by decide +kernel, by decide +kernel⟩
def sp_without_mark (K : PySem.W.Frag) : Sp := fun vs H Q _ => ∃ (v : V) (z : Int) (ms : List Int) (m : Int), vs = [v, .int m] ∧ Dp K H v (Part.wheel z ms).data ∧ ms.length ≤ 1000 ∧ ∀ c H', Same H H' → Dp K H' (.ref c) (Part.wheel z (offMark ms m)).data → Q (.ref c) H'
theorem ok_without_mark {f : Addr} {fd : FuncData} (F : Fun K "without_mark" "without_mark" S_without_mark f fd) (m_tuple : mg "tuple" = none) :
    FnOk P w K mg base CX0 1 f fd ["wheel", "mark"] (sp_without_mark K) := by
  refine F.ok sc_without_mark (fun vs H Q E h => ?_) (fun cdv A outer s H vs Q E hr h => ?_)
  ·
    obtain ⟨v, z, ms, m, rfl, _⟩ := h
    rfl
  ·
    obtain ⟨v, z, ms, m, rfl, hp, hl, q⟩ := h
    obtain ⟨a, b, rfl, ha, hb⟩ := wheel_inv hp
    refine ⟨_, (pss_one (ps_ret (pe_tup (pa_cons pe_str (pa_cons (pe_ix (r := rIxT K) ix_tup (pv 0) pe_int (fun _ _ => rfl)) (pa_cons (pe_callTy call_tuple_of (by rfl) m_tuple (by decide +kernel) (pa_cons (pe_lc (own := [("kept", 2)]) (g := gName 2)  rfl sc_without_mark.nd  (pi_tup (pe_ix (r := rIxT K) ix_tup (pv 0) pe_int (fun _ _ => rfl))) (blkOk_by (own := [("kept", 2)]) (N := ["wheel", "mark", "kept"]) (sc := defScope S_without_mark) (by decide +kernel)) (fun _ _ _ _ _ => pg_name (i := 2) sc_without_mark.nd rfl (Or.inl rfl)) (fun _ _ _ _ _ => (pts_one (pt_cmpR op_ne (pv 2) (pv 1) (nomark _)))) (fun _ _ _ _ _ => (pv 2))) pa_nil)) pa_nil)))))), ?_⟩
    refine w_st (σ' := [some (.ref a), some (.int m), none]) rfl ?_
    walk_at "ct"
    refine w_IT hb ?_
    refine lb_tup (ms.map V.int) (fun D i H1 => Same H H1 ∧ H1 D = some (.lst ((offMark (ms.take i) m).map V.int))) (fun D hD => ⟨same_upd hD, upd_same⟩) (fun D hD i H1 _ h => Same.tup h.1 hb) ?_ ?_
    · rintro D hD i x H1 hx ⟨s1, h1⟩
      obtain ⟨c, hc, rfl⟩ : ∃ c : Int, ms[i]? = some c ∧ x = .int c := by
        rw [List.getElem?_map] at hx
        cases e : ms[i]? with
        | none => rw [e] at hx; cases hx
        | some c => rw [e] at hx; exact ⟨c, rfl, (Option.some.inj hx).symm⟩
      have hi : i < ms.length := (List.getElem?_eq_some_iff.mp hc).1
      have et : offMark (ms.take (i + 1)) m = offMark (ms.take i) m ++ (if c = m then [] else [c]) := by
        unfold offMark
        rw [List.take_add_one, hc, Option.toList_some, List.filter_append]
        congr 1
        by_cases e : c = m
        · rw [if_pos e, List.filter_cons_of_neg (by rw [decide_eq_true e]; decide), List.filter_nil]
        · rw [if_neg e, List.filter_cons_of_pos (by rw [decide_eq_false e]; decide), List.filter_nil]
      have ol : (offMark (ms.take i) m).length ≤ 1000 := by
        have := List.length_filter_le (fun k => !decide (k = m)) (ms.take i)
        rw [List.length_take] at this
        unfold offMark
        omega
      walk_at "ct"
      refine ⟨rfl, ?_⟩
      walk_at "ct"
      refine w_iteN (fun e => ?_) (fun e => ?_)
      · walk_at "ct"
        refine ⟨_, h1, by rw [List.length_map]; exact small1000 ol, same_new s1 hD, ?_⟩
        rw [upd_same, et, if_neg e, List.map_append]
        rfl
      · rw [et, if_pos e, List.append_nil]
        exact ⟨s1, h1⟩
    · rintro D hD H1 ⟨s1, h1⟩
      rw [List.length_map, List.take_length] at h1
      walk_at "ct"
      refine ⟨D, _, rfl, .inl ⟨.of h1, fun c nc => ?_⟩⟩
      walk_at "ct"
      refine ⟨len2 rfl, fun w nw => ?_⟩
      have s2 : Same H1 (upd H1 c (.tup ((offMark ms m).map V.int))) := same_upd nc
      have s3 := same_upd (o := .tup [.str "wheel", .int z, .ref c]) nw
      exact q w _ ((s1.trans s2).trans s3) (wheel_dp (.of upd_same) (.of (s3 _ _ upd_same)))
abbrev S_worn_by : Stmt := topS 22
theorem sc_worn_by : FnScope ["train", "wear", "parts", "i", "mark"] ["train", "wear"] (defScope S_worn_by) := ⟨rfl, rfl, rfl, by decide +kernel, rfl, by decide +kernel, by decide +kernel⟩
def sp_worn_by (K : PySem.W.Frag) : Sp := fun vs H Q _ => ∃ (a : Addr) (v : V) (ps : List Part) (wr : Option (Nat × Int)), vs = [.ref a, v] ∧ TrainAt K H a ps ∧ (∀ p ∈ ps, p.ok) ∧ WearAt K H v wr ∧ (∀ i m, wr = some (i, m) → ∃ z ms, ps[i]? = some (.wheel z ms)) ∧
  ∀ l ws H', Same H H' → H l = none → H' l = some (.lst ws) → DpAll K H' ws ((wornP ps wr).map Part.data) → Q (.ref l) H'
theorem ok_worn_by {f : Addr} {fd : FuncData} {f_without_mark : Addr} {fd_without_mark : FuncData} (F : Fun K "worn_by" "worn_by" S_worn_by f fd)
    (F_without_mark : Fun K "without_mark" "without_mark" S_without_mark f_without_mark fd_without_mark) (b_without_mark : Binds K fd_without_mark ["wheel", "mark"] []) (g_without_mark : mg "without_mark" = some (.ref f_without_mark)) (G_without_mark : FnOk P w K mg base CX0 1 f_without_mark fd_without_mark ["wheel", "mark"] (sp_without_mark K)) (m_list : mg "list" = none) :
    FnOk P w K mg base CX0 2 f fd ["train", "wear"] (sp_worn_by K) := by
  refine F.ok sc_worn_by (fun vs H Q E h => ?_) (fun cdv A outer s H vs Q E hr h => ?_)
  ·
    obtain ⟨a, v, ps, wr, rfl, _⟩ := h
    rfl
  ·
    obtain ⟨a, v, ps, wr, rfl, ⟨vs, hv, hd⟩, hok, hw, hwh, q⟩ := h
    refine ⟨_, (pss_cons (ps_set (i := 2) sc_worn_by.nd rfl (.inl rfl) (pe_callTy call_list_of (by rfl) m_list (by decide +kernel) (pa_cons (pv 0) pa_nil)))
      (pss_cons (ps_if (pt_cmpR op_notN (pv 1) pe_non (nomark _)) (pss_cons (ps_asg (pv 1) (pg_tup rfl (pgs_cons (pg_name (i := 3) sc_worn_by.nd rfl (.inl rfl)) (pgs_cons (pg_name (i := 4) sc_worn_by.nd rfl (.inl rfl)) pgs_nil))))
      (pss_one (ps_asg (pe_call G_without_mark (hr.mono (by decide)) (by rfl) g_without_mark F_without_mark.kp b_without_mark .nil pass0 (pa_cons (pe_ix (r := rIxL K) ix_list (pv 2) (pv 3) (fun _ _ => rfl)) (pa_cons (pv 4) pa_nil))) (pg_sub (pv 2) (pv 3) set_list)))) pss_nil)
      (pss_one (ps_ret (pv 2))))), ?_⟩
    refine w_st (σ' := [some (.ref a), some v, none, none, none]) rfl ?_
    have hvl : vs.length = ps.length := by rw [dpAll_len hd, List.length_map]
    walk_at "ct"
    refine ⟨a, vs, rfl, .inl hv, fun l nl => ?_⟩
    have s1 : Same H (upd H l (.lst vs)) := same_upd nl
    have h1 : upd H l (.lst vs) l = some (.lst vs) := upd_same
    generalize upd H l _ = H1 at *
    walk_at "ct"
    cases wr with
    | none =>
      have hw : v = .non := hw
      subst hw
      refine ⟨rfl, ?_⟩
      rw [decide_eq_true rfl]
      walk_at "ct"
      exact q l vs H1 s1 nl h1 (dpAll_same s1 hd)
    | some im =>
      obtain ⟨i, m⟩ := im
      obtain ⟨g, rfl, hg⟩ := hw
      obtain ⟨z, ms, hp⟩ := hwh i m rfl
      have hi : i < ps.length := (List.getElem?_eq_some_iff.mp hp).1
      refine ⟨rfl, ?_⟩
      rw [decide_eq_false (by intro z; cases z)]
      walk_at "ct"
      refine w_gtup (Same.tup s1 hg) rfl ?_
      walk_at "ct"
      obtain ⟨u, hu1, hu2⟩ := TrainAt.at (a := a) hd hp
      refine w_ixL (.of h1) (at_of (j := i) rfl hu1) ?_
      walk_at "ct"
      have ok := hok _ (List.mem_of_getElem? hp)
      refine ⟨u, z, ms, m, rfl, dp_same s1 hu2, ok.2.2.2, fun c H2 s2 hc => ?_⟩
      walk_at "ct"
      have h2 := s2 _ _ h1
      refine w_setL h2 (ix_at (j := i) rfl (by omega)) ?_
      walk_at "ct"
      refine q l _ _ (same_new (s1.trans s2) nl) nl upd_same ?_
      rw [show wornP ps (some (i, m)) = ps.set i (.wheel z (offMark ms m)) from by unfold wornP; simp only [hp], List.map_set]
      exact dpAll_set (parts_upd h2 ps (dpAll_same (s1.trans s2) hd)) (part_upd hc h2)
abbrev S_worn : Stmt := topS 23
theorem sc_worn : FnScope ["train", "wear"] ["train", "wear"] (defScope S_worn) := ⟨rfl, rfl, rfl, by decide +kernel, rfl, by decide +kernel, by decide +kernel⟩
def sp_worn (K : PySem.W.Frag) : Sp := fun vs H Q _ => ∃ (a : Addr) (v : V) (ps : List Part) (wr : Option (Nat × Int)), vs = [.ref a, v] ∧ TrainAt K H a ps ∧ (∀ p ∈ ps, p.ok) ∧ 1 ≤ ps.length ∧ WearAt K H v wr ∧ (∀ i m, wr = some (i, m) → ∃ z ms, ps[i]? = some (.wheel z ms)) ∧
  ∀ l ws H', Same H H' → H l = none → H' l = some (.lst ws) → DpAll K H' ws ((wornP ps wr).map Part.data) → Q (.ref l) H'
theorem ok_worn {f : Addr} {fd : FuncData} {f_worn_by : Addr} {fd_worn_by : FuncData} {f_check_train : Addr} {fd_check_train : FuncData} (F : Fun K "worn" "worn" S_worn f fd)
    (F_worn_by : Fun K "worn_by" "worn_by" S_worn_by f_worn_by fd_worn_by) (b_worn_by : Binds K fd_worn_by ["train", "wear"] []) (g_worn_by : mg "worn_by" = some (.ref f_worn_by)) (G_worn_by : FnOk P w K mg base CX0 2 f_worn_by fd_worn_by ["train", "wear"] (sp_worn_by K))
    (F_check_train : Fun K "check_train" "check_train" S_check_train f_check_train fd_check_train) (b_check_train : Binds K fd_check_train ["train"] []) (g_check_train : mg "check_train" = some (.ref f_check_train)) (G_check_train : FnOk P w K mg base CX0 4 f_check_train fd_check_train ["train"] (sp_check_train K)) :
    FnOk P w K mg base CX0 5 f fd ["train", "wear"] (sp_worn K) := by
  refine F.ok sc_worn (fun vs H Q E h => ?_) (fun cdv A outer s H vs Q E hr h => ?_)
  ·
    obtain ⟨a, v, ps, wr, rfl, _⟩ := h
    rfl
  ·
    obtain ⟨a, v, ps, wr, rfl, hT, hok, hps, hw, hwh, q⟩ := h
    refine ⟨_, (pss_cons (ps_expr (pe_call G_check_train (hr.mono (by decide)) (by rfl) g_check_train F_check_train.kp b_check_train .nil pass0 (pa_cons (pv 0) pa_nil)))
      (pss_one (ps_ret (pe_call G_worn_by (hr.mono (by decide)) (by rfl) g_worn_by F_worn_by.kp b_worn_by .nil pass0 (pa_cons (pv 0) (pa_cons (pv 1) pa_nil)))))), ?_⟩
    refine w_st (σ' := [some (.ref a), some v]) rfl ?_
    walk_at "ct"
    refine ⟨a, ps, rfl, hT, hok, hps, fun H1 s1 => ?_⟩
    walk_at "ct"
    refine ⟨a, v, ps, wr, rfl, hT.same s1, hok, WearAt.same s1 hw, hwh, fun l ws H2 s2 nl hl hd => ?_⟩
    exact q l ws H2 (s1.trans s2) (s1.free nl) hl hd
abbrev S_is_shown : Stmt := topS 24
theorem sc_is_shown : FnScope ["thing", "parts", "i", "way", "shown"] ["thing", "parts"] (defScope S_is_shown) := ⟨rfl, rfl, rfl, by decide +kernel, rfl, by decide +kernel, by decide +kernel⟩
def sp_is_shown (K : PySem.W.Frag) : Sp := fun vs H Q _ => ∃ (v : V) (s : Show) (n : Nat), vs = [v, .int n] ∧ Dp K H v (showD s) ∧ ShowOk n s ∧ ∀ H', Same H H' → Q (.bl true) H'
theorem ok_is_shown {f : Addr} {fd : FuncData} {f_is_whole : Addr} {fd_is_whole : FuncData} {f_is_way : Addr} {fd_is_way : FuncData} (F : Fun K "is_shown" "is_shown" S_is_shown f fd)
    (F_is_whole : Fun K "is_whole" "is_whole" S_is_whole f_is_whole fd_is_whole) (b_is_whole : Binds K fd_is_whole ["thing"] []) (g_is_whole : mg "is_whole" = some (.ref f_is_whole)) (G_is_whole : FnOk P w K mg base CX0 1 f_is_whole fd_is_whole ["thing"] (sp_is_whole K))
    (F_is_way : Fun K "is_way" "is_way" S_is_way f_is_way fd_is_way) (b_is_way : Binds K fd_is_way ["thing"] []) (g_is_way : mg "is_way" = some (.ref f_is_way)) (G_is_way : FnOk P w K mg base CX0 2 f_is_way fd_is_way ["thing"] (sp_is_way K)) (m_isinstance : mg "isinstance" = none) (m_tuple : mg "tuple" = none) (m_len : mg "len" = none) :
    FnOk P w K mg base CX0 3 f fd ["thing", "parts"] (sp_is_shown K) := by
  refine F.ok sc_is_shown (fun vs H Q E h => ?_) (fun cdv A outer s H vs Q E hr h => ?_)
  ·
    obtain ⟨v, s, n, rfl, _⟩ := h
    rfl
  ·
    obtain ⟨v, z, n, rfl, hd, ok, q⟩ := h
    obtain ⟨a, rfl, ha⟩ := show_inv hd
    refine ⟨_, (pss_cons (ps_if (PW.pt (pw_or (pt_not (pt_val (pe_callB (r := rIsi K) call_isi (by rfl) m_isinstance (by decide +kernel) (pa_cons (pv 0) (pa_cons (pe_bltn (v := .ty "tuple") (u := .type "tuple") (by rfl) m_tuple (by decide +kernel) rfl) pa_nil))))) (pw_or1 (pt_cmpR op_ne (pe_callB call_len_seq (by rfl) m_len (by decide +kernel) (pa_cons (pv 0) pa_nil)) pe_int (nomark _))))) (pss_one (ps_ret pe_bl)) pss_nil)
      (pss_cons (ps_asg (pv 0) (pg_tup rfl (pgs_cons (pg_name (i := 2) sc_is_shown.nd rfl (.inl rfl)) (pgs_cons (pg_name (i := 3) sc_is_shown.nd rfl (.inl rfl)) (pgs_cons (pg_name (i := 4) sc_is_shown.nd rfl (.inl rfl)) pgs_nil)))))
      (pss_cons (ps_if (PW.pt (pw_or (pt_not (pt_val (pe_call G_is_whole (hr.mono (by decide)) (by rfl) g_is_whole F_is_whole.kp b_is_whole .nil pass0 (pa_cons (pv 2) pa_nil)))) (pw_or (pt_not (pt_val (pe_call G_is_way (hr.mono (by decide)) (by rfl) g_is_way F_is_way.kp b_is_way .nil pass0 (pa_cons (pv 3) pa_nil)))) (pw_or1 (pt_not (pt_val (pe_call G_is_whole (hr.mono (by decide)) (by rfl) g_is_whole F_is_whole.kp b_is_whole .nil pass0 (pa_cons (pv 4) pa_nil)))))))) (pss_one (ps_ret pe_bl)) pss_nil)
      (pss_one (ps_ret (pe_and (pe_chain op_le op_lt pe_int (pv 2) (pv 1)) (pe_one (pe_cmpR (r := rIn K false) op_in_seq (pv 4) (pe_tup (pa_cons pe_int (pa_cons (pe_un un_neg pe_int) (pa_cons pe_int pa_nil)))) (by rfl))))))))), ?_⟩
    refine w_st (σ' := [some (.ref a), some (.int n), none, none, none]) rfl ?_
    walk_at "ct"
    refine w_isi (b := true) (tyx_T ha) (kit_ty (by decide +kernel)) ?_
    walk_at "ct"
    refine ⟨a, _, rfl, .inr ha, ?_⟩
    walk_at "ct"
    refine w_iteN (fun e => absurd rfl e) (fun _ => ?_)
    walk_at "ct"
    refine w_gtup ha rfl ?_
    walk_at "ct"
    refine ⟨_, _, rfl, .int (z.1 : Int), ?_⟩
    rw [show isW (.int (z.1 : Int)) = true from rfl]
    walk_at "ct"
    refine ⟨_, _, rfl, .int z.2.1, fun H1 s1 => ?_⟩
    have hway : isWay (.int z.2.1) = true := by
      rcases ok.2.1 with e | e
      · rw [e]; rfl
      · rw [e]; rfl
    rw [hway]
    walk_at "ct"
    refine ⟨_, _, rfl, .int z.2.2, ?_⟩
    rw [show isW (.int z.2.2) = true from rfl]
    walk_at "ct"
    have lt := ok.1
    refine w_ite (fun _ => ?_) (fun e => absurd (by omega) e)
    walk_at "ct"
    refine w_ite (fun _ => ?_) (fun e => absurd (by omega) e)
    walk_at "ct"
    refine ⟨len2 rfl, fun p np => ?_⟩
    have s2 := same_upd (o := .tup [.int 1, .int (-1), .int 0]) np
    refine w_inT (ns := [1, -1, 0]) (.of upd_same) ?_
    rw [decide_eq_true (show z.2.2 ∈ [(1 : Int), -1, 0] by
      rcases ok.2.2 with e | e | e <;> rw [e] <;> decide)]
    walk_at "ct"
    exact q _ (s1.trans s2)
abbrev S_check_shown : Stmt := topS 25
theorem sc_check_shown : FnScope ["train", "shows", "thing"] ["train", "shows"] (defScope S_check_shown) := ⟨rfl, rfl, rfl, by decide +kernel, rfl, by decide +kernel, by decide +kernel⟩
def sp_check_shown (K : PySem.W.Frag) (T : List Addr) : Sp := fun vs H Q _ => ∃ (a b : Addr) (us ws : List V) (n : Nat) (ss : List Show), vs = [.ref a, .ref b] ∧ SqL K H a us ∧ us.length = n ∧ SqL K H b ws ∧ DpAll K H ws (ss.map showD) ∧ (∀ s ∈ ss, ShowOk n s) ∧ Tb T H ∧ ∀ H', Same H H' → Q .non H'
theorem ok_check_shown {f : Addr} {fd : FuncData} {f_is_shown : Addr} {fd_is_shown : FuncData} {T : List Addr} {cT PT : Addr} (F : Fun K "check_shown" "check_shown" S_check_shown f fd)
    (F_is_shown : Fun K "is_shown" "is_shown" S_is_shown f_is_shown fd_is_shown) (b_is_shown : Binds K fd_is_shown ["thing", "parts"] []) (g_is_shown : mg "is_shown" = some (.ref f_is_shown)) (G_is_shown : FnOk P w K mg base CX0 3 f_is_shown fd_is_shown ["thing", "parts"] (sp_is_shown K)) (m_isinstance : mg "isinstance" = none) (m_list : mg "list" = none) (m_all : mg "all" = none) (m_len : mg "len" = none)
    (TB_check_shown : GxR.TabB base mg cT PT) (HC_check_shown : fd.code = .ref cT) (tm : PT ∈ T) :
    FnOk P w K mg base CX0 5 f fd ["train", "shows"] (sp_check_shown K T) := by
  refine okC F sc_check_shown (fun vs H Q E h => ?_) (fun A outer s H vs Q E hr h => ?_)
  ·
    obtain ⟨a, b, us, ws, n, ss, rfl, _⟩ := h
    rfl
  ·
    obtain ⟨a, b, us, ws, n, ss, rfl, ha, un, hb, hbd, hss, hTb, q⟩ := h
    refine ⟨_, (pss_one (ps_if (PW.pt (pw_or (pt_not (pt_val (pe_callB (r := rIsi K) call_isi (by rfl) m_isinstance (by decide +kernel) (pa_cons (pv 1) (pa_cons (pe_bltn (v := .ty "list") (u := .type "list") (by rfl) m_list (by decide +kernel) rfl) pa_nil))))) (pw_or1 (pt_not (pt_val (pe_allX (own := [("thing", 2)]) (g := (gName 2)) hr (by rfl) m_all rfl sc_check_shown.nd TB_check_shown HC_check_shown (pi_list (pv 1)) (blkOk_by (own := [("thing", 2)]) (N := ["train", "shows", "thing"]) (sc := defScope S_check_shown) (by decide +kernel)) (by decide +kernel) rfl (by decide +kernel) (fun _ _ _ _ _ _ _ _ => (pg_name (i := 2) sc_check_shown.nd rfl (Or.inl rfl))) (fun _ _ _ _ _ _ _ _ hr => (pe_call G_is_shown (hr.mono (by decide)) (by rfl) g_is_shown F_is_shown.kp b_is_shown .nil pass0 (pa_cons (pv 2) (pa_cons (pe_callB (r := rLenS K) call_len_seq (by rfl) m_len (by decide +kernel) (pa_cons (pv 0) pa_nil)) pa_nil)))))))))) (pss_one ps_never) pss_nil)), ?_⟩
    refine w_st (σ' := [some (.ref a), some (.ref b), none]) rfl ?_
    have wl : ws.length = ss.length := by rw [dpAll_len hbd, List.length_map]
    walk_at "ct"
    refine w_isi (b := true) (tyx_L hb) (kit_ty (by decide +kernel)) ?_
    walk_at "ct"
    refine w_IL hb ?_
    refine gb_list ws (fun i H2 => Same H H2) (hTb _ tm) (Same.refl _) (fun i H2 _ s2 => s2.seq hb) ?_ ?_
    · rintro i x H2 hx s2
      have hi : i < ws.length := (List.getElem?_eq_some_iff.mp hx).1
      obtain ⟨z, hz⟩ : ∃ z, ss[i]? = some z := ⟨_, List.getElem?_eq_getElem (by omega)⟩
      obtain ⟨v', hv1, hd1⟩ := dpAll_get hbd (i := i) (d := showD z) (by rw [List.getElem?_map, hz]; rfl)
      cases Option.some.inj (hx.symm.trans hv1)
      walk_at "ct"
      refine ⟨rfl, ?_⟩
      walk_at "ct"
      refine ⟨a, us, rfl, .inl (s2.seq ha), ?_⟩
      walk_at "ct"
      refine ⟨x, z, us.length, rfl, dp_same s2 hd1, by rw [un]; exact hss z (List.mem_of_getElem? hz), fun H3 s3 => ⟨_, rfl, ?_⟩⟩
      rw [if_neg (by decide)]
      exact s2.trans s3
    · intro H2 s2
      walk_at "ct"
      exact q H2 s2
abbrev S_explains : Stmt := topS 26
theorem sc_explains : FnScope ["train", "stand", "shows", "i", "way", "shown", "given"] ["train", "stand", "shows"] (defScope S_explains) := ⟨rfl, rfl, rfl, by decide +kernel, rfl, by decide +kernel, by decide +kernel⟩
def sp_explains (K : PySem.W.Frag) : Sp := fun vs H Q _ => ∃ (a t b : Addr) (ps : List Part) (xs : List Int) (ss : List Show), vs = [.ref a, .ref t, .ref b] ∧ TrainAt K H a ps ∧ StandL ps xs ∧ ps.length ≤ 1000 ∧ SqT K H t (xs.map V.int) ∧ (∃ ws, SqL K H b ws ∧ DpAll K H ws (ss.map showD)) ∧ (∀ s ∈ ss, ShowOk ps.length s) ∧
  ∀ H', Same H H' → Q (.bl (explB ps xs ss)) H'
theorem ok_explains {f : Addr} {fd : FuncData} {f_pushed : Addr} {fd_pushed : FuncData} (F : Fun K "explains" "explains" S_explains f fd)
    (F_pushed : Fun K "pushed" "pushed" S_pushed f_pushed fd_pushed) (b_pushed : Binds K fd_pushed ["train", "stand", "i", "way"] []) (g_pushed : mg "pushed" = some (.ref f_pushed)) (G_pushed : FnOk P w K mg base CX0 3 f_pushed fd_pushed ["train", "stand", "i", "way"] (sp_pushed K)) :
    FnOk P w K mg base CX0 4 f fd ["train", "stand", "shows"] (sp_explains K) := by
  refine F.ok sc_explains (fun vs H Q E h => ?_) (fun cdv A outer s H vs Q E hr h => ?_)
  ·
    obtain ⟨a, t, b, ps, xs, ss, rfl, _⟩ := h
    rfl
  ·
    obtain ⟨a, t, b, ps, xs, ss, rfl, hT, hst, hps, hS, ⟨ws, hb, hbd⟩, hss, q⟩ := h
    refine ⟨_, (pss_cons (ps_for PassesOwn.never rfl (pi_list (pv 2)) (pg_tup rfl (pgs_cons (pg_name (i := 3) sc_explains.nd rfl (.inl rfl)) (pgs_cons (pg_name (i := 4) sc_explains.nd rfl (.inl rfl)) (pgs_cons (pg_name (i := 5) sc_explains.nd rfl (.inl rfl)) pgs_nil))))
      (pss_cons (ps_asg (pe_call G_pushed (hr.mono (by decide)) (by rfl) g_pushed F_pushed.kp b_pushed .nil pass0 (pa_cons (pv 0) (pa_cons (pv 1) (pa_cons (pv 3) (pa_cons (pv 4) pa_nil))))) (pg_tup rfl (pgs_cons (pg_name (i := 1) sc_explains.nd rfl (.inl rfl)) (pgs_cons (pg_name (i := 6) sc_explains.nd rfl (.inl rfl)) pgs_nil))))
      (pss_one (ps_if (pt_cmpR op_ne (pv 6) (pv 5) (nomark _)) (pss_one (ps_ret pe_bl)) pss_nil))))
      (pss_one (ps_ret pe_bl))), ?_⟩
    refine w_st (σ' := [some (.ref a), some (.ref t), some (.ref b), none, none, none, none]) rfl ?_
    have hok := hst.okp
    have wl : ws.length = ss.length := by rw [dpAll_len hbd, List.length_map]
    walk_at "ct"
    refine w_IL hb ?_
    refine fb_list ws (fun n σ G => ∃ (t' : Addr) (y3 y4 y5 y6 : Option V) (ys : List Int), σ = [some (.ref a), some (.ref t'), some (.ref b), y3, y4, y5, y6] ∧ Same H G ∧ SqT K G t' (ys.map V.int) ∧ StandL ps ys ∧ explB ps xs ss = explB ps ys (ss.drop n)) ⟨t, none, none, none, none, xs, rfl, Same.refl H, hS, hst, rfl⟩ ?_ ?_ ?_
    · rintro n σ G _ ⟨t', y3, y4, y5, y6, ys, rfl, sG, _⟩
      exact sG.seq hb
    · rintro n v σ G hx ⟨t', y3, y4, y5, y6, ys, rfl, sG, hY, hsy, eq⟩
      have hn : n < ws.length := (List.getElem?_eq_some_iff.mp hx).1
      obtain ⟨z, hz⟩ : ∃ z, ss[n]? = some z := ⟨_, List.getElem?_eq_getElem (by omega)⟩
      obtain ⟨v', hv1, hd1⟩ := dpAll_get hbd (i := n) (d := showD z) (by rw [List.getElem?_map, hz]; rfl)
      cases Option.some.inj (hx.symm.trans hv1)
      obtain ⟨g, rfl, hg⟩ := show_inv hd1
      have okz := hss z (List.mem_of_getElem? hz)
      have ed : ss.drop n = z :: ss.drop (n + 1) := (List.getElem_cons_drop (h := (List.getElem?_eq_some_iff.mp hz).1)).symm.trans (by rw [(List.getElem?_eq_some_iff.mp hz).2])
      refine w_gtup (Same.tup sG hg) rfl ?_
      walk_at "ct"
      refine ⟨a, t', ps, ys, z.1, z.2.1, rfl, hT.same sG, hok, hY, hsy.ok, Nat.le_of_lt okz.1, hps, okz.2.1, fun g1 u1 H1 s1 nu ng hu hg1 => ?_⟩
      refine w_gtup (.of hg1) rfl ?_
      walk_at "ct"
      rw [ed, explB] at eq
      by_cases e : (Ct.run ps ys z.1 z.2.1).2 = z.2.2
      · rw [decide_eq_true e, Bool.true_and] at eq
        refine w_iteN (fun z => absurd e z) (fun _ => ?_)
        walk_at "ct"
        exact ⟨u1, _, _, _, _, _, rfl, sG.trans s1, .of hu, standOk_run hsy okz.1 okz.2.1, eq⟩
      · rw [decide_eq_false e, Bool.false_and] at eq
        refine w_iteN (fun _ => ?_) (fun z => absurd z e)
        walk_at "ct"
        rw [eq] at q
        exact q H1 (sG.trans s1)
    · rintro σ G ⟨t', y3, y4, y5, y6, ys, rfl, sG, hY, hsy, eq⟩
      rw [wl, List.drop_length] at eq
      walk_at "ct"
      rw [show explB ps xs ss = true from eq] at q
      exact q G sG
abbrev S_explained : Stmt := topS 27
theorem sc_explained : FnScope ["train", "stand", "shows", "wear"] ["train", "stand", "shows"] (defScope S_explained) := ⟨rfl, rfl, rfl, by decide +kernel, rfl, by decide +kernel, by decide +kernel⟩
def sp_explained (K : PySem.W.Frag) (T : List Addr) : Sp := fun vs H Q _ => ∃ (a t b : Addr) (ps : List Part) (xs : List Int) (ss : List Show), vs = [.ref a, .ref t, .ref b] ∧ TrainAt K H a ps ∧ StandL ps xs ∧ 1 ≤ ps.length ∧ ps.length ≤ 10 ∧ SqT K H t (xs.map V.int) ∧ (∃ ws, SqL K H b ws ∧ DpAll K H ws (ss.map showD)) ∧ (∀ s ∈ ss, ShowOk ps.length s) ∧ Tb T H ∧
  ∀ l us H', Same H H' → H l = none → H' l = some (.lst us) → DpAll K H' us (((wearsN ps ps.length).filter fun w => explB (wornP ps w) xs ss).map wearD) → Q (.ref l) H'
theorem ok_explained {f : Addr} {fd : FuncData} {f_worn_by : Addr} {fd_worn_by : FuncData} {f_explains : Addr} {fd_explains : FuncData} {f_wears : Addr} {fd_wears : FuncData} {f_check_shown : Addr} {fd_check_shown : FuncData} {f_check_stand : Addr} {fd_check_stand : FuncData} {T : List Addr} (F : Fun K "explained" "explained" S_explained f fd)
    (F_worn_by : Fun K "worn_by" "worn_by" S_worn_by f_worn_by fd_worn_by) (b_worn_by : Binds K fd_worn_by ["train", "wear"] []) (g_worn_by : mg "worn_by" = some (.ref f_worn_by)) (G_worn_by : FnOk P w K mg base CX0 2 f_worn_by fd_worn_by ["train", "wear"] (sp_worn_by K))
    (F_explains : Fun K "explains" "explains" S_explains f_explains fd_explains) (b_explains : Binds K fd_explains ["train", "stand", "shows"] []) (g_explains : mg "explains" = some (.ref f_explains)) (G_explains : FnOk P w K mg base CX0 4 f_explains fd_explains ["train", "stand", "shows"] (sp_explains K))
    (F_wears : Fun K "wears" "wears" S_wears f_wears fd_wears) (b_wears : Binds K fd_wears ["train"] []) (g_wears : mg "wears" = some (.ref f_wears)) (G_wears : FnOk P w K mg base CX0 5 f_wears fd_wears ["train"] (sp_wears K))
    (F_check_shown : Fun K "check_shown" "check_shown" S_check_shown f_check_shown fd_check_shown) (b_check_shown : Binds K fd_check_shown ["train", "shows"] []) (g_check_shown : mg "check_shown" = some (.ref f_check_shown)) (G_check_shown : FnOk P w K mg base CX0 5 f_check_shown fd_check_shown ["train", "shows"] (sp_check_shown K T))
    (F_check_stand : Fun K "check_stand" "check_stand" S_check_stand f_check_stand fd_check_stand) (b_check_stand : Binds K fd_check_stand ["train", "stand"] []) (g_check_stand : mg "check_stand" = some (.ref f_check_stand)) (G_check_stand : FnOk P w K mg base CX0 5 f_check_stand fd_check_stand ["train", "stand"] (sp_check_stand K)) :
    FnOk P w K mg base CX0 6 f fd ["train", "stand", "shows"] (sp_explained K T) := by
  refine F.ok sc_explained (fun vs H Q E h => ?_) (fun cdv A outer s H vs Q E hr h => ?_)
  ·
    obtain ⟨a, t, b, ps, xs, ss, rfl, _⟩ := h
    rfl
  ·
    obtain ⟨a, t, b, ps, xs, ss, rfl, hT, hst, hp1, hps, hS, ⟨ws, hb, hbd⟩, hss, hTb, q⟩ := h
    refine ⟨_, (pss_cons (ps_expr (pe_call G_check_stand (hr.mono (by decide)) (by rfl) g_check_stand F_check_stand.kp b_check_stand .nil pass0 (pa_cons (pv 0) (pa_cons (pv 1) pa_nil))))
      (pss_cons (ps_expr (pe_call G_check_shown (hr.mono (by decide)) (by rfl) g_check_shown F_check_shown.kp b_check_shown .nil pass0 (pa_cons (pv 0) (pa_cons (pv 2) pa_nil))))
      (pss_one (ps_ret (pe_lc (own := [("wear", 3)]) (g := gName 3)  rfl sc_explained.nd  (pi_list (pe_call G_wears (hr.mono (by decide)) (by rfl) g_wears F_wears.kp b_wears .nil pass0 (pa_cons (pv 0) pa_nil))) (blkOk_by (own := [("wear", 3)]) (N := ["train", "stand", "shows", "wear"]) (sc := defScope S_explained) (by decide +kernel)) (fun _ _ _ _ _ => pg_name (i := 3) sc_explained.nd rfl (Or.inl rfl)) (fun _ _ _ _ _ => (pts_one (pt_val (pe_call G_explains (hr.mono (by decide)) (by rfl) g_explains F_explains.kp b_explains .nil pass0 (pa_cons (pe_call G_worn_by (hr.mono (by decide)) (by rfl) g_worn_by F_worn_by.kp b_worn_by .nil pass0 (pa_cons (pv 0) (pa_cons (pv 3) pa_nil))) (pa_cons (pv 1) (pa_cons (pv 2) pa_nil))))))) (fun _ _ _ _ _ => (pv 3))))))), ?_⟩
    refine w_st (σ' := [some (.ref a), some (.ref t), some (.ref b), none]) rfl ?_
    have hok := hst.okp
    walk_at "ct"
    refine ⟨a, t, ps, xs, rfl, hT, hok, hp1, hS, hst.ok, fun H1 s1 => ?_⟩
    walk_at "ct"
    obtain ⟨vs, hv, hvd⟩ := hT
    have hvl : vs.length = ps.length := by rw [dpAll_len hvd, List.length_map]
    refine ⟨a, b, vs, ws, ps.length, ss, rfl, s1.seq hv, hvl, s1.seq hb, dpAll_same s1 hbd, hss, hTb.same s1, fun H2 s2 => ?_⟩
    have s12 := s1.trans s2
    walk_at "ct"
    refine ⟨a, ps, rfl, ⟨vs, s12.seq hv, dpAll_same s12 hvd⟩, hok, hp1, hps, fun l us H3 s3 nl hl hd => ?_⟩
    have s13 := s12.trans s3
    have ul : us.length = (wearsN ps ps.length).length := by rw [dpAll_len hd, List.length_map]
    have ul2 := wears_len hok ps.length
    walk_at "ct"
    refine w_IL (.of hl) ?_
    refine lb_list us (fun D i G => Same H3 G ∧ ∃ acc, G D = some (.lst acc) ∧ acc.length ≤ i ∧ DpAll K G acc ((((wearsN ps ps.length).take i).filter fun w => explB (wornP ps w) xs ss).map wearD)) (fun D hD => ⟨same_upd hD, [], upd_same, Nat.le_refl _, .nil⟩) (fun D hD i G _ h => .of (h.1 _ _ hl)) ?_ ?_
    · rintro D hD i x G hx ⟨sG, acc, hacc, al, hda⟩
      have hi : i < us.length := (List.getElem?_eq_some_iff.mp hx).1
      obtain ⟨wr, hw⟩ : ∃ wr, (wearsN ps ps.length)[i]? = some wr := ⟨_, List.getElem?_eq_getElem (by omega)⟩
      obtain ⟨v', hv1, hd1⟩ := dpAll_get hd (i := i) (d := wearD wr) (by rw [List.getElem?_map, hw]; rfl)
      cases Option.some.inj (hx.symm.trans hv1)
      have tk : ((wearsN ps ps.length).take (i + 1)).filter (fun w => explB (wornP ps w) xs ss) = ((wearsN ps ps.length).take i).filter (fun w => explB (wornP ps w) xs ss) ++ (if explB (wornP ps wr) xs ss = true then [wr] else []) := by
        rw [List.take_add_one, hw, Option.toList_some, List.filter_append]
        congr 1
        by_cases e : explB (wornP ps wr) xs ss = true
        · rw [if_pos e, List.filter_cons_of_pos (p := fun w => explB (wornP ps w) xs ss) e, List.filter_nil]
        · rw [if_neg e, List.filter_cons_of_neg (p := fun w => explB (wornP ps w) xs ss) e, List.filter_nil]
      have s14 := s13.trans sG
      walk_at "ct"
      refine ⟨rfl, ?_⟩
      walk_at "ct"
      refine ⟨a, x, ps, wr, rfl, ⟨vs, s14.seq hv, dpAll_same s14 hvd⟩, hok, wear_at (dp_same sG hd1), fun j m e => ?_, fun l2 ws2 H4 s4 nl2 hl2 hd2 => ?_⟩
      · subst e
        exact wears_is (List.mem_of_getElem? hw)
      have s15 := s14.trans s4
      walk_at "ct"
      refine ⟨l2, t, b, wornP ps wr, xs, ss, rfl, ⟨ws2, .of hl2, hd2⟩, worn_stand hst, by rw [wornP_len]; omega, Same.tup s15 hS, ⟨ws, s15.seq hb, dpAll_same s15 hbd⟩, by rw [wornP_len]; exact hss, fun H5 s5 => ?_⟩
      have s45 := (sG.trans s4).trans s5
      refine ⟨_, rfl, ?_⟩
      rw [tk]
      cases e : explB (wornP ps wr) xs ss with
      | true =>
        rw [if_pos rfl]
        walk_at "ct"
        refine ⟨acc, (s4.trans s5) _ _ hacc, Nat.lt_of_le_of_lt (show acc.length ≤ 20000 by omega) (by decide), same_new s45 hD, acc ++ [x], upd_same, by rw [List.length_append]; show acc.length + 1 ≤ i + 1; omega, ?_⟩
        rw [if_pos rfl, List.map_append]
        refine dpAll_app (wears_upd ((s4.trans s5) _ _ hacc) (dpAll_same (s4.trans s5) hda)) (.cons (wear_upd ((s4.trans s5) _ _ hacc) (dp_same s45 hd1)) .nil)
      | false =>
        rw [if_neg Bool.false_ne_true, if_neg Bool.false_ne_true, List.append_nil]
        exact ⟨s45, acc, (s4.trans s5) _ _ hacc, by omega, dpAll_same (s4.trans s5) hda⟩
    · rintro D hD G ⟨sG, acc, hacc, al, hda⟩
      rw [List.take_of_length_le (by omega)] at hda
      exact q D acc G (s13.trans sG) (s13.free hD) hacc hda
abbrev S__law_cell_at : Stmt := topS 29
theorem sc__law_cell_at : FnScope ["_law_script", "_law_k"] ["_law_script", "_law_k"] (defScope S__law_cell_at) := ⟨rfl, rfl, rfl, by decide +kernel, rfl, by decide +kernel, by decide +kernel⟩
def sp__law_cell_at (K : PySem.W.Frag) : Sp := fun vs H Q _ => ∃ (a : Addr) (ns : List Int) (k : Nat), vs = [.ref a, .int k] ∧ SqL K H a (ns.map V.int) ∧ ∀ c : Int, Q (.int c) H
theorem ok__law_cell_at {f : Addr} {fd : FuncData} (F : Fun K "_law_cell_at" "_law_cell_at" S__law_cell_at f fd) (m_len : mg "len" = none) :
    FnOk P w K mg base CX0 1 f fd ["_law_script", "_law_k"] (sp__law_cell_at K) := by
  refine F.ok sc__law_cell_at (fun vs H Q E h => ?_) (fun cdv A outer s H vs Q E hr h => ?_)
  ·
    obtain ⟨a, ns, k, rfl, _⟩ := h
    rfl
  ·
    obtain ⟨a, ns, k, rfl, hS, q⟩ := h
    refine ⟨_, (pss_cons (ps_if (pt_cmpR op_lt (pv 1) (pe_callB call_len_seq (by rfl) m_len (by decide +kernel) (pa_cons (pv 0) pa_nil)) (nomark _)) (pss_one (ps_ret (pe_ix (r := rIxL K) ix_list (pv 0) (pv 1) (fun _ _ => rfl)))) pss_nil)
      (pss_one (ps_ret pe_int))), ?_⟩
    refine w_st (σ' := [some (.ref a), some (.int k)]) rfl ?_
    walk_at "ct"
    refine ⟨a, _, rfl, .inl hS, ?_⟩
    walk_at "ct"
    refine w_ite (fun e => ?_) (fun e => ?_)
    · walk_at "ct"
      rw [List.length_map] at e
      refine w_ixL hS (at_of (j := k) rfl (by rw [List.getElem?_map, List.getElem?_eq_getElem (by omega)]; rfl)) ?_
      exact q _
    · walk_at "ct"
      exact q _
abbrev S__law_mix : Stmt := topS 30
theorem sc__law_mix : FnScope ["_law_cell", "_law_k", "_law_again", "_law_number"] ["_law_cell", "_law_k"] (defScope S__law_mix) := ⟨rfl, rfl, rfl, by decide +kernel, rfl, by decide +kernel, by decide +kernel⟩
def sp__law_mix (K : PySem.W.Frag) : Sp := fun vs H Q _ => ∃ c k : Int, vs = [.int c, .int k] ∧ 0 ≤ k ∧ k ≤ 1000 ∧ ∀ n : Int, 0 ≤ n → n < 2147483648 → Q (.int n) H
theorem ok__law_mix {f : Addr} {fd : FuncData} (F : Fun K "_law_mix" "_law_mix" S__law_mix f fd) (m_range : mg "range" = none) :
    FnOk P w K mg base CX0 1 f fd ["_law_cell", "_law_k"] (sp__law_mix K) := by
  refine F.ok sc__law_mix (fun vs H Q E h => ?_) (fun cdv A outer s H vs Q E hr h => ?_)
  ·
    obtain ⟨c, k, rfl, _⟩ := h
    rfl
  ·
    obtain ⟨c, k, rfl, k0, k1, q⟩ := h
    refine ⟨_, (pss_cons (ps_if (pt_cmpR op_ge (pv 0) (pe_op op_powB pe_int pe_int) (nomark _)) (pss_cons (ps_for PassesOwn.never rfl (pi_range1 (by rfl) m_range (pa_cons (pv 1) pa_nil)) (pg_name (i := 2) sc__law_mix.nd rfl (.inl rfl))
      (pss_one (ps_set (i := 0) sc__law_mix.nd rfl (.inl rfl) (pe_op op_fdivW (pv 0) (pe_op op_powB pe_int pe_int)))))
      (pss_one (ps_ret (pe_op op_mod (pv 0) (pe_op op_powB pe_int pe_int))))) pss_nil)
      (pss_cons (ps_set (i := 3) sc__law_mix.nd rfl (.inl rfl) (pe_op op_mod (pe_op op_mulW (pe_op op_add (pe_op op_add (pe_op op_mod (pv 0) pe_int) (pe_op op_mulW (pe_op op_mulW (pv 1) (pv 1)) pe_int)) (pv 1)) pe_int) pe_int))
      (pss_cons (ps_set (i := 3) sc__law_mix.nd rfl (.inl rfl) (pe_op op_mod (pe_op op_mulW (pv 3) (pv 3)) pe_int))
      (pss_one (ps_ret (pe_op op_fdivW (pe_op op_mod (pe_op op_mulW (pv 3) (pe_op op_add (pv 3) pe_int)) pe_int) pe_int)))))), ?_⟩
    refine w_st (σ' := [some (.int c), some (.int k), none, none]) rfl ?_
    walk_at "ct"
    refine w_rIv (.int 1000000000000000000) ⟨by decide, by decide⟩ rfl ?_
    walk_at "ct"
    refine w_ite (fun e => ?_) (fun e => ?_)
    · walk_at "ct"
      refine w_RG1 (by omega) (by omega) ?_
      refine fb_range (fun n σ H' => ∃ (c' : Int) (y : Option V), σ = [some (.int c'), some (.int k), y, none] ∧ H' = H) ⟨c, none, rfl, rfl⟩ ?_ ?_
      · rintro i σ H' hi ⟨c', y, rfl, rfl⟩
        walk_at "ct"
        refine w_rIv (.int 1000000) ⟨by decide, by decide⟩ rfl ?_
        refine w_div (div_ok (by decide) (by decide)) fun r => ?_
        walk_at "ct"
        exact ⟨_, _, rfl, rfl⟩
      · rintro σ H' ⟨c', y, rfl, rfl⟩
        walk_at "ct"
        refine w_rIv (.int 1000000) ⟨by decide, by decide⟩ rfl ?_
        refine w_mod (by decide) fun r h0 h1 => ?_
        exact q _ h0 (by omega)
    · walk_at "ct"
      refine w_mod (by decide) fun r0 a0 a1 => ?_
      walk_at "ct"
      have kk : 0 ≤ k * k ∧ k * k ≤ 1000 * 1000 := ⟨Int.mul_nonneg k0 k0, Int.mul_le_mul k1 k1 k0 (by decide)⟩
      refine w_rI (mul_ok (by omega) (by omega) (by omega) (by omega)) ?_
      walk_at "ct"
      refine w_rI (mul_ok (by omega) (by omega) (by omega) (by omega)) ?_
      walk_at "ct"
      refine w_rI (mul_ok (by omega) (by omega) (by omega) (by omega)) ?_
      walk_at "ct"
      refine w_mod (by decide) fun r1 b0 b1 => ?_
      walk_at "ct"
      refine w_rI (mul_ok (by omega) (by omega) (by omega) (by omega)) ?_
      walk_at "ct"
      refine w_mod (by decide) fun r2 c0 c1 => ?_
      walk_at "ct"
      refine w_rI (mul_ok (by omega) (by omega) (by omega) (by omega)) ?_
      walk_at "ct"
      refine w_mod (by decide) fun r3 d0 d1 => ?_
      walk_at "ct"
      refine w_rI (div_ok (by decide) (by decide)) ?_
      exact q _ (by omega) (by omega)
abbrev S__law_size : Stmt := topS 31
theorem sc__law_size : FnScope ["_law_part_here"] ["_law_part_here"] (defScope S__law_size) := ⟨rfl, rfl, rfl, by decide +kernel, rfl, by decide +kernel, by decide +kernel⟩
def sp__law_size (K : PySem.W.Frag) : Sp := fun vs H Q _ => ∃ (v : V) (p : Part), vs = [v] ∧ Dp K H v p.data ∧ ∀ H', Same H H' → Q (.int p.places) H'
theorem ok__law_size {f : Addr} {fd : FuncData} (F : Fun K "_law_size" "_law_size" S__law_size f fd) (m_int : mg "int" = none) :
    FnOk P w K mg base CX0 1 f fd ["_law_part_here"] (sp__law_size K) := by
  refine F.ok sc__law_size (fun vs H Q E h => ?_) (fun cdv A outer s H vs Q E hr h => ?_)
  ·
    obtain ⟨v, p, rfl, _⟩ := h
    rfl
  ·
    obtain ⟨v, p, rfl, hp, q⟩ := h
    refine ⟨_, (pss_cons (ps_if (pt_cmpR (r := rIn K false) op_in_seq (pe_ix (r := rIxT K) ix_tup (pv 0) pe_int (fun _ _ => rfl)) (pe_lst (pa_cons pe_str (pa_cons pe_str pa_nil))) (by rfl)) (pss_one (ps_ret (pe_ix (r := rIxT K) ix_tup (pv 0) pe_int (fun _ _ => rfl)))) pss_nil)
      (pss_one (ps_ret (pe_op op_add pe_int (pe_callTy call_int1 (by rfl) m_int (by decide +kernel) (pa_cons (pe_cmpR op_eq (pe_ix (r := rIxT K) ix_tup (pv 0) pe_int (fun _ _ => rfl)) pe_str (nomark _)) pa_nil)))))), ?_⟩
    refine w_st (σ' := [some v]) rfl ?_
    cases p with
    | wheel z ms =>
      obtain ⟨a, b, rfl, ha, hb⟩ := wheel_inv hp
      walk_at "ct"
      refine ⟨len2 rfl, fun l nl => ?_⟩
      have s1 := same_upd (o := .lst [.str "wheel", .str "spring"]) nl
      have ha2 := Same.tup s1 ha
      refine w_inS true (.of upd_same) rfl rfl (by decide +kernel) ?_
      walk_at "ct"
      exact q _ s1
    | click =>
      obtain ⟨a, rfl, ha⟩ := click_inv hp
      walk_at "ct"
      refine ⟨len2 rfl, fun l nl => ?_⟩
      have s1 := same_upd (o := .lst [.str "wheel", .str "spring"]) nl
      have ha2 := Same.tup s1 ha
      refine w_inS false (.of upd_same) rfl rfl (by decide +kernel) ?_
      walk_at "ct"
      refine .inr ⟨_, rfl, ?_⟩
      walk_at "ct"
      exact q _ s1
    | rocker =>
      obtain ⟨a, rfl, ha⟩ := rocker_inv hp
      walk_at "ct"
      refine ⟨len2 rfl, fun l nl => ?_⟩
      have s1 := same_upd (o := .lst [.str "wheel", .str "spring"]) nl
      have ha2 := Same.tup s1 ha
      refine w_inS false (.of upd_same) rfl rfl (by decide +kernel) ?_
      walk_at "ct"
      refine .inr ⟨_, rfl, ?_⟩
      walk_at "ct"
      exact q _ s1
    | spring k =>
      obtain ⟨a, rfl, ha⟩ := spring_inv hp
      walk_at "ct"
      refine ⟨len2 rfl, fun l nl => ?_⟩
      have s1 := same_upd (o := .lst [.str "wheel", .str "spring"]) nl
      have ha2 := Same.tup s1 ha
      refine w_inS true (.of upd_same) rfl rfl (by decide +kernel) ?_
      walk_at "ct"
      exact q _ s1
abbrev S__law_part : Stmt := topS 32
theorem sc__law_part : FnScope ["_law_cell", "_law_number", "_law_teeth", "_law_marks", "_law_tooth"] ["_law_cell"] (defScope S__law_part) := ⟨rfl, rfl, rfl, by decide +kernel, rfl, by decide +kernel, by decide +kernel⟩
def sp__law_part (K : PySem.W.Frag) : Sp := fun vs H Q _ => ∃ (c : Int), vs = [.int c] ∧ ∀ (v : V) (p : Part) H', Same H H' → Dp K H' v p.data → p.ok → p.places ≤ 7 → Q v H'
theorem ok__law_part {f : Addr} {fd : FuncData} {f__law_mix : Addr} {fd__law_mix : FuncData} (F : Fun K "_law_part" "_law_part" S__law_part f fd)
    (F__law_mix : Fun K "_law_mix" "_law_mix" S__law_mix f__law_mix fd__law_mix) (b__law_mix : Binds K fd__law_mix ["_law_cell", "_law_k"] []) (g__law_mix : mg "_law_mix" = some (.ref f__law_mix)) (G__law_mix : FnOk P w K mg base CX0 1 f__law_mix fd__law_mix ["_law_cell", "_law_k"] (sp__law_mix K)) (m_tuple : mg "tuple" = none) (m_range : mg "range" = none) :
    FnOk P w K mg base CX0 2 f fd ["_law_cell"] (sp__law_part K) := by
  refine F.ok sc__law_part (fun vs H Q E h => ?_) (fun cdv A outer s H vs Q E hr h => ?_)
  ·
    obtain ⟨c, rfl, _⟩ := h
    rfl
  ·
    obtain ⟨c, rfl, q⟩ := h
    refine ⟨_, (pss_cons (ps_set (i := 1) sc__law_part.nd rfl (.inl rfl) (pe_call G__law_mix (hr.mono (by decide)) (by rfl) g__law_mix F__law_mix.kp b__law_mix .nil pass0 (pa_cons (pv 0) (pa_cons pe_int pa_nil))))
      (pss_cons (ps_set (i := 2) sc__law_part.nd rfl (.inl rfl) (pe_op op_add pe_int (pe_op op_mod (pe_op op_fdivW (pv 1) pe_int) pe_int)))
      (pss_cons (ps_set (i := 3) sc__law_part.nd rfl (.inl rfl) (pe_callTy call_tuple_of (by rfl) m_tuple (by decide +kernel) (pa_cons (pe_lc (own := [("_law_tooth", 4)]) (g := gName 4)  rfl sc__law_part.nd  (pi_range1 (by rfl) m_range (pa_cons (pv 2) pa_nil)) (blkOk_by (own := [("_law_tooth", 4)]) (N := ["_law_cell", "_law_number", "_law_teeth", "_law_marks", "_law_tooth"]) (sc := defScope S__law_part) (by decide +kernel)) (fun _ _ _ _ _ => pg_name (i := 4) sc__law_part.nd rfl (Or.inl rfl)) (fun _ _ _ _ _ => (pts_one (pt_cmpR op_eq (pe_op op_mod (pe_call G__law_mix (hr.mono (by decide)) (by rfl) g__law_mix F__law_mix.kp b__law_mix .nil pass0 (pa_cons (pv 0) (pa_cons (pe_op op_add pe_int (pv 4)) pa_nil))) pe_int) pe_int (nomark _)))) (fun _ _ _ _ _ => (pv 4))) pa_nil)))
      (pss_cons (ps_if (pt_cmpR op_lt (pe_op op_mod (pv 1) pe_int) pe_int (nomark _)) (pss_one (ps_ret (pe_tup (pa_cons pe_str (pa_cons (pv 2) (pa_cons (pv 3) pa_nil)))))) pss_nil)
      (pss_one (ps_ret (pe_ix (r := rIxL K) ix_list (pe_lst (pa_cons (pe_tup (pa_cons pe_str pa_nil)) (pa_cons (pe_tup (pa_cons pe_str pa_nil)) (pa_cons (pe_tup (pa_cons pe_str (pa_cons (pe_op op_add pe_int (pe_op op_mod (pe_op op_fdivW (pv 1) pe_int) pe_int)) pa_nil))) pa_nil)))) (pe_op op_sub (pe_op op_mod (pv 1) pe_int) pe_int) (fun _ _ => rfl)))))))), ?_⟩
    refine w_st (σ' := [some (.int c), none, none, none, none]) rfl ?_
    have s0 := Same.refl H
    walk_at "ct"
    refine ⟨c, 0, rfl, by decide, by decide, fun n n0 n1 => ?_⟩
    walk_at "ct"
    refine w_div (div_ok (by decide) (by decide)) fun d7 => ?_
    walk_at "ct"
    refine w_mod (by decide) fun sz z0 z1 => ?_
    walk_at "ct"
    obtain ⟨z, hz⟩ : ∃ z : Int, 1 + sz = z := ⟨_, rfl⟩
    rw [hz]
    refine w_RG1 (by omega) (by omega) ?_
    refine lb_range (fun D i H1 => Same H H1 ∧ ∃ ms : List Int, H1 D = some (.lst (ms.map V.int)) ∧ ms.length ≤ i ∧ Rise (i : Int) ms) (fun D hD => ⟨same_new s0 (s0.free hD), [], upd_same, Nat.le_refl _, List.Pairwise.nil, fun m hm => by cases hm⟩) ?_ ?_
    · rintro D hD i H1 hi ⟨sm, ms, hD1, ml, rs⟩
      walk_at "ct"
      refine ⟨rfl, ?_⟩
      walk_at "ct"
      refine ⟨c, _, rfl, by omega, by omega, fun k _ _ => ?_⟩
      walk_at "ct"
      refine w_mod (by decide) fun bit _ _ => ?_
      walk_at "ct"
      refine w_ite (fun e2 => ?_) (fun e2 => ?_)
      · walk_at "ct"
        refine ⟨ms.map V.int, hD1, by rw [List.length_map]; exact small1000 (by omega), same_new sm (s0.free hD), ms ++ [(i : Int)], ?_, ?_, ?_, ?_⟩
        · rw [upd_same, List.map_append, Int.zero_add]
          rfl
        · rw [List.length_append]
          show ms.length + 1 ≤ i + 1
          omega
        · refine List.pairwise_append.mpr ⟨rs.1, List.pairwise_singleton _ _, fun a ha b hb => ?_⟩
          rw [List.mem_singleton] at hb
          rw [hb]
          exact (rs.2 a ha).2
        · intro m hm
          rcases List.mem_append.mp hm with hm | hm
          · have := rs.2 m hm
            omega
          · rw [List.mem_singleton] at hm
            omega
      · exact ⟨sm, ms, hD1, by omega, rs.1, fun m hm => by have := rs.2 m hm; omega⟩
    · rintro D hD H1 ⟨sm, ms, hD1, ml, rs⟩
      have rs2 : Rise z ms := ⟨rs.1, fun m hm => by have := rs.2 m hm; omega⟩
      walk_at "ct"
      refine ⟨D, _, rfl, .inl ⟨.of hD1, fun b nb => ?_⟩⟩
      have s1 : Same H (upd H1 b (.tup (ms.map V.int))) := sm.trans (same_upd nb)
      have hb : (upd H1 b (.tup (ms.map V.int))) b = some (.tup (ms.map V.int)) := upd_same
      generalize upd H1 b _ = H2 at *
      walk_at "ct"
      refine w_rI (by decide) ?_
      walk_at "ct"
      refine w_ite (fun e => ?_) (fun e => ?_)
      · walk_at "ct"
        refine ⟨len2 rfl, fun g ng => ?_⟩
        have s2 := same_upd (o := .tup [.str "wheel", .int z, .ref b]) ng
        exact q (.ref g) (.wheel z ms) _ (s1.trans s2) (wheel_dp (.of upd_same) (.of (s2 _ _ hb))) ⟨by omega, by omega, rs2, by omega⟩ (show z ≤ 7 by omega)
      · walk_at "ct"
        refine ⟨len2 rfl, fun g1 ng1 => ?_⟩
        have u1 := same_upd (o := .tup [.str "click"]) ng1
        have h1 : (upd H2 g1 (.tup [.str "click"])) g1 = some (.tup [.str "click"]) := upd_same
        generalize upd H2 g1 _ = H3 at *
        walk_at "ct"
        refine ⟨len2 rfl, fun g2 ng2 => ?_⟩
        have u2 := same_upd (o := .tup [.str "rocker"]) ng2
        have h2 : (upd H3 g2 (.tup [.str "rocker"])) g2 = some (.tup [.str "rocker"]) := upd_same
        generalize upd H3 g2 _ = H4 at *
        walk_at "ct"
        refine w_div (div_ok (by decide) (by decide)) fun d49 => ?_
        walk_at "ct"
        refine w_mod (by decide) fun sp sp0 sp1 => ?_
        walk_at "ct"
        refine ⟨len2 rfl, fun g3 ng3 => ?_⟩
        have u3 := same_upd (o := .tup [.str "spring", .int (1 + sp)]) ng3
        have h3 : (upd H4 g3 (.tup [.str "spring", .int (1 + sp)])) g3 = some (.tup [.str "spring", .int (1 + sp)]) := upd_same
        generalize upd H4 g3 _ = H5 at *
        walk_at "ct"
        refine ⟨len2 rfl, fun l nl => ?_⟩
        have u4 := same_upd (o := .lst [.ref g1, .ref g2, .ref g3]) nl
        have h4 : (upd H5 l (.lst [.ref g1, .ref g2, .ref g3])) l = some (.lst [.ref g1, .ref g2, .ref g3]) := upd_same
        generalize upd H5 l _ = H6 at *
        have s6 := (((s1.trans u1).trans u2).trans u3).trans u4
        walk_at "ct"
        refine w_rI (by decide) ?_
        walk_at "ct"
        have : n % 7 - 4 = 0 ∨ n % 7 - 4 = 1 ∨ n % 7 - 4 = 2 := by omega
        rcases this with e2 | e2 | e2
        · rw [e2]
          refine w_ixL (.of h4) at0 ?_
          exact q (.ref g1) .click _ s6 (click_dp (.of (((u2.trans u3).trans u4) _ _ h1))) trivial (by decide)
        · rw [e2]
          refine w_ixL (.of h4) at1 ?_
          exact q (.ref g2) .rocker _ s6 (rocker_dp (.of ((u3.trans u4) _ _ h2))) trivial (by decide)
        · rw [e2]
          refine w_ixL (.of h4) at2 ?_
          exact q (.ref g3) (.spring (1 + sp)) _ s6 (spring_dp (.of (u4 _ _ h3))) ⟨by omega, by omega⟩ (show 1 + sp ≤ 7 by omega)
abbrev S__law_train : Stmt := topS 33
theorem sc__law_train : FnScope ["_law_script", "_law_most", "_law_train_here", "_law_many", "_law_k", "_law_part_here"] ["_law_script", "_law_most"] (defScope S__law_train) := ⟨rfl, rfl, rfl, by decide +kernel, rfl, by decide +kernel, by decide +kernel⟩
def sp__law_train (K : PySem.W.Frag) : Sp := fun vs H Q _ => ∃ (a : Addr) (ns : List Int) (most : Int), vs = [.ref a, .int most] ∧ SqL K H a (ns.map V.int) ∧ 7 ≤ most ∧
  ∀ (ps : List Part) (ta : Addr) (ws : List V) H', Same H H' → H ta = none → H' ta = some (.lst ws) → DpAll K H' ws (ps.map Part.data) → (∀ p ∈ ps, p.ok ∧ p.places ≤ 7) → 1 ≤ ps.length → ps.length ≤ 5 → stands ps ≤ most → Q (.ref ta) H'
theorem ok__law_train {f : Addr} {fd : FuncData} {f__law_cell_at : Addr} {fd__law_cell_at : FuncData} {f__law_mix : Addr} {fd__law_mix : FuncData} {f__law_size : Addr} {fd__law_size : FuncData} {f__law_part : Addr} {fd__law_part : FuncData} (F : Fun K "_law_train" "_law_train" S__law_train f fd)
    (F__law_cell_at : Fun K "_law_cell_at" "_law_cell_at" S__law_cell_at f__law_cell_at fd__law_cell_at) (b__law_cell_at : Binds K fd__law_cell_at ["_law_script", "_law_k"] []) (g__law_cell_at : mg "_law_cell_at" = some (.ref f__law_cell_at)) (G__law_cell_at : FnOk P w K mg base CX0 1 f__law_cell_at fd__law_cell_at ["_law_script", "_law_k"] (sp__law_cell_at K))
    (F__law_mix : Fun K "_law_mix" "_law_mix" S__law_mix f__law_mix fd__law_mix) (b__law_mix : Binds K fd__law_mix ["_law_cell", "_law_k"] []) (g__law_mix : mg "_law_mix" = some (.ref f__law_mix)) (G__law_mix : FnOk P w K mg base CX0 1 f__law_mix fd__law_mix ["_law_cell", "_law_k"] (sp__law_mix K))
    (F__law_size : Fun K "_law_size" "_law_size" S__law_size f__law_size fd__law_size) (b__law_size : Binds K fd__law_size ["_law_part_here"] []) (g__law_size : mg "_law_size" = some (.ref f__law_size)) (G__law_size : FnOk P w K mg base CX0 1 f__law_size fd__law_size ["_law_part_here"] (sp__law_size K))
    (F__law_part : Fun K "_law_part" "_law_part" S__law_part f__law_part fd__law_part) (b__law_part : Binds K fd__law_part ["_law_cell"] []) (g__law_part : mg "_law_part" = some (.ref f__law_part)) (G__law_part : FnOk P w K mg base CX0 2 f__law_part fd__law_part ["_law_cell"] (sp__law_part K)) (m_range : mg "range" = none) :
    FnOk P w K mg base CX0 3 f fd ["_law_script", "_law_most"] (sp__law_train K) := by
  refine F.ok sc__law_train (fun vs H Q E h => ?_) (fun cdv A outer s H vs Q E hr h => ?_)
  ·
    obtain ⟨a, ns, most, rfl, _⟩ := h
    rfl
  ·
    obtain ⟨a, ns, most, rfl, hS, hm, q⟩ := h
    refine ⟨_, (pss_cons (ps_set (i := 2) sc__law_train.nd rfl (.inl rfl) (pe_lst (pa_cons (pe_call G__law_part (hr.mono (by decide)) (by rfl) g__law_part F__law_part.kp b__law_part .nil pass0 (pa_cons (pe_call G__law_cell_at (hr.mono (by decide)) (by rfl) g__law_cell_at F__law_cell_at.kp b__law_cell_at .nil pass0 (pa_cons (pv 0) (pa_cons pe_int pa_nil))) pa_nil)) pa_nil)))
      (pss_cons (ps_set (i := 3) sc__law_train.nd rfl (.inl rfl) (pe_call G__law_size (hr.mono (by decide)) (by rfl) g__law_size F__law_size.kp b__law_size .nil pass0 (pa_cons (pe_ix (r := rIxL K) ix_list (pv 2) pe_int (fun _ _ => rfl)) pa_nil)))
      (pss_cons (ps_for PassesOwn.never rfl (pi_range1 (by rfl) m_range (pa_cons (pe_op op_mod (pe_call G__law_mix (hr.mono (by decide)) (by rfl) g__law_mix F__law_mix.kp b__law_mix .nil pass0 (pa_cons (pe_call G__law_cell_at (hr.mono (by decide)) (by rfl) g__law_cell_at F__law_cell_at.kp b__law_cell_at .nil pass0 (pa_cons (pv 0) (pa_cons pe_int pa_nil))) (pa_cons pe_int pa_nil))) pe_int) pa_nil)) (pg_name (i := 4) sc__law_train.nd rfl (.inl rfl))
      (pss_cons (ps_set (i := 5) sc__law_train.nd rfl (.inl rfl) (pe_call G__law_part (hr.mono (by decide)) (by rfl) g__law_part F__law_part.kp b__law_part .nil pass0 (pa_cons (pe_call G__law_cell_at (hr.mono (by decide)) (by rfl) g__law_cell_at F__law_cell_at.kp b__law_cell_at .nil pass0 (pa_cons (pv 0) (pa_cons (pe_op op_add pe_int (pv 4)) pa_nil))) pa_nil)))
      (pss_one (ps_if (pt_cmpR op_le (pe_op op_mulW (pv 3) (pe_call G__law_size (hr.mono (by decide)) (by rfl) g__law_size F__law_size.kp b__law_size .nil pass0 (pa_cons (pv 5) pa_nil))) (pv 1) (nomark _)) (pss_cons (ps_expr (pe_bm PySem.F.plainAttrs_list PySem.F.slot_list_append PySem.F.type_list_append mt_append (pv 2) (pa_cons (pv 5) pa_nil)))
      (pss_one (ps_set (i := 3) sc__law_train.nd rfl (.inl rfl) (pe_op op_mulW (pv 3) (pe_call G__law_size (hr.mono (by decide)) (by rfl) g__law_size F__law_size.kp b__law_size .nil pass0 (pa_cons (pv 5) pa_nil)))))) pss_nil))))
      (pss_one (ps_ret (pv 2)))))), ?_⟩
    refine w_st (σ' := [some (.ref a), some (.int most), none, none, none, none]) rfl ?_
    walk_at "ct"
    refine ⟨a, ns, 1, rfl, hS, fun c1 => ?_⟩
    walk_at "ct"
    refine ⟨c1, rfl, fun v p H1 s1 hv ok pl => ?_⟩
    walk_at "ct"
    refine ⟨len2 rfl, fun l nl => ?_⟩
    have s2 : Same H1 (upd H1 l (.lst [v])) := same_upd nl
    have h2 : (upd H1 l (.lst [v])) l = some (.lst [v]) := upd_same
    have hv2 := dp_same s2 hv
    generalize upd H1 l _ = H2 at *
    have nlH : H l = none := s1.free nl
    have s12 := s1.trans s2
    walk_at "ct"
    refine w_ixL (.of h2) at0 ?_
    walk_at "ct"
    refine ⟨v, p, rfl, hv2, fun H3 s3 => ?_⟩
    have s13 := s12.trans s3
    walk_at "ct"
    refine ⟨a, ns, 0, rfl, s13.seq hS, fun c0 => ?_⟩
    walk_at "ct"
    refine ⟨c0, 0, rfl, by decide, by decide, fun m _ _ => ?_⟩
    walk_at "ct"
    refine w_mod (by decide) fun r r0 r1 => ?_
    walk_at "ct"
    refine w_RG1 (by omega) (by omega) ?_
    have po := ok.pos
    refine fb_range (fun i σ G => ∃ (y4 y5 : Option V) (ps : List Part) (ws : List V), σ = [some (.ref a), some (.int most), some (.ref l), some (.int (stands ps)), y4, y5] ∧ Same H G ∧ G l = some (.lst ws) ∧ DpAll K G ws (ps.map Part.data) ∧ (∀ p ∈ ps, p.ok ∧ p.places ≤ 7) ∧ 1 ≤ ps.length ∧ ps.length ≤ i + 1 ∧ stands ps ≤ most)
      ⟨none, none, [p], [v], by rw [show stands [p] = p.places from Int.mul_one _], s13, s3 _ _ h2, .cons (dp_same s3 hv2) .nil, (fun x hx => by rw [List.mem_singleton] at hx; rw [hx]; exact ⟨ok, pl⟩), Nat.le_refl _, Nat.le_refl _, by rw [show stands [p] = p.places from Int.mul_one _]; omega⟩ ?_ ?_
    · rintro i σ G hi ⟨y4, y5, ps, ws, rfl, sG, hl, hd, hok, l1, l2, few⟩
      have wl : ws.length = ps.length := by rw [dpAll_len hd, List.length_map]
      have sp := stands_pos ps fun p hp => (hok p hp).1
      have sb : stands ps ≤ 16807 := by
        have : ∀ (qs : List Part), (∀ p ∈ qs, p.ok ∧ p.places ≤ 7) → stands qs ≤ 7 ^ qs.length := fun qs => by
          induction qs with
          | nil => intro _; decide
          | cons q qs ih =>
            intro h
            have h1 := ih fun p hp => h p (List.mem_cons_of_mem _ hp)
            have h2 := h q List.mem_cons_self
            have h3 := h2.1.pos
            have h4 := stands_pos qs fun p hp => (h p (List.mem_cons_of_mem _ hp)).1
            show q.places * stands qs ≤ 7 ^ (qs.length + 1)
            rw [Int.pow_succ, Int.mul_comm]
            exact Int.mul_le_mul h1 h2.2 (by omega) (Int.le_of_lt (Int.pow_pos (by decide)))
        have h5 := this ps hok
        have h6 : ps.length = 1 ∨ ps.length = 2 ∨ ps.length = 3 ∨ ps.length = 4 ∨ ps.length = 5 := by omega
        rcases h6 with z | z | z | z | z <;> (rw [z] at h5; exact Int.le_trans h5 (by decide))
      rw [Int.zero_add (i : Int)]
      walk_at "ct"
      refine ⟨a, ns, 2 + i, by rw [show ((2 + i : Nat) : Int) = 2 + (i : Int) by omega]; rfl, sG.seq hS, fun c2 => ?_⟩
      walk_at "ct"
      refine ⟨c2, rfl, fun v2 p2 H4 s4 hv4 ok4 pl4 => ?_⟩
      have po4 := ok4.pos
      walk_at "ct"
      refine ⟨v2, p2, rfl, hv4, fun H5 s5 => ?_⟩
      refine w_rI (mul_ok (by omega) (by omega) (by omega) (by omega)) ?_
      walk_at "ct"
      have s45 := s4.trans s5
      have eS : stands (ps ++ [p2]) = stands ps * p2.places := stands_app ps p2
      refine w_ite (fun e => ?_) (fun e => ?_)
      · walk_at "ct"
        have hl5 := s45 _ _ hl
        refine ⟨ty_list hl5, ?_⟩
        walk_at "ct"
        refine w_append hl5 (by rw [wl]; exact small1000 (by omega)) ?_
        have hd5 := parts_upd (o := .lst (ws ++ [v2])) hl5 ps (dpAll_same s45 hd)
        have hv5 := part_upd (o := .lst (ws ++ [v2])) (dp_same s5 hv4) hl5
        have s6 : Same H (upd H5 l (.lst (ws ++ [v2]))) := same_new (sG.trans s45) nlH
        have h6 : (upd H5 l (.lst (ws ++ [v2]))) l = some (.lst (ws ++ [v2])) := upd_same
        generalize upd H5 l _ = H6 at *
        walk_at "ct"
        refine ⟨v2, p2, rfl, hv5, fun H7 s7 => ?_⟩
        refine w_rI (mul_ok (by omega) (by omega) (by omega) (by omega)) ?_
        walk_at "ct"
        refine ⟨_, _, ps ++ [p2], ws ++ [v2], by rw [eS], s6.trans s7, s7 _ _ h6, ?_, fun x hx => ?_, by rw [List.length_append]; omega, by rw [List.length_append]; show ps.length + 1 ≤ i + 1 + 1; omega, by rw [eS]; exact e⟩
        · rw [List.map_append]
          exact dpAll_same s7 (dpAll_app hd5 (.cons hv5 .nil))
        · rcases List.mem_append.mp hx with hx | hx
          · exact hok x hx
          · rw [List.mem_singleton] at hx
            rw [hx]
            exact ⟨ok4, pl4⟩
      · walk_at "ct"
        exact ⟨_, _, ps, ws, rfl, sG.trans s45, s45 _ _ hl, dpAll_same s45 hd, hok, l1, by omega, few⟩
    · rintro σ G ⟨y4, y5, ps, ws, rfl, sG, hl, hd, hok, l1, l2, few⟩
      walk_at "ct"
      exact q ps l ws G sG nlH hl hd hok l1 (by omega) few
abbrev S__law_stand : Stmt := topS 34
theorem sc__law_stand : FnScope ["_law_train_here", "_law_cell", "_law_k", "_law_part_here"] ["_law_train_here", "_law_cell"] (defScope S__law_stand) := ⟨rfl, rfl, rfl, by decide +kernel, rfl, by decide +kernel, by decide +kernel⟩
def sp__law_stand (K : PySem.W.Frag) : Sp := fun vs H Q _ => ∃ (a : Addr) (ps : List Part) (cell : Int), vs = [.ref a, .int cell] ∧ TrainAt K H a ps ∧ (∀ p ∈ ps, p.ok) ∧ ps.length ≤ 100 ∧
  ∀ (xs : List Int) t H', Same H H' → H t = none → H' t = some (.tup (xs.map V.int)) → StandOk ps xs → Q (.ref t) H'
theorem ok__law_stand {f : Addr} {fd : FuncData} {f__law_mix : Addr} {fd__law_mix : FuncData} {f__law_size : Addr} {fd__law_size : FuncData} (F : Fun K "_law_stand" "_law_stand" S__law_stand f fd)
    (F__law_mix : Fun K "_law_mix" "_law_mix" S__law_mix f__law_mix fd__law_mix) (b__law_mix : Binds K fd__law_mix ["_law_cell", "_law_k"] []) (g__law_mix : mg "_law_mix" = some (.ref f__law_mix)) (G__law_mix : FnOk P w K mg base CX0 1 f__law_mix fd__law_mix ["_law_cell", "_law_k"] (sp__law_mix K))
    (F__law_size : Fun K "_law_size" "_law_size" S__law_size f__law_size fd__law_size) (b__law_size : Binds K fd__law_size ["_law_part_here"] []) (g__law_size : mg "_law_size" = some (.ref f__law_size)) (G__law_size : FnOk P w K mg base CX0 1 f__law_size fd__law_size ["_law_part_here"] (sp__law_size K)) (m_tuple : mg "tuple" = none) (m_enumerate : mg "enumerate" = none) :
    FnOk P w K mg base CX0 2 f fd ["_law_train_here", "_law_cell"] (sp__law_stand K) := by
  refine F.ok sc__law_stand (fun vs H Q E h => ?_) (fun cdv A outer s H vs Q E hr h => ?_)
  ·
    obtain ⟨a, ps, cell, rfl, _⟩ := h
    rfl
  ·
    obtain ⟨a, ps, cell, rfl, ⟨vs, hv, hd⟩, hok, hps, q⟩ := h
    refine ⟨_, (pss_one (ps_ret (pe_callTy call_tuple_of (by rfl) m_tuple (by decide +kernel) (pa_cons (pe_lc (own := [("_law_k", 2), ("_law_part_here", 3)]) (g := gTup K 2 (gCons (gName 2) (gCons (gName 3) gNil)))  rfl sc__law_stand.nd  (pi_enum (by rfl) m_enumerate (pa_cons (pv 0) pa_nil)) (blkOk_by (own := [("_law_k", 2), ("_law_part_here", 3)]) (N := ["_law_train_here", "_law_cell", "_law_k", "_law_part_here"]) (sc := defScope S__law_stand) (by decide +kernel)) (fun _ _ _ _ _ => pg_tup rfl (pgs_cons (pg_name (i := 2) sc__law_stand.nd rfl (Or.inl rfl)) (pgs_cons (pg_name (i := 3) sc__law_stand.nd rfl (Or.inl rfl)) pgs_nil))) (fun _ _ _ _ _ => pts_nil) (fun _ _ _ _ _ => (pe_op op_mod (pe_call G__law_mix (hr.mono (by decide)) (by rfl) g__law_mix F__law_mix.kp b__law_mix .nil pass0 (pa_cons (pv 1) (pa_cons (pv 2) pa_nil))) (pe_call G__law_size (hr.mono (by decide)) (by rfl) g__law_size F__law_size.kp b__law_size .nil pass0 (pa_cons (pv 3) pa_nil))))) pa_nil)))), ?_⟩
    refine w_st (σ' := [some (.ref a), some (.int cell), none, none]) rfl ?_
    have hvl : vs.length = ps.length := by rw [dpAll_len hd, List.length_map]
    walk_at "ct"
    refine w_IE hv ?_
    refine lb_enum vs (fun D n H1 => Same H H1 ∧ ∃ xs : List Int, H1 D = some (.lst (xs.map V.int)) ∧ xs.length = n ∧ ∀ (i : Nat) (p : Part) (x : Int), ps[i]? = some p → xs[i]? = some x → 0 ≤ x ∧ x < p.places) (fun D hD => ⟨same_upd hD, [], upd_same, rfl, fun i p x _ h => by simp at h⟩) (fun D hD i H1 _ h => h.1.seq hv) ?_ ?_
    · rintro D hD n v T H1 hx ⟨sm, xs, hl, xl, hxs⟩ hT
      have hn : n < vs.length := (List.getElem?_eq_some_iff.mp hx).1
      obtain ⟨p, hp⟩ : ∃ p, ps[n]? = some p := ⟨_, List.getElem?_eq_getElem (by omega)⟩
      obtain ⟨v', hv1, hd1⟩ := TrainAt.at (a := a) hd hp
      cases Option.some.inj (hx.symm.trans hv1)
      have ok := (hok p (List.mem_of_getElem? hp)).pos
      have sT := sm.trans (same_upd (o := .tup [.int (n : Nat), v]) hT)
      refine w_gtup (.of upd_same) rfl ?_
      walk_at "ct"
      refine ⟨rfl, ?_⟩
      walk_at "ct"
      refine ⟨cell, _, rfl, by omega, by omega, fun far f0 f1 => ?_⟩
      walk_at "ct"
      refine ⟨v, p, rfl, dp_same sT hd1, fun H2 s2 => ?_⟩
      have sT2 := sT.trans s2
      refine w_mod (by omega) fun r r0 r1 => ?_
      have hl2 : H2 D = some (.lst (xs.map V.int)) := s2 _ _ ((same_upd hT) _ _ hl)
      refine ⟨xs.map V.int, hl2, by rw [List.length_map]; exact small1000 (by omega), same_new sT2 hD, xs ++ [r], by rw [upd_same, List.map_append]; rfl, by rw [List.length_append, xl]; rfl, fun i p' x hp' hx' => ?_⟩
      by_cases hi : i < n
      · rw [List.getElem?_append_left (by omega)] at hx'
        exact hxs i p' x hp' hx'
      · have hi2 : i = n := by
          have z := (List.getElem?_eq_some_iff.mp hx').1
          rw [List.length_append, xl] at z
          have z2 : i < n + 1 := z
          omega
        subst hi2
        cases Option.some.inj (hp.symm.trans hp')
        rw [List.getElem?_append_right (by omega), xl, Nat.sub_self] at hx'
        cases Option.some.inj hx'
        exact ⟨r0, r1⟩
    · rintro D hD H1 ⟨sm, xs, hl, xl, hxs⟩
      walk_at "ct"
      refine ⟨D, _, rfl, .inl ⟨.of hl, fun u nu => ?_⟩⟩
      exact q xs u _ (same_new sm (sm.free nu)) (sm.free nu) upd_same ⟨by omega, hxs⟩
abbrev S__law_given : Stmt := topS 35
theorem sc__law_given : FnScope ["_law_part_here", "_law_place", "_law_way"] ["_law_part_here", "_law_place", "_law_way"] (defScope S__law_given) := ⟨rfl, rfl, rfl, by decide +kernel, rfl, by decide +kernel, by decide +kernel⟩
def sp__law_given (K : PySem.W.Frag) : Sp := fun vs H Q _ => ∃ (v : V) (p : Part) (x w : Int), vs = [v, .int x, .int w] ∧ Dp K H v p.data ∧ p.ok ∧ 0 ≤ x ∧ x < p.places ∧ Sign w ∧ ∀ t H', Same H H' → H t = none → H' t = some (.tup [.int (pp p x w).1, .int (pp p x w).2]) → Q (.ref t) H'
theorem ok__law_given {f : Addr} {fd : FuncData} (F : Fun K "_law_given" "_law_given" S__law_given f fd) (m_int : mg "int" = none) (m_max : mg "max" = none) :
    FnOk P w K mg base CX0 1 f fd ["_law_part_here", "_law_place", "_law_way"] (sp__law_given K) := by
  refine F.ok sc__law_given (fun vs H Q E h => ?_) (fun cdv A outer s H vs Q E hr h => ?_)
  ·
    obtain ⟨v, p, x, w, rfl, _⟩ := h
    rfl
  ·
    obtain ⟨v, p, x, w, rfl, hp, hok, x0, x1, hw, q⟩ := h
    refine ⟨_, (pss_cons (ps_if (PW.pt (pw_and (pt_cmpR op_eq (pe_ix (r := rIxT K) ix_tup (pv 0) pe_int (fun _ _ => rfl)) pe_str (nomark _)) (pw_and1 (pt_cmpR op_eq (pv 2) pe_int (nomark _))))) (pss_cons (ps_set (i := 1) sc__law_given.nd rfl (.inl rfl) (pe_op op_mod (pe_op op_add (pv 1) pe_int) (pe_ix (r := rIxT K) ix_tup (pv 0) pe_int (fun _ _ => rfl))))
      (pss_one (ps_ret (pe_tup (pa_cons (pv 1) (pa_cons (pe_callTy call_int1 (by rfl) m_int (by decide +kernel) (pa_cons (pe_cmpR (r := rIn K false) op_in_seq (pv 1) (pe_ix (r := rIxT K) ix_tup (pv 0) pe_int (fun _ _ => rfl)) (by rfl)) pa_nil)) pa_nil)))))) pss_nil)
      (pss_cons (ps_if (pt_cmpR op_eq (pe_ix (r := rIxT K) ix_tup (pv 0) pe_int (fun _ _ => rfl)) pe_str (nomark _)) (pss_one (ps_ret (pe_tup (pa_cons (pe_op op_mod (pe_op op_sub (pv 1) pe_int) (pe_ix (r := rIxT K) ix_tup (pv 0) pe_int (fun _ _ => rfl))) (pa_cons (pe_op op_sub pe_int (pe_callTy call_int1 (by rfl) m_int (by decide +kernel) (pa_cons (pe_cmpR (r := rIn K false) op_in_seq (pv 1) (pe_ix (r := rIxT K) ix_tup (pv 0) pe_int (fun _ _ => rfl)) (by rfl)) pa_nil))) pa_nil))))) pss_nil)
      (pss_cons (ps_if (pt_cmpR op_eq (pe_ix (r := rIxT K) ix_tup (pv 0) pe_int (fun _ _ => rfl)) pe_str (nomark _)) (pss_one (ps_ret (pe_tup (pa_cons pe_int (pa_cons (pe_callB (call_max2 rfl) (by rfl) m_max (by decide +kernel) (pa_cons pe_int (pa_cons (pv 2) pa_nil))) pa_nil))))) pss_nil)
      (pss_cons (ps_if (pt_cmpR op_eq (pe_ix (r := rIxT K) ix_tup (pv 0) pe_int (fun _ _ => rfl)) pe_str (nomark _)) (pss_one (ps_ret (pe_tup (pa_cons (pe_callB (call_max2 rfl) (by rfl) m_max (by decide +kernel) (pa_cons pe_int (pa_cons (pv 2) pa_nil))) (pa_cons (pe_callTy call_int1 (by rfl) m_int (by decide +kernel) (pa_cons (pe_and (pe_cmpR op_eq (pv 2) pe_int (nomark _)) (pe_one (pe_cmpR op_eq (pv 1) pe_int (nomark _)))) pa_nil)) pa_nil))))) pss_nil)
      (pss_cons (ps_if (pt_cmpR op_eq (pv 2) (pe_un un_neg pe_int) (nomark _)) (pss_one (ps_ret (pe_tup (pa_cons (pe_callB (call_max2 rfl) (by rfl) m_max (by decide +kernel) (pa_cons pe_int (pa_cons (pe_op op_sub (pv 1) pe_int) pa_nil))) (pa_cons pe_int pa_nil))))) pss_nil)
      (pss_one (ps_ret (pe_tup (pa_cons (pe_op op_mod (pe_op op_add (pv 1) pe_int) (pe_ix (r := rIxT K) ix_tup (pv 0) pe_int (fun _ _ => rfl))) (pa_cons (pe_callTy call_int1 (by rfl) m_int (by decide +kernel) (pa_cons (pe_cmpR op_eq (pe_op op_add (pv 1) pe_int) (pe_ix (r := rIxT K) ix_tup (pv 0) pe_int (fun _ _ => rfl)) (nomark _)) pa_nil)) pa_nil)))))))))), ?_⟩
    refine w_st (σ' := [some v, some (.int x), some (.int w)]) rfl ?_
    have tup : ∀ (c d : Int) t, pp p x w = (c, d) → H t = none → Q (.ref t) (upd H t (.tup [.int c, .int d])) := fun c d t e nt => q t _ (same_upd nt) nt (by rw [upd_same, e])
    cases p with
    | wheel z ms =>
      obtain ⟨a, b, rfl, ha, hb⟩ := wheel_inv hp
      have hz : 1 ≤ z := hok.1
      walk_at "ct"
      refine w_ite (fun e => ?_) (fun e => ?_)
      · walk_at "ct"
        refine w_rI (by omega) ?_
        walk_at "ct"
        refine w_inT hb ?_
        walk_at "ct"
        refine .inr ⟨_, rfl, ?_⟩
        walk_at "ct"
        refine ⟨len2 rfl, fun p np => tup _ _ p ?_ np⟩
        subst e
        simp only [pp]
        by_cases e2 : (x + 1) % z ∈ ms
        · simp [e2]
        · simp [e2]
      · have e1 : w = -1 := hw.elim (fun z => absurd z e) id
        subst e1
        walk_at "ct"
        refine w_rI (by omega) ?_
        walk_at "ct"
        refine w_inT hb ?_
        walk_at "ct"
        refine .inr ⟨_, rfl, ?_⟩
        walk_at "ct"
        refine ⟨len2 rfl, fun p np => tup _ _ p ?_ np⟩
        simp only [pp]
        by_cases e2 : x ∈ ms
        · simp [e2]; rfl
        · simp [e2]; rfl
    | click =>
      obtain ⟨a, rfl, ha⟩ := click_inv hp
      walk_at "ct"
      refine ⟨0, w, rfl, ?_⟩
      walk_at "ct"
      refine ⟨len2 rfl, fun p np => tup _ _ p ?_ np⟩
      rcases hw with rfl | rfl <;> rfl
    | rocker =>
      obtain ⟨a, rfl, ha⟩ := rocker_inv hp
      walk_at "ct"
      refine ⟨0, w, rfl, ?_⟩
      walk_at "ct"
      refine w_ite (fun e => ?_) (fun e => ?_)
      · subst e
        walk_at "ct"
        refine .inr ⟨_, rfl, ?_⟩
        walk_at "ct"
        refine ⟨len2 rfl, fun p np => tup _ _ p ?_ np⟩
        simp only [pp]
        by_cases e2 : x = 0
        · simp [e2]
        · simp [e2]
      · have e1 : w = -1 := hw.elim (fun z => absurd z e) id
        subst e1
        walk_at "ct"
        refine .inr ⟨_, rfl, ?_⟩
        walk_at "ct"
        exact ⟨len2 rfl, fun p np => tup _ _ p rfl np⟩
    | spring k =>
      obtain ⟨a, rfl, ha⟩ := spring_inv hp
      have hk : 1 ≤ k := hok.1
      have xk : x < k := x1
      walk_at "ct"
      refine w_ite (fun e => ?_) (fun e => ?_)
      · subst e
        walk_at "ct"
        refine ⟨0, _, rfl, ?_⟩
        walk_at "ct"
        exact ⟨len2 rfl, fun p np => tup _ _ p rfl np⟩
      · have e1 : w = 1 := hw.elim id (fun z => absurd z e)
        subst e1
        walk_at "ct"
        refine w_rI (by omega) ?_
        walk_at "ct"
        refine .inr ⟨_, rfl, ?_⟩
        walk_at "ct"
        refine ⟨len2 rfl, fun p np => tup _ _ p ?_ np⟩
        show (if (1 : Int) = 1 then (if x = k - 1 then ((0 : Int), (1 : Int)) else (x + 1, 0)) else (if x - 1 > 0 then x - 1 else 0, 0)) = _
        rw [if_pos rfl]
        by_cases e2 : x = k - 1
        · rw [if_pos e2, show x + 1 = k by omega, Int.emod_self, decide_eq_true rfl, if_pos rfl]
        · rw [if_neg e2, Int.emod_eq_of_lt (by omega) (by omega), decide_eq_false (by omega), if_neg Bool.false_ne_true]
abbrev S__law_pushed : Stmt := topS 36
theorem sc__law_pushed : FnScope ["_law_train_here", "_law_stand_here", "_law_i", "_law_way", "_law_told", "_law_at"] ["_law_train_here", "_law_stand_here", "_law_i", "_law_way"] (defScope S__law_pushed) := ⟨rfl, rfl, rfl, by decide +kernel, rfl, by decide +kernel, by decide +kernel⟩
def sp__law_pushed (K : PySem.W.Frag) : Sp := fun vs H Q _ => ∃ (a t : Addr) (ps : List Part) (xs : List Int) (i : Nat) (w : Int), vs = [.ref a, .ref t, .int i, .int w] ∧ TrainAt K H a ps ∧ (∀ p ∈ ps, p.ok) ∧ SqT K H t (xs.map V.int) ∧ StandOk ps xs ∧ i ≤ ps.length ∧ ps.length ≤ 1000 ∧ Sign w ∧
  ∀ q u H', Same H H' → H u = none → H q = none → H' u = some (.tup ((run ps xs i w).1.map V.int)) → H' q = some (.tup [.ref u, .int (run ps xs i w).2]) → Q (.ref q) H'
theorem ok__law_pushed {f : Addr} {fd : FuncData} {f__law_given : Addr} {fd__law_given : FuncData} (F : Fun K "_law_pushed" "_law_pushed" S__law_pushed f fd)
    (F__law_given : Fun K "_law_given" "_law_given" S__law_given f__law_given fd__law_given) (b__law_given : Binds K fd__law_given ["_law_part_here", "_law_place", "_law_way"] []) (g__law_given : mg "_law_given" = some (.ref f__law_given)) (G__law_given : FnOk P w K mg base CX0 1 f__law_given fd__law_given ["_law_part_here", "_law_place", "_law_way"] (sp__law_given K)) (m_list : mg "list" = none) (m_range : mg "range" = none) (m_len : mg "len" = none) (m_tuple : mg "tuple" = none) :
    FnOk P w K mg base CX0 2 f fd ["_law_train_here", "_law_stand_here", "_law_i", "_law_way"] (sp__law_pushed K) := by
  refine F.ok sc__law_pushed (fun vs H Q E h => ?_) (fun cdv A outer s H vs Q E hr h => ?_)
  ·
    obtain ⟨a, t, ps, xs, i, w, rfl, _⟩ := h
    rfl
  ·
    obtain ⟨a, t, ps, xs, i, w, rfl, ⟨vs, hv, hd⟩, hok, hS, hso, hi, hps, hw, q⟩ := h
    refine ⟨_, (pss_cons (ps_set (i := 4) sc__law_pushed.nd rfl (.inl rfl) (pe_callTy call_list_of (by rfl) m_list (by decide +kernel) (pa_cons (pv 1) pa_nil)))
      (pss_cons (ps_for PassesOwn.never rfl (pi_range2 (by rfl) m_range (pa_cons (pv 2) (pa_cons (pe_callB call_len_seq (by rfl) m_len (by decide +kernel) (pa_cons (pv 0) pa_nil)) pa_nil))) (pg_name (i := 5) sc__law_pushed.nd rfl (.inl rfl))
      (pss_one (ps_if (pt_cmpR op_ne (pv 3) pe_int (nomark _)) (pss_one (ps_asg (pe_call G__law_given (hr.mono (by decide)) (by rfl) g__law_given F__law_given.kp b__law_given .nil pass0 (pa_cons (pe_ix (r := rIxL K) ix_list (pv 0) (pv 5) (fun _ _ => rfl)) (pa_cons (pe_ix (r := rIxL K) ix_list (pv 4) (pv 5) (fun _ _ => rfl)) (pa_cons (pv 3) pa_nil)))) (pg_tup rfl (pgs_cons (pg_sub (pv 4) (pv 5) set_list) (pgs_cons (pg_name (i := 3) sc__law_pushed.nd rfl (.inl rfl)) pgs_nil))))) pss_nil)))
      (pss_one (ps_ret (pe_tup (pa_cons (pe_callTy call_tuple_of (by rfl) m_tuple (by decide +kernel) (pa_cons (pv 4) pa_nil)) (pa_cons (pv 3) pa_nil))))))), ?_⟩
    refine w_st (σ' := [some (.ref a), some (.ref t), some (.int i), some (.int w), none, none]) rfl ?_
    have hvl : vs.length = ps.length := by rw [dpAll_len hd, List.length_map]
    have hxl : xs.length = ps.length := hso.1
    walk_at "ct"
    refine ⟨t, _, rfl, .inr hS, fun l nl => ?_⟩
    walk_at "ct"
    refine ⟨a, vs, rfl, .inl ((same_upd nl).seq hv), ?_⟩
    walk_at "ct"
    refine w_RG2 (by omega) (by omega) (by omega) (by omega) ?_
    rw [show ((vs.length : Int) - (i : Int)).toNat = ps.length - i by omega]
    refine fb_range (fun n σ H' => ∃ y, σ = [some (.ref a), some (.ref t), some (.int i), some (.int (runN ps i (xs, w) n).2), some (.ref l), y] ∧ Same H H' ∧ H' l = some (.lst ((runN ps i (xs, w) n).1.map V.int))) ⟨none, rfl, same_upd nl, upd_same⟩ ?_ ?_
    · rintro n σ H' hn ⟨y, rfl, sm, hl⟩
      obtain ⟨p, hp⟩ : ∃ p, ps[i + n]? = some p := ⟨_, List.getElem?_eq_getElem (by omega)⟩
      obtain ⟨v, hv1, hd1⟩ := TrainAt.at (a := a) hd hp
      obtain ⟨x, hx⟩ : ∃ x, xs[i + n]? = some x := ⟨_, List.getElem?_eq_getElem (by omega)⟩
      have hx2 : (runN ps i (xs, w) n).1[i + n]? = some x := by
        rw [runN_ahead ps i (xs, w) n (i + n) (Nat.le_refl _)]
        exact hx
      have hx0 := hso.2 _ _ _ hp hx
      walk_at "ct"
      refine w_iteN (fun e => ?_) (fun e => ?_)
      ·
        walk_at "ct"
        refine w_ixL (sm.seq hv) (at_of (j := i + n) (by omega) hv1) ?_
        walk_at "ct"
        refine w_ixL (.of hl) (at_of (j := i + n) (by omega) (by rw [List.getElem?_map, hx2]; rfl)) ?_
        walk_at "ct"
        refine ⟨v, p, x, _, rfl, dp_same sm hd1, hok p (List.mem_of_getElem? hp), hx0.1, hx0.2, (runN_sign ps i (xs, w) hw n).resolve_left e, fun u H1 s1 n1 hu => ?_⟩
        refine w_gtup (.of hu) rfl ?_
        walk_at "ct"
        refine w_setL (s1 _ _ hl) (ix_at (j := i + n) (by omega) (by rw [List.length_map, runN_len]; show i + n < xs.length; omega)) ?_
        walk_at "ct"
        have er : runN ps i (xs, w) (n + 1) = ((runN ps i (xs, w) n).1.set (i + n) (pp p x (runN ps i (xs, w) n).2).1, (pp p x (runN ps i (xs, w) n).2).2) := stp_at e hp hx2
        refine ⟨some (.int ((i : Int) + (n : Int))), ?_, same_new (sm.trans s1) nl, ?_⟩
        · rw [er]
        · rw [er, upd_same, List.map_set]
      · walk_at "ct"
        have er : runN ps i (xs, w) (n + 1) = runN ps i (xs, w) n := runN_zero e 1
        refine ⟨some (.int ((i : Int) + (n : Int))), ?_, sm, ?_⟩
        · rw [er]
        · rw [er]
          exact hl
    · rintro σ H' ⟨y, rfl, sm, hl⟩
      ·
        walk_at "ct"
        refine ⟨l, _, rfl, .inl ⟨.of hl, fun u nu => ?_⟩⟩
        walk_at "ct"
        refine ⟨len2 rfl, fun p np => ?_⟩
        have s2 : Same H (upd H' u (.tup ((run ps xs i w).1.map V.int))) := same_new sm (sm.free nu)
        exact q p u _ (same_new s2 (s2.free np)) (sm.free nu) (s2.free np) (by rw [upd_ne (ne_of_none upd_same np)]; exact upd_same) upd_same
abbrev S__law_wears : Stmt := topS 38
theorem sc__law_wears : FnScope ["_law_train_here", "_law_told", "_law_i", "_law_part_here", "_law_mark"] ["_law_train_here"] (defScope S__law_wears) := ⟨rfl, rfl, rfl, by decide +kernel, rfl, by decide +kernel, by decide +kernel⟩
def sp__law_wears (K : PySem.W.Frag) : Sp := fun vs H Q _ => ∃ (a : Addr) (ps : List Part), vs = [.ref a] ∧ TrainAt K H a ps ∧ (∀ p ∈ ps, p.ok) ∧ 1 ≤ ps.length ∧ ps.length ≤ 10 ∧
  ∀ l ws H', Same H H' → H l = none → H' l = some (.lst ws) → DpAll K H' ws ((wearsN ps ps.length).map wearD) → Q (.ref l) H'
theorem ok__law_wears {f : Addr} {fd : FuncData} (F : Fun K "_law_wears" "_law_wears" S__law_wears f fd) (m_enumerate : mg "enumerate" = none) :
    FnOk P w K mg base CX0 1 f fd ["_law_train_here"] (sp__law_wears K) := by
  refine F.ok sc__law_wears (fun vs H Q E h => ?_) (fun cdv A outer s H vs Q E hr h => ?_)
  ·
    obtain ⟨a, ps, rfl, _⟩ := h
    rfl
  ·
    obtain ⟨a, ps, rfl, ⟨vs, hv, hd⟩, hok, hp1, hps, q⟩ := h
    refine ⟨_, (pss_cons (ps_set (i := 1) sc__law_wears.nd rfl (.inl rfl) (pe_lst (pa_cons pe_non pa_nil)))
      (pss_cons (ps_for PassesOwn.never rfl (pi_enum (by rfl) m_enumerate (pa_cons (pv 0) pa_nil)) (pg_tup rfl (pgs_cons (pg_name (i := 2) sc__law_wears.nd rfl (.inr rfl)) (pgs_cons (pg_name (i := 3) sc__law_wears.nd rfl (.inl rfl)) pgs_nil)))
      (pss_one (ps_if (pt_cmpR op_eq (pe_ix (r := rIxT K) ix_tup (pv 3) pe_int (fun _ _ => rfl)) pe_str (nomark _)) (pss_one (ps_set (i := 1) sc__law_wears.nd rfl (.inl rfl) (pe_op op_cat (pv 1) (pe_lc (own := [("_law_mark", 4)]) (g := gName 4)  rfl sc__law_wears.nd  (pi_tup (pe_ix (r := rIxT K) ix_tup (pv 3) pe_int (fun _ _ => rfl))) (blkOk_by (own := [("_law_mark", 4)]) (N := ["_law_train_here", "_law_told", "_law_i", "_law_part_here", "_law_mark"]) (sc := defScope S__law_wears) (by decide +kernel)) (fun _ _ _ _ _ => pg_name (i := 4) sc__law_wears.nd rfl (Or.inl rfl)) (fun _ _ _ _ _ => pts_nil) (fun _ _ _ _ _ => (pe_tup (pa_cons (pv 2) (pa_cons (pv 4) pa_nil)))))))) pss_nil)))
      (pss_one (ps_ret (pv 1))))), ?_⟩
    refine w_st (σ' := [some (.ref a), none, none, none, none]) rfl ?_
    have hvl : vs.length = ps.length := by rw [dpAll_len hd, List.length_map]
    walk_at "ct"
    obtain ⟨H1, e1⟩ : ∃ H1, H1 = H := ⟨_, rfl⟩
    have s1 : Same H H1 := by rw [e1]; exact Same.refl H
    rw [← e1]
    refine ⟨len2 rfl, fun l nl => ?_⟩
    have s2 : Same H1 (upd H1 l (.lst [.non])) := same_upd nl
    have h2 : (upd H1 l (.lst [.non])) l = some (.lst [.non]) := upd_same
    generalize upd H1 l _ = H2 at *
    have s12 := s1.trans s2
    have nlH := s1.free nl
    walk_at "ct"
    refine w_IE (s12.seq hv) ?_
    refine fb_enum vs (fun n σ G => ∃ (l : Addr) (y2 y3 : Option V) (ws : List V), σ = [some (.ref a), some (.ref l), y2, y3, none] ∧ Same H G ∧ H l = none ∧ G l = some (.lst ws) ∧ DpAll K G ws ((wearsN ps n).map wearD)) ⟨l, none, none, _, rfl, s12, nlH, h2, .cons .non .nil⟩ ?_ ?_ ?_
    · rintro n σ G _ ⟨l, y2, y3, ws, rfl, sG, _⟩
      exact sG.seq hv
    · rintro n v T σ G hx ⟨l, y2, y3, ws, rfl, sG, nlH, hl, hw⟩ nT
      have hn : n < vs.length := (List.getElem?_eq_some_iff.mp hx).1
      obtain ⟨p, hp⟩ : ∃ p, ps[n]? = some p := ⟨_, List.getElem?_eq_getElem (by omega)⟩
      obtain ⟨v', hv1, hd1⟩ := TrainAt.at (a := a) hd hp
      cases Option.some.inj (hx.symm.trans hv1)
      have sT : Same G (upd G T (.tup [.int (n : Nat), v])) := same_upd nT
      have hT : (upd G T (.tup [.int (n : Nat), v])) T = some (.tup [.int (n : Nat), v]) := upd_same
      generalize upd G T _ = G1 at *
      have s3 := sG.trans sT
      have hl3 := sT _ _ hl
      have hw3 := dpAll_same sT hw
      have hd3 := dp_same s3 hd1
      have wl : ws.length ≤ 1 + 1000 * n := by
        rw [dpAll_len hw, List.length_map]
        exact wears_len hok n
      refine w_gtup (.of hT) rfl ?_
      cases p with
      | wheel z ms =>
        obtain ⟨g, b, rfl, hg, hb⟩ := wheel_inv hd3
        have ml : ms.length ≤ 1000 := (hok _ (List.mem_of_getElem? hp)).2.2.2
        walk_at "ct"
        refine w_IT hb ?_
        refine lb_tup (ms.map V.int) (fun D i G2 => Same G1 G2 ∧ ∃ us, G2 D = some (.lst us) ∧ DpAll K G2 us (((ms.take i).map fun m => some (n, m)).map wearD)) (fun D hD => ⟨same_upd hD, [], upd_same, .nil⟩) (fun D hD i G2 _ h => Same.tup h.1 hb) ?_ ?_
        · rintro D hD i x G2 hx2 ⟨sm, us, hus, hdd⟩
          obtain ⟨c, hc, rfl⟩ : ∃ c : Int, ms[i]? = some c ∧ x = .int c := by
            rw [List.getElem?_map] at hx2
            cases e : ms[i]? with
            | none => rw [e] at hx2; cases hx2
            | some c => rw [e] at hx2; exact ⟨c, rfl, (Option.some.inj hx2).symm⟩
          have hi : i < ms.length := (List.getElem?_eq_some_iff.mp hc).1
          have ul : us.length ≤ i := by
            rw [dpAll_len hdd, List.length_map, List.length_map, List.length_take]
            omega
          walk_at "ct"
          refine ⟨rfl, ?_⟩
          walk_at "ct"
          refine ⟨len2 rfl, fun k nk => ?_⟩
          have v1 := same_upd (o := .tup [.int (n : Nat), .int c]) nk
          have kD : D ≠ k := ne_of_none hus nk
          refine ⟨us, by rw [upd_ne kD]; exact hus, small1000 (by omega), same_new (sm.trans v1) hD, us ++ [.ref k], upd_same, ?_⟩
          rw [List.take_add_one, hc, Option.toList_some, List.map_append, List.map_append]
          refine dpAll_app (wears_upd (by rw [upd_ne kD]; exact hus) (dpAll_same v1 hdd)) (.cons (wear_upd (by rw [upd_ne kD]; exact hus) (.tup (.of upd_same) (.cons (.int _) (.cons (.int _) .nil)))) .nil)
        · rintro D hD G2 ⟨sm, us, hus, hdd⟩
          rw [List.length_map, List.take_length] at hdd
          have ul : us.length ≤ 1000 := by
            rw [dpAll_len hdd, List.length_map, List.length_map]
            omega
          have eW : (wearsN ps (n + 1)).map wearD = (wearsN ps n).map wearD ++ (ms.map fun m => some (n, m)).map wearD := by
            rw [wearsN, hp, List.map_append]
          walk_at "ct"
          refine ⟨l, D, ws, us, rfl, rfl, sm _ _ hl3, hus, Nat.le_trans (show ws.length + us.length ≤ 20000 by omega) (by decide), fun k nk => ?_⟩
          have s5 := same_upd (o := .lst (ws ++ us)) nk
          walk_at "ct"
          refine ⟨k, _, _, _, rfl, (s3.trans sm).trans s5, (s3.trans sm).free nk, upd_same, ?_⟩
          rw [eW]
          exact dpAll_same s5 (dpAll_app (dpAll_same sm hw3) hdd)
      | click =>
        obtain ⟨g, rfl, hg⟩ := click_inv hd3
        walk_at "ct"
        refine ⟨l, _, _, ws, rfl, s3, nlH, hl3, ?_⟩
        rw [wearsN, hp, List.append_nil]
        exact hw3
      | rocker =>
        obtain ⟨g, rfl, hg⟩ := rocker_inv hd3
        walk_at "ct"
        refine ⟨l, _, _, ws, rfl, s3, nlH, hl3, ?_⟩
        rw [wearsN, hp, List.append_nil]
        exact hw3
      | spring k =>
        obtain ⟨g, rfl, hg⟩ := spring_inv hd3
        walk_at "ct"
        refine ⟨l, _, _, ws, rfl, s3, nlH, hl3, ?_⟩
        rw [wearsN, hp, List.append_nil]
        exact hw3
    · rintro σ G ⟨l, y2, y3, ws, rfl, sG, nlH, hl, hw⟩
      rw [hvl] at hw
      walk_at "ct"
      exact q l ws G sG nlH hl hw
abbrev S__law_worn : Stmt := topS 39
theorem sc__law_worn : FnScope ["_law_train_here", "_law_wear", "_law_told", "_law_part_here", "_law_mark"] ["_law_train_here", "_law_wear"] (defScope S__law_worn) := ⟨rfl, rfl, rfl, by decide +kernel, rfl, by decide +kernel, by decide +kernel⟩
def sp__law_worn (K : PySem.W.Frag) : Sp := fun vs H Q _ => ∃ (a : Addr) (v : V) (ps : List Part) (wr : Option (Nat × Int)), vs = [.ref a, v] ∧ TrainAt K H a ps ∧ (∀ p ∈ ps, p.ok) ∧ WearAt K H v wr ∧ (∀ i m, wr = some (i, m) → ∃ z ms, ps[i]? = some (.wheel z ms)) ∧
  ∀ l ws H', Same H H' → H l = none → H' l = some (.lst ws) → DpAll K H' ws ((wornP ps wr).map Part.data) → Q (.ref l) H'
theorem ok__law_worn {f : Addr} {fd : FuncData} (F : Fun K "_law_worn" "_law_worn" S__law_worn f fd) (m_list : mg "list" = none) (m_tuple : mg "tuple" = none) :
    FnOk P w K mg base CX0 1 f fd ["_law_train_here", "_law_wear"] (sp__law_worn K) := by
  refine F.ok sc__law_worn (fun vs H Q E h => ?_) (fun cdv A outer s H vs Q E hr h => ?_)
  ·
    obtain ⟨a, v, ps, wr, rfl, _⟩ := h
    rfl
  ·
    obtain ⟨a, v, ps, wr, rfl, ⟨vs, hv, hd⟩, hok, hw, hwh, q⟩ := h
    refine ⟨_, (pss_cons (ps_set (i := 2) sc__law_worn.nd rfl (.inl rfl) (pe_callTy call_list_of (by rfl) m_list (by decide +kernel) (pa_cons (pv 0) pa_nil)))
      (pss_cons (ps_if (pt_cmpR op_notN (pv 1) pe_non (nomark _)) (pss_cons (ps_set (i := 3) sc__law_worn.nd rfl (.inl rfl) (pe_ix (r := rIxL K) ix_list (pv 0) (pe_ix (r := rIxT K) ix_tup (pv 1) pe_int (fun _ _ => rfl)) (fun _ _ => rfl)))
      (pss_one (ps_asg (pe_tup (pa_cons pe_str (pa_cons (pe_ix (r := rIxT K) ix_tup (pv 3) pe_int (fun _ _ => rfl)) (pa_cons (pe_callTy call_tuple_of (by rfl) m_tuple (by decide +kernel) (pa_cons (pe_lc (own := [("_law_mark", 4)]) (g := gName 4)  rfl sc__law_worn.nd  (pi_tup (pe_ix (r := rIxT K) ix_tup (pv 3) pe_int (fun _ _ => rfl))) (blkOk_by (own := [("_law_mark", 4)]) (N := ["_law_train_here", "_law_wear", "_law_told", "_law_part_here", "_law_mark"]) (sc := defScope S__law_worn) (by decide +kernel)) (fun _ _ _ _ _ => pg_name (i := 4) sc__law_worn.nd rfl (Or.inl rfl)) (fun _ _ _ _ _ => (pts_one (pt_cmpR op_ne (pv 4) (pe_ix (r := rIxT K) ix_tup (pv 1) pe_int (fun _ _ => rfl)) (nomark _)))) (fun _ _ _ _ _ => (pv 4))) pa_nil)) pa_nil)))) (pg_sub (pv 2) (pe_ix (r := rIxT K) ix_tup (pv 1) pe_int (fun _ _ => rfl)) set_list)))) pss_nil)
      (pss_one (ps_ret (pv 2))))), ?_⟩
    refine w_st (σ' := [some (.ref a), some v, none, none, none]) rfl ?_
    have hvl : vs.length = ps.length := by rw [dpAll_len hd, List.length_map]
    walk_at "ct"
    refine ⟨a, vs, rfl, .inl hv, fun l nl => ?_⟩
    have s1 : Same H (upd H l (.lst vs)) := same_upd nl
    have h1 : upd H l (.lst vs) l = some (.lst vs) := upd_same
    generalize upd H l _ = H1 at *
    walk_at "ct"
    cases wr with
    | none =>
      have hw : v = .non := hw
      subst hw
      refine ⟨rfl, ?_⟩
      rw [decide_eq_true rfl]
      walk_at "ct"
      exact q l vs H1 s1 nl h1 (dpAll_same s1 hd)
    | some im =>
      obtain ⟨i, m⟩ := im
      obtain ⟨g, rfl, hg⟩ := hw
      obtain ⟨z, ms, hp⟩ := hwh i m rfl
      have hi : i < ps.length := (List.getElem?_eq_some_iff.mp hp).1
      refine ⟨rfl, ?_⟩
      rw [decide_eq_false (by intro z; cases z)]
      walk_at "ct"
      have hg1 := Same.tup s1 hg
      obtain ⟨u, hu1, hu2⟩ := TrainAt.at (a := a) hd hp
      have ok := hok _ (List.mem_of_getElem? hp)
      have hl : ms.length ≤ 1000 := ok.2.2.2
      have hv1 := s1.seq hv
      obtain ⟨g2, b, rfl, hg2, hb⟩ := wheel_inv (dp_same s1 hu2)
      refine w_ixT hg1 at0 ?_
      walk_at "ct"
      refine w_ixL hv1 (at_of (j := i) rfl hu1) ?_
      walk_at "ct"
      refine w_IT hb ?_
      refine lb_tup (ms.map V.int) (fun D k H2 => Same H1 H2 ∧ H2 D = some (.lst ((offMark (ms.take k) m).map V.int))) (fun D hD => ⟨same_upd hD, upd_same⟩) (fun D hD k H2 _ h => Same.tup h.1 hb) ?_ ?_
      · rintro D hD k x H2 hx ⟨s2, h2⟩
        obtain ⟨c, hc, rfl⟩ : ∃ c : Int, ms[k]? = some c ∧ x = .int c := by
          rw [List.getElem?_map] at hx
          cases e : ms[k]? with
          | none => rw [e] at hx; cases hx
          | some c => rw [e] at hx; exact ⟨c, rfl, (Option.some.inj hx).symm⟩
        have hk : k < ms.length := (List.getElem?_eq_some_iff.mp hc).1
        have et : offMark (ms.take (k + 1)) m = offMark (ms.take k) m ++ (if c = m then [] else [c]) := by
          unfold offMark
          rw [List.take_add_one, hc, Option.toList_some, List.filter_append]
          congr 1
          by_cases e : c = m
          · rw [if_pos e, List.filter_cons_of_neg (by rw [decide_eq_true e]; decide), List.filter_nil]
          · rw [if_neg e, List.filter_cons_of_pos (by rw [decide_eq_false e]; decide), List.filter_nil]
        have ol : (offMark (ms.take k) m).length ≤ 1000 := by
          have := List.length_filter_le (fun k => !decide (k = m)) (ms.take k)
          rw [List.length_take] at this
          unfold offMark
          omega
        have hg3 := Same.tup s2 hg1
        walk_at "ct"
        refine ⟨rfl, ?_⟩
        walk_at "ct"
        refine w_iteN (fun e => ?_) (fun e => ?_)
        · walk_at "ct"
          refine ⟨_, h2, by rw [List.length_map]; exact small1000 ol, same_new s2 hD, ?_⟩
          rw [upd_same, et, if_neg e, List.map_append]
          rfl
        · rw [et, if_pos e, List.append_nil]
          exact ⟨s2, h2⟩
      · rintro D hD H2 ⟨s2, h2⟩
        rw [List.length_map, List.take_length] at h2
        walk_at "ct"
        refine ⟨D, _, rfl, .inl ⟨.of h2, fun c nc => ?_⟩⟩
        have s3 : Same H2 (upd H2 c (.tup ((offMark ms m).map V.int))) := same_upd nc
        have h3 : (upd H2 c (.tup ((offMark ms m).map V.int))) c = some (.tup ((offMark ms m).map V.int)) := upd_same
        generalize upd H2 c _ = H3 at *
        walk_at "ct"
        refine ⟨len2 rfl, fun w nw => ?_⟩
        have s4 : Same H3 (upd H3 w (.tup [.str "wheel", .int z, .ref c])) := same_upd nw
        have h4 : Dp K (upd H3 w (.tup [.str "wheel", .int z, .ref c])) (.ref w) (Part.wheel z (offMark ms m)).data := wheel_dp (.of upd_same) (.of (s4 _ _ h3))
        generalize upd H3 w _ = H4 at *
        have s14 := (s2.trans s3).trans s4
        have hg4 := Same.tup s14 hg1
        have h14 := s14 _ _ h1
        walk_at "ct"
        refine w_setL h14 (ix_at (j := i) rfl (by omega)) ?_
        walk_at "ct"
        refine q l _ _ (same_new (s1.trans s14) nl) nl upd_same ?_
        rw [show wornP ps (some (i, m)) = ps.set i (.wheel z (offMark ms m)) from by unfold wornP; simp only [hp], List.map_set]
        exact dpAll_set (parts_upd h14 ps (dpAll_same (s1.trans s14) hd)) (part_upd h4 h14)
abbrev S__law_shows : Stmt := topS 40
theorem sc__law_shows : FnScope ["_law_script", "_law_train_here", "_law_stand_here", "_law_number", "_law_some", "_law_other", "_law_told", "_law_many", "_law_k", "_law_push", "_law_i", "_law_way", "_law_shown", "_law_at"] ["_law_script", "_law_train_here", "_law_stand_here"] (defScope S__law_shows) := ⟨rfl, rfl, rfl, by decide +kernel, rfl, by decide +kernel, by decide +kernel⟩
def sp__law_shows (K : PySem.W.Frag) : Sp := fun vs H Q _ => ∃ (a b t : Addr) (ns : List Int) (ps : List Part) (xs : List Int), vs = [.ref a, .ref b, .ref t] ∧ SqL K H a (ns.map V.int) ∧ TrainAt K H b ps ∧ StandL ps xs ∧ 1 ≤ ps.length ∧ ps.length ≤ 10 ∧ SqT K H t (xs.map V.int) ∧
  ∀ l ws (ss : List Show) H', Same H H' → H l = none → H' l = some (.lst ws) → DpAll K H' ws (ss.map showD) → (∀ s ∈ ss, ShowOk ps.length s) → Q (.ref l) H'
theorem ok__law_shows {f : Addr} {fd : FuncData} {f__law_cell_at : Addr} {fd__law_cell_at : FuncData} {f__law_mix : Addr} {fd__law_mix : FuncData} {f__law_pushed : Addr} {fd__law_pushed : FuncData} {f__law_worn : Addr} {fd__law_worn : FuncData} {f__law_wears : Addr} {fd__law_wears : FuncData} (F : Fun K "_law_shows" "_law_shows" S__law_shows f fd)
    (F__law_cell_at : Fun K "_law_cell_at" "_law_cell_at" S__law_cell_at f__law_cell_at fd__law_cell_at) (b__law_cell_at : Binds K fd__law_cell_at ["_law_script", "_law_k"] []) (g__law_cell_at : mg "_law_cell_at" = some (.ref f__law_cell_at)) (G__law_cell_at : FnOk P w K mg base CX0 1 f__law_cell_at fd__law_cell_at ["_law_script", "_law_k"] (sp__law_cell_at K))
    (F__law_mix : Fun K "_law_mix" "_law_mix" S__law_mix f__law_mix fd__law_mix) (b__law_mix : Binds K fd__law_mix ["_law_cell", "_law_k"] []) (g__law_mix : mg "_law_mix" = some (.ref f__law_mix)) (G__law_mix : FnOk P w K mg base CX0 1 f__law_mix fd__law_mix ["_law_cell", "_law_k"] (sp__law_mix K))
    (F__law_pushed : Fun K "_law_pushed" "_law_pushed" S__law_pushed f__law_pushed fd__law_pushed) (b__law_pushed : Binds K fd__law_pushed ["_law_train_here", "_law_stand_here", "_law_i", "_law_way"] []) (g__law_pushed : mg "_law_pushed" = some (.ref f__law_pushed)) (G__law_pushed : FnOk P w K mg base CX0 2 f__law_pushed fd__law_pushed ["_law_train_here", "_law_stand_here", "_law_i", "_law_way"] (sp__law_pushed K))
    (F__law_worn : Fun K "_law_worn" "_law_worn" S__law_worn f__law_worn fd__law_worn) (b__law_worn : Binds K fd__law_worn ["_law_train_here", "_law_wear"] []) (g__law_worn : mg "_law_worn" = some (.ref f__law_worn)) (G__law_worn : FnOk P w K mg base CX0 1 f__law_worn fd__law_worn ["_law_train_here", "_law_wear"] (sp__law_worn K))
    (F__law_wears : Fun K "_law_wears" "_law_wears" S__law_wears f__law_wears fd__law_wears) (b__law_wears : Binds K fd__law_wears ["_law_train_here"] []) (g__law_wears : mg "_law_wears" = some (.ref f__law_wears)) (G__law_wears : FnOk P w K mg base CX0 1 f__law_wears fd__law_wears ["_law_train_here"] (sp__law_wears K)) (m_range : mg "range" = none) (m_len : mg "len" = none) (m_int : mg "int" = none) :
    FnOk P w K mg base CX0 3 f fd ["_law_script", "_law_train_here", "_law_stand_here"] (sp__law_shows K) := by
  refine F.ok sc__law_shows (fun vs H Q E h => ?_) (fun cdv A outer s H vs Q E hr h => ?_)
  ·
    obtain ⟨a, b, t, ns, ps, xs, rfl, _⟩ := h
    rfl
  ·
    obtain ⟨a, b, t, ns, ps, xs, rfl, hA, ⟨vs, hv, hvd⟩, hst, hp1, hps, hS, q⟩ := h
    refine ⟨_, (pss_cons (ps_set (i := 3) sc__law_shows.nd rfl (.inl rfl) (pe_call G__law_mix (hr.mono (by decide)) (by rfl) g__law_mix F__law_mix.kp b__law_mix .nil pass0 (pa_cons (pe_call G__law_cell_at (hr.mono (by decide)) (by rfl) g__law_cell_at F__law_cell_at.kp b__law_cell_at .nil pass0 (pa_cons (pv 0) (pa_cons pe_int pa_nil))) (pa_cons pe_int pa_nil))))
      (pss_cons (ps_set (i := 4) sc__law_shows.nd rfl (.inl rfl) (pe_call G__law_wears (hr.mono (by decide)) (by rfl) g__law_wears F__law_wears.kp b__law_wears .nil pass0 (pa_cons (pv 1) pa_nil)))
      (pss_cons (ps_set (i := 5) sc__law_shows.nd rfl (.inl rfl) (pe_call G__law_worn (hr.mono (by decide)) (by rfl) g__law_worn F__law_worn.kp b__law_worn .nil pass0 (pa_cons (pv 1) (pa_cons (pe_ix (r := rIxL K) ix_list (pv 4) (pe_op op_mod (pv 3) (pe_callB call_len_seq (by rfl) m_len (by decide +kernel) (pa_cons (pv 4) pa_nil))) (fun _ _ => rfl)) pa_nil))))
      (pss_cons (ps_set (i := 6) sc__law_shows.nd rfl (.inl rfl) (pe_lst pa_nil))
      (pss_cons (ps_set (i := 7) sc__law_shows.nd rfl (.inl rfl) (pe_op op_mod (pe_op op_fdivW (pv 3) pe_int) pe_int))
      (pss_cons (ps_if (pt_cmpR op_eq (pe_op op_mod (pe_op op_fdivW (pv 3) pe_int) pe_int) pe_int (nomark _)) (pss_one (ps_set (i := 7) sc__law_shows.nd rfl (.inl rfl) (pe_op op_add pe_int (pe_op op_mod (pe_op op_fdivW (pv 3) pe_int) pe_int)))) pss_nil)
      (pss_cons (ps_for PassesOwn.never rfl (pi_range1 (by rfl) m_range (pa_cons (pv 7) pa_nil)) (pg_name (i := 8) sc__law_shows.nd rfl (.inl rfl))
      (pss_cons (ps_set (i := 9) sc__law_shows.nd rfl (.inl rfl) (pe_call G__law_mix (hr.mono (by decide)) (by rfl) g__law_mix F__law_mix.kp b__law_mix .nil pass0 (pa_cons (pe_call G__law_cell_at (hr.mono (by decide)) (by rfl) g__law_cell_at F__law_cell_at.kp b__law_cell_at .nil pass0 (pa_cons (pv 0) (pa_cons (pe_op op_add pe_int (pe_op op_mod (pv 8) pe_int)) pa_nil))) (pa_cons (pe_op op_fdivW (pv 8) pe_int) pa_nil))))
      (pss_cons (ps_par (i := 10) (j := 11) (by rfl) sc__law_shows.nd rfl rfl (by decide) rfl rfl (pa_cons (pe_op op_mulW (pe_op op_mod (pv 9) (pe_callB call_len_seq (by rfl) m_len (by decide +kernel) (pa_cons (pv 1) pa_nil))) (pe_callTy call_int1 (by rfl) m_int (by decide +kernel) (pa_cons (pe_op op_mod (pe_op op_fdivW (pv 9) pe_int) pe_int) pa_nil))) (pa_cons (pe_ix (r := rIxL K) ix_list (pe_lst (pa_cons pe_int (pa_cons pe_int (pa_cons (pe_un un_neg pe_int) pa_nil)))) (pe_op op_mod (pe_op op_fdivW (pv 9) pe_int) pe_int) (fun _ _ => rfl)) pa_nil)) (by rfl))
      (pss_cons (ps_asg (pe_call G__law_pushed (hr.mono (by decide)) (by rfl) g__law_pushed F__law_pushed.kp b__law_pushed .nil pass0 (pa_cons (pv 5) (pa_cons (pv 2) (pa_cons (pv 10) (pa_cons (pv 11) pa_nil))))) (pg_tup rfl (pgs_cons (pg_name (i := 2) sc__law_shows.nd rfl (.inl rfl)) (pgs_cons (pg_name (i := 12) sc__law_shows.nd rfl (.inl rfl)) pgs_nil))))
      (pss_one (ps_expr (pe_bm PySem.F.plainAttrs_list PySem.F.slot_list_append PySem.F.type_list_append mt_append (pv 6) (pa_cons (pe_tup (pa_cons (pv 10) (pa_cons (pv 11) (pa_cons (pv 12) pa_nil)))) pa_nil))))))))
      (pss_cons (ps_for PassesOwn.never rfl (pi_range1 (by rfl) m_range (pa_cons (pe_op op_sub (pe_op op_mod (pe_call G__law_mix (hr.mono (by decide)) (by rfl) g__law_mix F__law_mix.kp b__law_mix .nil pass0 (pa_cons (pe_call G__law_cell_at (hr.mono (by decide)) (by rfl) g__law_cell_at F__law_cell_at.kp b__law_cell_at .nil pass0 (pa_cons (pv 0) (pa_cons pe_int pa_nil))) (pa_cons pe_int pa_nil))) pe_int) pe_int) pa_nil)) (pg_name (i := 8) sc__law_shows.nd rfl (.inl rfl))
      (pss_one (ps_if (pt_cmpR (r := rNeD K) (op_neD hr.units) (pv 6) (pe_lst pa_nil) (nomark _)) (pss_cons (ps_set (i := 13) sc__law_shows.nd rfl (.inl rfl) (pe_op op_mod (pe_call G__law_mix (hr.mono (by decide)) (by rfl) g__law_mix F__law_mix.kp b__law_mix .nil pass0 (pa_cons (pe_call G__law_cell_at (hr.mono (by decide)) (by rfl) g__law_cell_at F__law_cell_at.kp b__law_cell_at .nil pass0 (pa_cons (pv 0) (pa_cons pe_int pa_nil))) (pa_cons (pe_op op_add pe_int (pv 8)) pa_nil))) (pe_callB call_len_seq (by rfl) m_len (by decide +kernel) (pa_cons (pv 6) pa_nil))))
      (pss_cons (ps_asg (pe_ix (r := rIxL K) ix_list (pv 6) (pv 13) (fun _ _ => rfl)) (pg_tup rfl (pgs_cons (pg_name (i := 10) sc__law_shows.nd rfl (.inl rfl)) (pgs_cons (pg_name (i := 11) sc__law_shows.nd rfl (.inl rfl)) (pgs_cons (pg_name (i := 12) sc__law_shows.nd rfl (.inl rfl)) pgs_nil)))))
      (pss_one (ps_asg (pe_tup (pa_cons (pv 10) (pa_cons (pv 11) (pa_cons (pe_ix (r := rIxL K) ix_list (pe_lst (pa_cons pe_int (pa_cons (pv 11) pa_nil))) (pe_callTy call_int1 (by rfl) m_int (by decide +kernel) (pa_cons (pe_cmpR op_eq (pv 12) pe_int (nomark _)) pa_nil)) (fun _ _ => rfl)) pa_nil)))) (pg_sub (pv 6) (pv 13) set_list))))) pss_nil)))
      (pss_one (ps_ret (pv 6))))))))))), ?_⟩
    refine w_st (σ' := [some (.ref a), some (.ref b), some (.ref t), none, none, none, none, none, none, none, none, none, none, none]) rfl ?_
    have hok := hst.okp
    have hvl : vs.length = ps.length := by rw [dpAll_len hvd, List.length_map]
    walk_at "ct"
    refine ⟨a, ns, 8, rfl, hA, fun c8 => ?_⟩
    walk_at "ct"
    refine ⟨c8, 0, rfl, by decide, by decide, fun num n0 n1 => ?_⟩
    walk_at "ct"
    refine ⟨b, ps, rfl, ⟨vs, hv, hvd⟩, hok, hp1, hps, fun sl us H1 s1 nsl hsl hsd => ?_⟩
    have ul : us.length = (wearsN ps ps.length).length := by rw [dpAll_len hsd, List.length_map]
    have up := wears_pos ps ps.length
    walk_at "ct"
    refine ⟨sl, us, rfl, .inl (.of hsl), ?_⟩
    refine w_mod (by omega) fun r r0 r1 => ?_
    obtain ⟨k, rfl⟩ : ∃ k : Nat, r = (k : Int) := ⟨r.toNat, by omega⟩
    obtain ⟨wr, hw⟩ : ∃ wr, (wearsN ps ps.length)[k]? = some wr := ⟨_, List.getElem?_eq_getElem (by omega)⟩
    obtain ⟨wv, hw1, hw2⟩ := dpAll_get hsd (i := k) (d := wearD wr) (by rw [List.getElem?_map, hw]; rfl)
    walk_at "ct"
    refine w_ixL (.of hsl) (at_of (j := k) rfl hw1) ?_
    walk_at "ct"
    refine ⟨b, wv, ps, wr, rfl, ⟨vs, s1.seq hv, dpAll_same s1 hvd⟩, hok, wear_at hw2, fun j m e => ?_, fun ol ows H2 s2 nol hol hod => ?_⟩
    · subst e
      exact wears_is (List.mem_of_getElem? hw)
    have s12 := s1.trans s2
    walk_at "ct"
    refine ⟨len2 rfl, fun D nD => ?_⟩
    have s3 : Same H2 (upd H2 D (.lst [])) := same_upd nD
    have hD3 : (upd H2 D (.lst [])) D = some (.lst []) := upd_same
    generalize upd H2 D _ = H3 at *
    have s13 := s12.trans s3
    have nDH : H D = none := s12.free nD
    have oT : TrainAt K H2 ol (wornP ps wr) := ⟨ows, .of hol, hod⟩
    have ook := wornP_ok hok wr
    have ost : StandL (wornP ps wr) xs := worn_stand hst
    have wlen := wornP_len ps wr
    walk_at "ct"
    refine w_div (div_ok (by decide) (by decide)) fun d1 => ?_
    walk_at "ct"
    refine w_mod (by decide) fun m1 m10 m11 => ?_
    refine w_name (σ' := [some (.ref a), some (.ref b), some (.ref t), some (.int num), some (.ref sl), some (.ref ol), some (.ref D), some (.int m1), none, none, none, none, none, none]) rfl ?_
    with_reducible refine w_join (fun σ G => ∃ m : Int, σ = [some (.ref a), some (.ref b), some (.ref t), some (.int num), some (.ref sl), some (.ref ol), some (.ref D), some (.int m), none, none, none, none, none, none] ∧ G = H3 ∧ 0 ≤ m ∧ m ≤ 400) ?_ ?_
    · rintro σ G ⟨m, rfl, rfl, hm0, hm1⟩
      walk_at "ct"
      refine w_RG1 (by omega) (by omega) ?_
      refine fb_range (fun i σ G' => ∃ (t' : Addr) (y8 y9 y10 y11 y12 : Option V) (ys : List Int) (zs : List V) (ss : List Show), σ = [some (.ref a), some (.ref b), some (.ref t'), some (.int num), some (.ref sl), some (.ref ol), some (.ref D), some (.int m), y8, y9, y10, y11, y12, none] ∧ Same H2 G' ∧ SqT K G' t' (ys.map V.int) ∧ StandL (wornP ps wr) ys ∧ G' D = some (.lst zs) ∧ DpAll K G' zs (ss.map showD) ∧ (∀ s ∈ ss, ShowOk ps.length s) ∧ ss.length = i)
        ⟨t, none, none, none, none, none, xs, [], [], rfl, s3, Same.tup s13 hS, ost, hD3, .nil, (fun _ h => nomatch h), rfl⟩ ?_ ?_
      · rintro i σ G1 hi ⟨t', y8, y9, y10, y11, y12, ys, zs, ss, rfl, sG, hY, hsy, hzs, hzd, oks, sl1⟩
        rw [Int.zero_add (i : Int)]
        have sG0 := s12.trans sG
        have zl : zs.length = ss.length := by rw [dpAll_len hzd, List.length_map]
        walk_at "ct"
        refine w_rIv (.int ((i % 20 : Nat) : Int)) (by decide) (congrArg V.int (Int.natCast_emod i 20).symm) ?_
        walk_at "ct"
        refine ⟨a, ns, 9 + i % 20, by rw [show ((9 + i % 20 : Nat) : Int) = 9 + ((i % 20 : Nat) : Int) by omega]; rfl, sG0.seq hA, fun c9 => ?_⟩
        walk_at "ct"
        refine w_rIv (.int ((i / 20 : Nat) : Int)) (div_ok (by decide) (by decide)) (congrArg V.int (Int.natCast_ediv i 20).symm) ?_
        walk_at "ct"
        refine ⟨c9, _, rfl, by omega, by omega, fun ph p0 p1 => ?_⟩
        walk_at "ct"
        with_reducible refine w_parB ?_
        walk_at "ct"
        refine ⟨b, vs, rfl, .inl (sG0.seq hv), ?_⟩
        refine w_mod (by omega) fun q1 q10 q11 => ?_
        walk_at "ct"
        refine w_div (div_ok (by decide) (by decide)) fun d8 => ?_
        walk_at "ct"
        refine w_mod (by decide) fun bit b0 b1 => ?_
        refine .inl ⟨_, rfl, ?_⟩
        obtain ⟨j, hj, jl⟩ : ∃ j : Nat, q1 * bit = (j : Int) ∧ j < ps.length := by
          have : bit = 0 ∨ bit = 1 := by omega
          rcases this with rfl | rfl
          · exact ⟨0, by rw [Int.mul_zero]; rfl, by omega⟩
          · exact ⟨q1.toNat, by rw [Int.mul_one]; omega, by omega⟩
        refine w_rIv (.int (j : Int)) (mul_ok (by omega) (by omega) (by omega) (by omega)) (congrArg V.int hj) ?_
        walk_at "ct"
        refine ⟨len2 rfl, fun g ng => ?_⟩
        have u1 : Same G1 (upd G1 g (.lst [.int 1, .int 1, .int (-1)])) := same_upd ng
        have hg : (upd G1 g (.lst [.int 1, .int 1, .int (-1)])) g = some (.lst [.int 1, .int 1, .int (-1)]) := upd_same
        generalize upd G1 g _ = G2 at *
        walk_at "ct"
        refine w_div (div_ok (by decide) (by decide)) fun d16 => ?_
        walk_at "ct"
        refine w_mod (by decide) fun r3 r30 r31 => ?_
        obtain ⟨w, sw, hat⟩ := way_of r30 r31
        refine w_ixL (.of hg) hat ?_
        walk_at "ct"
        refine ⟨_, _, rfl, ?_⟩
        have s22 := sG.trans u1
        walk_at "ct"
        refine ⟨ol, t', wornP ps wr, ys, j, w, rfl, oT.same s22, ook, Same.tup u1 hY, hsy.ok, by omega, by omega, sw, fun g1 u H4 s4 nu ng1 hu hg1 => ?_⟩
        refine w_gtup (.of hg1) rfl ?_
        have s24 := s22.trans s4
        have hz4 := (u1.trans s4) _ _ hzs
        have hzd4 := dpAll_same (u1.trans s4) hzd
        walk_at "ct"
        refine ⟨ty_list hz4, ?_⟩
        walk_at "ct"
        refine ⟨len2 rfl, fun g2 ng2 => ?_⟩
        have u2 := same_upd (o := .tup [.int (j : Int), .int w, .int (Ct.run (wornP ps wr) ys j w).2]) ng2
        have hg2 : (upd H4 g2 (.tup [.int (j : Int), .int w, .int (Ct.run (wornP ps wr) ys j w).2])) g2 = some (.tup [.int (j : Int), .int w, .int (Ct.run (wornP ps wr) ys j w).2]) := upd_same
        generalize upd H4 g2 _ = H5 at *
        have hz5 := u2 _ _ hz4
        walk_at "ct"
        refine w_append hz5 (by rw [zl]; exact small1000 (by omega)) ?_
        refine ⟨u, _, _, _, _, _, (Ct.run (wornP ps wr) ys j w).1, zs ++ [.ref g2], ss ++ [((j, w, (Ct.run (wornP ps wr) ys j w).2) : Show)], rfl, same_new (s24.trans u2) nD, sqT_upd (.of (u2 _ _ hu)) hz5, standOk_run hsy (by omega) sw, upd_same, ?_, fun z hz => ?_, by rw [List.length_append, sl1]; rfl⟩
        · rw [List.map_append]
          exact dpAll_app (shows_upd hz5 (dpAll_same u2 hzd4)) (.cons (show_upd hz5 (show_dp (s := (j, w, (Ct.run (wornP ps wr) ys j w).2)) (.of hg2))) .nil)
        · rcases List.mem_append.mp hz with hz | hz
          · exact oks z hz
          · rw [List.mem_singleton] at hz
            rw [hz]
            exact ⟨jl, sw, run_sgn sw⟩
      · rintro σ G1 ⟨t', y8, y9, y10, y11, y12, ys, zs, ss, rfl, sG, hY, hsy, hzs, hzd, oks, sl1⟩
        have sG0 := s12.trans sG
        walk_at "ct"
        refine ⟨a, ns, 8, rfl, sG0.seq hA, fun c8' => ?_⟩
        walk_at "ct"
        refine ⟨c8', 1, rfl, by decide, by decide, fun m2 _ _ => ?_⟩
        walk_at "ct"
        refine w_mod (by decide) fun r4 r40 r41 => ?_
        walk_at "ct"
        refine w_RG1 (by omega) (by omega) ?_
        refine fb_range (fun i σ G' => ∃ (y8 y9 y10 y11 y12 y13 : Option V) (zs : List V) (ss : List Show), σ = [some (.ref a), some (.ref b), some (.ref t'), some (.int num), some (.ref sl), some (.ref ol), some (.ref D), some (.int m), y8, y9, y10, y11, y12, y13] ∧ Same H2 G' ∧ G' D = some (.lst zs) ∧ DpAll K G' zs (ss.map showD) ∧ (∀ s ∈ ss, ShowOk ps.length s))
          ⟨_, _, _, _, _, _, zs, ss, rfl, sG, hzs, hzd, oks⟩ ?_ ?_
        · clear hzs hzd oks sl1 hY hsy sG0 sG
          clear zs ss ys
          rintro i σ G2 hi ⟨y8, y9, y10, y11, y12, y13, zs, ss, rfl, sG, hzs, hzd, oks⟩
          rw [Int.zero_add (i : Int)]
          have sG0 := s12.trans sG
          have zl : zs.length = ss.length := by rw [dpAll_len hzd, List.length_map]
          walk_at "ct"
          refine ⟨len2 rfl, fun g ng => ?_⟩
          have u1 : Same G2 (upd G2 g (.lst [])) := same_upd ng
          have hg : (upd G2 g (.lst [])) g = some (.lst []) := upd_same
          generalize upd G2 g _ = G3 at *
          have hz3 := u1 _ _ hzs
          have hzd3 := dpAll_same u1 hzd
          refine ⟨.list (ss.map showD), .list [], .lst (.of hz3) hzd3, .lst (.of hg) .nil, shaped_of (lay_shows ss) (by decide), shaped_of (lay_shows []) (by decide), ?_⟩
          cases ss with
          | nil =>
            rw [show PyData.eqv (.list (List.map showD [])) (.list []) = true from rfl]
            walk_at "ct"
            exact ⟨_, _, _, _, _, _, zs, [], rfl, sG.trans u1, hz3, hzd3, oks⟩
          | cons z0 ss0 =>
            rw [show PyData.eqv (.list (List.map showD (z0 :: ss0))) (.list []) = false from rfl]
            walk_at "ct"
            refine ⟨a, ns, 8, rfl, (sG0.trans u1).seq hA, fun c => ?_⟩
            walk_at "ct"
            refine ⟨c, _, rfl, by omega, by omega, fun m3 _ _ => ?_⟩
            walk_at "ct"
            refine ⟨D, zs, rfl, .inl (.of hz3), ?_⟩
            have zl' : zs.length = ss0.length + 1 := zl
            refine w_mod (by omega) fun r5 r50 r51 => ?_
            obtain ⟨k5, rfl⟩ : ∃ k : Nat, r5 = (k : Int) := ⟨r5.toNat, by omega⟩
            obtain ⟨z, hz⟩ : ∃ z, (z0 :: ss0)[k5]? = some z := ⟨_, List.getElem?_eq_getElem (by rw [List.length_cons]; omega)⟩
            obtain ⟨v5, hv5, hd5⟩ := dpAll_get hzd3 (i := k5) (d := showD z) (by rw [List.getElem?_map, hz]; rfl)
            obtain ⟨g5, rfl, hg5⟩ := show_inv hd5
            have okz := oks z (List.mem_of_getElem? hz)
            walk_at "ct"
            refine w_ixL (.of hz3) (at_of (j := k5) rfl hv5) ?_
            refine w_gtup hg5 rfl ?_
            walk_at "ct"
            refine ⟨len2 rfl, fun g6 ng6 => ?_⟩
            have u2 : Same G3 (upd G3 g6 (.lst [.int 0, .int z.2.1])) := same_upd ng6
            have hg6 : (upd G3 g6 (.lst [.int 0, .int z.2.1])) g6 = some (.lst [.int 0, .int z.2.1]) := upd_same
            generalize upd G3 g6 _ = G4 at *
            walk_at "ct"
            refine .inr ⟨_, rfl, ?_⟩
            obtain ⟨nw, hnw, oknw⟩ : ∃ nw : Int, atI [V.int 0, .int z.2.1] (if decide (z.2.2 = 0) = true then 1 else 0) = some (.int nw) ∧ (nw = 0 ∨ Sign nw) := by
              by_cases e : z.2.2 = 0
              · rw [decide_eq_true e, if_pos rfl]
                exact ⟨z.2.1, at1, .inr okz.2.1⟩
              · rw [decide_eq_false e, if_neg Bool.false_ne_true]
                exact ⟨0, at0, .inl rfl⟩
            refine w_ixL (.of hg6) hnw ?_
            walk_at "ct"
            refine ⟨len2 rfl, fun g7 ng7 => ?_⟩
            have u3 : Same G4 (upd G4 g7 (.tup [.int (z.1 : Nat), .int z.2.1, .int nw])) := same_upd ng7
            have hg7 : (upd G4 g7 (.tup [.int (z.1 : Nat), .int z.2.1, .int nw])) g7 = some (.tup [.int (z.1 : Nat), .int z.2.1, .int nw]) := upd_same
            generalize upd G4 g7 _ = G5 at *
            have hz5 := (u2.trans u3) _ _ hz3
            walk_at "ct"
            refine w_setL hz5 (ix_at (j := k5) rfl (by omega)) ?_
            refine ⟨_, _, _, _, _, _, zs.set k5 (.ref g7), (z0 :: ss0).set k5 ((z.1, z.2.1, nw) : Show), rfl, same_new (((sG.trans u1).trans u2).trans u3) nD, upd_same, ?_, fun y hy => ?_⟩
            · rw [List.map_set]
              exact dpAll_set (shows_upd hz5 (dpAll_same (u2.trans u3) hzd3)) (show_upd hz5 (show_dp (s := (z.1, z.2.1, nw)) (.of hg7)))
            · rcases List.mem_or_eq_of_mem_set hy with hy | hy
              · exact oks y hy
              · rw [hy]
                exact ⟨okz.1, okz.2.1, oknw⟩
        · rintro σ G2 ⟨y8, y9, y10, y11, y12, y13, zs, ss, rfl, sG, hzs, hzd, oks⟩
          walk_at "ct"
          exact q D zs ss G2 (s12.trans sG) nDH hzs hzd oks
    · intro N hN
      walk_at "ct"
      refine w_div (div_ok (by decide) (by decide)) fun d2 => ?_
      walk_at "ct"
      refine w_mod (by decide) fun m2 m20 m21 => ?_
      walk_at "ct"
      refine w_ite (fun _ => ?_) (fun _ => ?_)
      · walk_at "ct"
        refine w_div (div_ok (by decide) (by decide)) fun d3 => ?_
        walk_at "ct"
        refine w_mod (by decide) fun m3 m30 m31 => ?_
        walk_at "ct"
        exact hN _ _ ⟨_, rfl, rfl, by omega, by omega⟩
      · walk_at "ct"
        exact hN _ _ ⟨m1, rfl, rfl, by omega, by omega⟩
abbrev S__law_just : Stmt := topS 41
theorem sc__law_just : FnScope ["_law_train_here", "_law_stand_here", "_law_shows_here", "_law_i", "_law_way", "_law_shown", "_law_more"] ["_law_train_here", "_law_stand_here", "_law_shows_here"] (defScope S__law_just) := ⟨rfl, rfl, rfl, by decide +kernel, rfl, by decide +kernel, by decide +kernel⟩
def sp__law_just (K : PySem.W.Frag) : Sp := fun vs H Q _ => ∃ (a t b : Addr) (ps : List Part) (xs : List Int) (ss : List Show), vs = [.ref a, .ref t, .ref b] ∧ TrainAt K H a ps ∧ StandL ps xs ∧ ps.length ≤ 1000 ∧ SqT K H t (xs.map V.int) ∧ (∃ ws, SqL K H b ws ∧ DpAll K H ws (ss.map showD)) ∧ (∀ s ∈ ss, ShowOk ps.length s) ∧
  ∀ H', Same H H' → Q (.bl (explB ps xs ss)) H'
theorem ok__law_just {f : Addr} {fd : FuncData} {f__law_pushed : Addr} {fd__law_pushed : FuncData} (F : Fun K "_law_just" "_law_just" S__law_just f fd)
    (F__law_pushed : Fun K "_law_pushed" "_law_pushed" S__law_pushed f__law_pushed fd__law_pushed) (b__law_pushed : Binds K fd__law_pushed ["_law_train_here", "_law_stand_here", "_law_i", "_law_way"] []) (g__law_pushed : mg "_law_pushed" = some (.ref f__law_pushed)) (G__law_pushed : FnOk P w K mg base CX0 2 f__law_pushed fd__law_pushed ["_law_train_here", "_law_stand_here", "_law_i", "_law_way"] (sp__law_pushed K)) :
    FnOk P w K mg base CX0 3 f fd ["_law_train_here", "_law_stand_here", "_law_shows_here"] (sp__law_just K) := by
  refine F.ok sc__law_just (fun vs H Q E h => ?_) (fun cdv A outer s H vs Q E hr h => ?_)
  ·
    obtain ⟨a, t, b, ps, xs, ss, rfl, _⟩ := h
    rfl
  ·
    obtain ⟨a, t, b, ps, xs, ss, rfl, hT, hst, hps, hS, ⟨ws, hb, hbd⟩, hss, q⟩ := h
    refine ⟨_, (pss_cons (ps_for PassesOwn.never rfl (pi_list (pv 2)) (pg_tup rfl (pgs_cons (pg_name (i := 3) sc__law_just.nd rfl (.inl rfl)) (pgs_cons (pg_name (i := 4) sc__law_just.nd rfl (.inl rfl)) (pgs_cons (pg_name (i := 5) sc__law_just.nd rfl (.inl rfl)) pgs_nil))))
      (pss_cons (ps_asg (pe_call G__law_pushed (hr.mono (by decide)) (by rfl) g__law_pushed F__law_pushed.kp b__law_pushed .nil pass0 (pa_cons (pv 0) (pa_cons (pv 1) (pa_cons (pv 3) (pa_cons (pv 4) pa_nil))))) (pg_tup rfl (pgs_cons (pg_name (i := 1) sc__law_just.nd rfl (.inl rfl)) (pgs_cons (pg_name (i := 6) sc__law_just.nd rfl (.inl rfl)) pgs_nil))))
      (pss_one (ps_if (pt_cmpR op_ne (pv 6) (pv 5) (nomark _)) (pss_one (ps_ret pe_bl)) pss_nil))))
      (pss_one (ps_ret pe_bl))), ?_⟩
    refine w_st (σ' := [some (.ref a), some (.ref t), some (.ref b), none, none, none, none]) rfl ?_
    have hok := hst.okp
    have wl : ws.length = ss.length := by rw [dpAll_len hbd, List.length_map]
    walk_at "ct"
    refine w_IL hb ?_
    refine fb_list ws (fun n σ G => ∃ (t' : Addr) (y3 y4 y5 y6 : Option V) (ys : List Int), σ = [some (.ref a), some (.ref t'), some (.ref b), y3, y4, y5, y6] ∧ Same H G ∧ SqT K G t' (ys.map V.int) ∧ StandL ps ys ∧ explB ps xs ss = explB ps ys (ss.drop n)) ⟨t, none, none, none, none, xs, rfl, Same.refl H, hS, hst, rfl⟩ ?_ ?_ ?_
    · rintro n σ G _ ⟨t', y3, y4, y5, y6, ys, rfl, sG, _⟩
      exact sG.seq hb
    · rintro n v σ G hx ⟨t', y3, y4, y5, y6, ys, rfl, sG, hY, hsy, eq⟩
      have hn : n < ws.length := (List.getElem?_eq_some_iff.mp hx).1
      obtain ⟨z, hz⟩ : ∃ z, ss[n]? = some z := ⟨_, List.getElem?_eq_getElem (by omega)⟩
      obtain ⟨v', hv1, hd1⟩ := dpAll_get hbd (i := n) (d := showD z) (by rw [List.getElem?_map, hz]; rfl)
      cases Option.some.inj (hx.symm.trans hv1)
      obtain ⟨g, rfl, hg⟩ := show_inv hd1
      have okz := hss z (List.mem_of_getElem? hz)
      have ed : ss.drop n = z :: ss.drop (n + 1) := (List.getElem_cons_drop (h := (List.getElem?_eq_some_iff.mp hz).1)).symm.trans (by rw [(List.getElem?_eq_some_iff.mp hz).2])
      refine w_gtup (Same.tup sG hg) rfl ?_
      walk_at "ct"
      refine ⟨a, t', ps, ys, z.1, z.2.1, rfl, hT.same sG, hok, hY, hsy.ok, Nat.le_of_lt okz.1, hps, okz.2.1, fun g1 u1 H1 s1 nu ng hu hg1 => ?_⟩
      refine w_gtup (.of hg1) rfl ?_
      walk_at "ct"
      rw [ed, explB] at eq
      by_cases e : (Ct.run ps ys z.1 z.2.1).2 = z.2.2
      · rw [decide_eq_true e, Bool.true_and] at eq
        refine w_iteN (fun z => absurd e z) (fun _ => ?_)
        walk_at "ct"
        exact ⟨u1, _, _, _, _, _, rfl, sG.trans s1, .of hu, standOk_run hsy okz.1 okz.2.1, eq⟩
      · rw [decide_eq_false e, Bool.false_and] at eq
        refine w_iteN (fun _ => ?_) (fun z => absurd z e)
        walk_at "ct"
        rw [eq] at q
        exact q H1 (sG.trans s1)
    · rintro σ G ⟨t', y3, y4, y5, y6, ys, rfl, sG, hY, hsy, eq⟩
      rw [wl, List.drop_length] at eq
      walk_at "ct"
      rw [show explB ps xs ss = true from eq] at q
      exact q G sG
abbrev S__law_cut : Stmt := topS 42
theorem sc__law_cut : FnScope ["_law_script", "_law_most", "_law_cell"] ["_law_script"] (defScope S__law_cut) := ⟨rfl, rfl, rfl, by decide +kernel, rfl, by decide +kernel, by decide +kernel⟩
def sp__law_cut (K : PySem.W.Frag) : Sp := fun vs H Q _ => ∃ (a : Addr) (ns : List Int), vs = [.ref a] ∧ SqL K H a (ns.map V.int) ∧ ns.length ≤ 1000 ∧ ∀ (ms : List Int) D H', Same H H' → H D = none → ms.length = ns.length → H' D = some (.lst (ms.map V.int)) → Q (.ref D) H'
theorem ok__law_cut {f : Addr} {fd : FuncData} (F : Fun K "_law_cut" "_law_cut" S__law_cut f fd) (m_int : mg "int" = none) :
    FnOk P w K mg base CX0 1 f fd ["_law_script"] (sp__law_cut K) := by
  refine F.ok sc__law_cut (fun vs H Q E h => ?_) (fun cdv A outer s H vs Q E hr h => ?_)
  ·
    obtain ⟨a, ns, rfl, _⟩ := h
    rfl
  ·
    obtain ⟨a, ns, rfl, hS, hlen, q⟩ := h
    refine ⟨_, (pss_cons (ps_set (i := 1) sc__law_cut.nd rfl (.inr rfl) (pe_op op_powB (pe_op op_powB pe_int pe_int) pe_int))
      (pss_one (ps_ret (pe_lc (own := [("_law_cell", 2)]) (g := gName 2)  rfl sc__law_cut.nd  (pi_list (pv 0)) (blkOk_by (own := [("_law_cell", 2)]) (N := ["_law_script", "_law_most", "_law_cell"]) (sc := defScope S__law_cut) (by decide +kernel)) (fun _ _ _ _ _ => pg_name (i := 2) sc__law_cut.nd rfl (Or.inl rfl)) (fun _ _ _ _ _ => pts_nil) (fun _ _ _ _ _ => (pe_ix (r := rIxL K) ix_list (pe_lst (pa_cons (pv 2) (pa_cons (pe_op op_add (pv 1) (pe_op op_mod (pv 2) (pv 1))) pa_nil))) (pe_callTy call_int1 (by rfl) m_int (by decide +kernel) (pa_cons (pe_cmpR op_ge (pv 2) (pv 1) (nomark _)) pa_nil)) (fun _ _ => rfl))))))), ?_⟩
    refine w_st (σ' := [some (.ref a), none, none]) rfl ?_
    walk_at "ct"
    refine w_rI ⟨by decide, by decide⟩ ?_
    walk_at "ct"
    refine w_rI ⟨by decide, by decide +kernel⟩ ?_
    obtain ⟨M, hM, M0⟩ : ∃ M : Int, ((10 : Int) ^ (60 : Int).toNat) ^ (60 : Int).toNat = M ∧ 0 < M := ⟨_, rfl, by decide +kernel⟩
    rw [hM]
    walk_at "ct"
    refine w_IL hS ?_
    refine lb_list (ns.map V.int) (fun D i H1 => Same H H1 ∧ ∃ ms : List Int, ms.length = i ∧ H1 D = some (.lst (ms.map V.int))) (fun D hD => ⟨same_upd hD, [], rfl, upd_same⟩) (fun D hD i H1 _ h => h.1.seq hS) ?_ ?_
    · rintro D hD i x H1 hx ⟨sm, ms, ml, hm⟩
      have hi : i < ns.length := by
        have z := (List.getElem?_eq_some_iff.mp hx).1
        rw [List.length_map] at z
        exact z
      obtain ⟨c, rfl⟩ : ∃ c : Int, x = .int c := by
        obtain ⟨k, _, rfl⟩ := List.mem_map.mp (List.mem_of_getElem? hx)
        exact ⟨k, rfl⟩
      walk_at "ct"
      refine ⟨rfl, ?_⟩
      walk_at "ct"
      refine w_rI M0 ?_
      walk_at "ct"
      refine ⟨len2 rfl, fun p np => ?_⟩
      walk_at "ct"
      refine .inr ⟨_, rfl, ?_⟩
      have fin : ∀ z : Int, ∃ acc, (upd H1 p (.lst [.int c, .int (M + c % M)])) D = some (.lst acc) ∧ acc.length < sizeLine ∧ (Same H (upd (upd H1 p (.lst [.int c, .int (M + c % M)])) D (.lst (acc ++ [.int z]))) ∧ ∃ ms : List Int, ms.length = i + 1 ∧ (upd (upd H1 p (.lst [.int c, .int (M + c % M)])) D (.lst (acc ++ [.int z]))) D = some (.lst (ms.map V.int))) := fun z => by
        refine ⟨ms.map V.int, ?_, ?_, same_new (same_new sm (sm.free np)) hD, ms ++ [z], ?_, ?_⟩
        · rw [upd_ne (ne_of_none hm np)]
          exact hm
        · rw [List.length_map]
          exact small1000 (by omega)
        · rw [List.length_append, ml]
          rfl
        · rw [upd_same, List.map_append]
          rfl
      by_cases e : M ≤ c
      · rw [decide_eq_true e]
        refine w_ixL (.of upd_same) (v := .int (M + c % M)) rfl ?_
        exact fin _
      · rw [decide_eq_false e]
        refine w_ixL (.of upd_same) (v := .int c) rfl ?_
        exact fin _
    · rintro D hD H1 ⟨sm, ms, ml, hm⟩
      exact q ms D H1 sm hD (by rw [ml, List.length_map]) hm
abbrev S_law : Stmt := topS 43
theorem sc_law : FnScope ["_law_script", "_law_train_here", "_law_stand_here", "_law_far", "_law_spots", "_law_shows_here", "_law_some", "_law_handed", "_law_again", "_law_told", "_law_wear", "_law_other", "_law_due"] ["_law_script"] (defScope S_law) := ⟨rfl, rfl, rfl, by decide +kernel, rfl, by decide +kernel, by decide +kernel⟩
def sp_law (K : PySem.W.Frag) (T : List Addr) : Sp := fun vs H Q _ => ∃ (a : Addr) (ns : List Int), vs = [.ref a] ∧ SqL K H a (ns.map V.int) ∧ ns.length ≤ 63 ∧ Tb T H ∧ ∀ H', Same H H' → Q (.bl true) H'
theorem ok_law {f : Addr} {fd : FuncData} {f_explained : Addr} {fd_explained : FuncData} {f__law_worn : Addr} {fd__law_worn : FuncData} {f__law_just : Addr} {fd__law_just : FuncData} {f_worn : Addr} {fd_worn : FuncData} {f_wears : Addr} {fd_wears : FuncData} {f__law_wears : Addr} {fd__law_wears : FuncData} {f__law_shows : Addr} {fd__law_shows : FuncData} {f__law_cell_at : Addr} {fd__law_cell_at : FuncData} {f__law_mix : Addr} {fd__law_mix : FuncData} {f__law_stand : Addr} {fd__law_stand : FuncData} {f__law_train : Addr} {fd__law_train : FuncData} {f__law_cut : Addr} {fd__law_cut : FuncData} {T : List Addr} (F : Fun K "law" "law" S_law f fd)
    (F_explained : Fun K "explained" "explained" S_explained f_explained fd_explained) (b_explained : Binds K fd_explained ["train", "stand", "shows"] []) (g_explained : mg "explained" = some (.ref f_explained)) (G_explained : FnOk P w K mg base CX0 6 f_explained fd_explained ["train", "stand", "shows"] (sp_explained K T))
    (F__law_worn : Fun K "_law_worn" "_law_worn" S__law_worn f__law_worn fd__law_worn) (b__law_worn : Binds K fd__law_worn ["_law_train_here", "_law_wear"] []) (g__law_worn : mg "_law_worn" = some (.ref f__law_worn)) (G__law_worn : FnOk P w K mg base CX0 1 f__law_worn fd__law_worn ["_law_train_here", "_law_wear"] (sp__law_worn K))
    (F__law_just : Fun K "_law_just" "_law_just" S__law_just f__law_just fd__law_just) (b__law_just : Binds K fd__law_just ["_law_train_here", "_law_stand_here", "_law_shows_here"] []) (g__law_just : mg "_law_just" = some (.ref f__law_just)) (G__law_just : FnOk P w K mg base CX0 3 f__law_just fd__law_just ["_law_train_here", "_law_stand_here", "_law_shows_here"] (sp__law_just K))
    (F_worn : Fun K "worn" "worn" S_worn f_worn fd_worn) (b_worn : Binds K fd_worn ["train", "wear"] []) (g_worn : mg "worn" = some (.ref f_worn)) (G_worn : FnOk P w K mg base CX0 5 f_worn fd_worn ["train", "wear"] (sp_worn K))
    (F_wears : Fun K "wears" "wears" S_wears f_wears fd_wears) (b_wears : Binds K fd_wears ["train"] []) (g_wears : mg "wears" = some (.ref f_wears)) (G_wears : FnOk P w K mg base CX0 5 f_wears fd_wears ["train"] (sp_wears K))
    (F__law_wears : Fun K "_law_wears" "_law_wears" S__law_wears f__law_wears fd__law_wears) (b__law_wears : Binds K fd__law_wears ["_law_train_here"] []) (g__law_wears : mg "_law_wears" = some (.ref f__law_wears)) (G__law_wears : FnOk P w K mg base CX0 1 f__law_wears fd__law_wears ["_law_train_here"] (sp__law_wears K))
    (F__law_shows : Fun K "_law_shows" "_law_shows" S__law_shows f__law_shows fd__law_shows) (b__law_shows : Binds K fd__law_shows ["_law_script", "_law_train_here", "_law_stand_here"] []) (g__law_shows : mg "_law_shows" = some (.ref f__law_shows)) (G__law_shows : FnOk P w K mg base CX0 3 f__law_shows fd__law_shows ["_law_script", "_law_train_here", "_law_stand_here"] (sp__law_shows K))
    (F__law_cell_at : Fun K "_law_cell_at" "_law_cell_at" S__law_cell_at f__law_cell_at fd__law_cell_at) (b__law_cell_at : Binds K fd__law_cell_at ["_law_script", "_law_k"] []) (g__law_cell_at : mg "_law_cell_at" = some (.ref f__law_cell_at)) (G__law_cell_at : FnOk P w K mg base CX0 1 f__law_cell_at fd__law_cell_at ["_law_script", "_law_k"] (sp__law_cell_at K))
    (F__law_mix : Fun K "_law_mix" "_law_mix" S__law_mix f__law_mix fd__law_mix) (b__law_mix : Binds K fd__law_mix ["_law_cell", "_law_k"] []) (g__law_mix : mg "_law_mix" = some (.ref f__law_mix)) (G__law_mix : FnOk P w K mg base CX0 1 f__law_mix fd__law_mix ["_law_cell", "_law_k"] (sp__law_mix K))
    (F__law_stand : Fun K "_law_stand" "_law_stand" S__law_stand f__law_stand fd__law_stand) (b__law_stand : Binds K fd__law_stand ["_law_train_here", "_law_cell"] []) (g__law_stand : mg "_law_stand" = some (.ref f__law_stand)) (G__law_stand : FnOk P w K mg base CX0 2 f__law_stand fd__law_stand ["_law_train_here", "_law_cell"] (sp__law_stand K))
    (F__law_train : Fun K "_law_train" "_law_train" S__law_train f__law_train fd__law_train) (b__law_train : Binds K fd__law_train ["_law_script", "_law_most"] []) (g__law_train : mg "_law_train" = some (.ref f__law_train)) (G__law_train : FnOk P w K mg base CX0 3 f__law_train fd__law_train ["_law_script", "_law_most"] (sp__law_train K))
    (F__law_cut : Fun K "_law_cut" "_law_cut" S__law_cut f__law_cut fd__law_cut) (b__law_cut : Binds K fd__law_cut ["_law_script"] []) (g__law_cut : mg "_law_cut" = some (.ref f__law_cut)) (G__law_cut : FnOk P w K mg base CX0 1 f__law_cut fd__law_cut ["_law_script"] (sp__law_cut K)) (m_range : mg "range" = none) (m_list : mg "list" = none) (m_isinstance : mg "isinstance" = none) (m_len : mg "len" = none) :
    FnOk P w K mg base CX0 7 f fd ["_law_script"] (sp_law K T) := by
  refine F.ok sc_law (fun vs H Q E h => ?_) (fun cdv A outer s H vs Q E hr h => ?_)
  ·
    obtain ⟨a, ns, rfl, _⟩ := h
    rfl
  ·
    obtain ⟨a, ns, rfl, hS, hlen, hTb, q⟩ := h
    refine ⟨_, (pss_cons (ps_set (i := 0) sc_law.nd rfl (.inl rfl) (pe_call G__law_cut (hr.mono (by decide)) (by rfl) g__law_cut F__law_cut.kp b__law_cut .nil pass0 (pa_cons (pv 0) pa_nil)))
      (pss_cons (ps_set (i := 1) sc_law.nd rfl (.inr rfl) (pe_call G__law_train (hr.mono (by decide)) (by rfl) g__law_train F__law_train.kp b__law_train .nil pass0 (pa_cons (pv 0) (pa_cons (pe_op op_powB pe_int pe_int) pa_nil))))
      (pss_cons (ps_if (pt_cmpR op_eq (pe_op op_mod (pe_call G__law_mix (hr.mono (by decide)) (by rfl) g__law_mix F__law_mix.kp b__law_mix .nil pass0 (pa_cons (pe_call G__law_cell_at (hr.mono (by decide)) (by rfl) g__law_cell_at F__law_cell_at.kp b__law_cell_at .nil pass0 (pa_cons (pv 0) (pa_cons pe_int pa_nil))) (pa_cons pe_int pa_nil))) pe_int) pe_int (nomark _)) (pss_one (ps_set (i := 1) sc_law.nd rfl (.inr rfl) (pe_op op_cat (pv 1) (pe_lst (pa_cons (pe_tup (pa_cons pe_str (pa_cons (pe_op op_add (pe_op op_powB pe_int pe_int) (pe_callB call_len_seq (by rfl) m_len (by decide +kernel) (pa_cons (pv 1) pa_nil))) (pa_cons (pe_tup (pa_cons pe_int (pa_cons pe_int (pa_cons pe_int (pa_cons (pe_op op_powB pe_int pe_int) pa_nil))))) pa_nil)))) pa_nil))))) pss_nil)
      (pss_cons (ps_set (i := 2) sc_law.nd rfl (.inr rfl) (pe_call G__law_stand (hr.mono (by decide)) (by rfl) g__law_stand F__law_stand.kp b__law_stand .nil pass0 (pa_cons (pv 1) (pa_cons (pe_call G__law_cell_at (hr.mono (by decide)) (by rfl) g__law_cell_at F__law_cell_at.kp b__law_cell_at .nil pass0 (pa_cons (pv 0) (pa_cons pe_int pa_nil))) pa_nil))))
      (pss_cons (ps_if (PW.pt (pw_and (pt_cmpR (r := rNeD K) (op_neD hr.units) (pe_slice (r := rSlA K) sl_tupA (pe_ix (r := rIxL K) ix_list (pv 1) (pe_un un_neg pe_int) (fun _ _ => rfl)) (po_some pe_int) po_none) (pe_tup pa_nil) (nomark _)) (pw_and1 (pt_cmpR op_gt (pe_ix (r := rIxT K) ix_tup (pe_ix (r := rIxL K) ix_list (pv 1) (pe_un un_neg pe_int) (fun _ _ => rfl)) pe_int (fun _ _ => rfl)) (pe_op op_powB pe_int pe_int) (nomark _))))) (pss_cons (ps_set (i := 3) sc_law.nd rfl (.inl rfl) (pe_op op_mod (pe_ix (r := rIxT K) ix_tup (pv 2) (pe_un un_neg pe_int) (fun _ _ => rfl)) pe_int))
      (pss_cons (ps_set (i := 4) sc_law.nd rfl (.inl rfl) (pe_lst (pa_cons (pe_ix (r := rIxT K) ix_tup (pv 2) (pe_un un_neg pe_int) (fun _ _ => rfl)) (pa_cons (pv 3) (pa_cons (pe_op op_sub (pe_op op_sub (pe_ix (r := rIxT K) ix_tup (pe_ix (r := rIxL K) ix_list (pv 1) (pe_un un_neg pe_int) (fun _ _ => rfl)) pe_int (fun _ _ => rfl)) pe_int) (pv 3)) pa_nil)))))
      (pss_one (ps_set (i := 2) sc_law.nd rfl (.inr rfl) (pe_op (r := rCatA K) op_catA (pe_slice (r := rSlA K) sl_tupA (pv 2) po_none (po_some (pe_un un_neg pe_int))) (pe_tup (pa_cons (pe_ix (r := rIxL K) ix_list (pv 4) (pe_op op_mod (pe_call G__law_mix (hr.mono (by decide)) (by rfl) g__law_mix F__law_mix.kp b__law_mix .nil pass0 (pa_cons (pe_call G__law_cell_at (hr.mono (by decide)) (by rfl) g__law_cell_at F__law_cell_at.kp b__law_cell_at .nil pass0 (pa_cons (pv 0) (pa_cons pe_int pa_nil))) (pa_cons pe_int pa_nil))) pe_int) (fun _ _ => rfl)) pa_nil))))))) pss_nil)
      (pss_cons (ps_set (i := 5) sc_law.nd rfl (.inr rfl) (pe_call G__law_shows (hr.mono (by decide)) (by rfl) g__law_shows F__law_shows.kp b__law_shows .nil pass0 (pa_cons (pv 0) (pa_cons (pv 1) (pa_cons (pv 2) pa_nil)))))
      (pss_cons (ps_set (i := 6) sc_law.nd rfl (.inl rfl) (pe_call G__law_wears (hr.mono (by decide)) (by rfl) g__law_wears F__law_wears.kp b__law_wears .nil pass0 (pa_cons (pv 1) pa_nil)))
      (pss_cons (ps_set (i := 7) sc_law.nd rfl (.inl rfl) (pe_tup (pa_cons (pe_callTy call_list_of (by rfl) m_list (by decide +kernel) (pa_cons (pv 1) pa_nil)) (pa_cons (pe_callTy call_list_of (by rfl) m_list (by decide +kernel) (pa_cons (pv 5) pa_nil)) pa_nil))))
      (pss_cons (ps_for PassesOwn.never rfl (pi_range1 (by rfl) m_range (pa_cons pe_int pa_nil)) (pg_name (i := 8) sc_law.nd rfl (.inl rfl))
      (pss_cons (ps_set (i := 9) sc_law.nd rfl (.inl rfl) (pe_call G_wears (hr.mono (by decide)) (by rfl) g_wears F_wears.kp b_wears .nil pass0 (pa_cons (pe_ix (r := rIxT K) ix_tup (pv 7) pe_int (fun _ _ => rfl)) pa_nil)))
      (pss_cons (ps_if (PW.pt (pw_or (pt_not (pt_val (pe_callB (r := rIsi K) call_isi (by rfl) m_isinstance (by decide +kernel) (pa_cons (pv 9) (pa_cons (pe_bltn (v := .ty "list") (u := .type "list") (by rfl) m_list (by decide +kernel) rfl) pa_nil))))) (pw_or1 (pt_cmpR (r := rNeD K) (op_neD hr.units) (pv 9) (pv 6) (nomark _))))) (pss_one (ps_ret pe_bl)) pss_nil)
      (pss_cons (ps_expr (pe_bm PySem.F.plainAttrs_list PySem.F.slot_list_append PySem.F.type_list_append mt_append (pv 9) (pa_cons pe_int pa_nil)))
      (pss_cons (ps_for PassesOwn.never rfl (pi_list (pv 6)) (pg_name (i := 10) sc_law.nd rfl (.inl rfl))
      (pss_cons (ps_set (i := 11) sc_law.nd rfl (.inl rfl) (pe_call G_worn (hr.mono (by decide)) (by rfl) g_worn F_worn.kp b_worn .nil pass0 (pa_cons (pe_ix (r := rIxT K) ix_tup (pv 7) pe_int (fun _ _ => rfl)) (pa_cons (pv 10) pa_nil))))
      (pss_cons (ps_if (PW.pt (pw_or (pt_not (pt_val (pe_callB (r := rIsi K) call_isi (by rfl) m_isinstance (by decide +kernel) (pa_cons (pv 11) (pa_cons (pe_bltn (v := .ty "list") (u := .type "list") (by rfl) m_list (by decide +kernel) rfl) pa_nil))))) (pw_or (pt_cmpR (r := rNeD K) (op_neD hr.units) (pv 11) (pe_call G__law_worn (hr.mono (by decide)) (by rfl) g__law_worn F__law_worn.kp b__law_worn .nil pass0 (pa_cons (pv 1) (pa_cons (pv 10) pa_nil))) (nomark _)) (pw_or1 (pt_cmpR (r := rNeD K) (op_neD hr.units) (pe_ix (r := rIxT K) ix_tup (pv 7) pe_int (fun _ _ => rfl)) (pv 1) (nomark _)))))) (pss_one (ps_ret pe_bl)) pss_nil)
      (pss_one (ps_expr (pe_bm PySem.F.plainAttrs_list PySem.F.slot_list_append PySem.F.type_list_append mt_append (pv 11) (pa_cons pe_int pa_nil)))))))
      (pss_cons (ps_setLc (i := 12) (own := [("_law_wear", 10)]) (g := gName 10)  rfl sc_law.nd rfl rfl (sw_true rfl rfl rfl (by decide +kernel)) (pi_list (pv 6)) (blkOk_by (own := [("_law_wear", 10)]) (N := ["_law_script", "_law_train_here", "_law_stand_here", "_law_far", "_law_spots", "_law_shows_here", "_law_some", "_law_handed", "_law_again", "_law_told", "_law_wear", "_law_other", "_law_due"]) (sc := defScope S_law) (by decide +kernel)) (fun _ _ _ _ _ => pg_name (i := 10) sc_law.nd rfl (Or.inl rfl)) (fun _ _ _ _ _ => (pts_one (pt_val (pe_call G__law_just (hr.mono (by decide)) (by rfl) g__law_just F__law_just.kp b__law_just .nil pass0 (pa_cons (pe_call G__law_worn (hr.mono (by decide)) (by rfl) g__law_worn F__law_worn.kp b__law_worn .nil pass0 (pa_cons (pv 1) (pa_cons (pv 10) pa_nil))) (pa_cons (pv 2) (pa_cons (pv 5) pa_nil))))))) (fun _ _ _ _ _ => (pv 10)))
      (pss_cons (ps_set (i := 9) sc_law.nd rfl (.inl rfl) (pe_call G_explained (hr.mono (by decide)) (by rfl) g_explained F_explained.kp b_explained .nil pass0 (pa_cons (pe_ix (r := rIxT K) ix_tup (pv 7) pe_int (fun _ _ => rfl)) (pa_cons (pv 2) (pa_cons (pe_ix (r := rIxT K) ix_tup (pv 7) pe_int (fun _ _ => rfl)) pa_nil)))))
      (pss_cons (ps_expr (pe_call G_explained (hr.mono (by decide)) (by rfl) g_explained F_explained.kp b_explained .nil pass0 (pa_cons (pe_ix (r := rIxT K) ix_tup (pv 7) pe_int (fun _ _ => rfl)) (pa_cons (pv 2) (pa_cons (pe_lst pa_nil) pa_nil)))))
      (pss_cons (ps_if (PW.pt (pw_or (pt_not (pt_val (pe_callB (r := rIsi K) call_isi (by rfl) m_isinstance (by decide +kernel) (pa_cons (pv 9) (pa_cons (pe_bltn (v := .ty "list") (u := .type "list") (by rfl) m_list (by decide +kernel) rfl) pa_nil))))) (pw_or (pt_cmpR (r := rNeD K) (op_neD hr.units) (pv 9) (pv 12) (nomark _)) (pw_or1 (pt_cmpR (r := rNeD K) (op_neD hr.units) (pv 7) (pe_tup (pa_cons (pv 1) (pa_cons (pv 5) pa_nil))) (nomark _)))))) (pss_one (ps_ret pe_bl)) pss_nil)
      (pss_one (ps_expr (pe_bm PySem.F.plainAttrs_list PySem.F.slot_list_append PySem.F.type_list_append mt_append (pv 9) (pa_cons pe_int pa_nil)))))))))))))
      (pss_one (ps_ret (pe_cmpR (r := rEqD K) (op_eqD hr.units) (pe_call G_explained (hr.mono (by decide)) (by rfl) g_explained F_explained.kp b_explained .nil pass0 (pa_cons (pe_ix (r := rIxT K) ix_tup (pv 7) pe_int (fun _ _ => rfl)) (pa_cons (pv 2) (pa_cons (pe_lst pa_nil) pa_nil)))) (pv 6) (nomark _))))))))))))), ?_⟩
    refine w_st (σ' := [some (.ref a), none, none, none, none, none, none, none, none, none, none, none, none]) rfl ?_
    walk_at "ct"
    refine ⟨a, ns, rfl, hS, by omega, fun ms D H1 s1 nD ml hD => ?_⟩
    walk_at "ct"
    refine w_rIv (.int 1000000000) ⟨by decide, by decide⟩ rfl ?_
    walk_at "ct"
    refine ⟨D, ms, _, rfl, .of hD, by decide, fun ps0 ta0 ws0 H2 s2 nta hta hd0 hok0 l10 l50 _ => ?_⟩
    have s12 := s1.trans s2
    have hD2 := s2 _ _ hD
    refine w_name (σ' := [some (.ref D), some (.ref ta0), none, none, none, none, none, none, none, none, none, none, none]) rfl ?_
    with_reducible refine w_join (fun σ G => ∃ (ta : Addr) (ps : List Part) (ws : List V), σ = [some (.ref D), some (.ref ta), none, none, none, none, none, none, none, none, none, none, none] ∧ Same H2 G ∧ G ta = some (.lst ws) ∧ DpAll K G ws (ps.map Part.data) ∧ (∀ p ∈ ps, p.ok) ∧ 1 ≤ ps.length ∧ ps.length ≤ 6) ?_ ?_
    · rintro σ H3 ⟨ta, ps, ws, rfl, s3, hta3, hd3, hok, l1, l6⟩
      have s13 := s12.trans s3
      have hD3 := s3 _ _ hD2
      have wl : ws.length = ps.length := by rw [dpAll_len hd3, List.length_map]
      walk_at "ct"
      refine ⟨D, ms, 7, rfl, .of hD3, fun c7 => ?_⟩
      walk_at "ct"
      refine ⟨ta, ps, c7, rfl, ⟨ws, .of hta3, hd3⟩, hok, by omega, fun xs0 t0 H4 s4 nt ht0 hso0 => ?_⟩
      refine w_name (σ' := [some (.ref D), some (.ref ta), some (.ref t0), none, none, none, none, none, none, none, none, none, none]) rfl ?_
      with_reducible refine w_join (fun σ G => ∃ (t : Addr) (xs : List Int) (y3 y4 : Option V), σ = [some (.ref D), some (.ref ta), some (.ref t), y3, y4, none, none, none, none, none, none, none, none] ∧ Same H4 G ∧ SqT K G t (xs.map V.int) ∧ StandL ps xs) ?_ ?_
      · rintro σ H5 ⟨t, xs, y3, y4, rfl, s5, ht, hst⟩
        have s35 := s4.trans s5
        have hD5 := s35 _ _ hD3
        have hta5 := s35 _ _ hta3
        have hd5 := dpAll_same s35 hd3
        walk_at "ct"
        refine ⟨D, ta, t, ms, ps, xs, rfl, .of hD5, ⟨ws, .of hta5, hd5⟩, hst, l1, by omega, ht, fun sh zs ss H6 s6 nsh hsh hsd oks => ?_⟩
        walk_at "ct"
        refine ⟨ta, ps, rfl, ⟨ws, .of (s6 _ _ hta5), dpAll_same s6 hd5⟩, hok, l1, by omega, fun sl us H7 s7 nsl hsl hud => ?_⟩
        walk_at "ct"
        have s57 := s6.trans s7
        refine ⟨ta, ws, rfl, .inl (.of (s57 _ _ hta5)), fun h1 nh1 => ?_⟩
        have v1 : Same H7 (upd H7 h1 (.lst ws)) := same_upd nh1
        have hh1 : (upd H7 h1 (.lst ws)) h1 = some (.lst ws) := upd_same
        generalize upd H7 h1 _ = H8 at *
        walk_at "ct"
        refine ⟨sh, zs, rfl, .inl (.of ((s7.trans v1) _ _ hsh)), fun h2 nh2 => ?_⟩
        have v2 : Same H8 (upd H8 h2 (.lst zs)) := same_upd nh2
        have hh2 : (upd H8 h2 (.lst zs)) h2 = some (.lst zs) := upd_same
        generalize upd H8 h2 _ = H9 at *
        walk_at "ct"
        refine ⟨len2 rfl, fun h3 nh3 => ?_⟩
        have v3 : Same H9 (upd H9 h3 (.tup [.ref h1, .ref h2])) := same_upd nh3
        have hh3 : (upd H9 h3 (.tup [.ref h1, .ref h2])) h3 = some (.tup [.ref h1, .ref h2]) := upd_same
        generalize upd H9 h3 _ = HB at *
        have v7B := (v1.trans v2).trans v3
        have s5B := s57.trans v7B
        have s0B := (s13.trans s35).trans s5B
        have eTa : HB ta = some (.lst ws) := s5B _ _ hta5
        have eTd := dpAll_same s5B hd5
        have eH1 : HB h1 = some (.lst ws) := (v2.trans v3) _ _ hh1
        have eH2 : HB h2 = some (.lst zs) := v3 _ _ hh2
        have eSh : HB sh = some (.lst zs) := (s7.trans v7B) _ _ hsh
        have eSd := dpAll_same (s7.trans v7B) hsd
        have eSl : HB sl = some (.lst us) := v7B _ _ hsl
        have eUd := dpAll_same v7B hud
        have eT := Same.tup s5B ht
        have ul : us.length = (wearsN ps ps.length).length := by rw [dpAll_len hud, List.length_map]
        have ul2 := wears_len hok ps.length
        clear hta5 hd5 hsh hsd hsl hud hh1 hh2 v1 v2 v3 v7B nh1 nh2 nh3 hta3 hd3
        have fT : ∀ G, Same HB G → TrainAt K G ta ps := fun G s => ⟨ws, .of (s _ _ eTa), dpAll_same s eTd⟩
        have fH : ∀ G, Same HB G → TrainAt K G h1 ps := fun G s => ⟨ws, .of (s _ _ eH1), dpAll_same s eTd⟩
        walk_at "ct"
        refine w_RG1 (by omega) (by omega) ?_
        refine fb_range (fun i σ G => ∃ z8 z9 z10 z11 z12, σ = [some (.ref D), some (.ref ta), some (.ref t), y3, y4, some (.ref sh), some (.ref sl), some (.ref h3), z8, z9, z10, z11, z12] ∧ Same HB G) ⟨none, none, none, none, none, rfl, Same.refl _⟩ ?_ ?_
        · rintro i σ G hi ⟨z8, z9, z10, z11, z12, rfl, sG⟩
          have gh3 : SqT K G h3 [.ref h1, .ref h2] := .of (sG _ _ hh3)
          walk_at "ct"
          refine ⟨h1, ps, rfl, fH G sG, hok, l1, by omega, fun tl tus G1 g1 ntl htl htd => ?_⟩
          have tll : tus.length = (wearsN ps ps.length).length := by rw [dpAll_len htd, List.length_map]
          have sG1 := sG.trans g1
          walk_at "ct"
          refine w_isi (b := true) (tyx_L (.of htl)) (kit_ty (by decide +kernel)) ?_
          walk_at "ct"
          refine w_neSame (.list ((wearsN ps ps.length).map wearD)) (.lst (.of htl) htd) (.lst (.of (sG1 _ _ eSl)) (dpAll_same sG1 eUd)) (lay_wears _) (by decide) ?_
          walk_at "ct"
          refine ⟨ty_list htl, ?_⟩
          walk_at "ct"
          refine w_append htl (Nat.lt_of_le_of_lt (show tus.length ≤ 20000 by omega) (by decide)) ?_
          have sG2 : Same HB (upd G1 tl (.lst (tus ++ [.int 0]))) := same_new sG1 (sG.free ntl)
          generalize upd G1 tl _ = G2 at *
          walk_at "ct"
          refine w_IL (.of (sG2 _ _ eSl)) ?_
          refine fb_list us (fun j σ G' => ∃ z10 z11, σ = [some (.ref D), some (.ref ta), some (.ref t), y3, y4, some (.ref sh), some (.ref sl), some (.ref h3), some (.int (0 + (i : Int))), some (.ref tl), z10, z11, z12] ∧ Same HB G') ⟨_, _, rfl, sG2⟩ ?_ ?_ ?_
          · rintro j σ G' _ ⟨z10, z11, rfl, s'⟩
            exact .of (s' _ _ eSl)
          · rintro j x σ G' hx ⟨z10, z11, rfl, s'⟩
            have hj : j < us.length := (List.getElem?_eq_some_iff.mp hx).1
            obtain ⟨wr, hw⟩ : ∃ wr, (wearsN ps ps.length)[j]? = some wr := ⟨_, List.getElem?_eq_getElem (by omega)⟩
            obtain ⟨v', hv1, hd1⟩ := dpAll_get eUd (i := j) (d := wearD wr) (by rw [List.getElem?_map, hw]; rfl)
            cases Option.some.inj (hx.symm.trans hv1)
            have isw : ∀ i m, wr = some (i, m) → ∃ z ms, ps[i]? = some (.wheel z ms) := fun i m e => by
              subst e
              exact wears_is (List.mem_of_getElem? hw)
            have gh3' : SqT K G' h3 [.ref h1, .ref h2] := .of (s' _ _ hh3)
            walk_at "ct"
            refine ⟨h1, x, ps, wr, rfl, fH G' s', hok, l1, wear_at (dp_same s' hd1), isw, fun l2 ws2 G3 g3 nl2 hl2 hd2 => ?_⟩
            have s3' := s'.trans g3
            have w2l : ws2.length = ps.length := by rw [dpAll_len hd2, List.length_map, wornP_len]
            walk_at "ct"
            refine w_isi (b := true) (tyx_L (.of hl2)) (kit_ty (by decide +kernel)) ?_
            walk_at "ct"
            refine ⟨ta, x, ps, wr, rfl, fT G3 s3', hok, wear_at (dp_same s3' hd1), isw, fun l3 ws3 G4 g4 nl3 hl3 hd4 => ?_⟩
            have s4' := s3'.trans g4
            walk_at "ct"
            refine w_neSame (.list ((wornP ps wr).map Part.data)) (.lst (.of (g4 _ _ hl2)) (dpAll_same g4 hd2)) (.lst (.of hl3) hd4) (lay_train _) (by decide) ?_
            have gh4 : SqT K G4 h3 [.ref h1, .ref h2] := .of (s4' _ _ hh3)
            walk_at "ct"
            refine w_neSame (.list (ps.map Part.data)) (.lst (.of (s4' _ _ eH1)) (dpAll_same s4' eTd)) (.lst (.of (s4' _ _ eTa)) (dpAll_same s4' eTd)) (lay_train _) (by decide) ?_
            walk_at "ct"
            refine ⟨ty_list (g4 _ _ hl2), ?_⟩
            walk_at "ct"
            refine w_append (g4 _ _ hl2) (by rw [w2l]; exact small1000 (by omega)) ?_
            exact ⟨_, _, rfl, same_new s4' (s'.free nl2)⟩
          · rintro σ G' ⟨z10, z11, rfl, s'⟩
            walk_at "ct"
            refine w_IL (.of (s' _ _ eSl)) ?_
            refine lb_list us (fun D2 k G3 => Same G' G3 ∧ ∃ acc, G3 D2 = some (.lst acc) ∧ acc.length ≤ k ∧ DpAll K G3 acc ((((wearsN ps ps.length).take k).filter fun w => explB (wornP ps w) xs ss).map wearD)) (fun D2 hD2 => ⟨same_upd hD2, [], upd_same, Nat.le_refl _, .nil⟩) (fun D2 hD2 k G3 _ h => .of ((s'.trans h.1) _ _ eSl)) ?_ ?_
            · rintro D2 hD2 k x G3 hx ⟨g3, acc, hacc, al, hda⟩
              have hk : k < us.length := (List.getElem?_eq_some_iff.mp hx).1
              obtain ⟨wr, hw⟩ : ∃ wr, (wearsN ps ps.length)[k]? = some wr := ⟨_, List.getElem?_eq_getElem (by omega)⟩
              obtain ⟨v', hv1, hd1⟩ := dpAll_get eUd (i := k) (d := wearD wr) (by rw [List.getElem?_map, hw]; rfl)
              cases Option.some.inj (hx.symm.trans hv1)
              have tk : ((wearsN ps ps.length).take (k + 1)).filter (fun w => explB (wornP ps w) xs ss) = ((wearsN ps ps.length).take k).filter (fun w => explB (wornP ps w) xs ss) ++ (if explB (wornP ps wr) xs ss = true then [wr] else []) := by
                rw [List.take_add_one, hw, Option.toList_some, List.filter_append]
                congr 1
                by_cases e : explB (wornP ps wr) xs ss = true
                · rw [if_pos e, List.filter_cons_of_pos (p := fun w => explB (wornP ps w) xs ss) e, List.filter_nil]
                · rw [if_neg e, List.filter_cons_of_neg (p := fun w => explB (wornP ps w) xs ss) e, List.filter_nil]
              have s3 := s'.trans g3
              walk_at "ct"
              refine ⟨rfl, ?_⟩
              walk_at "ct"
              refine ⟨ta, x, ps, wr, rfl, fT G3 s3, hok, wear_at (dp_same s3 hd1), fun j m e => ?_, fun l2 ws2 G4 g4 nl2 hl2 hd2 => ?_⟩
              · subst e
                exact wears_is (List.mem_of_getElem? hw)
              have s4 := s3.trans g4
              walk_at "ct"
              refine ⟨l2, t, sh, wornP ps wr, xs, ss, rfl, ⟨ws2, .of hl2, hd2⟩, worn_stand hst, by rw [wornP_len]; omega, Same.tup s4 eT, ⟨zs, .of (s4 _ _ eSh), dpAll_same s4 eSd⟩, by rw [wornP_len]; exact oks, fun G5 g5 => ?_⟩
              have g35 := (g3.trans g4).trans g5
              refine ⟨_, rfl, ?_⟩
              rw [tk]
              cases e : explB (wornP ps wr) xs ss with
              | true =>
                rw [if_pos rfl]
                walk_at "ct"
                refine ⟨acc, (g4.trans g5) _ _ hacc, Nat.lt_of_le_of_lt (show acc.length ≤ 20000 by omega) (by decide), same_new g35 hD2, acc ++ [x], upd_same, by rw [List.length_append]; show acc.length + 1 ≤ k + 1; omega, ?_⟩
                rw [if_pos rfl, List.map_append]
                exact dpAll_app (wears_upd ((g4.trans g5) _ _ hacc) (dpAll_same (g4.trans g5) hda)) (.cons (wear_upd ((g4.trans g5) _ _ hacc) (dp_same (s'.trans g35) hd1)) .nil)
              | false =>
                rw [if_neg Bool.false_ne_true, if_neg Bool.false_ne_true, List.append_nil]
                exact ⟨g35, acc, (g4.trans g5) _ _ hacc, by omega, dpAll_same (g4.trans g5) hda⟩
            · rintro D2 hD2 G3 ⟨g3, acc, hacc, al, hda⟩
              rw [List.take_of_length_le (by omega)] at hda
              have s3 := s'.trans g3
              have gh3' : SqT K G3 h3 [.ref h1, .ref h2] := .of (s3 _ _ hh3)
              walk_at "ct"
              refine ⟨h1, t, h2, ps, xs, ss, rfl, fH G3 s3, hst, l1, by omega, Same.tup s3 eT, ⟨zs, .of (s3 _ _ eH2), dpAll_same s3 eSd⟩, oks, hTb.same (s0B.trans s3), fun el eus G4 g4 nel hel hed => ?_⟩
              have ell : eus.length ≤ us.length := by
                rw [dpAll_len hed, List.length_map, ul]
                exact List.length_filter_le _ _
              have s4 := s3.trans g4
              have gh4 : SqT K G4 h3 [.ref h1, .ref h2] := .of (s4 _ _ hh3)
              walk_at "ct"
              refine ⟨len2 rfl, fun e ne => ?_⟩
              have ue : Same G4 (upd G4 e (.lst [])) := same_upd ne
              have he : (upd G4 e (.lst [])) e = some (.lst []) := upd_same
              generalize upd G4 e _ = G5 at *
              have s5 := s4.trans ue
              walk_at "ct"
              refine ⟨h1, t, e, ps, xs, [], rfl, fH G5 s5, hst, l1, by omega, Same.tup s5 eT, ⟨[], .of he, .nil⟩, (fun _ h => nomatch h), hTb.same (s0B.trans s5), fun el2 eus2 G6 g6 _ _ _ => ?_⟩
              have s6 := s5.trans g6
              have g46 := ue.trans g6
              walk_at "ct"
              refine w_isi (b := true) (tyx_L (.of (g46 _ _ hel))) (kit_ty (by decide +kernel)) ?_
              walk_at "ct"
              refine w_neSame (.list (((wearsN ps ps.length).filter fun w => explB (wornP ps w) xs ss).map wearD)) (.lst (.of (g46 _ _ hel)) (dpAll_same g46 hed)) (.lst (.of ((g4.trans g46) _ _ hacc)) (dpAll_same (g4.trans g46) hda)) (lay_wears _) (by decide) ?_
              walk_at "ct"
              refine ⟨len2 rfl, fun y ny => ?_⟩
              have uy : Same G6 (upd G6 y (.tup [.ref ta, .ref sh])) := same_upd ny
              have hy : (upd G6 y (.tup [.ref ta, .ref sh])) y = some (.tup [.ref ta, .ref sh]) := upd_same
              generalize upd G6 y _ = G7 at *
              have s7 := s6.trans uy
              refine w_neSame (.tuple [.list (ps.map Part.data), .list (ss.map showD)]) (.tup (.of (s7 _ _ hh3)) (.cons (.lst (.of (s7 _ _ eH1)) (dpAll_same s7 eTd)) (.cons (.lst (.of (s7 _ _ eH2)) (dpAll_same s7 eSd)) .nil))) (.tup (.of hy) (.cons (.lst (.of (s7 _ _ eTa)) (dpAll_same s7 eTd)) (.cons (.lst (.of (s7 _ _ eSh)) (dpAll_same s7 eSd)) .nil))) (n := 4) (lay_tup (n := 3) fun d hd => ?_) (by decide) ?_
              · rcases List.mem_cons.mp hd with rfl | hd
                · exact lay_mono (lay_train ps) (by decide)
                rcases List.mem_cons.mp hd with rfl | hd
                · exact lay_mono (lay_shows ss) (by decide)
                · cases hd
              walk_at "ct"
              refine ⟨ty_list ((g46.trans uy) _ _ hel), ?_⟩
              walk_at "ct"
              refine w_append ((g46.trans uy) _ _ hel) (Nat.lt_of_le_of_lt (show eus.length ≤ 20000 by omega) (by decide)) ?_
              exact ⟨_, _, _, _, _, rfl, same_new s7 (s3.free nel)⟩
        · rintro σ G ⟨z8, z9, z10, z11, z12, rfl, sG⟩
          have gh3 : SqT K G h3 [.ref h1, .ref h2] := .of (sG _ _ hh3)
          walk_at "ct"
          refine ⟨len2 rfl, fun e ne => ?_⟩
          have ue : Same G (upd G e (.lst [])) := same_upd ne
          have he : (upd G e (.lst [])) e = some (.lst []) := upd_same
          generalize upd G e _ = G1 at *
          have sG1 := sG.trans ue
          walk_at "ct"
          refine ⟨h1, t, e, ps, xs, [], rfl, fH G1 sG1, hst, l1, by omega, Same.tup sG1 eT, ⟨[], .of he, .nil⟩, (fun _ h => nomatch h), hTb.same (s0B.trans sG1), fun el eus G2 g2 nel hel hed => ?_⟩
          rw [List.filter_eq_self (p := fun w => explB (wornP ps w) xs []) |>.mpr (fun _ _ => rfl)] at hed
          have sG2 := sG1.trans g2
          walk_at "ct"
          refine ⟨_, _, .lst (.of hel) hed, .lst (.of (sG2 _ _ eSl)) (dpAll_same sG2 eUd), shaped_of (lay_wears _) (by decide), shaped_of (lay_wears _) (by decide), ?_⟩
          rw [SeqAt.eqv_refl _ (lay_wears _).1]
          exact q G2 (s0B.trans sG2)
      · have hst0 := standL_of hok hso0
        have xl0 : xs0.length = ps.length := hso0.1
        obtain ⟨n, hn⟩ : ∃ n, ps.length = n + 1 := ⟨ps.length - 1, by omega⟩
        obtain ⟨p, hp⟩ : ∃ p, ps[n]? = some p := ⟨_, List.getElem?_eq_getElem (by omega)⟩
        obtain ⟨v, hv1, hd1⟩ := TrainAt.at (a := ta) hd3 hp
        obtain ⟨x, hx⟩ : ∃ x, xs0[n]? = some x := ⟨_, List.getElem?_eq_getElem (by omega)⟩
        have hx0 := hso0.2 _ _ _ hp hx
        have hta4 := s4 _ _ hta3
        have hd4 := dp_same s4 hd1
        have atv : atI ws (-1) = some v := at_lastB (n := n) (by omega) hv1
        have atx : atI (xs0.map V.int) (-1) = some (.int x) := at_lastB (n := n) (by rw [List.length_map]; omega) (by rw [List.getElem?_map, hx]; rfl)
        intro N hN
        walk_at "ct"
        refine w_ixL (.of hta4) atv ?_
        walk_at "ct"
        cases p with
        | wheel z mk =>
          obtain ⟨g, b, rfl, hg, hb⟩ := wheel_inv hd4
          have hx0 : 0 ≤ x ∧ x < z := hx0
          refine w_slB hg fun cu H5 u5 hcu => ?_
          have hcu : SqT K H5 cu [.int z, .ref b] := hcu
          have hb5 := Same.tup u5 hb
          walk_at "ct"
          refine ⟨len2 rfl, fun em nem => ?_⟩
          have u6 : Same H5 (upd H5 em (.tup [])) := same_upd nem
          have hem : (upd H5 em (.tup [])) em = some (.tup []) := upd_same
          generalize upd H5 em _ = H6 at *
          refine ⟨(.tuple [.int z, .tuple (mk.map PyData.int)]), .tuple [], .tup (Same.tup u6 hcu) (.cons (.int _) (.cons (.tup (Same.tup u6 hb5) (dpAll_ints mk)) .nil)), .tup (.of hem) .nil, shaped_of (lay_wheelcut z mk) (by decide), shaped_of (lay_ints_tup []) (by decide), ?_⟩
          rw [show PyData.eqv (.tuple [.int z, .tuple (mk.map PyData.int)]) (.tuple []) = false from rfl]
          have s46 := u5.trans u6
          have hg6 := Same.tup s46 hg
          have hta6 := s46 _ _ hta4
          have ht6 : SqT K H6 t0 (xs0.map V.int) := .of (s46 _ _ ht0)
          walk_at "ct"
          refine w_ixL (.of hta6) atv ?_
          walk_at "ct"
          refine w_rIv (.int 10000000000000000000000000000) ⟨by decide, by decide⟩ rfl ?_
          walk_at "ct"
          refine w_ite (fun e => ?_) (fun e => ?_)
          · walk_at "ct"
            refine w_ixT ht6 atx ?_
            walk_at "ct"
            refine w_mod (by decide) fun far f0 f1 => ?_
            walk_at "ct"
            refine w_ixT ht6 atx ?_
            walk_at "ct"
            refine w_ixL (.of hta6) atv ?_
            walk_at "ct"
            refine ⟨len2 rfl, fun sp nsp => ?_⟩
            have u7 : Same H6 (upd H6 sp (.lst [.int x, .int far, .int (z - 1 - far)])) := same_upd nsp
            have hsp : (upd H6 sp (.lst [.int x, .int far, .int (z - 1 - far)])) sp = some (.lst [.int x, .int far, .int (z - 1 - far)]) := upd_same
            generalize upd H6 sp _ = H7 at *
            walk_at "ct"
            refine w_slB (Same.tup u7 ht6) fun cu2 H8 u8 hcu2 => ?_
            rw [cut_lastB xs0 (n := n) (by omega)] at hcu2
            have s48 := (s46.trans u7).trans u8
            walk_at "ct"
            refine ⟨D, ms, 7, rfl, .of ((s4.trans s48) _ _ hD3), fun c7' => ?_⟩
            walk_at "ct"
            refine ⟨c7', 9, rfl, by decide, by decide, fun m9 _ _ => ?_⟩
            walk_at "ct"
            refine w_mod (by decide) fun r3 r30 r31 => ?_
            obtain ⟨y, hy, y0, y1⟩ : ∃ y : Int, atI [V.int x, .int far, .int (z - 1 - far)] r3 = some (.int y) ∧ 0 ≤ y ∧ y < z := by
              have : r3 = 0 ∨ r3 = 1 ∨ r3 = 2 := by omega
              rcases this with rfl | rfl | rfl
              · exact ⟨x, at0, hx0.1, hx0.2⟩
              · exact ⟨far, at1, f0, by omega⟩
              · exact ⟨z - 1 - far, at2, by omega, by omega⟩
            refine w_ixL (.of (u8 _ _ hsp)) hy ?_
            walk_at "ct"
            refine ⟨len2 rfl, fun g9 ng9 => ?_⟩
            have u9 : Same H8 (upd H8 g9 (.tup [.int y])) := same_upd ng9
            have hg9 : (upd H8 g9 (.tup [.int y])) g9 = some (.tup [.int y]) := upd_same
            generalize upd H8 g9 _ = H9 at *
            refine w_catA (Same.tup u9 hcu2) (.of hg9) (by rw [List.length_map, List.length_take]; show min n xs0.length + 1 ≤ 1000; omega) fun g10 H10 u10 hg10 => ?_
            walk_at "ct"
            refine hN _ _ ⟨g10, xs0.take n ++ [y], _, _, rfl, (s48.trans u9).trans u10, ?_, stand_last hst0 hn hp y0 y1⟩
            rw [List.map_append]
            exact hg10
          · walk_at "ct"
            exact hN _ _ ⟨t0, xs0, _, _, rfl, s46, ht6, hst0⟩
        | click =>
          obtain ⟨g, rfl, hg⟩ := click_inv hd4
          refine w_slB hg fun cu H5 u5 hcu => ?_
          have hcu : SqT K H5 cu [] := hcu
          walk_at "ct"
          refine ⟨len2 rfl, fun em nem => ?_⟩
          have u6 : Same H5 (upd H5 em (.tup [])) := same_upd nem
          have hem : (upd H5 em (.tup [])) em = some (.tup []) := upd_same
          generalize upd H5 em _ = H6 at *
          refine w_neSame (.tuple []) (.tup (Same.tup u6 hcu) .nil) (.tup (.of hem) .nil) (lay_ints_tup []) (by decide) ?_
          walk_at "ct"
          exact hN _ _ ⟨t0, xs0, _, _, rfl, u5.trans u6, .of ((u5.trans u6) _ _ ht0), hst0⟩
        | rocker =>
          obtain ⟨g, rfl, hg⟩ := rocker_inv hd4
          refine w_slB hg fun cu H5 u5 hcu => ?_
          have hcu : SqT K H5 cu [] := hcu
          walk_at "ct"
          refine ⟨len2 rfl, fun em nem => ?_⟩
          have u6 : Same H5 (upd H5 em (.tup [])) := same_upd nem
          have hem : (upd H5 em (.tup [])) em = some (.tup []) := upd_same
          generalize upd H5 em _ = H6 at *
          refine w_neSame (.tuple []) (.tup (Same.tup u6 hcu) .nil) (.tup (.of hem) .nil) (lay_ints_tup []) (by decide) ?_
          walk_at "ct"
          exact hN _ _ ⟨t0, xs0, _, _, rfl, u5.trans u6, .of ((u5.trans u6) _ _ ht0), hst0⟩
        | spring z =>
          obtain ⟨g, rfl, hg⟩ := spring_inv hd4
          have hx0 : 0 ≤ x ∧ x < z := hx0
          refine w_slB hg fun cu H5 u5 hcu => ?_
          have hcu : SqT K H5 cu [.int z] := hcu
          skip
          walk_at "ct"
          refine ⟨len2 rfl, fun em nem => ?_⟩
          have u6 : Same H5 (upd H5 em (.tup [])) := same_upd nem
          have hem : (upd H5 em (.tup [])) em = some (.tup []) := upd_same
          generalize upd H5 em _ = H6 at *
          refine ⟨(.tuple [.int z]), .tuple [], .tup (Same.tup u6 hcu) (.cons (.int _) .nil), .tup (.of hem) .nil, shaped_of (lay_ints_tup [z]) (by decide), shaped_of (lay_ints_tup []) (by decide), ?_⟩
          rw [show PyData.eqv (.tuple [.int z]) (.tuple []) = false from rfl]
          have s46 := u5.trans u6
          have hg6 := Same.tup s46 hg
          have hta6 := s46 _ _ hta4
          have ht6 : SqT K H6 t0 (xs0.map V.int) := .of (s46 _ _ ht0)
          walk_at "ct"
          refine w_ixL (.of hta6) atv ?_
          walk_at "ct"
          refine w_rIv (.int 10000000000000000000000000000) ⟨by decide, by decide⟩ rfl ?_
          walk_at "ct"
          refine w_ite (fun e => ?_) (fun e => ?_)
          · walk_at "ct"
            refine w_ixT ht6 atx ?_
            walk_at "ct"
            refine w_mod (by decide) fun far f0 f1 => ?_
            walk_at "ct"
            refine w_ixT ht6 atx ?_
            walk_at "ct"
            refine w_ixL (.of hta6) atv ?_
            walk_at "ct"
            refine ⟨len2 rfl, fun sp nsp => ?_⟩
            have u7 : Same H6 (upd H6 sp (.lst [.int x, .int far, .int (z - 1 - far)])) := same_upd nsp
            have hsp : (upd H6 sp (.lst [.int x, .int far, .int (z - 1 - far)])) sp = some (.lst [.int x, .int far, .int (z - 1 - far)]) := upd_same
            generalize upd H6 sp _ = H7 at *
            walk_at "ct"
            refine w_slB (Same.tup u7 ht6) fun cu2 H8 u8 hcu2 => ?_
            rw [cut_lastB xs0 (n := n) (by omega)] at hcu2
            have s48 := (s46.trans u7).trans u8
            walk_at "ct"
            refine ⟨D, ms, 7, rfl, .of ((s4.trans s48) _ _ hD3), fun c7' => ?_⟩
            walk_at "ct"
            refine ⟨c7', 9, rfl, by decide, by decide, fun m9 _ _ => ?_⟩
            walk_at "ct"
            refine w_mod (by decide) fun r3 r30 r31 => ?_
            obtain ⟨y, hy, y0, y1⟩ : ∃ y : Int, atI [V.int x, .int far, .int (z - 1 - far)] r3 = some (.int y) ∧ 0 ≤ y ∧ y < z := by
              have : r3 = 0 ∨ r3 = 1 ∨ r3 = 2 := by omega
              rcases this with rfl | rfl | rfl
              · exact ⟨x, at0, hx0.1, hx0.2⟩
              · exact ⟨far, at1, f0, by omega⟩
              · exact ⟨z - 1 - far, at2, by omega, by omega⟩
            refine w_ixL (.of (u8 _ _ hsp)) hy ?_
            walk_at "ct"
            refine ⟨len2 rfl, fun g9 ng9 => ?_⟩
            have u9 : Same H8 (upd H8 g9 (.tup [.int y])) := same_upd ng9
            have hg9 : (upd H8 g9 (.tup [.int y])) g9 = some (.tup [.int y]) := upd_same
            generalize upd H8 g9 _ = H9 at *
            refine w_catA (Same.tup u9 hcu2) (.of hg9) (by rw [List.length_map, List.length_take]; show min n xs0.length + 1 ≤ 1000; omega) fun g10 H10 u10 hg10 => ?_
            walk_at "ct"
            refine hN _ _ ⟨g10, xs0.take n ++ [y], _, _, rfl, (s48.trans u9).trans u10, ?_, stand_last hst0 hn hp y0 y1⟩
            rw [List.map_append]
            exact hg10
          · walk_at "ct"
            exact hN _ _ ⟨t0, xs0, _, _, rfl, s46, ht6, hst0⟩
    · intro N hN
      walk_at "ct"
      refine ⟨D, ms, 0, rfl, .of hD2, fun c0 => ?_⟩
      walk_at "ct"
      refine ⟨c0, 2, rfl, by decide, by decide, fun m _ _ => ?_⟩
      walk_at "ct"
      refine w_mod (by decide) fun r _ _ => ?_
      walk_at "ct"
      refine w_ite (fun _ => ?_) (fun _ => ?_)
      · walk_at "ct"
        refine w_rIv (.int 100000000000000000000000000000) ⟨by decide, by decide⟩ rfl ?_
        walk_at "ct"
        refine ⟨ta0, ws0, rfl, .inl (.of hta), ?_⟩
        walk_at "ct"
        refine w_rIv (.int 100000000000000000000000000000) ⟨by decide, by decide⟩ rfl ?_
        walk_at "ct"
        have wl0 : ws0.length = ps0.length := by rw [dpAll_len hd0, List.length_map]
        refine ⟨len2 rfl, fun g1 ng1 => ?_⟩
        have u1 : Same H2 (upd H2 g1 (.tup [.int 0, .int 1, .int 5, .int 100000000000000000000000000000])) := same_upd ng1
        have e1 : (upd H2 g1 (.tup [.int 0, .int 1, .int 5, .int 100000000000000000000000000000])) g1 = some (.tup ([0, 1, 5, 100000000000000000000000000000].map V.int)) := upd_same
        generalize upd H2 g1 _ = H3 at *
        walk_at "ct"
        refine ⟨len2 rfl, fun g2 ng2 => ?_⟩
        have u2 : Same H3 (upd H3 g2 (.tup [.str "wheel", .int (100000000000000000000000000000 + (ws0.length : Int)), .ref g1])) := same_upd ng2
        have e2 : (upd H3 g2 (.tup [.str "wheel", .int (100000000000000000000000000000 + (ws0.length : Int)), .ref g1])) g2 = some (.tup [.str "wheel", .int (100000000000000000000000000000 + (ws0.length : Int)), .ref g1]) := upd_same
        generalize upd H3 g2 _ = H4 at *
        walk_at "ct"
        refine ⟨len2 rfl, fun g3 ng3 => ?_⟩
        have u3 : Same H4 (upd H4 g3 (.lst [.ref g2])) := same_upd ng3
        have e3 : (upd H4 g3 (.lst [.ref g2])) g3 = some (.lst [.ref g2]) := upd_same
        generalize upd H4 g3 _ = H5 at *
        have u13 := (u1.trans u2).trans u3
        refine ⟨ta0, g3, ws0, [.ref g2], rfl, rfl, u13 _ _ hta, e3, Nat.le_trans (show ws0.length + 1 ≤ 1000 by omega) (by decide), fun g4 ng4 => ?_⟩
        have u4 : Same H5 (upd H5 g4 (.lst (ws0 ++ [.ref g2]))) := same_upd ng4
        have e4 : (upd H5 g4 (.lst (ws0 ++ [.ref g2]))) g4 = some (.lst (ws0 ++ [.ref g2])) := upd_same
        generalize upd H5 g4 _ = H6 at *
        walk_at "ct"
        refine hN _ _ ⟨g4, ps0 ++ [.wheel (100000000000000000000000000000 + (ws0.length : Int)) [0, 1, 5, 100000000000000000000000000000]], ws0 ++ [.ref g2], rfl, u13.trans u4, e4, ?_, fun p hp => ?_, by rw [List.length_append]; omega, by rw [List.length_append]; show ps0.length + 1 ≤ 6; omega⟩
        · rw [List.map_append]
          exact dpAll_app (dpAll_same (u13.trans u4) hd0) (.cons (wheel_dp (.of ((u3.trans u4) _ _ e2)) (.of (((u2.trans u3).trans u4) _ _ e1))) .nil)
        · rcases List.mem_append.mp hp with hp | hp
          · exact (hok0 p hp).1
          · rw [List.mem_singleton] at hp
            rw [hp]
            refine ⟨by omega, by omega, ⟨by decide, fun m hm => ?_⟩, by decide⟩
            simp only [List.mem_cons, List.not_mem_nil, or_false] at hm
            rcases hm with rfl | rfl | rfl | rfl <;> omega
      · walk_at "ct"
        exact hN _ _ ⟨ta0, ps0, ws0, rfl, Same.refl _, hta, hd0, fun p hp => (hok0 p hp).1, l10, by omega⟩
end
theorem all_mk {l : PySem.W.OpenLaw} {w : World} {K : PySem.W.Frag} {h : Heap} {mg : Str → Option Value} {fa : Addr} (X : K.In h) (G : h.Ns mainGlobals mg) (hfa : mg "law" = some (.ref fa))
    {f_is_whole : Addr} {od0 an0 : Option Addr} {sl0 : Array (Option Value)} {oc0 kV0 dc0 pm0 cd0 ct0 : Value}
    (a0 : PySem.W.nsIn K mainGlobals "is_whole" = some (some (.ref f_is_whole))) (l0 : K.lookup f_is_whole = some ⟨oc0, od0, .func (PySem.W.fnOf "is_whole" "is_whole" (defArgs S_is_whole) (defBody S_is_whole) (defScope S_is_whole) .none kV0 dc0 pm0 an0 cd0 ct0), sl0⟩) (c0 : PySem.W.codeIn K cd0 "is_whole" = true) (k0 : PySem.W.keepIn K (.ref f_is_whole) = true)
    {f_are_marks : Addr} {od1 an1 : Option Addr} {sl1 : Array (Option Value)} {oc1 kV1 dc1 pm1 cd1 ct1 : Value}
    (a1 : PySem.W.nsIn K mainGlobals "are_marks" = some (some (.ref f_are_marks))) (l1 : K.lookup f_are_marks = some ⟨oc1, od1, .func (PySem.W.fnOf "are_marks" "are_marks" (defArgs S_are_marks) (defBody S_are_marks) (defScope S_are_marks) .none kV1 dc1 pm1 an1 cd1 ct1), sl1⟩) (c1 : PySem.W.codeIn K cd1 "are_marks" = true) (k1 : PySem.W.keepIn K (.ref f_are_marks) = true)
    {f_is_part : Addr} {od2 an2 : Option Addr} {sl2 : Array (Option Value)} {oc2 kV2 dc2 pm2 cd2 ct2 : Value}
    (a2 : PySem.W.nsIn K mainGlobals "is_part" = some (some (.ref f_is_part))) (l2 : K.lookup f_is_part = some ⟨oc2, od2, .func (PySem.W.fnOf "is_part" "is_part" (defArgs S_is_part) (defBody S_is_part) (defScope S_is_part) .none kV2 dc2 pm2 an2 cd2 ct2), sl2⟩) (c2 : PySem.W.codeIn K cd2 "is_part" = true) (k2 : PySem.W.keepIn K (.ref f_is_part) = true)
    {f_check_train : Addr} {od3 an3 : Option Addr} {sl3 : Array (Option Value)} {oc3 kV3 dc3 pm3 cd3 ct3 : Value}
    (a3 : PySem.W.nsIn K mainGlobals "check_train" = some (some (.ref f_check_train))) (l3 : K.lookup f_check_train = some ⟨oc3, od3, .func (PySem.W.fnOf "check_train" "check_train" (defArgs S_check_train) (defBody S_check_train) (defScope S_check_train) .none kV3 dc3 pm3 an3 cd3 ct3), sl3⟩) (c3 : PySem.W.codeIn K cd3 "check_train" = true) (k3 : PySem.W.keepIn K (.ref f_check_train) = true)
    {f_place_count : Addr} {od4 an4 : Option Addr} {sl4 : Array (Option Value)} {oc4 kV4 dc4 pm4 cd4 ct4 : Value}
    (a4 : PySem.W.nsIn K mainGlobals "place_count" = some (some (.ref f_place_count))) (l4 : K.lookup f_place_count = some ⟨oc4, od4, .func (PySem.W.fnOf "place_count" "place_count" (defArgs S_place_count) (defBody S_place_count) (defScope S_place_count) .none kV4 dc4 pm4 an4 cd4 ct4), sl4⟩) (c4 : PySem.W.codeIn K cd4 "place_count" = true) (k4 : PySem.W.keepIn K (.ref f_place_count) = true)
    {f_is_stand : Addr} {od5 an5 : Option Addr} {sl5 : Array (Option Value)} {oc5 kV5 dc5 pm5 cd5 ct5 : Value}
    (a5 : PySem.W.nsIn K mainGlobals "is_stand" = some (some (.ref f_is_stand))) (l5 : K.lookup f_is_stand = some ⟨oc5, od5, .func (PySem.W.fnOf "is_stand" "is_stand" (defArgs S_is_stand) (defBody S_is_stand) (defScope S_is_stand) .none kV5 dc5 pm5 an5 cd5 ct5), sl5⟩) (c5 : PySem.W.codeIn K cd5 "is_stand" = true) (k5 : PySem.W.keepIn K (.ref f_is_stand) = true)
    {f_check_stand : Addr} {od6 an6 : Option Addr} {sl6 : Array (Option Value)} {oc6 kV6 dc6 pm6 cd6 ct6 : Value}
    (a6 : PySem.W.nsIn K mainGlobals "check_stand" = some (some (.ref f_check_stand))) (l6 : K.lookup f_check_stand = some ⟨oc6, od6, .func (PySem.W.fnOf "check_stand" "check_stand" (defArgs S_check_stand) (defBody S_check_stand) (defScope S_check_stand) .none kV6 dc6 pm6 an6 cd6 ct6), sl6⟩) (c6 : PySem.W.codeIn K cd6 "check_stand" = true) (k6 : PySem.W.keepIn K (.ref f_check_stand) = true)
    {f_is_way : Addr} {od7 an7 : Option Addr} {sl7 : Array (Option Value)} {oc7 kV7 dc7 pm7 cd7 ct7 : Value}
    (a7 : PySem.W.nsIn K mainGlobals "is_way" = some (some (.ref f_is_way))) (l7 : K.lookup f_is_way = some ⟨oc7, od7, .func (PySem.W.fnOf "is_way" "is_way" (defArgs S_is_way) (defBody S_is_way) (defScope S_is_way) .none kV7 dc7 pm7 an7 cd7 ct7), sl7⟩) (c7 : PySem.W.codeIn K cd7 "is_way" = true) (k7 : PySem.W.keepIn K (.ref f_is_way) = true)
    {f_wheel_pushed : Addr} {od8 an8 : Option Addr} {sl8 : Array (Option Value)} {oc8 kV8 dc8 pm8 cd8 ct8 : Value}
    (a8 : PySem.W.nsIn K mainGlobals "wheel_pushed" = some (some (.ref f_wheel_pushed))) (l8 : K.lookup f_wheel_pushed = some ⟨oc8, od8, .func (PySem.W.fnOf "wheel_pushed" "wheel_pushed" (defArgs S_wheel_pushed) (defBody S_wheel_pushed) (defScope S_wheel_pushed) .none kV8 dc8 pm8 an8 cd8 ct8), sl8⟩) (c8 : PySem.W.codeIn K cd8 "wheel_pushed" = true) (k8 : PySem.W.keepIn K (.ref f_wheel_pushed) = true)
    {f_rocker_pushed : Addr} {od9 an9 : Option Addr} {sl9 : Array (Option Value)} {oc9 kV9 dc9 pm9 cd9 ct9 : Value}
    (a9 : PySem.W.nsIn K mainGlobals "rocker_pushed" = some (some (.ref f_rocker_pushed))) (l9 : K.lookup f_rocker_pushed = some ⟨oc9, od9, .func (PySem.W.fnOf "rocker_pushed" "rocker_pushed" (defArgs S_rocker_pushed) (defBody S_rocker_pushed) (defScope S_rocker_pushed) .none kV9 dc9 pm9 an9 cd9 ct9), sl9⟩) (c9 : PySem.W.codeIn K cd9 "rocker_pushed" = true) (k9 : PySem.W.keepIn K (.ref f_rocker_pushed) = true)
    {f_spring_pushed : Addr} {od10 an10 : Option Addr} {sl10 : Array (Option Value)} {oc10 kV10 dc10 pm10 cd10 ct10 : Value}
    (a10 : PySem.W.nsIn K mainGlobals "spring_pushed" = some (some (.ref f_spring_pushed))) (l10 : K.lookup f_spring_pushed = some ⟨oc10, od10, .func (PySem.W.fnOf "spring_pushed" "spring_pushed" (defArgs S_spring_pushed) (defBody S_spring_pushed) (defScope S_spring_pushed) .none kV10 dc10 pm10 an10 cd10 ct10), sl10⟩) (c10 : PySem.W.codeIn K cd10 "spring_pushed" = true) (k10 : PySem.W.keepIn K (.ref f_spring_pushed) = true)
    {f_part_pushed : Addr} {od11 an11 : Option Addr} {sl11 : Array (Option Value)} {oc11 kV11 dc11 pm11 cd11 ct11 : Value}
    (a11 : PySem.W.nsIn K mainGlobals "part_pushed" = some (some (.ref f_part_pushed))) (l11 : K.lookup f_part_pushed = some ⟨oc11, od11, .func (PySem.W.fnOf "part_pushed" "part_pushed" (defArgs S_part_pushed) (defBody S_part_pushed) (defScope S_part_pushed) .none kV11 dc11 pm11 an11 cd11 ct11), sl11⟩) (c11 : PySem.W.codeIn K cd11 "part_pushed" = true) (k11 : PySem.W.keepIn K (.ref f_part_pushed) = true)
    {f_pushed : Addr} {od12 an12 : Option Addr} {sl12 : Array (Option Value)} {oc12 kV12 dc12 pm12 cd12 ct12 : Value}
    (a12 : PySem.W.nsIn K mainGlobals "pushed" = some (some (.ref f_pushed))) (l12 : K.lookup f_pushed = some ⟨oc12, od12, .func (PySem.W.fnOf "pushed" "pushed" (defArgs S_pushed) (defBody S_pushed) (defScope S_pushed) .none kV12 dc12 pm12 an12 cd12 ct12), sl12⟩) (c12 : PySem.W.codeIn K cd12 "pushed" = true) (k12 : PySem.W.keepIn K (.ref f_pushed) = true)
    {f_wears : Addr} {od13 an13 : Option Addr} {sl13 : Array (Option Value)} {oc13 kV13 dc13 pm13 cd13 ct13 : Value}
    (a13 : PySem.W.nsIn K mainGlobals "wears" = some (some (.ref f_wears))) (l13 : K.lookup f_wears = some ⟨oc13, od13, .func (PySem.W.fnOf "wears" "wears" (defArgs S_wears) (defBody S_wears) (defScope S_wears) .none kV13 dc13 pm13 an13 cd13 ct13), sl13⟩) (c13 : PySem.W.codeIn K cd13 "wears" = true) (k13 : PySem.W.keepIn K (.ref f_wears) = true)
    {f_without_mark : Addr} {od14 an14 : Option Addr} {sl14 : Array (Option Value)} {oc14 kV14 dc14 pm14 cd14 ct14 : Value}
    (a14 : PySem.W.nsIn K mainGlobals "without_mark" = some (some (.ref f_without_mark))) (l14 : K.lookup f_without_mark = some ⟨oc14, od14, .func (PySem.W.fnOf "without_mark" "without_mark" (defArgs S_without_mark) (defBody S_without_mark) (defScope S_without_mark) .none kV14 dc14 pm14 an14 cd14 ct14), sl14⟩) (c14 : PySem.W.codeIn K cd14 "without_mark" = true) (k14 : PySem.W.keepIn K (.ref f_without_mark) = true)
    {f_worn_by : Addr} {od15 an15 : Option Addr} {sl15 : Array (Option Value)} {oc15 kV15 dc15 pm15 cd15 ct15 : Value}
    (a15 : PySem.W.nsIn K mainGlobals "worn_by" = some (some (.ref f_worn_by))) (l15 : K.lookup f_worn_by = some ⟨oc15, od15, .func (PySem.W.fnOf "worn_by" "worn_by" (defArgs S_worn_by) (defBody S_worn_by) (defScope S_worn_by) .none kV15 dc15 pm15 an15 cd15 ct15), sl15⟩) (c15 : PySem.W.codeIn K cd15 "worn_by" = true) (k15 : PySem.W.keepIn K (.ref f_worn_by) = true)
    {f_worn : Addr} {od16 an16 : Option Addr} {sl16 : Array (Option Value)} {oc16 kV16 dc16 pm16 cd16 ct16 : Value}
    (a16 : PySem.W.nsIn K mainGlobals "worn" = some (some (.ref f_worn))) (l16 : K.lookup f_worn = some ⟨oc16, od16, .func (PySem.W.fnOf "worn" "worn" (defArgs S_worn) (defBody S_worn) (defScope S_worn) .none kV16 dc16 pm16 an16 cd16 ct16), sl16⟩) (c16 : PySem.W.codeIn K cd16 "worn" = true) (k16 : PySem.W.keepIn K (.ref f_worn) = true)
    {f_is_shown : Addr} {od17 an17 : Option Addr} {sl17 : Array (Option Value)} {oc17 kV17 dc17 pm17 cd17 ct17 : Value}
    (a17 : PySem.W.nsIn K mainGlobals "is_shown" = some (some (.ref f_is_shown))) (l17 : K.lookup f_is_shown = some ⟨oc17, od17, .func (PySem.W.fnOf "is_shown" "is_shown" (defArgs S_is_shown) (defBody S_is_shown) (defScope S_is_shown) .none kV17 dc17 pm17 an17 cd17 ct17), sl17⟩) (c17 : PySem.W.codeIn K cd17 "is_shown" = true) (k17 : PySem.W.keepIn K (.ref f_is_shown) = true)
    {f_check_shown : Addr} {od18 an18 : Option Addr} {sl18 : Array (Option Value)} {oc18 kV18 dc18 pm18 cd18 ct18 : Value}
    (a18 : PySem.W.nsIn K mainGlobals "check_shown" = some (some (.ref f_check_shown))) (l18 : K.lookup f_check_shown = some ⟨oc18, od18, .func (PySem.W.fnOf "check_shown" "check_shown" (defArgs S_check_shown) (defBody S_check_shown) (defScope S_check_shown) .none kV18 dc18 pm18 an18 cd18 ct18), sl18⟩) (c18 : PySem.W.codeIn K cd18 "check_shown" = true) (k18 : PySem.W.keepIn K (.ref f_check_shown) = true)
    {f_explains : Addr} {od19 an19 : Option Addr} {sl19 : Array (Option Value)} {oc19 kV19 dc19 pm19 cd19 ct19 : Value}
    (a19 : PySem.W.nsIn K mainGlobals "explains" = some (some (.ref f_explains))) (l19 : K.lookup f_explains = some ⟨oc19, od19, .func (PySem.W.fnOf "explains" "explains" (defArgs S_explains) (defBody S_explains) (defScope S_explains) .none kV19 dc19 pm19 an19 cd19 ct19), sl19⟩) (c19 : PySem.W.codeIn K cd19 "explains" = true) (k19 : PySem.W.keepIn K (.ref f_explains) = true)
    {f_explained : Addr} {od20 an20 : Option Addr} {sl20 : Array (Option Value)} {oc20 kV20 dc20 pm20 cd20 ct20 : Value}
    (a20 : PySem.W.nsIn K mainGlobals "explained" = some (some (.ref f_explained))) (l20 : K.lookup f_explained = some ⟨oc20, od20, .func (PySem.W.fnOf "explained" "explained" (defArgs S_explained) (defBody S_explained) (defScope S_explained) .none kV20 dc20 pm20 an20 cd20 ct20), sl20⟩) (c20 : PySem.W.codeIn K cd20 "explained" = true) (k20 : PySem.W.keepIn K (.ref f_explained) = true)
    {f__law_cell_at : Addr} {od21 an21 : Option Addr} {sl21 : Array (Option Value)} {oc21 kV21 dc21 pm21 cd21 ct21 : Value}
    (a21 : PySem.W.nsIn K mainGlobals "_law_cell_at" = some (some (.ref f__law_cell_at))) (l21 : K.lookup f__law_cell_at = some ⟨oc21, od21, .func (PySem.W.fnOf "_law_cell_at" "_law_cell_at" (defArgs S__law_cell_at) (defBody S__law_cell_at) (defScope S__law_cell_at) .none kV21 dc21 pm21 an21 cd21 ct21), sl21⟩) (c21 : PySem.W.codeIn K cd21 "_law_cell_at" = true) (k21 : PySem.W.keepIn K (.ref f__law_cell_at) = true)
    {f__law_mix : Addr} {od22 an22 : Option Addr} {sl22 : Array (Option Value)} {oc22 kV22 dc22 pm22 cd22 ct22 : Value}
    (a22 : PySem.W.nsIn K mainGlobals "_law_mix" = some (some (.ref f__law_mix))) (l22 : K.lookup f__law_mix = some ⟨oc22, od22, .func (PySem.W.fnOf "_law_mix" "_law_mix" (defArgs S__law_mix) (defBody S__law_mix) (defScope S__law_mix) .none kV22 dc22 pm22 an22 cd22 ct22), sl22⟩) (c22 : PySem.W.codeIn K cd22 "_law_mix" = true) (k22 : PySem.W.keepIn K (.ref f__law_mix) = true)
    {f__law_size : Addr} {od23 an23 : Option Addr} {sl23 : Array (Option Value)} {oc23 kV23 dc23 pm23 cd23 ct23 : Value}
    (a23 : PySem.W.nsIn K mainGlobals "_law_size" = some (some (.ref f__law_size))) (l23 : K.lookup f__law_size = some ⟨oc23, od23, .func (PySem.W.fnOf "_law_size" "_law_size" (defArgs S__law_size) (defBody S__law_size) (defScope S__law_size) .none kV23 dc23 pm23 an23 cd23 ct23), sl23⟩) (c23 : PySem.W.codeIn K cd23 "_law_size" = true) (k23 : PySem.W.keepIn K (.ref f__law_size) = true)
    {f__law_part : Addr} {od24 an24 : Option Addr} {sl24 : Array (Option Value)} {oc24 kV24 dc24 pm24 cd24 ct24 : Value}
    (a24 : PySem.W.nsIn K mainGlobals "_law_part" = some (some (.ref f__law_part))) (l24 : K.lookup f__law_part = some ⟨oc24, od24, .func (PySem.W.fnOf "_law_part" "_law_part" (defArgs S__law_part) (defBody S__law_part) (defScope S__law_part) .none kV24 dc24 pm24 an24 cd24 ct24), sl24⟩) (c24 : PySem.W.codeIn K cd24 "_law_part" = true) (k24 : PySem.W.keepIn K (.ref f__law_part) = true)
    {f__law_train : Addr} {od25 an25 : Option Addr} {sl25 : Array (Option Value)} {oc25 kV25 dc25 pm25 cd25 ct25 : Value}
    (a25 : PySem.W.nsIn K mainGlobals "_law_train" = some (some (.ref f__law_train))) (l25 : K.lookup f__law_train = some ⟨oc25, od25, .func (PySem.W.fnOf "_law_train" "_law_train" (defArgs S__law_train) (defBody S__law_train) (defScope S__law_train) .none kV25 dc25 pm25 an25 cd25 ct25), sl25⟩) (c25 : PySem.W.codeIn K cd25 "_law_train" = true) (k25 : PySem.W.keepIn K (.ref f__law_train) = true)
    {f__law_stand : Addr} {od26 an26 : Option Addr} {sl26 : Array (Option Value)} {oc26 kV26 dc26 pm26 cd26 ct26 : Value}
    (a26 : PySem.W.nsIn K mainGlobals "_law_stand" = some (some (.ref f__law_stand))) (l26 : K.lookup f__law_stand = some ⟨oc26, od26, .func (PySem.W.fnOf "_law_stand" "_law_stand" (defArgs S__law_stand) (defBody S__law_stand) (defScope S__law_stand) .none kV26 dc26 pm26 an26 cd26 ct26), sl26⟩) (c26 : PySem.W.codeIn K cd26 "_law_stand" = true) (k26 : PySem.W.keepIn K (.ref f__law_stand) = true)
    {f__law_given : Addr} {od27 an27 : Option Addr} {sl27 : Array (Option Value)} {oc27 kV27 dc27 pm27 cd27 ct27 : Value}
    (a27 : PySem.W.nsIn K mainGlobals "_law_given" = some (some (.ref f__law_given))) (l27 : K.lookup f__law_given = some ⟨oc27, od27, .func (PySem.W.fnOf "_law_given" "_law_given" (defArgs S__law_given) (defBody S__law_given) (defScope S__law_given) .none kV27 dc27 pm27 an27 cd27 ct27), sl27⟩) (c27 : PySem.W.codeIn K cd27 "_law_given" = true) (k27 : PySem.W.keepIn K (.ref f__law_given) = true)
    {f__law_pushed : Addr} {od28 an28 : Option Addr} {sl28 : Array (Option Value)} {oc28 kV28 dc28 pm28 cd28 ct28 : Value}
    (a28 : PySem.W.nsIn K mainGlobals "_law_pushed" = some (some (.ref f__law_pushed))) (l28 : K.lookup f__law_pushed = some ⟨oc28, od28, .func (PySem.W.fnOf "_law_pushed" "_law_pushed" (defArgs S__law_pushed) (defBody S__law_pushed) (defScope S__law_pushed) .none kV28 dc28 pm28 an28 cd28 ct28), sl28⟩) (c28 : PySem.W.codeIn K cd28 "_law_pushed" = true) (k28 : PySem.W.keepIn K (.ref f__law_pushed) = true)
    {f__law_wears : Addr} {od29 an29 : Option Addr} {sl29 : Array (Option Value)} {oc29 kV29 dc29 pm29 cd29 ct29 : Value}
    (a29 : PySem.W.nsIn K mainGlobals "_law_wears" = some (some (.ref f__law_wears))) (l29 : K.lookup f__law_wears = some ⟨oc29, od29, .func (PySem.W.fnOf "_law_wears" "_law_wears" (defArgs S__law_wears) (defBody S__law_wears) (defScope S__law_wears) .none kV29 dc29 pm29 an29 cd29 ct29), sl29⟩) (c29 : PySem.W.codeIn K cd29 "_law_wears" = true) (k29 : PySem.W.keepIn K (.ref f__law_wears) = true)
    {f__law_worn : Addr} {od30 an30 : Option Addr} {sl30 : Array (Option Value)} {oc30 kV30 dc30 pm30 cd30 ct30 : Value}
    (a30 : PySem.W.nsIn K mainGlobals "_law_worn" = some (some (.ref f__law_worn))) (l30 : K.lookup f__law_worn = some ⟨oc30, od30, .func (PySem.W.fnOf "_law_worn" "_law_worn" (defArgs S__law_worn) (defBody S__law_worn) (defScope S__law_worn) .none kV30 dc30 pm30 an30 cd30 ct30), sl30⟩) (c30 : PySem.W.codeIn K cd30 "_law_worn" = true) (k30 : PySem.W.keepIn K (.ref f__law_worn) = true)
    {f__law_shows : Addr} {od31 an31 : Option Addr} {sl31 : Array (Option Value)} {oc31 kV31 dc31 pm31 cd31 ct31 : Value}
    (a31 : PySem.W.nsIn K mainGlobals "_law_shows" = some (some (.ref f__law_shows))) (l31 : K.lookup f__law_shows = some ⟨oc31, od31, .func (PySem.W.fnOf "_law_shows" "_law_shows" (defArgs S__law_shows) (defBody S__law_shows) (defScope S__law_shows) .none kV31 dc31 pm31 an31 cd31 ct31), sl31⟩) (c31 : PySem.W.codeIn K cd31 "_law_shows" = true) (k31 : PySem.W.keepIn K (.ref f__law_shows) = true)
    {f__law_just : Addr} {od32 an32 : Option Addr} {sl32 : Array (Option Value)} {oc32 kV32 dc32 pm32 cd32 ct32 : Value}
    (a32 : PySem.W.nsIn K mainGlobals "_law_just" = some (some (.ref f__law_just))) (l32 : K.lookup f__law_just = some ⟨oc32, od32, .func (PySem.W.fnOf "_law_just" "_law_just" (defArgs S__law_just) (defBody S__law_just) (defScope S__law_just) .none kV32 dc32 pm32 an32 cd32 ct32), sl32⟩) (c32 : PySem.W.codeIn K cd32 "_law_just" = true) (k32 : PySem.W.keepIn K (.ref f__law_just) = true)
    {f__law_cut : Addr} {od33 an33 : Option Addr} {sl33 : Array (Option Value)} {oc33 kV33 dc33 pm33 cd33 ct33 : Value}
    (a33 : PySem.W.nsIn K mainGlobals "_law_cut" = some (some (.ref f__law_cut))) (l33 : K.lookup f__law_cut = some ⟨oc33, od33, .func (PySem.W.fnOf "_law_cut" "_law_cut" (defArgs S__law_cut) (defBody S__law_cut) (defScope S__law_cut) .none kV33 dc33 pm33 an33 cd33 ct33), sl33⟩) (c33 : PySem.W.codeIn K cd33 "_law_cut" = true) (k33 : PySem.W.keepIn K (.ref f__law_cut) = true)
    {f_law : Addr} {od34 an34 : Option Addr} {sl34 : Array (Option Value)} {oc34 kV34 dc34 pm34 cd34 ct34 : Value}
    (a34 : PySem.W.nsIn K mainGlobals "law" = some (some (.ref f_law))) (l34 : K.lookup f_law = some ⟨oc34, od34, .func (PySem.W.fnOf "law" "law" (defArgs S_law) (defBody S_law) (defScope S_law) .none kV34 dc34 pm34 an34 cd34 ct34), sl34⟩) (c34 : PySem.W.codeIn K cd34 "law" = true) (k34 : PySem.W.keepIn K (.ref f_law) = true)
    (z0 : PySem.W.nsIn K mainGlobals "isinstance" = some none)
    (z1 : PySem.W.nsIn K mainGlobals "int" = some none)
    (z2 : PySem.W.nsIn K mainGlobals "bool" = some none)
    (z3 : PySem.W.nsIn K mainGlobals "tuple" = some none)
    (z4 : PySem.W.nsIn K mainGlobals "len" = some none)
    (z5 : PySem.W.nsIn K mainGlobals "list" = some none)
    (z6 : PySem.W.nsIn K mainGlobals "zip" = some none)
    (z7 : PySem.W.nsIn K mainGlobals "max" = some none)
    (z8 : PySem.W.nsIn K mainGlobals "range" = some none)
    (z9 : PySem.W.nsIn K mainGlobals "enumerate" = some none)
    (z10 : PySem.W.nsIn K mainGlobals "all" = some none)
    (tb_check_shown : tabOkB K cd18 = true)
    : LawAtX l w K 63 "_law_script" mg fa ["check_shown"] := by
  have e := hfa.symm.trans (PySem.W.mg_of X G a34)
  cases e
  have F_is_whole := fun_mk (st := S_is_whole) l0 c0 k0
  have F_are_marks := fun_mk (st := S_are_marks) l1 c1 k1
  have F_is_part := fun_mk (st := S_is_part) l2 c2 k2
  have F_check_train := fun_mk (st := S_check_train) l3 c3 k3
  have F_place_count := fun_mk (st := S_place_count) l4 c4 k4
  have F_is_stand := fun_mk (st := S_is_stand) l5 c5 k5
  have F_check_stand := fun_mk (st := S_check_stand) l6 c6 k6
  have F_is_way := fun_mk (st := S_is_way) l7 c7 k7
  have F_wheel_pushed := fun_mk (st := S_wheel_pushed) l8 c8 k8
  have F_rocker_pushed := fun_mk (st := S_rocker_pushed) l9 c9 k9
  have F_spring_pushed := fun_mk (st := S_spring_pushed) l10 c10 k10
  have F_part_pushed := fun_mk (st := S_part_pushed) l11 c11 k11
  have F_pushed := fun_mk (st := S_pushed) l12 c12 k12
  have F_wears := fun_mk (st := S_wears) l13 c13 k13
  have F_without_mark := fun_mk (st := S_without_mark) l14 c14 k14
  have F_worn_by := fun_mk (st := S_worn_by) l15 c15 k15
  have F_worn := fun_mk (st := S_worn) l16 c16 k16
  have F_is_shown := fun_mk (st := S_is_shown) l17 c17 k17
  have F_check_shown := fun_mk (st := S_check_shown) l18 c18 k18
  have F_explains := fun_mk (st := S_explains) l19 c19 k19
  have F_explained := fun_mk (st := S_explained) l20 c20 k20
  have F__law_cell_at := fun_mk (st := S__law_cell_at) l21 c21 k21
  have F__law_mix := fun_mk (st := S__law_mix) l22 c22 k22
  have F__law_size := fun_mk (st := S__law_size) l23 c23 k23
  have F__law_part := fun_mk (st := S__law_part) l24 c24 k24
  have F__law_train := fun_mk (st := S__law_train) l25 c25 k25
  have F__law_stand := fun_mk (st := S__law_stand) l26 c26 k26
  have F__law_given := fun_mk (st := S__law_given) l27 c27 k27
  have F__law_pushed := fun_mk (st := S__law_pushed) l28 c28 k28
  have F__law_wears := fun_mk (st := S__law_wears) l29 c29 k29
  have F__law_worn := fun_mk (st := S__law_worn) l30 c30 k30
  have F__law_shows := fun_mk (st := S__law_shows) l31 c31 k31
  have F__law_just := fun_mk (st := S__law_just) l32 c32 k32
  have F__law_cut := fun_mk (st := S__law_cut) l33 c33 k33
  have F_law := fun_mk (st := S_law) l34 c34 k34
  have m_isinstance := PySem.W.mg_none_of X G z0
  have m_int := PySem.W.mg_none_of X G z1
  have m_bool := PySem.W.mg_none_of X G z2
  have m_tuple := PySem.W.mg_none_of X G z3
  have m_len := PySem.W.mg_none_of X G z4
  have m_list := PySem.W.mg_none_of X G z5
  have m_zip := PySem.W.mg_none_of X G z6
  have m_max := PySem.W.mg_none_of X G z7
  have m_range := PySem.W.mg_none_of X G z8
  have m_enumerate := PySem.W.mg_none_of X G z9
  have m_all := PySem.W.mg_none_of X G z10
  have b_is_whole := F_is_whole.binds (ps := ["thing"]) fun _ _ _ _ _ _ us hl => match us, hl with | [_], _ => rfl
  have g_is_whole := PySem.W.mg_of X G a0
  have b_are_marks := F_are_marks.binds (ps := ["thing", "teeth"]) fun _ _ _ _ _ _ us hl => match us, hl with | [_, _], _ => rfl
  have g_are_marks := PySem.W.mg_of X G a1
  have b_is_part := F_is_part.binds (ps := ["thing"]) fun _ _ _ _ _ _ us hl => match us, hl with | [_], _ => rfl
  have g_is_part := PySem.W.mg_of X G a2
  have b_check_train := F_check_train.binds (ps := ["train"]) fun _ _ _ _ _ _ us hl => match us, hl with | [_], _ => rfl
  have g_check_train := PySem.W.mg_of X G a3
  have b_place_count := F_place_count.binds (ps := ["part"]) fun _ _ _ _ _ _ us hl => match us, hl with | [_], _ => rfl
  have g_place_count := PySem.W.mg_of X G a4
  have b_is_stand := F_is_stand.binds (ps := ["train", "thing"]) fun _ _ _ _ _ _ us hl => match us, hl with | [_, _], _ => rfl
  have g_is_stand := PySem.W.mg_of X G a5
  have b_check_stand := F_check_stand.binds (ps := ["train", "stand"]) fun _ _ _ _ _ _ us hl => match us, hl with | [_, _], _ => rfl
  have g_check_stand := PySem.W.mg_of X G a6
  have b_is_way := F_is_way.binds (ps := ["thing"]) fun _ _ _ _ _ _ us hl => match us, hl with | [_], _ => rfl
  have g_is_way := PySem.W.mg_of X G a7
  have b_wheel_pushed := F_wheel_pushed.binds (ps := ["part", "place", "way"]) fun _ _ _ _ _ _ us hl => match us, hl with | [_, _, _], _ => rfl
  have g_wheel_pushed := PySem.W.mg_of X G a8
  have b_rocker_pushed := F_rocker_pushed.binds (ps := ["place", "way"]) fun _ _ _ _ _ _ us hl => match us, hl with | [_, _], _ => rfl
  have g_rocker_pushed := PySem.W.mg_of X G a9
  have b_spring_pushed := F_spring_pushed.binds (ps := ["part", "place", "way"]) fun _ _ _ _ _ _ us hl => match us, hl with | [_, _, _], _ => rfl
  have g_spring_pushed := PySem.W.mg_of X G a10
  have b_part_pushed := F_part_pushed.binds (ps := ["part", "place", "way"]) fun _ _ _ _ _ _ us hl => match us, hl with | [_, _, _], _ => rfl
  have g_part_pushed := PySem.W.mg_of X G a11
  have b_pushed := F_pushed.binds (ps := ["train", "stand", "i", "way"]) fun _ _ _ _ _ _ us hl => match us, hl with | [_, _, _, _], _ => rfl
  have g_pushed := PySem.W.mg_of X G a12
  have b_wears := F_wears.binds (ps := ["train"]) fun _ _ _ _ _ _ us hl => match us, hl with | [_], _ => rfl
  have g_wears := PySem.W.mg_of X G a13
  have b_without_mark := F_without_mark.binds (ps := ["wheel", "mark"]) fun _ _ _ _ _ _ us hl => match us, hl with | [_, _], _ => rfl
  have g_without_mark := PySem.W.mg_of X G a14
  have b_worn_by := F_worn_by.binds (ps := ["train", "wear"]) fun _ _ _ _ _ _ us hl => match us, hl with | [_, _], _ => rfl
  have g_worn_by := PySem.W.mg_of X G a15
  have b_worn := F_worn.binds (ps := ["train", "wear"]) fun _ _ _ _ _ _ us hl => match us, hl with | [_, _], _ => rfl
  have g_worn := PySem.W.mg_of X G a16
  have b_is_shown := F_is_shown.binds (ps := ["thing", "parts"]) fun _ _ _ _ _ _ us hl => match us, hl with | [_, _], _ => rfl
  have g_is_shown := PySem.W.mg_of X G a17
  have b_check_shown := F_check_shown.binds (ps := ["train", "shows"]) fun _ _ _ _ _ _ us hl => match us, hl with | [_, _], _ => rfl
  have g_check_shown := PySem.W.mg_of X G a18
  have b_explains := F_explains.binds (ps := ["train", "stand", "shows"]) fun _ _ _ _ _ _ us hl => match us, hl with | [_, _, _], _ => rfl
  have g_explains := PySem.W.mg_of X G a19
  have b_explained := F_explained.binds (ps := ["train", "stand", "shows"]) fun _ _ _ _ _ _ us hl => match us, hl with | [_, _, _], _ => rfl
  have g_explained := PySem.W.mg_of X G a20
  have b__law_cell_at := F__law_cell_at.binds (ps := ["_law_script", "_law_k"]) fun _ _ _ _ _ _ us hl => match us, hl with | [_, _], _ => rfl
  have g__law_cell_at := PySem.W.mg_of X G a21
  have b__law_mix := F__law_mix.binds (ps := ["_law_cell", "_law_k"]) fun _ _ _ _ _ _ us hl => match us, hl with | [_, _], _ => rfl
  have g__law_mix := PySem.W.mg_of X G a22
  have b__law_size := F__law_size.binds (ps := ["_law_part_here"]) fun _ _ _ _ _ _ us hl => match us, hl with | [_], _ => rfl
  have g__law_size := PySem.W.mg_of X G a23
  have b__law_part := F__law_part.binds (ps := ["_law_cell"]) fun _ _ _ _ _ _ us hl => match us, hl with | [_], _ => rfl
  have g__law_part := PySem.W.mg_of X G a24
  have b__law_train := F__law_train.binds (ps := ["_law_script", "_law_most"]) fun _ _ _ _ _ _ us hl => match us, hl with | [_, _], _ => rfl
  have g__law_train := PySem.W.mg_of X G a25
  have b__law_stand := F__law_stand.binds (ps := ["_law_train_here", "_law_cell"]) fun _ _ _ _ _ _ us hl => match us, hl with | [_, _], _ => rfl
  have g__law_stand := PySem.W.mg_of X G a26
  have b__law_given := F__law_given.binds (ps := ["_law_part_here", "_law_place", "_law_way"]) fun _ _ _ _ _ _ us hl => match us, hl with | [_, _, _], _ => rfl
  have g__law_given := PySem.W.mg_of X G a27
  have b__law_pushed := F__law_pushed.binds (ps := ["_law_train_here", "_law_stand_here", "_law_i", "_law_way"]) fun _ _ _ _ _ _ us hl => match us, hl with | [_, _, _, _], _ => rfl
  have g__law_pushed := PySem.W.mg_of X G a28
  have b__law_wears := F__law_wears.binds (ps := ["_law_train_here"]) fun _ _ _ _ _ _ us hl => match us, hl with | [_], _ => rfl
  have g__law_wears := PySem.W.mg_of X G a29
  have b__law_worn := F__law_worn.binds (ps := ["_law_train_here", "_law_wear"]) fun _ _ _ _ _ _ us hl => match us, hl with | [_, _], _ => rfl
  have g__law_worn := PySem.W.mg_of X G a30
  have b__law_shows := F__law_shows.binds (ps := ["_law_script", "_law_train_here", "_law_stand_here"]) fun _ _ _ _ _ _ us hl => match us, hl with | [_, _, _], _ => rfl
  have g__law_shows := PySem.W.mg_of X G a31
  have b__law_just := F__law_just.binds (ps := ["_law_train_here", "_law_stand_here", "_law_shows_here"]) fun _ _ _ _ _ _ us hl => match us, hl with | [_, _, _], _ => rfl
  have g__law_just := PySem.W.mg_of X G a32
  have b__law_cut := F__law_cut.binds (ps := ["_law_script"]) fun _ _ _ _ _ _ us hl => match us, hl with | [_], _ => rfl
  have g__law_cut := PySem.W.mg_of X G a33
  refine ⟨PySem.W.fnOf "law" "law" (defArgs S_law) (defBody S_law) (defScope S_law) .none kV34 dc34 pm34 an34 cd34 ct34, [("check_shown", cd18)], sp_law K [tabOf K cd18], fun p hp => ?_, fun s v => .of_eq rfl, fun H a ns hlen hT hS => ?_, fun base _ _ hTB => ?_⟩
  · rcases List.mem_cons.mp hp with rfl | hp
    · exact ⟨by simp, f_check_shown, _, _, _, _, g_check_shown, l18, rfl, tb_check_shown⟩
    cases hp
  · exact ⟨a, ns, rfl, hS, hlen, fun P hP => (by
      obtain ⟨p, hp, rfl⟩ := List.mem_map.mp (show P ∈ ([("check_shown", cd18)] : List (Str × Value)).map (fun p => tabOf K p.2) from hP)
      exact hT p hp), fun H2 s2 => ⟨rfl, s2⟩⟩
  have G_is_whole : FnOk l.prog w K mg base CX0 1 _ _ ["thing"] (sp_is_whole K) := ok_is_whole F_is_whole  m_isinstance m_int m_bool  
  have G_are_marks : FnOk l.prog w K mg base CX0 2 _ _ ["thing", "teeth"] (sp_are_marks K) := ok_are_marks F_are_marks F_is_whole b_is_whole g_is_whole G_is_whole m_isinstance m_tuple  
  have G_is_part : FnOk l.prog w K mg base CX0 3 _ _ ["thing"] (sp_is_part K) := ok_is_part F_is_part F_is_whole b_is_whole g_is_whole G_is_whole F_are_marks b_are_marks g_are_marks G_are_marks m_isinstance m_tuple m_len  
  have G_check_train : FnOk l.prog w K mg base CX0 4 _ _ ["train"] (sp_check_train K) := ok_check_train F_check_train F_is_part b_is_part g_is_part G_is_part m_isinstance m_list m_len  
  have G_place_count : FnOk l.prog w K mg base CX0 1 _ _ ["part"] (sp_place_count K) := ok_place_count F_place_count    
  have G_is_stand : FnOk l.prog w K mg base CX0 2 _ _ ["train", "thing"] (sp_is_stand K) := ok_is_stand F_is_stand F_place_count b_place_count g_place_count G_place_count F_is_whole b_is_whole g_is_whole G_is_whole m_zip m_isinstance m_tuple m_len  
  have G_check_stand : FnOk l.prog w K mg base CX0 5 _ _ ["train", "stand"] (sp_check_stand K) := ok_check_stand F_check_stand F_is_stand b_is_stand g_is_stand G_is_stand F_check_train b_check_train g_check_train G_check_train   
  have G_is_way : FnOk l.prog w K mg base CX0 2 _ _ ["thing"] (sp_is_way K) := ok_is_way F_is_way F_is_whole b_is_whole g_is_whole G_is_whole   
  have G_wheel_pushed : FnOk l.prog w K mg base CX0 1 _ _ ["part", "place", "way"] (sp_wheel_pushed K) := ok_wheel_pushed F_wheel_pushed    
  have G_rocker_pushed : FnOk l.prog w K mg base CX0 1 _ _ ["place", "way"] (sp_rocker_pushed K) := ok_rocker_pushed F_rocker_pushed    
  have G_spring_pushed : FnOk l.prog w K mg base CX0 1 _ _ ["part", "place", "way"] (sp_spring_pushed K) := ok_spring_pushed F_spring_pushed  m_max  
  have G_part_pushed : FnOk l.prog w K mg base CX0 2 _ _ ["part", "place", "way"] (sp_part_pushed K) := ok_part_pushed F_part_pushed F_spring_pushed b_spring_pushed g_spring_pushed G_spring_pushed F_rocker_pushed b_rocker_pushed g_rocker_pushed G_rocker_pushed F_wheel_pushed b_wheel_pushed g_wheel_pushed G_wheel_pushed   
  have G_pushed : FnOk l.prog w K mg base CX0 3 _ _ ["train", "stand", "i", "way"] (sp_pushed K) := ok_pushed F_pushed F_part_pushed b_part_pushed g_part_pushed G_part_pushed m_list m_range m_len m_tuple  
  have G_wears : FnOk l.prog w K mg base CX0 5 _ _ ["train"] (sp_wears K) := ok_wears F_wears F_check_train b_check_train g_check_train G_check_train m_enumerate  
  have G_without_mark : FnOk l.prog w K mg base CX0 1 _ _ ["wheel", "mark"] (sp_without_mark K) := ok_without_mark F_without_mark  m_tuple  
  have G_worn_by : FnOk l.prog w K mg base CX0 2 _ _ ["train", "wear"] (sp_worn_by K) := ok_worn_by F_worn_by F_without_mark b_without_mark g_without_mark G_without_mark m_list  
  have G_worn : FnOk l.prog w K mg base CX0 5 _ _ ["train", "wear"] (sp_worn K) := ok_worn F_worn F_worn_by b_worn_by g_worn_by G_worn_by F_check_train b_check_train g_check_train G_check_train   
  have G_is_shown : FnOk l.prog w K mg base CX0 3 _ _ ["thing", "parts"] (sp_is_shown K) := ok_is_shown F_is_shown F_is_whole b_is_whole g_is_whole G_is_whole F_is_way b_is_way g_is_way G_is_way m_isinstance m_tuple m_len  
  have G_check_shown : FnOk l.prog w K mg base CX0 5 _ _ ["train", "shows"] (sp_check_shown K [tabOf K cd18]) := ok_check_shown F_check_shown F_is_shown b_is_shown g_is_shown G_is_shown m_isinstance m_list m_all m_len   (hTB ("check_shown", cd18) (by simp)) (by obtain ⟨_, _, _, _, h, _⟩ := tab_inv tb_check_shown; exact h) (by simp)
  have G_explains : FnOk l.prog w K mg base CX0 4 _ _ ["train", "stand", "shows"] (sp_explains K) := ok_explains F_explains F_pushed b_pushed g_pushed G_pushed   
  have G_explained : FnOk l.prog w K mg base CX0 6 _ _ ["train", "stand", "shows"] (sp_explained K [tabOf K cd18]) := ok_explained F_explained F_worn_by b_worn_by g_worn_by G_worn_by F_explains b_explains g_explains G_explains F_wears b_wears g_wears G_wears F_check_shown b_check_shown g_check_shown G_check_shown F_check_stand b_check_stand g_check_stand G_check_stand   
  have G__law_cell_at : FnOk l.prog w K mg base CX0 1 _ _ ["_law_script", "_law_k"] (sp__law_cell_at K) := ok__law_cell_at F__law_cell_at  m_len  
  have G__law_mix : FnOk l.prog w K mg base CX0 1 _ _ ["_law_cell", "_law_k"] (sp__law_mix K) := ok__law_mix F__law_mix  m_range  
  have G__law_size : FnOk l.prog w K mg base CX0 1 _ _ ["_law_part_here"] (sp__law_size K) := ok__law_size F__law_size  m_int  
  have G__law_part : FnOk l.prog w K mg base CX0 2 _ _ ["_law_cell"] (sp__law_part K) := ok__law_part F__law_part F__law_mix b__law_mix g__law_mix G__law_mix m_tuple m_range  
  have G__law_train : FnOk l.prog w K mg base CX0 3 _ _ ["_law_script", "_law_most"] (sp__law_train K) := ok__law_train F__law_train F__law_cell_at b__law_cell_at g__law_cell_at G__law_cell_at F__law_mix b__law_mix g__law_mix G__law_mix F__law_size b__law_size g__law_size G__law_size F__law_part b__law_part g__law_part G__law_part m_range  
  have G__law_stand : FnOk l.prog w K mg base CX0 2 _ _ ["_law_train_here", "_law_cell"] (sp__law_stand K) := ok__law_stand F__law_stand F__law_mix b__law_mix g__law_mix G__law_mix F__law_size b__law_size g__law_size G__law_size m_tuple m_enumerate  
  have G__law_given : FnOk l.prog w K mg base CX0 1 _ _ ["_law_part_here", "_law_place", "_law_way"] (sp__law_given K) := ok__law_given F__law_given  m_int m_max  
  have G__law_pushed : FnOk l.prog w K mg base CX0 2 _ _ ["_law_train_here", "_law_stand_here", "_law_i", "_law_way"] (sp__law_pushed K) := ok__law_pushed F__law_pushed F__law_given b__law_given g__law_given G__law_given m_list m_range m_len m_tuple  
  have G__law_wears : FnOk l.prog w K mg base CX0 1 _ _ ["_law_train_here"] (sp__law_wears K) := ok__law_wears F__law_wears  m_enumerate  
  have G__law_worn : FnOk l.prog w K mg base CX0 1 _ _ ["_law_train_here", "_law_wear"] (sp__law_worn K) := ok__law_worn F__law_worn  m_list m_tuple  
  have G__law_shows : FnOk l.prog w K mg base CX0 3 _ _ ["_law_script", "_law_train_here", "_law_stand_here"] (sp__law_shows K) := ok__law_shows F__law_shows F__law_cell_at b__law_cell_at g__law_cell_at G__law_cell_at F__law_mix b__law_mix g__law_mix G__law_mix F__law_pushed b__law_pushed g__law_pushed G__law_pushed F__law_worn b__law_worn g__law_worn G__law_worn F__law_wears b__law_wears g__law_wears G__law_wears m_range m_len m_int  
  have G__law_just : FnOk l.prog w K mg base CX0 3 _ _ ["_law_train_here", "_law_stand_here", "_law_shows_here"] (sp__law_just K) := ok__law_just F__law_just F__law_pushed b__law_pushed g__law_pushed G__law_pushed   
  have G__law_cut : FnOk l.prog w K mg base CX0 1 _ _ ["_law_script"] (sp__law_cut K) := ok__law_cut F__law_cut  m_int  
  exact RunOk.of (k := 7) ⟨rfl, by decide, by decide⟩ (ok_law F_law F_explained b_explained g_explained G_explained F__law_worn b__law_worn g__law_worn G__law_worn F__law_just b__law_just g__law_just G__law_just F_worn b_worn g_worn G_worn F_wears b_wears g_wears G_wears F__law_wears b__law_wears g__law_wears G__law_wears F__law_shows b__law_shows g__law_shows G__law_shows F__law_cell_at b__law_cell_at g__law_cell_at G__law_cell_at F__law_mix b__law_mix g__law_mix G__law_mix F__law_stand b__law_stand g__law_stand G__law_stand F__law_train b__law_train g__law_train G__law_train F__law_cut b__law_cut g__law_cut G__law_cut m_range m_list m_isinstance m_len  )
end My
open PySem PySem.W PyProof.Rows
set_option maxHeartbeats 0 in
theorem PySem.Challenge.cw_clicktrain_k41_wears_and_what_explains_holds : PySem.Challenge.rw_clicktrain_k41_wears_and_what_explains.Holds := by
  w_on; o_law; k_head; (case hw => w_witness2)
  k_fill
  refine Ct.walk_ofX (l := PySem.Challenge.rw_clicktrain_k41_wears_and_what_explains) (n := 63) (x := "_law_script") (defs := ["check_shown"]) rfl (by decide) rfl (by decide +kernel) (fun w h Y => PySem.W.kIn_of Y) ?F
  case F =>
    intro w mg fa h KX G hmg
    refine' My.all_mk KX G hmg ?a0 ?l0 ?c0 ?k0 ?a1 ?l1 ?c1 ?k1 ?a2 ?l2 ?c2 ?k2 ?a3 ?l3 ?c3 ?k3 ?a4 ?l4 ?c4 ?k4 ?a5 ?l5 ?c5 ?k5 ?a6 ?l6 ?c6 ?k6 ?a7 ?l7 ?c7 ?k7 ?a8 ?l8 ?c8 ?k8 ?a9 ?l9 ?c9 ?k9 ?a10 ?l10 ?c10 ?k10 ?a11 ?l11 ?c11 ?k11 ?a12 ?l12 ?c12 ?k12 ?a13 ?l13 ?c13 ?k13 ?a14 ?l14 ?c14 ?k14 ?a15 ?l15 ?c15 ?k15 ?a16 ?l16 ?c16 ?k16 ?a17 ?l17 ?c17 ?k17 ?a18 ?l18 ?c18 ?k18 ?a19 ?l19 ?c19 ?k19 ?a20 ?l20 ?c20 ?k20 ?a21 ?l21 ?c21 ?k21 ?a22 ?l22 ?c22 ?k22 ?a23 ?l23 ?c23 ?k23 ?a24 ?l24 ?c24 ?k24 ?a25 ?l25 ?c25 ?k25 ?a26 ?l26 ?c26 ?k26 ?a27 ?l27 ?c27 ?k27 ?a28 ?l28 ?c28 ?k28 ?a29 ?l29 ?c29 ?k29 ?a30 ?l30 ?c30 ?k30 ?a31 ?l31 ?c31 ?k31 ?a32 ?l32 ?c32 ?k32 ?a33 ?l33 ?c33 ?k33 ?a34 ?l34 ?c34 ?k34 ?z0 ?z1 ?z2 ?z3 ?z4 ?z5 ?z6 ?z7 ?z8 ?z9 ?z10 ?tb_check_shown
    (case a0 => k_is)
    (case l0 => k_is)
    (case c0 => k_is)
    (case k0 => k_is)
    (case a1 => k_is)
    (case l1 => k_is)
    (case c1 => k_is)
    (case k1 => k_is)
    (case a2 => k_is)
    (case l2 => k_is)
    (case c2 => k_is)
    (case k2 => k_is)
    (case a3 => k_is)
    (case l3 => k_is)
    (case c3 => k_is)
    (case k3 => k_is)
    (case a4 => k_is)
    (case l4 => k_is)
    (case c4 => k_is)
    (case k4 => k_is)
    (case a5 => k_is)
    (case l5 => k_is)
    (case c5 => k_is)
    (case k5 => k_is)
    (case a6 => k_is)
    (case l6 => k_is)
    (case c6 => k_is)
    (case k6 => k_is)
    (case a7 => k_is)
    (case l7 => k_is)
    (case c7 => k_is)
    (case k7 => k_is)
    (case a8 => k_is)
    (case l8 => k_is)
    (case c8 => k_is)
    (case k8 => k_is)
    (case a9 => k_is)
    (case l9 => k_is)
    (case c9 => k_is)
    (case k9 => k_is)
    (case a10 => k_is)
    (case l10 => k_is)
    (case c10 => k_is)
    (case k10 => k_is)
    (case a11 => k_is)
    (case l11 => k_is)
    (case c11 => k_is)
    (case k11 => k_is)
    (case a12 => k_is)
    (case l12 => k_is)
    (case c12 => k_is)
    (case k12 => k_is)
    (case a13 => k_is)
    (case l13 => k_is)
    (case c13 => k_is)
    (case k13 => k_is)
    (case a14 => k_is)
    (case l14 => k_is)
    (case c14 => k_is)
    (case k14 => k_is)
    (case a15 => k_is)
    (case l15 => k_is)
    (case c15 => k_is)
    (case k15 => k_is)
    (case a16 => k_is)
    (case l16 => k_is)
    (case c16 => k_is)
    (case k16 => k_is)
    (case a17 => k_is)
    (case l17 => k_is)
    (case c17 => k_is)
    (case k17 => k_is)
    (case a18 => k_is)
    (case l18 => k_is)
    (case c18 => k_is)
    (case k18 => k_is)
    (case a19 => k_is)
    (case l19 => k_is)
    (case c19 => k_is)
    (case k19 => k_is)
    (case a20 => k_is)
    (case l20 => k_is)
    (case c20 => k_is)
    (case k20 => k_is)
    (case a21 => k_is)
    (case l21 => k_is)
    (case c21 => k_is)
    (case k21 => k_is)
    (case a22 => k_is)
    (case l22 => k_is)
    (case c22 => k_is)
    (case k22 => k_is)
    (case a23 => k_is)
    (case l23 => k_is)
    (case c23 => k_is)
    (case k23 => k_is)
    (case a24 => k_is)
    (case l24 => k_is)
    (case c24 => k_is)
    (case k24 => k_is)
    (case a25 => k_is)
    (case l25 => k_is)
    (case c25 => k_is)
    (case k25 => k_is)
    (case a26 => k_is)
    (case l26 => k_is)
    (case c26 => k_is)
    (case k26 => k_is)
    (case a27 => k_is)
    (case l27 => k_is)
    (case c27 => k_is)
    (case k27 => k_is)
    (case a28 => k_is)
    (case l28 => k_is)
    (case c28 => k_is)
    (case k28 => k_is)
    (case a29 => k_is)
    (case l29 => k_is)
    (case c29 => k_is)
    (case k29 => k_is)
    (case a30 => k_is)
    (case l30 => k_is)
    (case c30 => k_is)
    (case k30 => k_is)
    (case a31 => k_is)
    (case l31 => k_is)
    (case c31 => k_is)
    (case k31 => k_is)
    (case a32 => k_is)
    (case l32 => k_is)
    (case c32 => k_is)
    (case k32 => k_is)
    (case a33 => k_is)
    (case l33 => k_is)
    (case c33 => k_is)
    (case k33 => k_is)
    (case a34 => k_is)
    (case l34 => k_is)
    (case c34 => k_is)
    (case k34 => k_is)
    (case z0 => k_is)
    (case z1 => k_is)
    (case z2 => k_is)
    (case z3 => k_is)
    (case z4 => k_is)
    (case z5 => k_is)
    (case z6 => k_is)
    (case z7 => k_is)
    (case z8 => k_is)
    (case z9 => k_is)
    (case z10 => k_is)
    (case tb_check_shown => first | kernel_rfl | rfl)
