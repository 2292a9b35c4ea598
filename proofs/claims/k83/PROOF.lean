import PyProof.Rows.All
import Wide.All
import OpenK.AllK
import Wide.FinOn
import HandS.ForMost
import HandS.Wide
import HandS.IsInst
import HandS.Walk
import HandS.Star
import HandS.TupAny
import HandS.Style
import HandS.Deep
import KE.GoesNew
import HandS.GenList
import HandS.AnyAll
import HandS.EndBits
import PySem.Challenge.RW_clicktrain_k83_whole_joined_trains_show
set_option Elab.async false
set_option linter.all false
set_option maxRecDepth 100000
set_option maxHeartbeats 4000000
namespace Ct
open PySem PySem.Spec PyProof.Rows L2
/-! walking a reading, construct by construct -/
section
variable {K : PySem.W.Frag} {H : Hp} {σ : L2.St} {D : Ends} {Q : VK} {QB : Bool → Hp → Prop} {QA : List V → Hp → Prop} {QS : L2.St → Hp → Prop}
theorem w_seq {t u : TS} (h : t { D with nx := u D } σ H) : tSeq t u D σ H := h
theorem w_join {t u : TS} (J : L2.St → Hp → Prop) (h1 : ∀ σ' H', J σ' H' → u D σ' H') (h2 : ∀ N : L2.St → Hp → Prop, (∀ σ' H', J σ' H' → N σ' H') → t { D with nx := N } σ H) : tSeq t u D σ H := h2 (u D) h1
theorem w_asg {te : TE} {g : TG} (h : te σ H fun x H1 => g x σ H1 D.nx) : tAsg te g D σ H := h
theorem w_ret {te : TE} (h : te σ H D.rt) : tRet te D σ H := h
theorem w_ifS {c : TT} {t u : TS} (h : c σ H fun b H1 => if b = true then t D σ H1 else u D σ H1) : tIfS c t u D σ H := h
theorem w_drop {te : TE} (h : te σ H fun _ H1 => D.nx σ H1) : tDrop te D σ H := h
theorem w_next (h : D.nx σ H) : tNext D σ H := h
theorem w_var {i : Nat} {v : V} (e : σ[i]? = some (some v)) (h : Q v H) : tVar i σ H Q := ⟨v, e, h⟩
theorem w_c {v : V} (h : Q v H) : tC v σ H Q := h
theorem w_op {r : R2} {ta tb : TE} (h : ta σ H fun x H1 => tb σ H1 fun y H2 => r x y H2 Q) : tOp r ta tb σ H Q := h
theorem w_chain {r r' : R2} {ta tb tc : TE} (h : ta σ H fun x H1 => tb σ H1 fun y H2 => r x y H2 fun z H3 => ∃ k, z = .bl k ∧ (if k = true then tc σ H3 fun w' H4 => r' y w' H4 Q else Q (.bl false) H3)) : tChain r r' ta tb tc σ H Q := h
theorem w_un {r : V → Hp → VK → Prop} {ta : TE} (h : ta σ H fun x H1 => r x H1 Q) : tUn r ta σ H Q := h
theorem w_test {t : TE} (h : t σ H fun x H' => ∃ k, x = .bl k ∧ QB k H') : tTest t σ H QB := h
theorem w_B {t : TE} (h : t σ H fun x H' => ∃ k, x = .bl k ∧ QB k H') : tB t σ H QB := h
theorem w_and {t u : TT} (h : t σ H fun c H1 => if c = true then u σ H1 QB else QB false H1) : tAnd t u σ H QB := h
theorem w_or {t u : TT} (h : t σ H fun c H1 => if c = true then QB true H1 else u σ H1 QB) : tOr t u σ H QB := h
theorem w_not {t : TT} (h : t σ H fun c H1 => QB (!c) H1) : tNot t σ H QB := h
theorem w_if {t : TT} {ta tb : TE} (h : t σ H fun c H1 => if c = true then ta σ H1 Q else tb σ H1 Q) : tIf t ta tb σ H Q := h
theorem w_nil (h : QA [] H) : tNil σ H QA := h
theorem w_cons {ta : TE} {tr : TA} (h : ta σ H fun x H1 => tr σ H1 fun xs H2 => QA (x :: xs) H2) : tCons ta tr σ H QA := h
theorem w_cb {r : List V → Hp → VK → Prop} {t : TA} (h : t σ H fun vs H1 => r vs H1 Q) : tCB r t σ H Q := h
theorem w_call {sp : Sp} {dvs : List V} {E : XK} {t : TA} (h : t σ H fun vs H1 => sp (vs ++ dvs) H1 Q E) : tCall sp dvs E t σ H Q := h
theorem w_name {i : Nat} {v : V} {σ' : L2.St} (e : σ.set i (some v) = σ') (h : QS σ' H) : gName i v σ H QS := by
  unfold gName
  rw [e]
  exact h
theorem w_rI {C : Int → Int → Prop} {g : Int → Int → V} {i j : Int} (c : C i j) (h : Q (g i j) H) : rI C g (.int i) (.int j) H Q := ⟨i, j, rfl, rfl, c, h⟩
theorem w_rI0 {g : Int → Int → V} {i j : Int} (h : Q (g i j) H) : rI0 g (.int i) (.int j) H Q := ⟨i, j, rfl, rfl, h⟩
theorem w_rU {g : Int → V} {i : Int} (h : Q (g i) H) : rU g (.int i) H Q := ⟨i, rfl, h⟩
theorem w_rEqI {i j : Int} (h : Q (.bl (decide (i = j))) H) : rEq (.int i) (.int j) H Q := by
  refine ⟨rfl, ?_⟩
  rw [show decide (V.int i = V.int j) = decide (i = j) from by
    by_cases e : i = j
    · subst e
      rw [decide_eq_true rfl, decide_eq_true rfl]
    · rw [decide_eq_false e, decide_eq_false fun z => e (V.int.inj z)]]
  exact h
theorem w_rNeI {i j : Int} (h : Q (.bl (!decide (i = j))) H) : rNe (.int i) (.int j) H Q := by
  refine ⟨rfl, ?_⟩
  rw [show decide (V.int i = V.int j) = decide (i = j) from by
    by_cases e : i = j
    · subst e
      rw [decide_eq_true rfl, decide_eq_true rfl]
    · rw [decide_eq_false e, decide_eq_false fun z => e (V.int.inj z)]]
  exact h
theorem w_rEqS {x y : Str} {b : Bool} (e : decide (V.str x = V.str y) = b) (h : Q (.bl b) H) : rEq (.str x) (.str y) H Q := by
  refine ⟨rfl, ?_⟩
  rw [e]
  exact h
theorem w_bl {b : Bool} {QP : Bool → Prop} (h : QP b) : ∃ k, V.bl b = .bl k ∧ QP k := ⟨b, rfl, h⟩
theorem w_in {i : Int} {QP : Int → Prop} (h : QP i) : ∃ k, V.int i = .int k ∧ QP k := ⟨i, rfl, h⟩
theorem w_ixT {p : Addr} {xs : List V} {i : Int} {v : V} (h : SqT K H p xs) (e : atI xs i = some v) (q : Q v H) : rIxT K (.ref p) (.int i) H Q := ⟨p, xs, i, v, rfl, rfl, h, e, q⟩
theorem w_ixL {p : Addr} {xs : List V} {i : Int} {v : V} (h : SqL K H p xs) (e : atI xs i = some v) (q : Q v H) : rIxL K (.ref p) (.int i) H Q := ⟨p, xs, i, v, rfl, rfl, h, e, q⟩
theorem w_tup {t : TA} (h : t σ H fun xs H1 => xs.length ≤ sizeLine ∧ ∀ p, H1 p = none → Q (.ref p) (upd H1 p (.tup xs))) : tTup t σ H Q := h
theorem w_lst {t : TA} (h : t σ H fun xs H1 => xs.length ≤ sizeLine ∧ ∀ p, H1 p = none → Q (.ref p) (upd H1 p (.lst xs))) : tLst t σ H Q := h
theorem w_bm {T : String} {r : V → List V → Hp → VK → Prop} {to : TE} {t : TA} (h : to σ H fun x H1 => tyV K T x H1 ∧ t σ H1 fun xs H2 => r x xs H2 Q) : tBM K T r to t σ H Q := h
theorem w_inT {p : Addr} {x : Int} {ns : List Int} (h : SqT K H p (ns.map V.int)) (q : Q (.bl (decide (x ∈ ns))) H) : rIn K false (.int x) (.ref p) H Q := by
  refine ⟨p, ns.map V.int, rfl, .inr h, rfl, ?_, ?_⟩
  · rw [List.all_map]
    exact List.all_eq_true.mpr fun _ _ => rfl
  · rw [if_neg Bool.false_ne_true]
    rw [show inV (.int x) (ns.map V.int) = decide (x ∈ ns) from by
      unfold inV
      rw [List.any_map]
      by_cases e : x ∈ ns
      · rw [decide_eq_true e, List.any_eq_true]
        exact ⟨x, e, by show (x == x) = true; exact beq_self_eq_true x⟩
      · rw [decide_eq_false e, List.any_eq_false]
        intro y hy
        show ¬ (y == x) = true
        intro z
        have : y = x := eq_of_beq z
        subst this
        exact e hy]
    exact q
theorem w_break (h : D.bk σ H) : tBreak D σ H := h
theorem w_cont (h : D.ct σ H) : tCont D σ H := h
theorem w_nT {A B : Prop} (h : B) : if (!true) = true then A else B := h
theorem w_nF {A B : Prop} (h : A) : if (!false) = true then A else B := h
theorem w_ite {c A B : Prop} [Decidable c] (h1 : c → A) (h2 : ¬ c → B) : if (decide c) = true then A else B := by
  by_cases h : c
  · rw [if_pos (decide_eq_true h)]
    exact h1 h
  · rw [if_neg (by rw [decide_eq_false h]; exact Bool.false_ne_true)]
    exact h2 h
theorem w_iteN {c A B : Prop} [Decidable c] (h1 : ¬ c → A) (h2 : c → B) : if (!decide c) = true then A else B := by
  by_cases h : c
  · rw [decide_eq_true h]
    exact iteF (h2 h)
  · rw [decide_eq_false h]
    exact iteT (h1 h)
theorem w_st {t : TS} {σ' : L2.St} (e : σ = σ') (h : t D σ' H) : t D σ H := by
  rw [e]
  exact h
end
/-! heaps -/
theorem same_new {H0 H : Hp} {p : Addr} {o : HO} (s : Same H0 H) (h : H0 p = none) : Same H0 (upd H p o) := fun b x e => by
  rw [upd_ne (ne_of_none e h)]
  exact s b x e
theorem same_upd {H : Hp} {p : Addr} {o : HO} (h : H p = none) : Same H (upd H p o) := same_new (Same.refl H) h
theorem Same.tup {K : PySem.W.Frag} {H H' : Hp} {a : Addr} {xs : List V} (e : Same H H') (h : SqT K H a xs) : SqT K H' a xs := by
  rcases h with (h | ⟨o, h⟩) | h
  · exact .inl (.inl (e _ _ h))
  · exact .inl (.inr ⟨o, e _ _ h⟩)
  · exact .inr h
theorem Same.new {H H' : Hp} {p : Addr} (s : Same H H') (h : H' p = none) : H p = none := s.free h
mutual
theorem dp_same {K : PySem.W.Frag} {H H' : Hp} (e : Same H H') : ∀ {v : V} {d : PyData}, Dp K H v d → Dp K H' v d
  | _, _, .non => .non
  | _, _, .bl b => .bl b
  | _, _, .int i => .int i
  | _, _, .str x => .str x
  | _, _, .lst h t => .lst (e.seq h) (dpAll_same e t)
  | _, _, .tup h t => .tup (Same.tup e h) (dpAll_same e t)
theorem dpAll_same {K : PySem.W.Frag} {H H' : Hp} (e : Same H H') : ∀ {vs : List V} {ds : List PyData}, DpAll K H vs ds → DpAll K H' vs ds
  | _, _, .nil => .nil
  | _, _, .cons h t => .cons (dp_same e h) (dpAll_same e t)
end
theorem dpAll_len {K : PySem.W.Frag} {H : Hp} : ∀ {vs : List V} {ds : List PyData}, DpAll K H vs ds → vs.length = ds.length
  | _, _, .nil => rfl
  | _, _, .cons _ t => by rw [List.length_cons, List.length_cons, dpAll_len t]
theorem dpAll_get {K : PySem.W.Frag} {H : Hp} : ∀ {vs : List V} {ds : List PyData} {i : Nat} {d : PyData}, DpAll K H vs ds → ds[i]? = some d → ∃ v, vs[i]? = some v ∧ Dp K H v d
  | _, _, _, _, .nil, e => by simp at e
  | _, _, 0, _, .cons h _, e => by
    cases (Option.some.inj e)
    exact ⟨_, rfl, h⟩
  | _, _, i + 1, _, .cons _ t, e => dpAll_get (i := i) t e
theorem dpAll_ints {K : PySem.W.Frag} {H : Hp} : ∀ (ns : List Int), DpAll K H (ns.map V.int) (ns.map PyData.int)
  | [] => .nil
  | n :: r => .cons (.int n) (dpAll_ints r)
theorem dpAll_ints_inv {K : PySem.W.Frag} {H : Hp} : ∀ {vs : List V} (ns : List Int), DpAll K H vs (ns.map PyData.int) → vs = ns.map V.int
  | _, [], .nil => rfl
  | _, n :: r, .cons (.int _) t => by rw [dpAll_ints_inv r t, List.map_cons]
theorem dpAll_app {K : PySem.W.Frag} {H : Hp} : ∀ {vs ws : List V} {ds es : List PyData}, DpAll K H vs ds → DpAll K H ws es → DpAll K H (vs ++ ws) (ds ++ es)
  | _, _, _, _, .nil, h => h
  | _, _, _, _, .cons a t, h => .cons a (dpAll_app t h)
theorem ix_at {n j : Nat} {k : Int} (e : k = (j : Int)) (h : j < n) : ixN n k = some j := by
  subst e
  unfold ixN
  rw [if_pos (Int.natCast_nonneg j), if_pos (by omega)]
  rfl
theorem cutV_map (ms : List Int) (lo hi : Option Int) : cutV (ms.map V.int) lo hi = ((ms.drop (HT.sIx ms.length 0 lo)).take (HT.sIx ms.length ms.length hi - HT.sIx ms.length 0 lo)).map V.int := by
  unfold cutV
  rw [List.length_map, List.map_take, List.map_drop]
theorem at0 {x : V} {r : List V} : atI (x :: r) 0 = some x := atI_nat (xs := x :: r) (j := 0) rfl
theorem at1 {x y : V} {r : List V} : atI (x :: y :: r) 1 = some y := atI_nat (xs := x :: y :: r) (j := 1) rfl
theorem at2 {x y z : V} {r : List V} : atI (x :: y :: z :: r) 2 = some z := atI_nat (xs := x :: y :: z :: r) (j := 2) rfl
theorem len2 {n : Nat} (h : Nat.ble n sizeLine = true) : n ≤ sizeLine := Nat.le_of_ble_eq_true h
/-! sizes of numbers -/
theorem div_ok {i j : Int} (h : 0 < j) (h2 : j < 2 ^ 250) : CDivW i j := wide_div (b := 250) h (by omega) (by decide) (by decide)
theorem mul_ok {i j : Int} (h1 : -(2 ^ 250) < i) (h2 : i < 2 ^ 250) (h3 : -(2 ^ 250) < j) (h4 : j < 2 ^ 250) : CMulW i j := wide_mul (a := 250) (b := 250) (by omega) (by omega) (by decide) (by decide) (by decide)
/-- a power whose bits are few -/
def CPowB (i j : Int) : Prop := 0 ≤ j ∧ (Builtin.Int.intBits i : Int) * j ≤ 2 ^ 27
theorem op_powB {X : Cx} : OpR X (binaryOp .Pow) (rI CPowB fun i j => .int (i ^ j.toNat)) := opI fun _ _ _ _ _ _ _ hc q => pow_int hc.1 hc.2 q
/-! loops, targets, stores -/
section
variable {K : PySem.W.Frag} {H : Hp} {σ : L2.St} {D : Ends} {Q : VK} {QA : List V → Hp → Prop} {QS : L2.St → Hp → Prop} {R : It → Hp → Prop}
def FB (J : It) (g : TG) (tb : TS) (D : Ends) (σ : L2.St) (H : Hp) : Prop := tFor (fun _ H R => R J H) g tb D σ H
theorem w_for {wi : TI} {g : TG} {tb : TS} (h : wi σ H fun J H1 => FB J g tb D σ H1) : tFor wi g tb D σ H := h
def RG1 (vs : List V) (H : Hp) (R : It → Hp → Prop) : Prop := iRng1 (fun _ H Q => Q vs H) [] H R
def RG2 (vs : List V) (H : Hp) (R : It → Hp → Prop) : Prop := iRng2 (fun _ H Q => Q vs H) [] H R
theorem w_rng1 {ta : TA} (h : ta σ H fun vs H1 => RG1 vs H1 R) : iRng1 ta σ H R := h
theorem w_rng2 {ta : TA} (h : ta σ H fun vs H1 => RG2 vs H1 R) : iRng2 ta σ H R := h
theorem w_RG1 {j : Int} (h1 : -(2 ^ 62) ≤ j) (h2 : j < 2 ^ 62) (h : R (Itr 0 j.toNat) H) : RG1 [.int j] H R := ⟨j, rfl, h1, h2, h⟩
theorem w_RG2 {i j : Int} (h1 : -(2 ^ 62) ≤ i) (h2 : i < 2 ^ 62) (h3 : -(2 ^ 62) ≤ j) (h4 : j < 2 ^ 62) (h : R (Itr i (j - i).toNat) H) : RG2 [.int i, .int j] H R := ⟨i, j, rfl, ⟨h1, h2, h3, h4⟩, h⟩
def IL (K : PySem.W.Frag) (v : V) (H : Hp) (R : It → Hp → Prop) : Prop := iList K (tC v) [] H R
def IT (K : PySem.W.Frag) (v : V) (H : Hp) (R : It → Hp → Prop) : Prop := iTup K (tC v) [] H R
theorem w_ilist {tl : TE} (h : tl σ H fun v H1 => IL K v H1 R) : iList K tl σ H R := h
theorem w_itup {tl : TE} (h : tl σ H fun v H1 => IT K v H1 R) : iTup K tl σ H R := h
theorem w_IL {a : Addr} {xs : List V} (h : SqL K H a xs) (q : R (Itl K a) H) : IL K (.ref a) H R := ⟨a, rfl, ⟨xs, h⟩, q⟩
theorem w_IT {a : Addr} {xs : List V} (h : SqT K H a xs) (q : R (Itt K a) H) : IT K (.ref a) H R := ⟨a, rfl, ⟨xs, h⟩, q⟩
theorem fb_range {lo : Int} {n : Nat} {g : TG} {tb : TS} (Pv : Nat → L2.St → Hp → Prop) (h0 : Pv 0 σ H)
    (hs : ∀ i σ H, i < n → Pv i σ H → g (.int (lo + i)) σ H fun σ2 H2 => tb { D with nx := Pv (i + 1), ct := Pv (i + 1), bk := D.nx } σ2 H2) (hd : ∀ σ H, Pv n σ H → D.nx σ H) : FB (Itr lo n) g tb D σ H := for_range Pv h0 hs hd
theorem fb_list {a : Addr} (xs : List V) {g : TG} {tb : TS} (Pv : Nat → L2.St → Hp → Prop) (h0 : Pv 0 σ H) (hl : ∀ i σ H, i ≤ xs.length → Pv i σ H → SqL K H a xs)
    (hs : ∀ i x σ H, xs[i]? = some x → Pv i σ H → g x σ H fun σ2 H2 => tb { D with nx := Pv (i + 1), ct := Pv (i + 1), bk := D.nx } σ2 H2) (hd : ∀ σ H, Pv xs.length σ H → D.nx σ H) : FB (Itl K a) g tb D σ H := for_list Pv h0 hl hs hd
theorem fb_tup {a : Addr} (xs : List V) {g : TG} {tb : TS} (Pv : Nat → L2.St → Hp → Prop) (h0 : Pv 0 σ H) (hl : ∀ i σ H, i ≤ xs.length → Pv i σ H → SqT K H a xs)
    (hs : ∀ i x σ H, xs[i]? = some x → Pv i σ H → g x σ H fun σ2 H2 => tb { D with nx := Pv (i + 1), ct := Pv (i + 1), bk := D.nx } σ2 H2) (hd : ∀ σ H, Pv xs.length σ H → D.nx σ H) : FB (Itt K a) g tb D σ H := for_tup Pv h0 hl hs hd
def LB (J : It) (g : TG) (tt : TT) (te : TE) (vs : List Nat) (σ : L2.St) (H : Hp) (Q : VK) : Prop := tLc (fun _ H R => R J H) g tt te vs σ H Q
theorem w_lc {wi : TI} {g : TG} {tt : TT} {te : TE} {vs : List Nat} (h : wi σ H fun J H1 => LB J g tt te vs σ H1 Q) : tLc wi g tt te vs σ H Q := h
theorem lb_range {lo : Int} {n : Nat} {g : TG} {tt : TT} {te : TE} {vs : List Nat} (Pv : Addr → Nat → Hp → Prop) (h0 : ∀ D, H D = none → Pv D 0 (upd H D (.lst [])))
    (hs : ∀ D, H D = none → ∀ i H1, i < n → Pv D i H1 → g (.int (lo + i)) (wipe σ vs) H1 fun σ2 H2 => wipe σ2 vs = wipe σ vs ∧ tt σ2 H2 fun b H3 =>
      if b = true then te σ2 H3 fun y H4 => ∃ acc, H4 D = some (.lst acc) ∧ acc.length < sizeLine ∧ Pv D (i + 1) (upd H4 D (.lst (acc ++ [y]))) else Pv D (i + 1) H3) (hd : ∀ D, H D = none → ∀ H1, Pv D n H1 → Q (.ref D) H1) : LB (Itr lo n) g tt te vs σ H Q :=
  fun D hD => lc_range (Pv D) (h0 D hD) (hs D hD) (hd D hD)
theorem lb_list {a : Addr} (xs : List V) {g : TG} {tt : TT} {te : TE} {vs : List Nat} (Pv : Addr → Nat → Hp → Prop) (h0 : ∀ D, H D = none → Pv D 0 (upd H D (.lst []))) (hl : ∀ D, H D = none → ∀ i H1, i ≤ xs.length → Pv D i H1 → SqL K H1 a xs)
    (hs : ∀ D, H D = none → ∀ i x H1, xs[i]? = some x → Pv D i H1 → g x (wipe σ vs) H1 fun σ2 H2 => wipe σ2 vs = wipe σ vs ∧ tt σ2 H2 fun b H3 =>
      if b = true then te σ2 H3 fun y H4 => ∃ acc, H4 D = some (.lst acc) ∧ acc.length < sizeLine ∧ Pv D (i + 1) (upd H4 D (.lst (acc ++ [y]))) else Pv D (i + 1) H3) (hd : ∀ D, H D = none → ∀ H1, Pv D xs.length H1 → Q (.ref D) H1) : LB (Itl K a) g tt te vs σ H Q :=
  fun D hD => lc_list (Pv D) (h0 D hD) (hl D hD) (hs D hD) (hd D hD)
def IE (K : PySem.W.Frag) (vs : List V) (H : Hp) (R : It → Hp → Prop) : Prop := iEnum K (fun _ H Q => Q vs H) [] H R
theorem w_enum {ta : TA} (h : ta σ H fun vs H1 => IE K vs H1 R) : iEnum K ta σ H R := h
theorem w_IE {a : Addr} {xs : List V} (h : SqL K H a xs) (q : R (Ite K a) H) : IE K [.ref a] H R := ⟨a, xs, rfl, h, q⟩
theorem lb_enum {a : Addr} (xs : List V) {g : TG} {tt : TT} {te : TE} {vs : List Nat} (Pv : Addr → Nat → Hp → Prop) (h0 : ∀ D, H D = none → Pv D 0 (upd H D (.lst []))) (hl : ∀ D, H D = none → ∀ i H1, i ≤ xs.length → Pv D i H1 → SqL K H1 a xs)
    (hs : ∀ D, H D = none → ∀ i v T H1, xs[i]? = some v → Pv D i H1 → H1 T = none → g (.ref T) (wipe σ vs) (upd H1 T (.tup [.int (i : Nat), v])) fun σ2 H2 => wipe σ2 vs = wipe σ vs ∧ tt σ2 H2 fun b H3 =>
      if b = true then te σ2 H3 fun y H4 => ∃ acc, H4 D = some (.lst acc) ∧ acc.length < sizeLine ∧ Pv D (i + 1) (upd H4 D (.lst (acc ++ [y]))) else Pv D (i + 1) H3) (hd : ∀ D, H D = none → ∀ H1, Pv D xs.length H1 → Q (.ref D) H1) : LB (Ite K a) g tt te vs σ H Q :=
  fun D hD => lc_it (walk_enum (xs := xs)) (Pv D) (h0 D hD) (hl D hD) (fun i x H1 H2 _ p y => by
    obtain ⟨T, u, v, rfl, hT, rfl, e1, e2⟩ := y
    cases Option.some.inj e1
    exact hs D hD i v T H1 e2 p hT) (hd D hD)
theorem w_yes {QB : Bool → Hp → Prop} (h : QB true H) : tYes σ H QB := h
theorem w_gtup {n : Nat} {t : TGs} {a : Addr} {xs : List V} (h : SqT K H a xs) (e : xs.length = n) (q : t xs σ H QS) : gTup K n t (.ref a) σ H QS := ⟨a, xs, rfl, h, e, q⟩
theorem w_gcons {t : TG} {u : TGs} {v : V} {r : List V} (h : t v σ H fun σ' H' => u r σ' H' QS) : gCons t u (v :: r) σ H QS := ⟨v, r, rfl, h⟩
theorem w_gnil (h : QS σ H) : gNil [] σ H QS := ⟨rfl, h⟩
theorem w_gsub {to ti : TE} {t : TSet} {v : V} (h : to σ H fun o H1 => ti σ H1 fun i H2 => t o i v H2 fun H3 => QS σ H3) : gSub to ti t v σ H QS := h
theorem w_setL {p : Addr} {xs : List V} {k : Int} {j : Nat} {v : V} {QH : Hp → Prop} (h : H p = some (.lst xs)) (e : ixN xs.length k = some j) (q : QH (upd H p (.lst (xs.set j v)))) : rSetL (.ref p) (.int k) v H QH := ⟨p, xs, k, j, rfl, rfl, h, e, q⟩
theorem w_aug {i : Nat} {te : TE} {ti : TIp} {x : V} (e : σ[i]? = some (some x)) (h : te σ H fun y H1 => ti x y H1 fun z H2 => D.nx (σ.set i (some z)) H2) : tAug i te ti D σ H := ⟨x, e, h⟩
theorem w_ipI {f : Int → Int → Int} {i j : Int} (h : Q (.int (f i j)) H) : ipI f (.int i) (.int j) H Q := ⟨i, j, rfl, rfl, h⟩
theorem w_append {l : Addr} {xs : List V} {y : V} (h : H l = some (.lst xs)) (hl : xs.length < sizeLine) (q : Q .non (upd H l (.lst (xs ++ [y])))) : rAppend (.ref l) [y] H Q := ⟨l, xs, y, rfl, rfl, h, hl, q⟩
theorem ty_list {l : Addr} {xs : List V} (h : H l = some (.lst xs)) : tyV K "list" (.ref l) H := .inl ⟨rfl, _, .inl (.inl h)⟩
theorem w_mod {i j : Int} (h : 0 < j) (q : ∀ r, 0 ≤ r → r < j → Q (.int r) H) : rI (fun _ j => 0 < j) (fun i j => .int (i % j)) (.int i) (.int j) H Q :=
  ⟨i, j, rfl, rfl, h, q _ (Int.emod_nonneg _ (by omega)) (Int.emod_lt_of_pos _ h)⟩
theorem w_div {i j : Int} (h : CDivW i j) (q : ∀ r, Q (.int r) H) : rI CDivW (fun i j => .int (i / j)) (.int i) (.int j) H Q := ⟨i, j, rfl, rfl, h, q _⟩
theorem w_rIv {C : Int → Int → Prop} {g : Int → Int → V} {i j : Int} (v : V) (c : C i j) (e : g i j = v) (h : Q v H) : rI C g (.int i) (.int j) H Q := ⟨i, j, rfl, rfl, c, by rw [e]; exact h⟩
theorem w_isi {x : V} {n : String} {t : Value} {b : Bool} (ty : TyX K H x t) (k : PySem.W.kitOne K t (.type n) = some b) (q : Q (.bl b) H) : rIsi K [x, .ty n] H Q := ⟨x, .ty n, t, .type n, b, rfl, .ty n, ty, k, q⟩
theorem w_andV {ta tb : TE} (h : ta σ H fun x H1 => ∃ c, x = .bl c ∧ if c = true then tb σ H1 Q else Q (.bl false) H1) : tAndV ta tb σ H Q := h
theorem w_orV {ta tb : TE} (h : ta σ H fun x H1 => ∃ c, x = .bl c ∧ if c = true then Q (.bl true) H1 else tb σ H1 Q) : tOrV ta tb σ H Q := h
theorem w_notV {ta : TE} (h : ta σ H fun x H1 => ∃ c, x = .bl c ∧ Q (.bl (!c)) H1) : tNotV ta σ H Q := h
theorem w_slL {a : Addr} {xs : List V} {lo hi : Option Int} (h : SqL K H a xs) (q : ∀ p, H p = none → Q (.ref p) (upd H p (.lst (cutV xs lo hi)))) : rSlL K (.ref a) lo hi H Q := ⟨a, xs, rfl, h, q⟩
theorem w_sl {r : V → Option Int → Option Int → Hp → VK → Prop} {te : TE} {tl th : TO} (h : te σ H fun x H1 => tl σ H1 fun l H2 => th σ H2 fun u H3 => r x l u H3 Q) : tSl r te tl th σ H Q := h
theorem w_nopart {QO : Option Int → Hp → Prop} (h : QO none H) : tNoPart σ H QO := h
theorem w_part {QO : Option Int → Hp → Prop} {t : TE} (h : t σ H fun x H1 => ∃ i, x = .int i ∧ QO (some i) H1) : tPart t σ H QO := h
end
end Ct

namespace Ct
open PySem PySem.Spec PyProof.Rows L2
/-! parts, stands, what a push does -/
inductive Part where
  | wheel (z : Int) (ms : List Int) | click | rocker | spring (k : Int)
def Part.data : Part → PyData
  | .wheel z ms => .tuple [.str "wheel", .int z, .tuple (ms.map PyData.int)]
  | .click => .tuple [.str "click"]
  | .rocker => .tuple [.str "rocker"]
  | .spring k => .tuple [.str "spring", .int k]
def Part.places : Part → Int
  | .wheel z _ => z
  | .click => 1
  | .rocker => 2
  | .spring k => k
def Rise (z : Int) (ms : List Int) : Prop := ms.Pairwise (· < ·) ∧ ∀ m ∈ ms, 0 ≤ m ∧ m < z
def Part.ok : Part → Prop
  | .wheel z ms => 1 ≤ z ∧ z < 2 ^ 200 ∧ Rise z ms ∧ ms.length ≤ 1000
  | .click => True
  | .rocker => True
  | .spring k => 1 ≤ k ∧ k < 2 ^ 200
theorem Part.ok.pos {p : Part} (h : p.ok) : 1 ≤ p.places ∧ p.places < 2 ^ 200 := by
  cases p with
  | wheel z ms => exact ⟨h.1, h.2.1⟩
  | click => exact ⟨by decide, by decide⟩
  | rocker => exact ⟨by decide, by decide⟩
  | spring k => exact h
/-- the new place and what is given -/
def pp : Part → Int → Int → Int × Int
  | .wheel z ms, x, w => ((x + w) % z, if (if w = 1 then (x + w) % z else x) ∈ ms then w else 0)
  | .click, _, w => (0, if w = 1 then 1 else 0)
  | .rocker, x, w => (if w = 1 then 1 else 0, if w = 1 ∧ x = 0 then 1 else 0)
  | .spring k, x, w => if w = 1 then (if x = k - 1 then (0, 1) else (x + 1, 0)) else (if x - 1 > 0 then x - 1 else 0, 0)
def stands : List Part → Int
  | [] => 1
  | p :: r => p.places * stands r
def Sign (w : Int) : Prop := w = 1 ∨ w = -1
theorem pp_sign (p : Part) (x w : Int) (h : Sign w) : (pp p x w).2 = 0 ∨ Sign (pp p x w).2 := by
  cases p with
  | wheel z ms =>
    by_cases e : (if w = 1 then (x + w) % z else x) ∈ ms
    · rw [show (pp (.wheel z ms) x w).2 = w from if_pos e]
      exact .inr h
    · exact .inl (if_neg e)
  | click =>
    show (if w = 1 then (1 : Int) else 0) = 0 ∨ Sign (if w = 1 then (1 : Int) else 0)
    split
    · exact .inr (.inl rfl)
    · exact .inl rfl
  | rocker =>
    show (if w = 1 ∧ x = 0 then (1 : Int) else 0) = 0 ∨ Sign (if w = 1 ∧ x = 0 then (1 : Int) else 0)
    split
    · exact .inr (.inl rfl)
    · exact .inl rfl
  | spring k =>
    show (if w = 1 then (if x = k - 1 then ((0 : Int), (1 : Int)) else (x + 1, 0)) else (if x - 1 > 0 then x - 1 else 0, 0)).2 = 0 ∨ Sign (if w = 1 then (if x = k - 1 then ((0 : Int), (1 : Int)) else (x + 1, 0)) else (if x - 1 > 0 then x - 1 else 0, 0)).2
    split
    · split
      · exact .inr (.inl rfl)
      · exact .inl rfl
    · exact .inl rfl
/-- one part's turn in a push that goes along a train -/
def stp (ps : List Part) (s : List Int × Int) (n : Nat) : List Int × Int :=
  if s.2 = 0 then s else match ps[n]?, s.1[n]? with
    | some p, some x => (s.1.set n (pp p x s.2).1, (pp p x s.2).2)
    | _, _ => s
def runN (ps : List Part) (i : Nat) (s : List Int × Int) : Nat → List Int × Int
  | 0 => s
  | n + 1 => stp ps (runN ps i s n) (i + n)
theorem stp_zero {ps : List Part} {s : List Int × Int} {n : Nat} (h : s.2 = 0) : stp ps s n = s := by
  unfold stp
  rw [if_pos h]
theorem stp_at {ps : List Part} {s : List Int × Int} {n : Nat} {p : Part} {x : Int} (h : s.2 ≠ 0) (hp : ps[n]? = some p) (hx : s.1[n]? = some x) : stp ps s n = (s.1.set n (pp p x s.2).1, (pp p x s.2).2) := by
  unfold stp
  rw [if_neg h, hp, hx]
theorem runN_zero {ps : List Part} {i : Nat} {s : List Int × Int} {n : Nat} (h : (runN ps i s n).2 = 0) : ∀ m, runN ps i s (n + m) = runN ps i s n
  | 0 => rfl
  | m + 1 => by
    show stp ps (runN ps i s (n + m)) _ = _
    rw [runN_zero h m]
    exact stp_zero h
theorem stp_len (ps : List Part) (s : List Int × Int) (n : Nat) : (stp ps s n).1.length = s.1.length := by
  unfold stp
  split
  · rfl
  · split
    · show (s.1.set n _).length = _
      rw [List.length_set]
    · rfl
theorem runN_len (ps : List Part) (i : Nat) (s : List Int × Int) : ∀ n, (runN ps i s n).1.length = s.1.length
  | 0 => rfl
  | n + 1 => by
    show (stp ps _ _).1.length = _
    rw [stp_len, runN_len ps i s n]
theorem stp_other {ps : List Part} {s : List Int × Int} {n m : Nat} (h : n ≠ m) : (stp ps s n).1[m]? = s.1[m]? := by
  unfold stp
  split
  · rfl
  · split
    · show (s.1.set n _)[m]? = _
      rw [List.getElem?_set_ne h]
    · rfl
/-- parts not come to yet stand as they stood -/
theorem runN_ahead (ps : List Part) (i : Nat) (s : List Int × Int) : ∀ n m, i + n ≤ m → (runN ps i s n).1[m]? = s.1[m]?
  | 0, _, _ => rfl
  | n + 1, m, h => by
    show (stp ps _ _).1[m]? = _
    rw [stp_other (by omega), runN_ahead ps i s n m (by omega)]
theorem runN_sign (ps : List Part) (i : Nat) (s : List Int × Int) (h : Sign s.2) : ∀ n, (runN ps i s n).2 = 0 ∨ Sign (runN ps i s n).2
  | 0 => .inr h
  | n + 1 => by
    show (stp ps _ _).2 = 0 ∨ Sign (stp ps _ _).2
    rcases runN_sign ps i s h n with e | e
    · rw [stp_zero e]
      exact .inl e
    · unfold stp
      split
      · rename_i z
        exact .inl z
      · split
        · exact pp_sign _ _ _ e
        · exact .inr e
def StandOk (ps : List Part) (xs : List Int) : Prop := xs.length = ps.length ∧ ∀ (i : Nat) (p : Part) (x : Int), ps[i]? = some p → xs[i]? = some x → 0 ≤ x ∧ x < p.places
def run (ps : List Part) (xs : List Int) (i : Nat) (w : Int) : List Int × Int := runN ps i (xs, w) (ps.length - i)
/-! what stands for a part -/
section
variable {K : PySem.W.Frag} {H : Hp}
theorem tup_inv {v : V} {ds : List PyData} (h : Dp K H v (.tuple ds)) : ∃ a vs, v = .ref a ∧ SqT K H a vs ∧ DpAll K H vs ds := by
  cases h with
  | tup h t => exact ⟨_, _, rfl, h, t⟩
theorem lst_inv {v : V} {ds : List PyData} (h : Dp K H v (.list ds)) : ∃ a vs, v = .ref a ∧ SqL K H a vs ∧ DpAll K H vs ds := by
  cases h with
  | lst h t => exact ⟨_, _, rfl, h, t⟩
theorem wheel_inv {v : V} {z : Int} {ms : List Int} (h : Dp K H v (Part.wheel z ms).data) : ∃ a b, v = .ref a ∧ SqT K H a [.str "wheel", .int z, .ref b] ∧ SqT K H b (ms.map V.int) := by
  obtain ⟨a, vs, rfl, hs, ht⟩ := tup_inv h
  cases ht with
  | cons h1 t1 => cases h1; cases t1 with
    | cons h2 t2 => cases h2; cases t2 with
      | cons h3 t3 =>
        cases t3
        obtain ⟨b, ws, rfl, hb, hw⟩ := tup_inv h3
        cases dpAll_ints_inv ms hw
        exact ⟨a, b, rfl, hs, hb⟩
theorem spring_inv {v : V} {k : Int} (h : Dp K H v (Part.spring k).data) : ∃ a, v = .ref a ∧ SqT K H a [.str "spring", .int k] := by
  obtain ⟨a, vs, rfl, hs, ht⟩ := tup_inv h
  cases ht with
  | cons h1 t1 => cases h1; cases t1 with
    | cons h2 t2 => cases h2; cases t2; exact ⟨a, rfl, hs⟩
theorem click_inv {v : V} (h : Dp K H v Part.click.data) : ∃ a, v = .ref a ∧ SqT K H a [.str "click"] := by
  obtain ⟨a, vs, rfl, hs, ht⟩ := tup_inv h
  cases ht with
  | cons h1 t1 => cases h1; cases t1; exact ⟨a, rfl, hs⟩
theorem rocker_inv {v : V} (h : Dp K H v Part.rocker.data) : ∃ a, v = .ref a ∧ SqT K H a [.str "rocker"] := by
  obtain ⟨a, vs, rfl, hs, ht⟩ := tup_inv h
  cases ht with
  | cons h1 t1 => cases h1; cases t1; exact ⟨a, rfl, hs⟩
theorem wheel_dp {a b : Addr} {z : Int} {ms : List Int} (h : SqT K H a [.str "wheel", .int z, .ref b]) (hb : SqT K H b (ms.map V.int)) : Dp K H (.ref a) (Part.wheel z ms).data :=
  .tup h (.cons (.str _) (.cons (.int _) (.cons (.tup hb (dpAll_ints ms)) .nil)))
theorem spring_dp {a : Addr} {k : Int} (h : SqT K H a [.str "spring", .int k]) : Dp K H (.ref a) (Part.spring k).data := .tup h (.cons (.str _) (.cons (.int _) .nil))
theorem click_dp {a : Addr} (h : SqT K H a [.str "click"]) : Dp K H (.ref a) Part.click.data := .tup h (.cons (.str _) .nil)
theorem rocker_dp {a : Addr} (h : SqT K H a [.str "rocker"]) : Dp K H (.ref a) Part.rocker.data := .tup h (.cons (.str _) .nil)
/-- a train at a: its parts -/
def TrainAt (K : PySem.W.Frag) (H : Hp) (a : Addr) (ps : List Part) : Prop := ∃ vs, SqL K H a vs ∧ DpAll K H vs (ps.map Part.data)
theorem TrainAt.same {H' : Hp} {a : Addr} {ps : List Part} (e : Same H H') (h : TrainAt K H a ps) : TrainAt K H' a ps := by
  obtain ⟨vs, h1, h2⟩ := h
  exact ⟨vs, e.seq h1, dpAll_same e h2⟩
theorem TrainAt.at {a : Addr} {ps : List Part} {vs : List V} (h2 : DpAll K H vs (ps.map Part.data)) {i : Nat} {p : Part} (e : ps[i]? = some p) : ∃ v, vs[i]? = some v ∧ Dp K H v p.data :=
  dpAll_get h2 (by rw [List.getElem?_map, e]; rfl)
end
/-- a list that is changed leaves the parts as they are -/
theorem sqT_upd {K : PySem.W.Frag} {H : Hp} {a l : Addr} {xs ws : List V} {o : HO} (h : SqT K H a xs) (hl : H l = some (.lst ws)) : SqT K (upd H l o) a xs := by
  rcases h with (h | ⟨u, h⟩) | h
  · exact .inl (.inl (by rw [upd_ne (ne_of h hl (by intro z; cases z))]; exact h))
  · exact .inl (.inr ⟨u, by rw [upd_ne (ne_of h hl (by intro z; cases z))]; exact h⟩)
  · exact .inr h
theorem part_upd {K : PySem.W.Frag} {H : Hp} {l : Addr} {ws : List V} {o : HO} {v : V} {p : Part} (h : Dp K H v p.data) (hl : H l = some (.lst ws)) : Dp K (upd H l o) v p.data := by
  cases p with
  | wheel z ms =>
    obtain ⟨a, b, rfl, ha, hb⟩ := wheel_inv h
    exact wheel_dp (sqT_upd ha hl) (sqT_upd hb hl)
  | click =>
    obtain ⟨a, rfl, ha⟩ := click_inv h
    exact click_dp (sqT_upd ha hl)
  | rocker =>
    obtain ⟨a, rfl, ha⟩ := rocker_inv h
    exact rocker_dp (sqT_upd ha hl)
  | spring k =>
    obtain ⟨a, rfl, ha⟩ := spring_inv h
    exact spring_dp (sqT_upd ha hl)
theorem parts_upd {K : PySem.W.Frag} {H : Hp} {l : Addr} {ws : List V} {o : HO} (hl : H l = some (.lst ws)) : ∀ {vs : List V} (ps : List Part), DpAll K H vs (ps.map Part.data) → DpAll K (upd H l o) vs (ps.map Part.data)
  | _, [], .nil => .nil
  | _, p :: r, .cons h t => .cons (part_upd h hl) (parts_upd hl r t)
theorem stands_app : ∀ (ps : List Part) (p : Part), stands (ps ++ [p]) = stands ps * p.places
  | [], p => by
    show p.places * 1 = 1 * p.places
    rw [Int.mul_one, Int.one_mul]
  | a :: r, p => by
    show a.places * stands (r ++ [p]) = a.places * stands r * p.places
    rw [stands_app r p, Int.mul_assoc]
theorem stands_pos : ∀ (ps : List Part), (∀ p ∈ ps, p.ok) → 1 ≤ stands ps
  | [], _ => Int.le_refl _
  | a :: r, h => by
    have h1 := (h a List.mem_cons_self).pos.1
    have h2 := stands_pos r fun p hp => h p (List.mem_cons_of_mem _ hp)
    show 1 ≤ a.places * stands r
    have := Int.mul_le_mul h1 h2 (by decide) (by omega)
    omega
theorem room_step {s pl room most : Int} (hs : 1 ≤ s) (h1 : 1 ≤ pl) (h2 : pl ≤ room) (h : s * room ≤ most) : 1 ≤ room / pl ∧ s * pl * (room / pl) ≤ most := by
  refine ⟨Int.le_ediv_of_mul_le (by omega) (by omega), ?_⟩
  rw [Int.mul_assoc]
  exact Int.le_trans (Int.mul_le_mul_of_nonneg_left (Int.mul_ediv_self_le (by omega)) (by omega)) h
theorem room_end {s room most : Int} (hs : 1 ≤ s) (h1 : 1 ≤ room) (h : s * room ≤ most) : s ≤ most := by
  have := Int.mul_le_mul_of_nonneg_left h1 (show 0 ≤ s by omega)
  omega
/-! data that can be laid -/
theorem canLay_ints : ∀ ns : List Int, PyData.canLayAll0 (ns.map PyData.int) = true
  | [] => rfl
  | n :: r => by
    rw [List.map_cons, PyData.canLayAll0, canLay_ints r]
    rfl
theorem lay_all {n : Nat} : ∀ ds : List PyData, (∀ d ∈ ds, d.canLay0 = true ∧ d.depth ≤ n) → PyData.canLayAll0 ds = true ∧ PyData.depthAll ds ≤ n
  | [], _ => ⟨rfl, Nat.zero_le _⟩
  | d :: r, h => by
    have h1 := h d List.mem_cons_self
    have h2 := lay_all r fun e he => h e (List.mem_cons_of_mem _ he)
    rw [PyData.canLayAll0, PyData.depthAll, h1.1, h2.1]
    exact ⟨rfl, Nat.max_le.mpr ⟨h1.2, h2.2⟩⟩
theorem lay_tup {n : Nat} {ds : List PyData} (h : ∀ d ∈ ds, d.canLay0 = true ∧ d.depth ≤ n) : (PyData.tuple ds).canLay0 = true ∧ (PyData.tuple ds).depth ≤ n + 1 := by
  obtain ⟨h1, h2⟩ := lay_all ds h
  rw [PyData.canLay0, PyData.depth]
  exact ⟨h1, by omega⟩
theorem lay_lst {n : Nat} {ds : List PyData} (h : ∀ d ∈ ds, d.canLay0 = true ∧ d.depth ≤ n) : (PyData.list ds).canLay0 = true ∧ (PyData.list ds).depth ≤ n + 1 := by
  obtain ⟨h1, h2⟩ := lay_all ds h
  rw [PyData.canLay0, PyData.depth]
  exact ⟨h1, by omega⟩
theorem lay_int (n : Nat) (i : Int) : (PyData.int i).canLay0 = true ∧ (PyData.int i).depth ≤ n := ⟨rfl, Nat.zero_le _⟩
theorem lay_str (n : Nat) (x : Str) (h : (PyData.str x).canLay0 = true := by decide +kernel) : (PyData.str x).canLay0 = true ∧ (PyData.str x).depth ≤ n := ⟨h, Nat.zero_le _⟩
theorem lay_ints (ns : List Int) (n : Nat) : ∀ d ∈ ns.map PyData.int, d.canLay0 = true ∧ d.depth ≤ n := fun d hd => by
  obtain ⟨i, _, rfl⟩ := List.mem_map.mp hd
  exact lay_int n i
theorem lay_mono {d : PyData} {n m : Nat} (h : d.canLay0 = true ∧ d.depth ≤ n) (e : n ≤ m) : d.canLay0 = true ∧ d.depth ≤ m := ⟨h.1, Nat.le_trans h.2 e⟩
theorem lay_part (p : Part) : p.data.canLay0 = true ∧ p.data.depth ≤ 2 := by
  cases p with
  | wheel z ms =>
    refine lay_tup (n := 1) fun d hd => ?_
    rcases List.mem_cons.mp hd with rfl | hd
    · exact lay_str _ _
    rcases List.mem_cons.mp hd with rfl | hd
    · exact lay_int _ _
    rcases List.mem_cons.mp hd with rfl | hd
    · exact lay_tup (lay_ints ms 0)
    · cases hd
  | click => exact lay_mono (lay_tup (n := 0) fun d hd => by
      rcases List.mem_cons.mp hd with rfl | hd
      · exact lay_str _ _
      · cases hd) (by decide)
  | rocker => exact lay_mono (lay_tup (n := 0) fun d hd => by
      rcases List.mem_cons.mp hd with rfl | hd
      · exact lay_str _ _
      · cases hd) (by decide)
  | spring k => exact lay_mono (lay_tup (n := 0) fun d hd => by
      rcases List.mem_cons.mp hd with rfl | hd
      · exact lay_str _ _
      rcases List.mem_cons.mp hd with rfl | hd
      · exact lay_int _ _
      · cases hd) (by decide)
theorem lay_train (ps : List Part) : (PyData.list (ps.map Part.data)).canLay0 = true ∧ (PyData.list (ps.map Part.data)).depth ≤ 3 := lay_lst fun d hd => by
  obtain ⟨p, _, rfl⟩ := List.mem_map.mp hd
  exact lay_part p
theorem shaped_of {d : PyData} {n : Nat} (h : d.canLay0 = true ∧ d.depth ≤ n) (e : n ≤ 64) : SeqAt.shaped d = true := by
  unfold SeqAt.shaped
  rw [h.1, decide_eq_true (Nat.le_trans h.2 e)]
  rfl
theorem lay_told (xs : List Int) (y : Int) : (PyData.tuple [.tuple (xs.map PyData.int), .int y]).canLay0 = true ∧ (PyData.tuple [.tuple (xs.map PyData.int), .int y]).depth ≤ 2 := lay_tup (n := 1) fun d hd => by
  rcases List.mem_cons.mp hd with rfl | hd
  · exact lay_tup (lay_ints xs 0)
  rcases List.mem_cons.mp hd with rfl | hd
  · exact lay_int _ _
  · cases hd
theorem w_neSame {K : PySem.W.Frag} {H : Hp} {Q : VK} {x y : V} (d : PyData) {n : Nat} (hx : Dp K H x d) (hy : Dp K H y d) (h : d.canLay0 = true ∧ d.depth ≤ n) (e : n ≤ 64) (q : Q (.bl false) H) : rNeD K x y H Q :=
  ⟨d, d, hx, hy, shaped_of h e, shaped_of h e, by rw [SeqAt.eqv_refl d h.1]; exact q⟩
theorem tyx_T {K : PySem.W.Frag} {H : Hp} {a : Addr} {xs : List V} (h : SqT K H a xs) : TyX K H (.ref a) (.type "tuple") := by
  rcases h with (h | ⟨o, h⟩) | ⟨o, its, n, hk, hc, _⟩
  · exact .base (.tup h)
  · exact .fTuple h
  · exact .kTuple hk hc
theorem tyx_L {K : PySem.W.Frag} {H : Hp} {a : Addr} {xs : List V} (h : SqL K H a xs) : TyX K H (.ref a) (.type "list") := by
  rcases h with (h | ⟨o, h⟩) | ⟨o, its, n, hk, hc, _⟩
  · exact .base (.lst h)
  · exact .base (.frz h)
  · exact .kList hk hc
end Ct

namespace Ct
open PySem PySem.Spec PyProof.Rows L2
/-! zip of a list and a tuple: the list first -/
def ItM (K : PySem.W.Frag) (a b : Addr) : It where
  go := fun i H => ∃ (xs ys : List V) (x y : V), SqL K H a xs ∧ SqT K H b ys ∧ xs[i]? = some x ∧ ys[i]? = some y
  yld := fun i H v H' => ∃ T x y, v = .ref T ∧ H T = none ∧ H' = upd H T (.tup [x, y]) ∧ (∀ xs, SqL K H a xs → xs[i]? = some x) ∧ ∀ ys, SqT K H b ys → ys[i]? = some y
  stop := fun i H => ∃ xs ys : List V, SqL K H a xs ∧ SqT K H b ys ∧ min xs.length ys.length = i
abbrev ZSt (a b z TI TO i1 i2 : Addr) (i : Nat) (h : Heap) : Prop :=
  IsZip h z TI TO .none ∧ IsTupOf2 h TI (.ref i1) (.ref i2) ∧ (∃ a1 a2, IsTupOf2 h TO a1 a2) ∧ h.IsListIter i1 a i ∧ h.IsTupleIter i2 b i
theorem turnM {P : Program} {w : World} {K : PySem.W.Frag} {es : List Expr} {kk : Nat} {tp : Pos} {a b N : Nat} (ha : a < N) (hb : b < N) :
    Turn P w K (.Tuple es kk tp) (ItM K a b) [N + 4, N + 2, N + 3, N, N + 1] (N + 4) (ZSt a b (N + 4) (N + 2) (N + 3) N (N + 1)) := by
  have five : ∀ {c : Nat}, c ∈ [N + 4, N + 2, N + 3, N, N + 1] → N ≤ c := fun {c} hc => by
    simp only [List.mem_cons, List.not_mem_nil, or_false] at hc
    omega
  have sep : ZipSep2 (N + 4) (N + 2) (N + 3) N (N + 1) [N, a] [N + 1, b] := zip_sep2 (fun c hc => by rw [List.mem_singleton] at hc; rw [hc]; exact ha) fun c hc => by rw [List.mem_singleton] at hc; rw [hc]; exact hb
  have wrfp : ∀ {c : Nat}, c ∉ [N + 4, N + 2, N + 3, N, N + 1] → c ∉ [N + 4, N + 3, N, N + 1] := fun {c} hc hm => hc (by
    simp only [List.mem_cons, List.not_mem_nil, or_false] at hm ⊢
    omega)
  refine ⟨List.mem_cons_self, fun i h st c hc => ?_, fun i h h' st k => ?_, ?_, ?_, fun A i s Q E st h => wpAny_pyIter_zip st.1 h⟩
  · obtain ⟨s1, s2, ⟨u, v, s3⟩, ⟨o1, g1, _, d1⟩, ⟨o2, g2, _, d2⟩⟩ := st
    simp only [List.mem_cons, List.not_mem_nil, or_false] at hc
    rcases hc with e | e | e | e | e <;> subst e
    · exact ⟨_, s1, fun v q => nomatch q⟩
    · exact ⟨_, s2, fun v q => nomatch q⟩
    · exact ⟨_, s3, fun v q => nomatch q⟩
    · exact ⟨o1, g1, fun v q => by rw [d1] at q; cases q⟩
    · exact ⟨o2, g2, fun v q => by rw [d2] at q; cases q⟩
  · obtain ⟨s1, s2, ⟨u, v, s3⟩, s4, s5⟩ := st
    exact ⟨k _ (by simp) _ s1, k _ (by simp) _ s2, ⟨u, v, k _ (by simp) _ s3⟩, s4.at fun o q => k N (by simp) o q, s5.at fun o q => k (N + 1) (by simp) o q⟩
  · intro X eP ew eK calm i pins s σ H E I hf st hg
    subst eP ew eK
    obtain ⟨xs, ys, x, y, lx, ty, gx, gy⟩ := hg
    obtain ⟨us, rx, px, _⟩ := I.list lx
    obtain ⟨vs, ry, py, _⟩ := I.tuple ty
    obtain ⟨s1, s2, s3, s4, s5⟩ := st
    have hh : X.A.in1.handled = none := I.ok.hd calm
    have G := GoesN.zip2 (elts := es) (x1 := kk) (pos := tp) sep (Draws.list (prog := X.prog) (w := X.w) hh N a (Nat.ne_of_lt ha) us.toArray) (Draws.tuple (prog := X.prog) (w := X.w) hh (N + 1) b (Nat.ne_of_lt (Nat.lt_succ_of_lt hb)) vs.toArray)
    have lu := rx.length
    have lv := ry.length
    have ix : i < xs.length := (List.getElem?_eq_some_iff.mp gx).1
    have iy : i < ys.length := (List.getElem?_eq_some_iff.mp gy).1
    refine G.goes i s _ E (by rw [List.size_toArray, List.size_toArray]; omega) ⟨s1, s2, s3, ⟨s4, px.isList⟩, ⟨s5, py⟩⟩ fun v h' tk hY st' hk _ => ?_
    obtain ⟨T, u1, u2, rfl, hT, q1, q2, hTu⟩ := hY
    obtain ⟨w1, e1, r1⟩ := rx.get gx
    obtain ⟨w2, e2, r2⟩ := ry.get gy
    have f1 : w1 = u1 := Option.some.inj (e1.symm.trans (by simpa using q1))
    have f2 : w2 = u2 := Option.some.inj (e2.symm.trans (by simpa using q2))
    subst f1 f2
    have new : ObjOk X.prog X.w (upd H T (.tup [x, y])) h' T (.tup [x, y]) := ⟨len2 rfl, [w1, w2], .cons r1 (.cons r2 .nil), hTu⟩
    refine ⟨.ref T, _, I.turnedNew (t' := tk) (fun c o hc e => hk c o (wrfp hc) e) hf hT new, rfl, ⟨T, x, y, rfl, I.hok.fresh hT, rfl, fun l hl => by rw [I.list_inj hl lx]; exact gx, fun l hl => by rw [I.tuple_inj hl ty]; exact gy⟩, ⟨st'.1, st'.2.1, st'.2.2.1, st'.2.2.2.1.1, st'.2.2.2.2.1⟩, fun c hc => ?_⟩
    obtain ⟨o, g, _⟩ : ∃ o, s.heap.get? c = some o ∧ True := by
      obtain ⟨u, v, s3⟩ := s3
      obtain ⟨o1, g1, _⟩ := s4
      obtain ⟨o2, g2, _⟩ := s5
      simp only [List.mem_cons, List.not_mem_nil, or_false] at hc
      rcases hc with e | e | e | e | e <;> subst e
      · exact ⟨_, s1, trivial⟩
      · exact ⟨_, s2, trivial⟩
      · exact ⟨_, s3, trivial⟩
      · exact ⟨_, g1, trivial⟩
      · exact ⟨_, g2, trivial⟩
    rw [upd_ne (Nat.ne_of_lt (Nat.lt_of_lt_of_le (Heap.lt_size g) hT))]
    exact (hf c hc).1
  · intro X eP ew eK calm i pins s σ H E I hf st hg
    subst eP ew eK
    obtain ⟨xs, ys, lx, ty, hm⟩ := hg
    obtain ⟨us, rx, px, _⟩ := I.list lx
    obtain ⟨vs, ry, py, _⟩ := I.tuple ty
    obtain ⟨s1, s2, s3, s4, s5⟩ := st
    have hh : X.A.in1.handled = none := I.ok.hd calm
    have G := GoesN.zip2 (elts := es) (x1 := kk) (pos := tp) sep (Draws.list (prog := X.prog) (w := X.w) hh N a (Nat.ne_of_lt ha) us.toArray) (Draws.tuple (prog := X.prog) (w := X.w) hh (N + 1) b (Nat.ne_of_lt (Nat.lt_succ_of_lt hb)) vs.toArray)
    have lu := rx.length
    have lv := ry.length
    have hn : min us.toArray.size vs.toArray.size = i := by rw [List.size_toArray, List.size_toArray]; omega
    rw [hn] at G
    exact G.stops s _ E ⟨s1, s2, s3, ⟨s4, px.isList⟩, ⟨s5, py⟩⟩ fun h' tk hk _ => I.turnedL (t' := tk) (fun c o hc e => hk c o (wrfp hc) e) hf
def iM (K : PySem.W.Frag) (ta : TA) : TI := fun σ H R => ta σ H fun vs H1 => ∃ a b xs ys, vs = [.ref a, .ref b] ∧ SqL K H1 a xs ∧ SqT K H1 b ys ∧ R (ItM K a b) H1
theorem pi_zipM {X : Cx} {e e2 : Expr} {ta : TA} {p pos tp : Pos} {es : List Expr} {kk : Nat} (gl : Gl X "zip") (mz : X.mg "zip" = none) (pa : PA X [e, e2] ta)
    (se : starEach [e, e2] X.env = (false, eval e X.env) :: starEach [e2] X.env := by rfl) (bk : (backTo pos (starEach [e2] X.env)).any (·.1) = false := by rfl) : PI X (.Tuple es kk tp) (.Call (.Name "zip" p) [e, e2] [] pos) (iM X.K ta) := by
  refine ⟨fun pins s σ H R I h => Call_ (ld_blt I gl mz boot_zip (callWith_type1 (thn (pa.run pos pins s σ H _ I h) fun us s1 ⟨vs, H1, I1, r1, q1⟩ => ?_) se bk))⟩
  obtain ⟨a, b, xs, ys, rfl, lx, ty, q⟩ := q1
  cases r1 with
  | cons ra rr => cases rr with
    | cons rb rn =>
      cases rn
      cases ra
      cases rb
      obtain ⟨us, rx, px, _⟩ := I1.list lx
      obtain ⟨vs, ry, py, _⟩ := I1.tuple ty
      obtain ⟨ob, gb, _⟩ := id py
      refine zip_begins2 (begins_list a us.toArray) (begins_tuple b vs.toArray) px.isList py fun h' z1 z2 z3 g1 g2 _ hk => wpAny_pyIter_zip z1 ?_
      have I2 : Inv X pins σ H1 { s1 with heap := h' } := I1.kept (t' := s1.toks) hk
      refine ⟨_, _, _, _, H1, rfl, I2, turnM px.lt (Heap.lt_size gb), ⟨z1, z2, ⟨_, _, z3⟩, ⟨_, g1, rfl, rfl⟩, ⟨_, g2, rfl, rfl⟩⟩, fun c hc => ?_, q⟩
      have hle : s1.heap.objs.size ≤ c := by
        simp only [List.mem_cons, List.not_mem_nil, or_false] at hc
        rcases hc with e | e | e | e | e <;> subst e <;> first | exact Nat.le_add_right _ _ | exact Nat.le_refl _
      exact I1.fpOk hle (I1.hok.fresh hle)
section
variable {K : PySem.W.Frag} {H : Hp} {σ : L2.St} {D : Ends} {R : It → Hp → Prop}
def IM (K : PySem.W.Frag) (vs : List V) (H : Hp) (R : It → Hp → Prop) : Prop := iM K (fun _ H Q => Q vs H) [] H R
theorem w_im {ta : TA} (h : ta σ H fun vs H1 => IM K vs H1 R) : iM K ta σ H R := h
theorem w_IM {a b : Addr} {xs ys : List V} (h1 : SqL K H a xs) (h2 : SqT K H b ys) (q : R (ItM K a b) H) : IM K [.ref a, .ref b] H R := ⟨a, b, xs, ys, rfl, h1, h2, q⟩
theorem fb_zipM {a b : Addr} (xs ys : List V) (hl : xs.length = ys.length) {g : TG} {tb : TS} (Pv : Nat → L2.St → Hp → Prop) (h0 : Pv 0 σ H) (hq : ∀ i σ H, i ≤ xs.length → Pv i σ H → SqL K H a xs ∧ SqT K H b ys)
    (hs : ∀ i x y T σ H, xs[i]? = some x → ys[i]? = some y → Pv i σ H → H T = none → g (.ref T) σ (upd H T (.tup [x, y])) fun σ2 H2 => tb { D with nx := Pv (i + 1), ct := Pv (i + 1), bk := D.nx } σ2 H2) (hd : ∀ σ H, Pv xs.length σ H → D.nx σ H) : FB (ItM K a b) g tb D σ H := by
  refine ⟨fun i m σ H => m = xs.length - i ∧ i ≤ xs.length ∧ Pv i σ H, ⟨xs.length, rfl, Nat.zero_le _, h0⟩, ?_⟩
  rintro i m σ H ⟨rfl, hi, p⟩
  obtain ⟨q1, q2⟩ := hq i σ H hi p
  by_cases hlt : i < xs.length
  · refine .inr ⟨⟨xs, ys, _, _, q1, q2, List.getElem?_eq_getElem hlt, List.getElem?_eq_getElem (hl ▸ hlt)⟩, Pv (i + 1), fun σ' H' p' => ⟨xs.length - (i + 1), by omega, rfl, hlt, p'⟩, fun v H' y => ?_⟩
    obtain ⟨T, x1, x2, rfl, hT, rfl, f1, f2⟩ := y
    exact hs i x1 x2 T σ H (f1 _ q1) (f2 _ q2) p hT
  · exact .inl ⟨⟨xs, ys, q1, q2, by omega⟩, hd σ H (by rw [show xs.length = i by omega]; exact p)⟩
end
end Ct

namespace Ct
open PySem PySem.Spec PyProof.Rows L2
/-! pushes of one deed, reckoned at once -/
def cnt (ms : List Int) (r : Int) : Int := ((ms.filter fun m => decide (m ≤ r)).length : Int)
theorem cnt_nil (r : Int) : cnt [] r = 0 := rfl
theorem cnt_cons (m : Int) (ms : List Int) (r : Int) : cnt (m :: ms) r = (if m ≤ r then 1 else 0) + cnt ms r := by
  unfold cnt
  rw [List.filter_cons]
  by_cases h : m ≤ r
  · rw [if_pos h, if_pos (decide_eq_true h), List.length_cons]
    omega
  · rw [if_neg h, if_neg (by rw [decide_eq_false h]; exact Bool.false_ne_true)]
    omega
theorem cnt_all : ∀ {ms : List Int} {r : Int}, (∀ m ∈ ms, m ≤ r) → cnt ms r = ms.length
  | [], _, _ => rfl
  | m :: ms, r, h => by
    rw [cnt_cons, if_pos (h m List.mem_cons_self), cnt_all fun x hx => h x (List.mem_cons_of_mem _ hx), List.length_cons]
    omega
theorem cnt_zero : ∀ {ms : List Int} {r : Int}, (∀ m ∈ ms, r < m) → cnt ms r = 0
  | [], _, _ => rfl
  | m :: ms, r, h => by
    have h1 := h m List.mem_cons_self
    rw [cnt_cons, if_neg (by omega), cnt_zero fun x hx => h x (List.mem_cons_of_mem _ hx)]
    rfl
theorem cnt_split : ∀ (ms : List Int) (k : Nat) (r : Int), k ≤ ms.length → (∀ (j : Nat) (m : Int), j < k → ms[j]? = some m → m ≤ r) → (∀ (j : Nat) (m : Int), k ≤ j → ms[j]? = some m → r < m) → cnt ms r = k
  | ms, 0, r, _, _, h => cnt_zero fun m hm => by
    obtain ⟨j, hj, e⟩ := List.mem_iff_getElem.mp hm
    exact h j m (Nat.zero_le _) (by rw [List.getElem?_eq_getElem hj, e])
  | [], k + 1, r, hk, _, _ => absurd hk (by simp)
  | m :: ms, k + 1, r, hk, h1, h2 => by
    rw [cnt_cons, if_pos (h1 0 m (Nat.succ_pos k) rfl), cnt_split ms k r (by rw [List.length_cons] at hk; omega) (fun j x hj hx => h1 (j + 1) x (by omega) hx) fun j x hj hx => h2 (j + 1) x (by omega) hx]
    omega
theorem cnt_step : ∀ {ms : List Int} (r : Int), ms.Pairwise (· < ·) → cnt ms r = cnt ms (r - 1) + (if r ∈ ms then 1 else 0)
  | [], _, _ => rfl
  | m :: ms, r, h => by
    obtain ⟨h1, h2⟩ := List.pairwise_cons.mp h
    have ih := cnt_step r h2
    rw [cnt_cons, cnt_cons, ih]
    by_cases e : r = m
    · subst e
      have hn : r ∉ ms := fun z => by
        have := h1 r z
        omega
      rw [if_neg hn, if_pos List.mem_cons_self, if_pos (Int.le_refl _), if_neg (by omega)]
      omega
    · have hm : (r ∈ m :: ms) ↔ r ∈ ms := ⟨fun z => (List.mem_cons.mp z).resolve_left e, fun z => List.mem_cons_of_mem _ z⟩
      by_cases hr : r ∈ ms
      · rw [if_pos hr, if_pos (hm.mpr hr)]
        by_cases h3 : m ≤ r
        · rw [if_pos h3, if_pos (by omega)]
          omega
        · rw [if_neg h3, if_neg (by omega)]
          omega
      · rw [if_neg hr, if_neg (fun z => hr (hm.mp z))]
        by_cases h3 : m ≤ r
        · rw [if_pos h3, if_pos (by omega)]
          omega
        · rw [if_neg h3, if_neg (by omega)]
          omega
/-- marks up to a tooth, over all turns -/
def mah (z : Int) (ms : List Int) (y : Int) : Int := y / z * (ms.length : Int) + cnt ms (y % z)
theorem mah_step {z : Int} {ms : List Int} (hz : 1 ≤ z) (rs : Rise z ms) (y : Int) : mah z ms y = mah z ms (y - 1) + (if y % z ∈ ms then 1 else 0) := by
  unfold mah
  have e := Int.emod_add_mul_ediv y z
  have r0 := Int.emod_nonneg y (show z ≠ 0 by omega)
  have r1 := Int.emod_lt_of_pos y (show 0 < z by omega)
  by_cases h : y % z = 0
  · obtain ⟨e1, e2⟩ := (Int.ediv_emod_unique (a := y - 1) (b := z) (r := z - 1) (q := y / z - 1) (by omega)).mpr ⟨by rw [Int.mul_sub]; omega, by omega, by omega⟩
    rw [e1, e2, h, cnt_all (ms := ms) (r := z - 1) (fun m hm => by have := (rs.2 m hm).2; omega), cnt_step 0 rs.1, cnt_zero (ms := ms) (r := 0 - 1) (fun m hm => by have := (rs.2 m hm).1; omega), Int.sub_mul]
    omega
  · obtain ⟨e1, e2⟩ := (Int.ediv_emod_unique (a := y - 1) (b := z) (r := y % z - 1) (q := y / z) (by omega)).mpr ⟨by omega, by omega, by omega⟩
    rw [e1, e2, cnt_step (y % z) rs.1]
    omega
theorem mah_up {z : Int} {ms : List Int} (hz : 1 ≤ z) (rs : Rise z ms) (y : Int) : ∀ t : Nat, mah z ms y ≤ mah z ms (y + t)
  | 0 => by rw [show y + ((0 : Nat) : Int) = y by omega]; exact Int.le_refl _
  | t + 1 => by
    have h := mah_step hz rs (y + ((t + 1 : Nat) : Int))
    rw [show y + ((t + 1 : Nat) : Int) - 1 = y + t by omega] at h
    have ih := mah_up hz rs y t
    rw [h]
    split <;> omega
/-- so many pushes one way at a part: its place, and how many it gives -/
def pt (p : Part) (x w t : Int) : Int × Int := match p with
  | .wheel z ms => ((x + w * t) % z, if mah z ms (x + w * t) - mah z ms x < 0 then -(mah z ms (x + w * t) - mah z ms x) else mah z ms (x + w * t) - mah z ms x)
  | .click => (x, if w = 1 then t else 0)
  | .rocker => if t = 0 then (x, 0) else if w = -1 then (0, 0) else (1, 1 - x)
  | .spring k => if w = -1 then (if x - t > 0 then x - t else 0, 0) else ((x + t) % k, (x + t) / k)
theorem pt_zero {p : Part} {x w : Int} (ok : p.ok) (h0 : 0 ≤ x) (h1 : x < p.places) : pt p x w 0 = (x, 0) := by
  cases p with
  | wheel z ms =>
    have h2 : x < z := h1
    simp only [pt, Int.mul_zero, Int.add_zero, Int.emod_eq_of_lt h0 h2, Int.sub_self]
    rfl
  | click =>
    simp only [pt]
    split <;> rfl
  | rocker => rfl
  | spring k =>
    have h2 : x < k := h1
    simp only [pt]
    split
    · rw [show (if x - 0 > 0 then x - 0 else 0) = x by split <;> omega]
    · rw [Int.add_zero, Int.emod_eq_of_lt h0 h2, Int.ediv_eq_zero_of_lt h0 h2]
theorem pp_way (p : Part) (x w : Int) (h : Sign w) : (pp p x w).2 = 0 ∨ (pp p x w).2 = w := by
  cases p with
  | wheel z ms =>
    by_cases e : (if w = 1 then (x + w) % z else x) ∈ ms
    · exact .inr (if_pos e)
    · exact .inl (if_neg e)
  | click =>
    by_cases e : w = 1
    · exact .inr (by simp only [pp, if_pos e]; exact e.symm)
    · exact .inl (if_neg e)
  | rocker =>
    by_cases e : w = 1 ∧ x = 0
    · exact .inr (by simp only [pp, if_pos e]; exact e.1.symm)
    · exact .inl (if_neg e)
  | spring k =>
    by_cases e : w = 1
    · by_cases e2 : x = k - 1
      · exact .inr (by simp only [pp, if_pos e, if_pos e2]; exact e.symm)
      · exact .inl (by simp only [pp, if_pos e, if_neg e2])
    · exact .inl (by simp only [pp, if_neg e])
theorem neg_abs {d : Int} (h : 0 ≤ d) : (if d < 0 then -d else d) = d := if_neg (by omega)
theorem abs_neg {d : Int} (h : d ≤ 0) : (if d < 0 then -d else d) = -d := by
  split <;> omega
/-- one push more -/
theorem pt_step {p : Part} {x w : Int} (ok : p.ok) (h0 : 0 ≤ x) (h1 : x < p.places) (hw : Sign w) (t : Nat) :
    pt p x w ((t + 1 : Nat) : Int) = ((pp p (pt p x w t).1 w).1, (pt p x w t).2 + if (pp p (pt p x w t).1 w).2 = 0 then 0 else 1) := by
  cases p with
  | wheel z ms =>
    have hz : 1 ≤ z := ok.1
    have rs : Rise z ms := ok.2.2.1
    rcases hw with rfl | rfl
    · have u1 := mah_up hz rs x t
      have u2 := mah_up hz rs x (t + 1)
      have st := mah_step hz rs (x + ((t + 1 : Nat) : Int))
      rw [show x + ((t + 1 : Nat) : Int) - 1 = x + t by omega] at st
      simp only [pt, pp, Int.one_mul, if_true]
      rw [neg_abs (by omega), neg_abs (by omega)]
      have em : ((x + (t : Int)) % z + 1) % z = (x + ((t + 1 : Nat) : Int)) % z := by
        rw [Int.emod_add_emod]
        congr 1
        omega
      rw [em]
      by_cases hm : (x + ((t + 1 : Nat) : Int)) % z ∈ ms
      · rw [if_pos hm] at st ⊢
        rw [if_neg (by decide)]
        exact Prod.ext rfl (by show mah z ms _ - mah z ms x = mah z ms _ - mah z ms x + 1; omega)
      · rw [if_neg hm] at st ⊢
        rw [if_pos rfl]
        exact Prod.ext rfl (by show mah z ms _ - mah z ms x = mah z ms _ - mah z ms x + 0; omega)
    · have v1 := mah_up hz rs (x - t) t
      have v2 := mah_up hz rs (x - ((t + 1 : Nat) : Int)) (t + 1)
      have st := mah_step hz rs (x - t)
      rw [show x - t + t = x by omega] at v1
      rw [show x - ((t + 1 : Nat) : Int) + ((t + 1 : Nat) : Int) = x by omega] at v2
      simp only [pt, pp, show ∀ y : Int, x + -1 * y = x - y from fun y => by omega, if_neg (show ¬ (-1 : Int) = 1 by decide)]
      rw [abs_neg (by omega), abs_neg (by omega)]
      have em : ((x - (t : Int)) % z + -1) % z = (x - ((t + 1 : Nat) : Int)) % z := by
        rw [Int.emod_add_emod]
        congr 1
        omega
      rw [em]
      rw [show x - (t : Int) - 1 = x - ((t + 1 : Nat) : Int) by omega] at st
      by_cases hm : (x - (t : Int)) % z ∈ ms
      · rw [if_pos hm] at st ⊢
        rw [if_neg (by decide)]
        exact Prod.ext rfl (by show -(mah z ms _ - mah z ms x) = -(mah z ms _ - mah z ms x) + 1; omega)
      · rw [if_neg hm] at st ⊢
        rw [if_pos rfl]
        exact Prod.ext rfl (by show -(mah z ms _ - mah z ms x) = -(mah z ms _ - mah z ms x) + 0; omega)
  | click =>
    have h2 : x < 1 := h1
    have ex : x = 0 := by omega
    subst ex
    rcases hw with rfl | rfl
    · simp only [pt, pp, if_true]
      rw [if_neg (by decide)]
      exact Prod.ext rfl (by show ((t + 1 : Nat) : Int) = (t : Int) + 1; omega)
    · rfl
  | rocker =>
    have h2 : x < 2 := h1
    rcases hw with rfl | rfl
    · simp only [pt, pp, if_neg (show ¬ ((t + 1 : Nat) : Int) = 0 by omega), if_neg (show ¬ (1 : Int) = -1 by decide), if_true]
      by_cases ht : (t : Int) = 0
      · rw [if_pos ht]
        by_cases hx : x = 0
        · subst hx
          rfl
        · have hx1 : x = 1 := by omega
          subst hx1
          rfl
      · rw [if_neg ht]
        simp
    · simp only [pt, pp, if_neg (show ¬ ((t + 1 : Nat) : Int) = 0 by omega), if_true]
      by_cases ht : (t : Int) = 0
      · rw [if_pos ht]
        rfl
      · rw [if_neg ht]
        rfl
  | spring k =>
    have h2 : x < k := h1
    have hk : 1 ≤ k := ok.1
    rcases hw with rfl | rfl
    · simp only [pt, pp, if_neg (show ¬ (1 : Int) = -1 by decide), if_true]
      have e := Int.emod_add_mul_ediv (x + t) k
      have r0 := Int.emod_nonneg (x + t) (show k ≠ 0 by omega)
      have r1 := Int.emod_lt_of_pos (x + t) (show 0 < k by omega)
      by_cases hx : (x + (t : Int)) % k = k - 1
      · obtain ⟨e1, e2⟩ := (Int.ediv_emod_unique (a := x + ((t + 1 : Nat) : Int)) (b := k) (r := 0) (q := (x + t) / k + 1) (by omega)).mpr ⟨by rw [Int.mul_add]; omega, by omega, by omega⟩
        rw [if_pos hx, e1, e2]
        rfl
      · obtain ⟨e1, e2⟩ := (Int.ediv_emod_unique (a := x + ((t + 1 : Nat) : Int)) (b := k) (r := (x + t) % k + 1) (q := (x + t) / k) (by omega)).mpr ⟨by omega, by omega, by omega⟩
        rw [if_neg hx, e1, e2]
        exact Prod.ext rfl (by show (x + (t : Int)) / k = (x + (t : Int)) / k + 0; omega)
    · simp only [pt, pp, if_true, if_neg (show ¬ (-1 : Int) = 1 by decide)]
      refine Prod.ext ?_ rfl
      show (if x - ((t + 1 : Nat) : Int) > 0 then x - ((t + 1 : Nat) : Int) else 0) = (if (if x - (t : Int) > 0 then x - (t : Int) else 0) - 1 > 0 then (if x - (t : Int) > 0 then x - (t : Int) else 0) - 1 else 0)
      by_cases hx : x - (t : Int) > 0
      · rw [if_pos hx]
        split <;> split <;> omega
      · rw [if_neg hx]
        split <;> split <;> omega
theorem pt_nn {p : Part} {x w : Int} (ok : p.ok) (h0 : 0 ≤ x) (h1 : x < p.places) (hw : Sign w) : ∀ t : Nat, 0 ≤ (pt p x w t).2
  | 0 => by
    show 0 ≤ (pt p x w 0).2
    rw [pt_zero ok h0 h1]
    exact Int.le_refl _
  | t + 1 => by
    rw [pt_step ok h0 h1 hw t]
    have := pt_nn ok h0 h1 hw t
    show 0 ≤ (pt p x w t).2 + _
    split <;> omega
theorem pt_le {p : Part} {x w : Int} (ok : p.ok) (h0 : 0 ≤ x) (h1 : x < p.places) (hw : Sign w) : ∀ t : Nat, (pt p x w t).2 ≤ t
  | 0 => by
    show (pt p x w 0).2 ≤ 0
    rw [pt_zero ok h0 h1]
    exact Int.le_refl _
  | t + 1 => by
    rw [pt_step ok h0 h1 hw t]
    have := pt_le ok h0 h1 hw t
    show (pt p x w t).2 + _ ≤ _
    split <;> omega
theorem pp_place {p : Part} {x w : Int} (ok : p.ok) (h0 : 0 ≤ x) (h1 : x < p.places) (hw : Sign w) : 0 ≤ (pp p x w).1 ∧ (pp p x w).1 < p.places := by
  cases p with
  | wheel z ms =>
    have hz : 1 ≤ z := ok.1
    exact ⟨Int.emod_nonneg _ (by omega), Int.emod_lt_of_pos _ (by omega)⟩
  | click => exact ⟨Int.le_refl _, show (0 : Int) < 1 by decide⟩
  | rocker =>
    rcases hw with rfl | rfl
    · exact ⟨show (0 : Int) ≤ 1 by decide, show (1 : Int) < 2 by decide⟩
    · exact ⟨show (0 : Int) ≤ 0 by decide, show (0 : Int) < 2 by decide⟩
  | spring k =>
    have h2 : x < k := h1
    rcases hw with rfl | rfl
    · simp only [pp, if_true]
      by_cases e : x = k - 1
      · rw [if_pos e]
        exact ⟨Int.le_refl _, show (0 : Int) < k by omega⟩
      · rw [if_neg e]
        exact ⟨show 0 ≤ x + 1 by omega, show x + 1 < k by omega⟩
    · simp only [pp, if_neg (show ¬ (-1 : Int) = 1 by decide)]
      refine ⟨?_, ?_⟩
      · show 0 ≤ (if x - 1 > 0 then x - 1 else 0)
        split <;> omega
      · show (if x - 1 > 0 then x - 1 else 0) < k
        split <;> omega
theorem pt_place {p : Part} {x w : Int} (ok : p.ok) (h0 : 0 ≤ x) (h1 : x < p.places) (hw : Sign w) : ∀ t : Nat, 0 ≤ (pt p x w t).1 ∧ (pt p x w t).1 < p.places
  | 0 => by
    show 0 ≤ (pt p x w 0).1 ∧ (pt p x w 0).1 < p.places
    rw [pt_zero ok h0 h1]
    exact ⟨h0, h1⟩
  | t + 1 => by
    rw [pt_step ok h0 h1 hw t]
    obtain ⟨a, b⟩ := pt_place ok h0 h1 hw t
    exact pp_place ok a b hw
/-! along a train -/
def gen (f : Part → Int → Int → Int × Int) : List Part → List Int → Int → List Int × Int
  | p :: ps, x :: xs, a => ((f p x a).1 :: (gen f ps xs (f p x a).2).1, (gen f ps xs (f p x a).2).2)
  | _, xs, a => (xs, a)
def stF (f : Part → Int → Int → Int × Int) (ps : List Part) (s : List Int × Int) (n : Nat) : List Int × Int := match ps[n]?, s.1[n]? with
  | some p, some x => (s.1.set n (f p x s.2).1, (f p x s.2).2)
  | _, _ => s
def rnF (f : Part → Int → Int → Int × Int) (ps : List Part) (i : Nat) (s : List Int × Int) : Nat → List Int × Int
  | 0 => s
  | n + 1 => stF f ps (rnF f ps i s n) (i + n)
theorem stF_at {f : Part → Int → Int → Int × Int} {ps : List Part} {s : List Int × Int} {n : Nat} {p : Part} {x : Int} (hp : ps[n]? = some p) (hx : s.1[n]? = some x) : stF f ps s n = (s.1.set n (f p x s.2).1, (f p x s.2).2) := by
  unfold stF
  rw [hp, hx]
theorem rnF_first (f : Part → Int → Int → Int × Int) (ps : List Part) (i : Nat) (s : List Int × Int) : ∀ n, rnF f ps i s (n + 1) = rnF f ps (i + 1) (stF f ps s i) n
  | 0 => rfl
  | n + 1 => by
    show stF f ps (rnF f ps i s (n + 1)) (i + (n + 1)) = stF f ps (rnF f ps (i + 1) (stF f ps s i) n) (i + 1 + n)
    rw [rnF_first f ps i s n, show i + (n + 1) = i + 1 + n by omega]
theorem rnF_len (f : Part → Int → Int → Int × Int) (ps : List Part) (i : Nat) (s : List Int × Int) : ∀ n, (rnF f ps i s n).1.length = s.1.length
  | 0 => rfl
  | n + 1 => by
    show (stF f ps _ _).1.length = _
    rw [← rnF_len f ps i s n]
    unfold stF
    split
    · show (List.set _ _ _).length = _
      rw [List.length_set]
    · rfl
theorem rnF_ahead (f : Part → Int → Int → Int × Int) (ps : List Part) (i : Nat) (s : List Int × Int) : ∀ n m, i + n ≤ m → (rnF f ps i s n).1[m]? = s.1[m]?
  | 0, _, _ => rfl
  | n + 1, m, h => by
    rw [← rnF_ahead f ps i s n m (by omega)]
    show (stF f ps _ _).1[m]? = _
    unfold stF
    split
    · show (List.set _ _ _)[m]? = _
      rw [List.getElem?_set_ne (by omega)]
    · rfl
/-- places one by one, by number, or by going down the train -/
theorem rnF_gen (f : Part → Int → Int → Int × Int) (ps : List Part) : ∀ (n i : Nat) (xs : List Int) (a : Int), xs.length = ps.length → i + n = ps.length →
    rnF f ps i (xs, a) n = (xs.take i ++ (gen f (ps.drop i) (xs.drop i) a).1, (gen f (ps.drop i) (xs.drop i) a).2)
  | 0, i, xs, a, hl, hn => by
    have e1 : ps.drop i = [] := List.drop_of_length_le (by omega)
    have e2 : xs.drop i = [] := List.drop_of_length_le (by omega)
    rw [e1, e2]
    show (xs, a) = (xs.take i ++ [], a)
    rw [List.append_nil, List.take_of_length_le (by omega)]
  | n + 1, i, xs, a, hl, hn => by
    have hi : i < ps.length := by omega
    have hx : i < xs.length := by omega
    rw [rnF_first, stF_at (List.getElem?_eq_getElem hi) (List.getElem?_eq_getElem hx), rnF_gen f ps n (i + 1) _ _ (by rw [List.length_set]; exact hl) (by omega)]
    rw [List.drop_eq_getElem_cons hi, List.drop_eq_getElem_cons hx]
    show (List.take (i + 1) (xs.set i _) ++ (gen f _ (List.drop (i + 1) (xs.set i _)) _).1, _) = (xs.take i ++ ((f ps[i] xs[i] a).1 :: (gen f (ps.drop (i + 1)) (xs.drop (i + 1)) (f ps[i] xs[i] a).2).1), (gen f (ps.drop (i + 1)) (xs.drop (i + 1)) (f ps[i] xs[i] a).2).2)
    rw [List.drop_set_of_lt (by omega), show List.take (i + 1) (xs.set i (f ps[i] xs[i] a).1) = xs.take i ++ [(f ps[i] xs[i] a).1] by
      rw [List.take_set, List.take_add_one, List.getElem?_eq_getElem hx, List.set_append_right _ _ (by rw [List.length_take]; omega), List.length_take, show i - min i xs.length = 0 by omega]
      rfl, List.append_assoc]
    rfl
/-- a push that may be none -/
def ppz (p : Part) (x g : Int) : Int × Int := if g = 0 then (x, 0) else pp p x g
theorem stp_stF (ps : List Part) (s : List Int × Int) (n : Nat) : stp ps s n = stF ppz ps s n := by
  unfold stp stF
  split
  · rename_i h
    cases e1 : ps[n]? with
    | none => rfl
    | some p =>
      cases e2 : s.1[n]? with
      | none => rfl
      | some x =>
        obtain ⟨hn, hx⟩ := List.getElem?_eq_some_iff.mp e2
        show s = (s.1.set n (ppz p x s.2).1, (ppz p x s.2).2)
        unfold ppz
        rw [if_pos h]
        show s = (s.1.set n x, 0)
        rw [← hx, List.set_getElem_self, ← h]
  · rename_i h
    cases e1 : ps[n]? with
    | none => rfl
    | some p =>
      cases e2 : s.1[n]? with
      | none => rfl
      | some x =>
        show _ = (s.1.set n (ppz p x s.2).1, (ppz p x s.2).2)
        unfold ppz
        rw [if_neg h]
theorem runN_rnF (ps : List Part) (i : Nat) (s : List Int × Int) : ∀ n, runN ps i s n = rnF ppz ps i s n
  | 0 => rfl
  | n + 1 => by
    show stp ps _ _ = stF ppz ps _ _
    rw [stp_stF, runN_rnF ps i s n]
theorem run_gen {ps : List Part} {xs : List Int} {i : Nat} {w : Int} (hl : xs.length = ps.length) (hi : i ≤ ps.length) : Ct.run ps xs i w = (xs.take i ++ (gen ppz (ps.drop i) (xs.drop i) w).1, (gen ppz (ps.drop i) (xs.drop i) w).2) := by
  unfold Ct.run
  rw [runN_rnF, rnF_gen ppz ps _ _ _ _ hl (by omega)]
/-- pushes one by one -/
def itP (ps : List Part) (w : Int) : Nat → List Int → List Int × Int
  | 0, xs => (xs, 0)
  | t + 1, xs => ((gen ppz ps (itP ps w t xs).1 w).1, (itP ps w t xs).2 + (gen ppz ps (itP ps w t xs).1 w).2)
def ptw (w : Int) (p : Part) (x t : Int) : Int × Int := pt p x w t
theorem gen_ppz_zero : ∀ (ps : List Part) (xs : List Int), gen ppz ps xs 0 = (xs, 0)
  | [], _ => rfl
  | _ :: _, [] => rfl
  | p :: ps, x :: xs => by
    show ((ppz p x 0).1 :: (gen ppz ps xs (ppz p x 0).2).1, (gen ppz ps xs (ppz p x 0).2).2) = _
    rw [show ppz p x 0 = (x, 0) from rfl, gen_ppz_zero ps xs]
def StandL : List Part → List Int → Prop
  | [], [] => True
  | p :: ps, x :: xs => p.ok ∧ 0 ≤ x ∧ x < p.places ∧ StandL ps xs
  | _, _ => False
theorem itP_cons {p : Part} {x : Int} (ps : List Part) (xs : List Int) {w : Int} (ok : p.ok) (h0 : 0 ≤ x) (h1 : x < p.places) (hw : Sign w) : ∀ t : Nat,
    itP (p :: ps) w t (x :: xs) = ((pt p x w t).1 :: (itP ps w (pt p x w t).2.toNat xs).1, (itP ps w (pt p x w t).2.toNat xs).2)
  | 0 => by
    show (x :: xs, (0 : Int)) = ((pt p x w 0).1 :: (itP ps w (pt p x w 0).2.toNat xs).1, (itP ps w (pt p x w 0).2.toNat xs).2)
    rw [pt_zero ok h0 h1]
    rfl
  | t + 1 => by
    have w0 : w ≠ 0 := by rcases hw with rfl | rfl <;> decide
    have nn := pt_nn ok h0 h1 hw t
    show ((gen ppz (p :: ps) (itP (p :: ps) w t (x :: xs)).1 w).1, (itP (p :: ps) w t (x :: xs)).2 + (gen ppz (p :: ps) (itP (p :: ps) w t (x :: xs)).1 w).2) = _
    rw [itP_cons ps xs ok h0 h1 hw t, pt_step ok h0 h1 hw t]
    generalize hy : (pt p x w t).1 = y
    generalize hn : (pt p x w t).2 = n at nn
    show ((ppz p y w).1 :: (gen ppz ps (itP ps w n.toNat xs).1 (ppz p y w).2).1, (itP ps w n.toNat xs).2 + (gen ppz ps (itP ps w n.toNat xs).1 (ppz p y w).2).2) = _
    rw [show ppz p y w = pp p y w from if_neg w0]
    rcases pp_way p y w hw with e | e
    · rw [e, gen_ppz_zero, if_pos rfl]
      show ((pp p y w).1 :: (itP ps w n.toNat xs).1, (itP ps w n.toNat xs).2 + 0) = ((pp p y w).1 :: (itP ps w (n + 0).toNat xs).1, (itP ps w (n + 0).toNat xs).2)
      rw [Int.add_zero, Int.add_zero]
    · rw [e, if_neg w0]
      show ((pp p y w).1 :: (gen ppz ps (itP ps w n.toNat xs).1 w).1, (itP ps w n.toNat xs).2 + (gen ppz ps (itP ps w n.toNat xs).1 w).2) = ((pp p y w).1 :: (itP ps w (n + 1).toNat xs).1, (itP ps w (n + 1).toNat xs).2)
      rw [show (n + 1).toNat = n.toNat + 1 by omega]
      rfl
theorem itP_nil (w : Int) : ∀ (t : Nat), itP [] w t [] = ([], w * t)
  | 0 => by
    show (([] : List Int), (0 : Int)) = ([], w * ((0 : Nat) : Int))
    rw [show ((0 : Nat) : Int) = 0 from rfl, Int.mul_zero]
  | t + 1 => by
    show ((gen ppz [] (itP [] w t []).1 w).1, (itP [] w t []).2 + (gen ppz [] (itP [] w t []).1 w).2) = _
    rw [itP_nil w t]
    refine Prod.ext rfl ?_
    show w * t + w = w * ((t + 1 : Nat) : Int)
    rw [show ((t + 1 : Nat) : Int) = (t : Int) + 1 by omega, Int.mul_add, Int.mul_one]
/-- THE promise: reckoned at once is as pushed one by one -/
theorem itP_gen {w : Int} (hw : Sign w) : ∀ (ps : List Part) (xs : List Int) (t : Nat), StandL ps xs → itP ps w t xs = ((gen (ptw w) ps xs t).1, w * (gen (ptw w) ps xs t).2)
  | [], [], t, _ => itP_nil w t
  | p :: ps, x :: xs, t, ⟨ok, h0, h1, h⟩ => by
    rw [itP_cons ps xs ok h0 h1 hw t, itP_gen hw ps xs _ h]
    have nn := pt_nn ok h0 h1 hw t
    show _ = ((pt p x w t).1 :: (gen (ptw w) ps xs (pt p x w t).2).1, w * (gen (ptw w) ps xs (pt p x w t).2).2)
    rw [show (((pt p x w t).2.toNat : Nat) : Int) = (pt p x w t).2 by omega]
theorem gen_stand {w : Int} (hw : Sign w) : ∀ (ps : List Part) (xs : List Int) (t : Int), 0 ≤ t → StandL ps xs → StandL ps (gen (ptw w) ps xs t).1 ∧ 0 ≤ (gen (ptw w) ps xs t).2
  | [], [], t, ht, _ => ⟨trivial, ht⟩
  | p :: ps, x :: xs, t, ht, ⟨ok, h0, h1, h⟩ => by
    have e : ((t.toNat : Nat) : Int) = t := by omega
    have a := pt_place ok h0 h1 hw t.toNat
    have n := pt_nn ok h0 h1 hw t.toNat
    rw [e] at a n
    have ih := gen_stand hw ps xs (pt p x w t).2 n h
    exact ⟨⟨ok, a.1, a.2, ih.1⟩, ih.2⟩
theorem stand_drop : ∀ {ps : List Part} {xs : List Int} (i : Nat), StandL ps xs → StandL (ps.drop i) (xs.drop i)
  | [], [], i, _ => by rw [List.drop_nil, List.drop_nil]; trivial
  | p :: ps, x :: xs, 0, h => h
  | p :: ps, x :: xs, i + 1, ⟨_, _, _, h⟩ => stand_drop (ps := ps) (xs := xs) i h
theorem stand_join : ∀ {ps : List Part} {xs ys : List Int} (i : Nat), StandL ps xs → StandL (ps.drop i) ys → StandL ps (xs.take i ++ ys)
  | ps, xs, ys, 0, _, h => h
  | [], [], ys, i + 1, _, h => by
    rw [List.drop_nil] at h
    exact h
  | p :: ps, x :: xs, ys, i + 1, ⟨a, b, c, d⟩, h => ⟨a, b, c, stand_join (ps := ps) (xs := xs) i d h⟩
theorem StandL.len : ∀ {ps : List Part} {xs : List Int}, StandL ps xs → xs.length = ps.length
  | [], [], _ => rfl
  | p :: ps, x :: xs, ⟨_, _, _, h⟩ => by rw [List.length_cons, List.length_cons, StandL.len (ps := ps) (xs := xs) h]
theorem StandL.okp : ∀ {ps : List Part} {xs : List Int}, StandL ps xs → ∀ p ∈ ps, p.ok
  | [], [], _, p, hp => by cases hp
  | a :: ps, x :: xs, ⟨h, _, _, hr⟩, p, hp => by
    rcases List.mem_cons.mp hp with rfl | hp
    · exact h
    · exact StandL.okp (ps := ps) (xs := xs) hr p hp
theorem standL_of : ∀ {ps : List Part} {xs : List Int}, (∀ p ∈ ps, p.ok) → StandOk ps xs → StandL ps xs
  | [], [], _, _ => trivial
  | [], _ :: _, _, h => by have := h.1; simp at this
  | _ :: _, [], _, h => by have := h.1; simp at this
  | p :: ps, x :: xs, hp, h => by
    have a := h.2 0 p x rfl rfl
    exact ⟨hp p List.mem_cons_self, a.1, a.2, standL_of (fun q hq => hp q (List.mem_cons_of_mem _ hq)) ⟨by have := h.1; rw [List.length_cons, List.length_cons] at this; omega, fun i q y hq hy => h.2 (i + 1) q y hq hy⟩⟩
theorem StandL.ok : ∀ {ps : List Part} {xs : List Int}, StandL ps xs → StandOk ps xs
  | [], [], _ => ⟨rfl, fun i p x h _ => by simp at h⟩
  | p :: ps, x :: xs, ⟨_, a, b, h⟩ => by
    have ih := StandL.ok (ps := ps) (xs := xs) h
    refine ⟨by rw [List.length_cons, List.length_cons, ih.1], fun i q y hq hy => ?_⟩
    cases i with
    | zero =>
      cases Option.some.inj hq
      cases Option.some.inj hy
      exact ⟨a, b⟩
    | succ i => exact ih.2 i q y hq hy
/-! rows -/
structure Deed where
  i : Nat
  w : Int
  t : Nat
def Deed.ok (d : Deed) (n : Nat) : Prop := d.i < n ∧ Sign d.w
def Deed.data (d : Deed) : PyData := .tuple [.int d.i, .int d.w, .int d.t]
/-- one deed, at once -/
def deedL (ps : List Part) (xs : List Int) (d : Deed) : List Int × Int := (xs.take d.i ++ (gen (ptw d.w) (ps.drop d.i) (xs.drop d.i) d.t).1, d.w * (gen (ptw d.w) (ps.drop d.i) (xs.drop d.i) d.t).2)
def rowL (ps : List Part) : List Deed → List Int × Int → List Int × Int
  | [], s => s
  | d :: ds, s => rowL ps ds ((deedL ps s.1 d).1, s.2 + (deedL ps s.1 d).2)
theorem rowL_app (ps : List Part) : ∀ (ds es : List Deed) (s : List Int × Int), rowL ps (ds ++ es) s = rowL ps es (rowL ps ds s)
  | [], _, _ => rfl
  | d :: ds, es, s => rowL_app ps ds es _
theorem deedL_stand {ps : List Part} {xs : List Int} {d : Deed} (h : StandL ps xs) (hd : d.ok ps.length) : StandL ps (deedL ps xs d).1 :=
  stand_join d.i h (gen_stand hd.2 _ _ d.t (by omega) (stand_drop d.i h)).1
theorem rowL_stand {ps : List Part} : ∀ {ds : List Deed} {s : List Int × Int}, StandL ps s.1 → (∀ d ∈ ds, d.ok ps.length) → StandL ps (rowL ps ds s).1
  | [], _, h, _ => h
  | d :: ds, s, h, hd => rowL_stand (ds := ds) (deedL_stand h (hd d List.mem_cons_self)) fun e he => hd e (List.mem_cons_of_mem _ he)
/-- a deed, push by push: each push goes along the train from part i -/
def pushes (ps : List Part) (i : Nat) (w : Int) : Nat → List Int × Int → List Int × Int
  | 0, s => s
  | t + 1, s => ((Ct.run ps (pushes ps i w t s).1 i w).1, (pushes ps i w t s).2 + (Ct.run ps (pushes ps i w t s).1 i w).2)
theorem pushes_itP {ps : List Part} {xs : List Int} {i : Nat} {w : Int} (hl : xs.length = ps.length) (hi : i ≤ ps.length) (a : Int) : ∀ t, pushes ps i w t (xs, a) = (xs.take i ++ (itP (ps.drop i) w t (xs.drop i)).1, a + (itP (ps.drop i) w t (xs.drop i)).2) ∧ (itP (ps.drop i) w t (xs.drop i)).1.length = ps.length - i
  | 0 => by
    refine ⟨Prod.ext ?_ ?_, ?_⟩
    · show xs = xs.take i ++ xs.drop i
      rw [List.take_append_drop]
    · show a = a + 0
      omega
    · show (xs.drop i).length = _
      rw [List.length_drop, hl]
  | t + 1 => by
    obtain ⟨ih, il⟩ := pushes_itP hl hi a t
    have tl : (xs.take i).length = i := by rw [List.length_take]; omega
    have gl : ∀ (qs : List Part) (ys : List Int) (g : Int), (gen ppz qs ys g).1.length = ys.length := fun qs => by
      induction qs with
      | nil => intro ys g; rfl
      | cons q qs ih =>
        intro ys g
        cases ys with
        | nil => rfl
        | cons y ys =>
          show ((ppz q y g).1 :: (gen ppz qs ys (ppz q y g).2).1).length = _
          rw [List.length_cons, List.length_cons, ih]
    refine ⟨?_, ?_⟩
    · show ((Ct.run ps (pushes ps i w t (xs, a)).1 i w).1, (pushes ps i w t (xs, a)).2 + (Ct.run ps (pushes ps i w t (xs, a)).1 i w).2) = _
      rw [ih]
      rw [run_gen (by show (xs.take i ++ _).length = _; rw [List.length_append, tl, il]; omega) hi]
      show (List.take i (xs.take i ++ _) ++ (gen ppz (ps.drop i) (List.drop i (xs.take i ++ _)) w).1, a + _ + (gen ppz (ps.drop i) (List.drop i (xs.take i ++ _)) w).2) = _
      rw [List.take_left' tl, List.drop_left' tl]
      refine Prod.ext rfl ?_
      show a + (itP (ps.drop i) w t (xs.drop i)).2 + (gen ppz (ps.drop i) (itP (ps.drop i) w t (xs.drop i)).1 w).2 = a + ((itP (ps.drop i) w t (xs.drop i)).2 + (gen ppz (ps.drop i) (itP (ps.drop i) w t (xs.drop i)).1 w).2)
      omega
    · show (gen ppz (ps.drop i) (itP (ps.drop i) w t (xs.drop i)).1 w).1.length = _
      rw [gl, il]
theorem pushes_deed {ps : List Part} {xs : List Int} {d : Deed} (h : StandL ps xs) (hd : d.ok ps.length) (a : Int) : pushes ps d.i d.w d.t (xs, a) = ((deedL ps xs d).1, a + (deedL ps xs d).2) := by
  rw [(pushes_itP h.len (Nat.le_of_lt hd.1) a d.t).1, itP_gen hd.2 _ _ _ (stand_drop d.i h)]
  rfl
theorem pushes_stand {ps : List Part} {xs : List Int} {i : Nat} {w : Int} (h : StandL ps xs) (hi : i < ps.length) (hw : Sign w) (a : Int) (t : Nat) : StandL ps (pushes ps i w t (xs, a)).1 := by
  have := deedL_stand (d := ⟨i, w, t⟩) h ⟨hi, hw⟩
  rw [pushes_deed (d := ⟨i, w, t⟩) h ⟨hi, hw⟩ a]
  exact this
section
variable {K : PySem.W.Frag} {H : Hp}
theorem deed_inv {v : V} {d : Deed} (h : Dp K H v d.data) : ∃ a, v = .ref a ∧ SqT K H a [.int d.i, .int d.w, .int d.t] := by
  obtain ⟨a, vs, rfl, hs, ht⟩ := tup_inv h
  cases ht with
  | cons h1 t1 => cases h1; cases t1 with
    | cons h2 t2 => cases h2; cases t2 with
      | cons h3 t3 => cases h3; cases t3; exact ⟨a, rfl, hs⟩
theorem deed_dp {a : Addr} {d : Deed} (h : SqT K H a [.int d.i, .int d.w, .int d.t]) : Dp K H (.ref a) d.data := .tup h (.cons (.int _) (.cons (.int _) (.cons (.int _) .nil)))
theorem deeds_upd {l : Addr} {ws : List V} {o : HO} (hl : H l = some (.lst ws)) : ∀ {vs : List V} (ds : List Deed), DpAll K H vs (ds.map Deed.data) → DpAll K (upd H l o) vs (ds.map Deed.data)
  | _, [], .nil => .nil
  | _, d :: r, .cons h t => by
    obtain ⟨a, rfl, ha⟩ := deed_inv h
    exact .cons (deed_dp (sqT_upd ha hl)) (deeds_upd hl r t)
def RowAt (K : PySem.W.Frag) (H : Hp) (a : Addr) (ds : List Deed) : Prop := ∃ vs, SqL K H a vs ∧ DpAll K H vs (ds.map Deed.data)
theorem RowAt.same {H' : Hp} {a : Addr} {ds : List Deed} (e : Same H H') (h : RowAt K H a ds) : RowAt K H' a ds := by
  obtain ⟨vs, h1, h2⟩ := h
  exact ⟨vs, e.seq h1, dpAll_same e h2⟩
theorem deed_get {ds : List Deed} {vs : List V} (h2 : DpAll K H vs (ds.map Deed.data)) {i : Nat} {d : Deed} (e : ds[i]? = some d) : ∃ v, vs[i]? = some v ∧ Dp K H v d.data :=
  dpAll_get h2 (by rw [List.getElem?_map, e]; rfl)
end
theorem lay_deed (d : Deed) : d.data.canLay0 = true ∧ d.data.depth ≤ 1 := lay_tup (n := 0) (lay_ints [(d.i : Int), d.w, (d.t : Int)] 0)
theorem lay_row (ds : List Deed) : (PyData.list (ds.map Deed.data)).canLay0 = true ∧ (PyData.list (ds.map Deed.data)).depth ≤ 2 := lay_lst fun d hd => by
  obtain ⟨e, _, rfl⟩ := List.mem_map.mp hd
  exact lay_deed e
/-! what the checks look at -/
def isW : PyData → Bool
  | .int _ => true
  | _ => false
def risesD (last z : Int) : List PyData → Bool
  | [] => true
  | .int m :: r => if m ≤ last ∨ z ≤ m then false else risesD m z r
  | _ :: _ => false
def areM (d : PyData) (z : Int) : Bool := match d with
  | .tuple ds => risesD (-1) z ds
  | _ => false
def wheelT : List PyData → Bool
  | [.int z, m] => decide (1 ≤ z) && areM m z
  | _ => false
def springT : List PyData → Bool
  | [.int k] => decide (1 ≤ k)
  | _ => false
def isP : PyData → Bool
  | .tuple (h :: t) =>
    if PyData.eqv h (.str "wheel") = true then wheelT t
    else if PyData.eqv h (.str "spring") = true then springT t
    else PyData.eqv (.tuple (h :: t)) (.tuple [.str "click"]) || PyData.eqv (.tuple (h :: t)) (.tuple [.str "rocker"])
  | _ => false
theorem rises_of : ∀ {ms : List Int} {last z : Int}, ms.Pairwise (· < ·) → (∀ m ∈ ms, last < m ∧ m < z) → risesD last z (ms.map PyData.int) = true
  | [], _, _, _, _ => rfl
  | m :: ms, last, z, h, hm => by
    obtain ⟨h1, h2⟩ := List.pairwise_cons.mp h
    have hm1 := hm m List.mem_cons_self
    show (if m ≤ last ∨ z ≤ m then false else risesD m z (ms.map PyData.int)) = true
    rw [if_neg (by omega)]
    exact rises_of h2 fun x hx => ⟨h1 x hx, (hm x (List.mem_cons_of_mem _ hx)).2⟩
theorem isP_of {p : Part} (ok : p.ok) : isP p.data = true := by
  cases p with
  | wheel z ms =>
    simp only [isP, Part.data, wheelT, areM]
    rw [if_pos (by decide +kernel), decide_eq_true ok.1, rises_of ok.2.2.1.1 fun m hm => ?_]
    · rfl
    · have := ok.2.2.1.2 m hm
      omega
  | click => decide +kernel
  | rocker => decide +kernel
  | spring k =>
    simp only [isP, Part.data, springT]
    rw [if_neg (by decide +kernel), if_pos (by decide +kernel)]
    exact decide_eq_true ok.1
def isD (d : PyData) (n : Int) : Bool := match d with
  | .tuple [.int i, .int w, .int t] => decide (0 ≤ i) && decide (i < n) && (decide (w = 1) || decide (w = -1)) && decide (0 ≤ t)
  | _ => false
theorem dpAll_drop {K : PySem.W.Frag} {H : Hp} : ∀ {vs : List V} {ds : List PyData} (k : Nat), DpAll K H vs ds → DpAll K H (vs.drop k) (ds.drop k)
  | _, _, 0, h => h
  | _, _, _ + 1, .nil => .nil
  | _, _, k + 1, .cons _ t => dpAll_drop k t
theorem dpAll_take {K : PySem.W.Frag} {H : Hp} : ∀ {vs : List V} {ds : List PyData} (k : Nat), DpAll K H vs ds → DpAll K H (vs.take k) (ds.take k)
  | _, _, 0, _ => .nil
  | _, _, _ + 1, .nil => .nil
  | _, _, k + 1, .cons h t => .cons h (dpAll_take k t)
theorem dpAll_cut {K : PySem.W.Frag} {H : Hp} {vs : List V} {ds : List Deed} (lo hi : Option Int) (h : DpAll K H vs (ds.map Deed.data)) : ∃ es : List Deed, DpAll K H (cutV vs lo hi) (es.map Deed.data) ∧ ∀ d ∈ es, d ∈ ds := by
  refine ⟨(ds.drop (HT.sIx vs.length 0 lo)).take (HT.sIx vs.length vs.length hi - HT.sIx vs.length 0 lo), ?_, fun d hd => List.mem_of_mem_drop (List.mem_of_mem_take hd)⟩
  rw [List.map_take, List.map_drop]
  exact dpAll_take _ (dpAll_drop _ h)
/-! how often each mark is met -/
def wsum (z : Int) : List Int → Int → Int
  | [], _ => 0
  | m :: r, y => (y - m) / z + wsum z r y
theorem wsum_app (z y : Int) : ∀ (ms : List Int) (m : Int), wsum z (ms ++ [m]) y = wsum z ms y + (y - m) / z
  | [], m => by
    show (y - m) / z + 0 = 0 + (y - m) / z
    omega
  | a :: r, m => by
    show (y - a) / z + wsum z (r ++ [m]) y = (y - a) / z + wsum z r y + (y - m) / z
    rw [wsum_app z y r m]
    omega
theorem wsum_mah {z : Int} (hz : 1 ≤ z) (y : Int) : ∀ {ms : List Int}, (∀ m ∈ ms, 0 ≤ m ∧ m < z) → wsum z ms y = mah z ms y - ms.length
  | [], _ => by
    show (0 : Int) = y / z * ((0 : Nat) : Int) + 0 - ((0 : Nat) : Int)
    rw [show ((0 : Nat) : Int) = 0 from rfl, Int.mul_zero]
    rfl
  | m :: r, h => by
    have hm := h m List.mem_cons_self
    have ih := wsum_mah hz y (ms := r) fun x hx => h x (List.mem_cons_of_mem _ hx)
    have e := Int.emod_add_mul_ediv y z
    have r0 := Int.emod_nonneg y (show z ≠ 0 by omega)
    have r1 := Int.emod_lt_of_pos y (show 0 < z by omega)
    show (y - m) / z + wsum z r y = _
    rw [ih]
    unfold mah
    rw [cnt_cons, List.length_cons, show ((r.length + 1 : Nat) : Int) = (r.length : Int) + 1 by omega, Int.mul_add, Int.mul_one]
    by_cases hmr : m ≤ y % z
    · obtain ⟨e1, _⟩ := (Int.ediv_emod_unique (a := y - m) (b := z) (r := y % z - m) (q := y / z) (by omega)).mpr ⟨by omega, by omega, by omega⟩
      rw [e1, if_pos hmr]
      omega
    · obtain ⟨e1, _⟩ := (Int.ediv_emod_unique (a := y - m) (b := z) (r := y % z - m + z) (q := y / z - 1) (by omega)).mpr ⟨by rw [Int.mul_sub]; omega, by omega, by omega⟩
      rw [e1, if_neg hmr]
      omega
theorem wsum_up {z : Int} {ms : List Int} {x : Int} (ok : (Part.wheel z ms).ok) (t : Nat) : wsum z ms (x + t) - wsum z ms x = (pt (.wheel z ms) x 1 t).2 := by
  have rs : Rise z ms := ok.2.2.1
  have u := mah_up ok.1 rs x t
  rw [wsum_mah ok.1 _ rs.2, wsum_mah ok.1 _ rs.2]
  simp only [pt, Int.one_mul]
  rw [neg_abs (by omega)]
  omega
theorem wsum_down {z : Int} {ms : List Int} {x : Int} (ok : (Part.wheel z ms).ok) (t : Nat) : wsum z ms x - wsum z ms (x - t) = (pt (.wheel z ms) x (-1) t).2 := by
  have rs : Rise z ms := ok.2.2.1
  have u := mah_up ok.1 rs (x - t) t
  rw [show x - (t : Int) + t = x by omega] at u
  rw [wsum_mah ok.1 _ rs.2, wsum_mah ok.1 _ rs.2]
  simp only [pt, show x + -1 * (t : Int) = x - t by omega]
  rw [abs_neg (by omega)]
  omega
/-! a deed in two -/
theorem pushes_add (ps : List Part) (i : Nat) (w : Int) (a : Nat) (s : List Int × Int) : ∀ b, pushes ps i w (a + b) s = pushes ps i w b (pushes ps i w a s)
  | 0 => rfl
  | b + 1 => by
    show ((Ct.run ps (pushes ps i w (a + b) s).1 i w).1, (pushes ps i w (a + b) s).2 + (Ct.run ps (pushes ps i w (a + b) s).1 i w).2) = _
    rw [pushes_add ps i w a s b]
    rfl
theorem rowL_one {ps : List Part} {s : List Int × Int} {d : Deed} (h : StandL ps s.1) (hd : d.ok ps.length) : rowL ps [d] s = pushes ps d.i d.w d.t s := (pushes_deed h hd s.2).symm
def halves : List Deed → List Deed
  | [] => []
  | d :: r => ⟨d.i, d.w, d.t / 2⟩ :: ⟨d.i, d.w, d.t - d.t / 2⟩ :: halves r
theorem halves_app : ∀ (ds es : List Deed), halves (ds ++ es) = halves ds ++ halves es
  | [], _ => rfl
  | d :: r, es => by
    show _ :: _ :: halves (r ++ es) = _ :: _ :: (halves r ++ halves es)
    rw [halves_app r es]
theorem halves_ok {n : Nat} {b : Nat} : ∀ {ds : List Deed}, (∀ d ∈ ds, d.ok n ∧ d.t < b) → ∀ d ∈ halves ds, d.ok n ∧ d.t < b
  | [], _, d, hd => by cases hd
  | e :: r, h, d, hd => by
    have he := h e List.mem_cons_self
    rcases List.mem_cons.mp hd with rfl | hd
    · exact ⟨he.1, Nat.lt_of_le_of_lt (Nat.div_le_self _ _) he.2⟩
    rcases List.mem_cons.mp hd with rfl | hd
    · exact ⟨he.1, Nat.lt_of_le_of_lt (Nat.sub_le _ _) he.2⟩
    · exact halves_ok (fun d hd => h d (List.mem_cons_of_mem _ hd)) d hd
theorem rowL_halves {ps : List Part} : ∀ {ds : List Deed} {s : List Int × Int}, StandL ps s.1 → (∀ d ∈ ds, d.ok ps.length) → rowL ps (halves ds) s = rowL ps ds s
  | [], _, _, _ => rfl
  | d :: r, s, h, hd => by
    have hd0 := hd d List.mem_cons_self
    have k1 : Deed.ok ⟨d.i, d.w, d.t / 2⟩ ps.length := hd0
    have k2 : Deed.ok ⟨d.i, d.w, d.t - d.t / 2⟩ ps.length := hd0
    show rowL ps ([⟨d.i, d.w, d.t / 2⟩] ++ ([⟨d.i, d.w, d.t - d.t / 2⟩] ++ halves r)) s = rowL ps ([d] ++ r) s
    have h1 : StandL ps (rowL ps [⟨d.i, d.w, d.t / 2⟩] s).1 := rowL_stand h fun e he => by rw [List.mem_singleton] at he; rw [he]; exact k1
    have h2 : StandL ps (rowL ps [⟨d.i, d.w, d.t - d.t / 2⟩] (rowL ps [⟨d.i, d.w, d.t / 2⟩] s)).1 := rowL_stand h1 fun e he => by rw [List.mem_singleton] at he; rw [he]; exact k2
    rw [rowL_app, rowL_app, rowL_app, rowL_halves h2 fun e he => hd e (List.mem_cons_of_mem _ he)]
    rw [rowL_one h1 k2, rowL_one h k1, rowL_one h hd0, ← pushes_add, show d.t / 2 + (d.t - d.t / 2) = d.t by omega]
theorem run_deed {ps : List Part} {xs : List Int} {i : Nat} {w : Int} (h : StandL ps xs) (hi : i < ps.length) (hw : Sign w) : deedL ps xs ⟨i, w, 1⟩ = Ct.run ps xs i w := by
  have e : ((Ct.run ps xs i w).1, 0 + (Ct.run ps xs i w).2) = ((deedL ps xs ⟨i, w, 1⟩).1, 0 + (deedL ps xs ⟨i, w, 1⟩).2) := pushes_deed (d := ⟨i, w, 1⟩) h ⟨hi, hw⟩ 0
  obtain ⟨e1, e2⟩ := Prod.mk.inj e
  exact Prod.ext e1.symm (by omega)
theorem rowL_snoc (ps : List Part) (ds : List Deed) (d : Deed) (s : List Int × Int) : rowL ps (ds ++ [d]) s = ((deedL ps (rowL ps ds s).1 d).1, (rowL ps ds s).2 + (deedL ps (rowL ps ds s).1 d).2) := rowL_app ps ds [d] s
theorem told_dp {K : PySem.W.Frag} {H : Hp} {q u : Addr} {xs : List Int} {y : Int} (h : SqT K H q [.ref u, .int y]) (hu : SqT K H u (xs.map V.int)) : Dp K H (.ref q) (.tuple [.tuple (xs.map PyData.int), .int y]) :=
  .tup h (.cons (.tup hu (dpAll_ints xs)) (.cons (.int y) .nil))
end Ct

namespace Ct
open PySem PySem.Spec PyProof.Rows L2
/-! all stands of a train -/
theorem ip_mul {X : Cx} : PIp X .Mult (rI CMul fun i j => .int (i * j)) := iop_mul
def rowS (s : List Int) (k : Nat) : List (List Int) := (List.range k).map fun (x : Nat) => s ++ [(x : Int)]
def grow (ss : List (List Int)) (p : Part) : List (List Int) := ss.flatMap fun s => rowS s p.places.toNat
def allS (ps : List Part) : List (List Int) := ps.foldl grow [[]]
def tupD (s : List Int) : PyData := .tuple (s.map PyData.int)
theorem rowS_len (s : List Int) (k : Nat) : (rowS s k).length = k := by
  unfold rowS
  rw [List.length_map, List.length_range]
theorem rowS_succ (s : List Int) (k : Nat) : rowS s (k + 1) = rowS s k ++ [s ++ [(k : Int)]] := by
  unfold rowS
  rw [List.range_succ, List.map_append]
  rfl
theorem flat_len (k : Nat) : ∀ ss : List (List Int), (ss.flatMap fun s => rowS s k).length = ss.length * k
  | [] => by simp
  | s :: r => by
    rw [List.flatMap_cons, List.length_append, rowS_len, flat_len k r, List.length_cons, Nat.add_mul, Nat.one_mul]
    omega
theorem allS_snoc (ps : List Part) (p : Part) : allS (ps ++ [p]) = grow (allS ps) p := by
  unfold allS
  rw [List.foldl_append]
  rfl
theorem allS_take {ps : List Part} {n : Nat} {p : Part} (h : ps[n]? = some p) : allS (ps.take (n + 1)) = grow (allS (ps.take n)) p := by
  rw [List.take_add_one, h]
  exact allS_snoc _ _
theorem stands_take {ps : List Part} {n : Nat} {p : Part} (h : ps[n]? = some p) : stands (ps.take (n + 1)) = stands (ps.take n) * p.places := by
  rw [List.take_add_one, h]
  exact stands_app _ _
theorem allS_len {ps : List Part} (hok : ∀ p ∈ ps, p.ok) : ∀ n, n ≤ ps.length → ((allS (ps.take n)).length : Int) = stands (ps.take n)
  | 0, _ => rfl
  | n + 1, hn => by
    obtain ⟨p, hp⟩ : ∃ p, ps[n]? = some p := ⟨_, List.getElem?_eq_getElem (by omega)⟩
    have po := (hok p (List.mem_of_getElem? hp)).pos.1
    rw [allS_take hp, stands_take hp, ← allS_len hok n (by omega)]
    unfold grow
    rw [flat_len, Int.natCast_mul, Int.toNat_of_nonneg (by omega)]
theorem stands_le {ps : List Part} (hok : ∀ p ∈ ps, p.ok) : ∀ n, n ≤ ps.length → stands (ps.take (ps.length - n)) ≤ stands ps
  | 0, _ => by
    rw [Nat.sub_zero, List.take_length]
    exact Int.le_refl _
  | n + 1, hn => by
    have ih := stands_le hok n (by omega)
    obtain ⟨p, hp⟩ : ∃ p, ps[ps.length - (n + 1)]? = some p := ⟨_, List.getElem?_eq_getElem (by omega)⟩
    have po := (hok p (List.mem_of_getElem? hp)).pos.1
    have e := stands_take hp
    rw [show ps.length - (n + 1) + 1 = ps.length - n by omega] at e
    have sp := stands_pos (ps.take (ps.length - (n + 1))) fun q hq => hok q (List.mem_of_mem_take hq)
    rw [e] at ih
    have := Int.mul_le_mul_of_nonneg_left po (show 0 ≤ stands (ps.take (ps.length - (n + 1))) by omega)
    omega
theorem stands_le' {ps : List Part} (hok : ∀ p ∈ ps, p.ok) {n : Nat} (hn : n ≤ ps.length) : stands (ps.take n) ≤ stands ps := by
  have := stands_le hok (ps.length - n) (by omega)
  rw [show ps.length - (ps.length - n) = n by omega] at this
  exact this
theorem place_le {ps : List Part} (hok : ∀ p ∈ ps, p.ok) {n : Nat} {p : Part} (hp : ps[n]? = some p) : p.places ≤ stands ps := by
  have hn : n < ps.length := (List.getElem?_eq_some_iff.mp hp).1
  have po := (hok p (List.mem_of_getElem? hp)).pos.1
  have h3 := stands_le' hok (n := n + 1) hn
  have sp := stands_pos (ps.take n) fun q hq => hok q (List.mem_of_mem_take hq)
  rw [stands_take hp] at h3
  have := Int.mul_le_mul_of_nonneg_right sp (show 0 ≤ p.places by omega)
  omega
theorem fold_each {k : Nat} : ∀ (ps : List Part) (ss : List (List Int)), (∀ s ∈ ss, s.length = k) → ∀ s ∈ ps.foldl grow ss, s.length = k + ps.length
  | [], ss, h, s, hs => h s hs
  | p :: ps, ss, h, s, hs => by
    have := fold_each (k := k + 1) ps (grow ss p) (fun t ht => by
      obtain ⟨u, hu, hr⟩ := List.mem_flatMap.mp ht
      obtain ⟨x, _, rfl⟩ := List.mem_map.mp hr
      rw [List.length_append, h u hu]
      rfl) s hs
    rw [List.length_cons]
    omega
theorem allS_each (ps : List Part) (s : List Int) (h : s ∈ allS ps) : s.length = ps.length := by
  have := fold_each (k := 0) ps [[]] (fun t ht => by rw [List.mem_singleton] at ht; rw [ht]; rfl) s h
  omega
theorem grow_le {ps : List Part} (hok : ∀ p ∈ ps, p.ok) {n : Nat} {p : Part} (hp : ps[n]? = some p) {i : Nat} : (((allS (ps.take n)).take i).flatMap fun s => rowS s p.places.toNat).length ≤ (stands ps).toNat := by
  have hn : n < ps.length := (List.getElem?_eq_some_iff.mp hp).1
  have h1 : (((allS (ps.take n)).take i).flatMap fun s => rowS s p.places.toNat).length ≤ (grow (allS (ps.take n)) p).length := by
    unfold grow
    rw [flat_len, flat_len, List.length_take]
    exact Nat.mul_le_mul_right _ (Nat.min_le_right _ _)
  rw [← allS_take hp] at h1
  have h2 := allS_len hok (n + 1) hn
  have h3 := stands_le' hok (n := n + 1) hn
  omega
section
variable {K : PySem.W.Frag} {H : Hp}
theorem tupD_inv {v : V} {s : List Int} (h : Dp K H v (tupD s)) : ∃ a, v = .ref a ∧ SqT K H a (s.map V.int) := by
  obtain ⟨a, vs, rfl, hs, ht⟩ := tup_inv h
  cases dpAll_ints_inv s ht
  exact ⟨a, rfl, hs⟩
theorem tupD_dp {a : Addr} {s : List Int} (h : SqT K H a (s.map V.int)) : Dp K H (.ref a) (tupD s) := .tup h (dpAll_ints s)
theorem tups_upd {l : Addr} {ws : List V} {o : HO} (hl : H l = some (.lst ws)) : ∀ {vs : List V} (ss : List (List Int)), DpAll K H vs (ss.map tupD) → DpAll K (upd H l o) vs (ss.map tupD)
  | _, [], .nil => .nil
  | _, s :: r, .cons h t => by
    obtain ⟨a, rfl, ha⟩ := tupD_inv h
    exact .cons (tupD_dp (sqT_upd ha hl)) (tups_upd hl r t)
theorem tup_get {ss : List (List Int)} {vs : List V} (h2 : DpAll K H vs (ss.map tupD)) {i : Nat} {s : List Int} (e : ss[i]? = some s) : ∃ a, vs[i]? = some (.ref a) ∧ SqT K H a (s.map V.int) := by
  obtain ⟨v, hv, hd⟩ := dpAll_get h2 (d := tupD s) (by rw [List.getElem?_map, e]; rfl)
  obtain ⟨a, rfl, ha⟩ := tupD_inv hd
  exact ⟨a, hv, ha⟩
end
theorem lay_tupD (s : List Int) : (tupD s).canLay0 = true ∧ (tupD s).depth ≤ 1 := lay_tup (lay_ints s 0)
theorem lay_tups (ss : List (List Int)) : (PyData.list (ss.map tupD)).canLay0 = true ∧ (PyData.list (ss.map tupD)).depth ≤ 2 := lay_lst fun d hd => by
  obtain ⟨s, _, rfl⟩ := List.mem_map.mp hd
  exact lay_tupD s
theorem stands_rev : ∀ ps : List Part, stands ps.reverse = stands ps
  | [] => rfl
  | p :: r => by
    rw [List.reverse_cons, stands_app, stands_rev r]
    exact Int.mul_comm _ _
theorem dpAll_rev {K : PySem.W.Frag} {H : Hp} : ∀ {vs : List V} {ds : List PyData}, DpAll K H vs ds → DpAll K H vs.reverse ds.reverse
  | _, _, .nil => .nil
  | _, _, .cons h t => by
    rw [List.reverse_cons, List.reverse_cons]
    exact dpAll_app (dpAll_rev t) (.cons h .nil)
/-! two fors in one list -/
section
variable {K : PySem.W.Frag} {H : Hp} {σ : L2.St} {Q : VK}
def LB2 (J : It) (g : TG) (tt : TT) (wi1 : TI) (g1 : TG) (tt1 : TT) (te : TE) (vs vs1 : List Nat) (σ : L2.St) (H : Hp) (Q : VK) : Prop := tLc2 (fun _ H R => R J H) g tt wi1 g1 tt1 te vs vs1 σ H Q
theorem w_lc2 {wi wi1 : TI} {g g1 : TG} {tt tt1 : TT} {te : TE} {vs vs1 : List Nat} (h : wi σ H fun J H1 => LB2 J g tt wi1 g1 tt1 te vs vs1 σ H1 Q) : tLc2 wi g tt wi1 g1 tt1 te vs vs1 σ H Q := h
/-- the inner loop, from which Nx is reached -/
def IB (J : It) (g : TG) (tt : TT) (te : TE) (vs : List Nat) (D : Addr) (σ : L2.St) (H : Hp) (Nx : Hp → Prop) : Prop :=
  ∃ U : Nat → Nat → Hp → Prop, (∃ m, U 0 m H) ∧
    ∀ j k H, U j k H → (J.stop j H ∧ Nx H) ∨
      (J.go j H ∧ ∃ Z : Hp → Prop, (∀ H', Z H' → ∃ k', k' < k ∧ U (j + 1) k' H') ∧
        ∀ x H', J.yld j H x H' →
          g x (wipe σ vs) H' fun σ3 H5 => wipe σ3 vs = wipe σ vs ∧ tt σ3 H5 fun b H6 =>
            if b = true then te σ3 H6 fun y H7 => ∃ acc, H7 D = some (.lst acc) ∧ acc.length < sizeLine ∧ Z (upd H7 D (.lst (acc ++ [y]))) else Z H6)
theorem ib_range {lo : Int} {n : Nat} {g : TG} {tt : TT} {te : TE} {vs : List Nat} {D : Addr} {Nx : Hp → Prop} (Pi : Nat → Hp → Prop) (h0 : Pi 0 H)
    (hs : ∀ j H, j < n → Pi j H → g (.int (lo + j)) (wipe σ vs) H fun σ3 H5 => wipe σ3 vs = wipe σ vs ∧ tt σ3 H5 fun b H6 =>
      if b = true then te σ3 H6 fun y H7 => ∃ acc, H7 D = some (.lst acc) ∧ acc.length < sizeLine ∧ Pi (j + 1) (upd H7 D (.lst (acc ++ [y]))) else Pi (j + 1) H6) (hd : ∀ H, Pi n H → Nx H) : IB (Itr lo n) g tt te vs D σ H Nx := by
  refine ⟨fun j k H => k = n - j ∧ j ≤ n ∧ Pi j H, ⟨n, rfl, Nat.zero_le _, h0⟩, ?_⟩
  rintro j k H ⟨rfl, hj, p⟩
  by_cases hlt : j < n
  · refine .inr ⟨hlt, Pi (j + 1), fun H' p' => ⟨n - (j + 1), by omega, rfl, hlt, p'⟩, fun x H' y => ?_⟩
    obtain ⟨e1, e2⟩ := y
    subst e1 e2
    exact hs j _ hlt p
  · have e : j = n := by omega
    subst e
    exact .inl ⟨Nat.le_refl _, hd H p⟩
theorem lb2_list {a : Addr} (xs : List V) {wi1 : TI} {g g1 : TG} {tt tt1 : TT} {te : TE} {vs vs1 : List Nat} (Pv : Addr → Nat → Hp → Prop) (h0 : ∀ D, H D = none → Pv D 0 (upd H D (.lst []))) (hl : ∀ D, H D = none → ∀ i H1, i ≤ xs.length → Pv D i H1 → SqL K H1 a xs)
    (hs : ∀ D, H D = none → ∀ i x H1, xs[i]? = some x → Pv D i H1 → g x (wipe σ vs) H1 fun σ2 H2 => wipe σ2 vs = wipe σ vs ∧ tt σ2 H2 fun b H3 =>
      if b = true then wi1 σ2 H3 fun J1 H4 => IB J1 g1 tt1 te vs1 D σ2 H4 (Pv D (i + 1)) else Pv D (i + 1) H3) (hd : ∀ D, H D = none → ∀ H1, Pv D xs.length H1 → Q (.ref D) H1) : LB2 (Itl K a) g tt wi1 g1 tt1 te vs vs1 σ H Q := by
  intro D hD
  refine ⟨fun i m H1 => m = xs.length - i ∧ i ≤ xs.length ∧ Pv D i H1, ⟨xs.length, rfl, Nat.zero_le _, h0 D hD⟩, ?_⟩
  rintro i m H1 ⟨rfl, hi, p⟩
  have q := hl D hD i H1 hi p
  by_cases hlt : i < xs.length
  · refine .inr ⟨⟨xs, _, q, List.getElem?_eq_getElem hlt⟩, Pv D (i + 1), fun H' p' => ⟨xs.length - (i + 1), by omega, rfl, hlt, p'⟩, fun x H' y => ?_⟩
    obtain ⟨e, y⟩ := y
    subst e
    exact hs D hD i x _ (y xs q) p
  · have e : i = xs.length := by omega
    subst e
    exact .inl ⟨⟨xs, q, Nat.le_refl _⟩, hd D hD H1 p⟩
theorem w_star {te : TE} {t : TA} {QA : List V → Hp → Prop} (h : te σ H fun x H1 => ∃ p xs, x = V.ref p ∧ (SqT K H1 p xs ∨ SqL K H1 p xs) ∧ t σ H1 fun ys H2 => QA (xs ++ ys) H2) : StX.tStar K te t σ H QA := h
theorem lb_tup {a : Addr} (xs : List V) {g : TG} {tt : TT} {te : TE} {vs : List Nat} (Pv : Addr → Nat → Hp → Prop) (h0 : ∀ D, H D = none → Pv D 0 (upd H D (.lst []))) (hl : ∀ D, H D = none → ∀ i H1, i ≤ xs.length → Pv D i H1 → SqT K H1 a xs)
    (hs : ∀ D, H D = none → ∀ i x H1, xs[i]? = some x → Pv D i H1 → g x (wipe σ vs) H1 fun σ2 H2 => wipe σ2 vs = wipe σ vs ∧ tt σ2 H2 fun b H3 =>
      if b = true then te σ2 H3 fun y H4 => ∃ acc, H4 D = some (.lst acc) ∧ acc.length < sizeLine ∧ Pv D (i + 1) (upd H4 D (.lst (acc ++ [y]))) else Pv D (i + 1) H3) (hd : ∀ D, H D = none → ∀ H1, Pv D xs.length H1 → Q (.ref D) H1) : LB (Itt K a) g tt te vs σ H Q :=
  fun D hD => lc_tup (Pv D) (h0 D hD) (hl D hD) (hs D hD) (hd D hD)
theorem w_revL {te : TE} (h : te σ H fun x H1 => ∃ a xs, x = .ref a ∧ SqL K H1 a xs ∧ ∀ p, H1 p = none → Q (.ref p) (upd H1 p (.lst xs.reverse))) : tRevL K te σ H Q := h
end
end Ct
namespace Ct
open PySem PySem.Spec PyProof.Rows L2
theorem w_catA {K : PySem.W.Frag} {H : Hp} {Q : VK} {a b : Addr} {xs ys : List V} (ha : SqT K H a xs) (hb : SqT K H b ys) (l : xs.length + ys.length ≤ 1000) (q : ∀ u H', Same H H' → SqT K H' u (xs ++ ys) → Q (.ref u) H') : rCatA K (.ref a) (.ref b) H Q := by
  refine ⟨a, b, xs, ys, rfl, rfl, ha, hb, Nat.le_of_lt (small1000 l), fun hx => ?_, fun _ hy => ?_, fun _ _ p np => ?_⟩
  · refine q b H (Same.refl H) ?_
    rw [hx, List.nil_append]
    exact hb
  · refine q a H (Same.refl H) ?_
    rw [hy, List.append_nil]
    exact ha
  · exact q p _ (same_upd np) (.of upd_same)
end Ct
namespace Ct
open PySem PySem.Spec PyProof.Rows L2
theorem standL_app : ∀ {ps qs : List Part} {xs ys : List Int}, StandL ps xs → StandL qs ys → StandL (ps ++ qs) (xs ++ ys)
  | [], _, [], _, _, h => h
  | _ :: _, _, _ :: _, _, ⟨a, b, c, d⟩, h => ⟨a, b, c, standL_app d h⟩
end Ct
namespace Ct
open PySem PySem.Spec PyProof.Rows L2
/-! signs fed to a train -/
def isSg : PyData → Bool
  | .int i => decide (i ∈ [(1 : Int), -1, 0])
  | _ => false
theorem isSg_of {s : Int} (h : s = 0 ∨ Sign s) : isSg (.int s) = true := by
  rcases h with h | h | h <;> rw [h] <;> decide
theorem run_zero (ps : List Part) (xs : List Int) (i : Nat) : Ct.run ps xs i 0 = (xs, 0) := by
  unfold Ct.run
  have z := runN_zero (ps := ps) (i := i) (s := (xs, 0)) (n := 0) rfl (ps.length - i)
  rw [Nat.zero_add] at z
  exact z
theorem run_stand {ps : List Part} {xs : List Int} {i : Nat} {w : Int} (h : StandL ps xs) (hi : i < ps.length) (hw : w = 0 ∨ Sign w) : StandL ps (Ct.run ps xs i w).1 := by
  rcases hw with e | e
  · rw [e, run_zero]
    exact h
  · rw [← run_deed h hi e]
    exact deedL_stand h ⟨hi, e⟩
def fedS (ps : List Part) : List Int → List Int → List Int × List Int
  | xs, [] => (xs, [])
  | xs, s :: r => ((fedS ps (Ct.run ps xs 0 s).1 r).1, (Ct.run ps xs 0 s).2 :: (fedS ps (Ct.run ps xs 0 s).1 r).2)
theorem fedS_snoc (ps : List Part) (s : Int) : ∀ (ss : List Int) (xs : List Int), fedS ps xs (ss ++ [s]) = ((Ct.run ps (fedS ps xs ss).1 0 s).1, (fedS ps xs ss).2 ++ [(Ct.run ps (fedS ps xs ss).1 0 s).2])
  | [], xs => rfl
  | a :: r, xs => by
    rw [List.cons_append, fedS, fedS_snoc ps s r, fedS]
    rfl
theorem fedS_take {ps : List Part} {ss : List Int} {k : Nat} {s : Int} (xs : List Int) (h : ss[k]? = some s) : fedS ps xs (ss.take (k + 1)) = ((Ct.run ps (fedS ps xs (ss.take k)).1 0 s).1, (fedS ps xs (ss.take k)).2 ++ [(Ct.run ps (fedS ps xs (ss.take k)).1 0 s).2]) := by
  rw [← fedS_snoc, List.take_add_one, h]
  rfl
theorem fedS_stand {ps : List Part} (h1 : 1 ≤ ps.length) : ∀ {ss : List Int} {xs : List Int}, StandL ps xs → (∀ s ∈ ss, s = 0 ∨ Sign s) → StandL ps (fedS ps xs ss).1
  | [], _, h, _ => h
  | s :: r, _, h, hs => fedS_stand (ss := r) h1 (run_stand h h1 (hs s List.mem_cons_self)) fun t ht => hs t (List.mem_cons_of_mem s ht)
theorem fedS_len (ps : List Part) : ∀ (ss : List Int) (xs : List Int), (fedS ps xs ss).2.length = ss.length
  | [], _ => rfl
  | s :: r, xs => by
    rw [fedS, List.length_cons, List.length_cons, fedS_len ps r]
end Ct
namespace Ct
open PySem PySem.Spec PyProof.Rows L2
theorem fold_mem : ∀ (ps : List Part) (ss : List (List Int)) (xs : List Int), (∀ p ∈ ps, p.ok) → (xs ∈ ps.foldl grow ss ↔ ∃ s ∈ ss, ∃ ys, xs = s ++ ys ∧ StandL ps ys)
  | [], ss, xs, _ => by
    constructor
    · intro h
      exact ⟨xs, h, [], (List.append_nil xs).symm, trivial⟩
    · rintro ⟨s, hs, ys, rfl, hy⟩
      cases ys with
      | nil => rw [List.append_nil]; exact hs
      | cons _ _ => exact nomatch hy
  | p :: ps, ss, xs, ok => by
    have po := (ok p List.mem_cons_self).pos.1
    rw [List.foldl_cons, fold_mem ps (grow ss p) xs fun q hq => ok q (List.mem_cons_of_mem _ hq)]
    constructor
    · rintro ⟨s', hs', ys, rfl, hy⟩
      obtain ⟨s, hs, hin⟩ := List.mem_flatMap.mp hs'
      obtain ⟨k, hk, rfl⟩ := List.mem_map.mp hin
      rw [List.mem_range] at hk
      exact ⟨s, hs, (k : Int) :: ys, by rw [List.append_assoc]; rfl, ok p List.mem_cons_self, by omega, by omega, hy⟩
    · rintro ⟨s, hs, ys, rfl, hy⟩
      cases ys with
      | nil => exact nomatch hy
      | cons y ys =>
        obtain ⟨_, y0, y1, hy⟩ := hy
        refine ⟨s ++ [y], List.mem_flatMap.mpr ⟨s, hs, List.mem_map.mpr ⟨y.toNat, List.mem_range.mpr (by omega), by rw [Int.toNat_of_nonneg y0]⟩⟩, ys, by rw [List.append_assoc]; rfl, hy⟩
theorem allS_mem {ps : List Part} (ok : ∀ p ∈ ps, p.ok) (xs : List Int) : xs ∈ allS ps ↔ StandL ps xs := by
  rw [allS, fold_mem ps [[]] xs ok]
  constructor
  · rintro ⟨s, hs, ys, rfl, hy⟩
    rw [List.mem_singleton] at hs
    rw [hs]
    exact hy
  · intro h
    exact ⟨[], List.mem_singleton.mpr rfl, xs, rfl, h⟩
/-! one-way trains -/
def gvb : Part → Bool
  | .wheel _ ms => decide (0 < ms.length)
  | _ => false
theorem pp_back {p : Part} {x w : Int} (hw : Sign w) (h : (pp p x w).2 = -1) : w = -1 ∧ gvb p = true := by
  have e := pp_way p x w hw
  rw [h] at e
  have hw1 : w = -1 := by
    rcases e with e | e
    · exact absurd e (by decide)
    · exact e.symm
  refine ⟨hw1, ?_⟩
  subst hw1
  cases p with
  | wheel z ms =>
    have h : (if (if (-1 : Int) = 1 then (x + -1) % z else x) ∈ ms then (-1 : Int) else 0) = -1 := h
    by_cases e2 : (if (-1 : Int) = 1 then (x + -1) % z else x) ∈ ms
    · exact decide_eq_true (List.length_pos_of_mem e2)
    · rw [if_neg e2] at h
      exact absurd h (by decide)
  | click => exact absurd (show (if (-1 : Int) = 1 then (1 : Int) else 0) = -1 from h) (by decide)
  | rocker =>
    have h : (if (-1 : Int) = 1 ∧ x = 0 then (1 : Int) else 0) = -1 := h
    rw [if_neg (by intro z; exact absurd z.1 (by decide))] at h
    exact absurd h (by decide)
  | spring k => exact absurd (show (0 : Int) = -1 from h) (by decide)
/-- what is shown below nought comes through all parts -/
theorem gen_back : ∀ {ps : List Part} {xs : List Int} {w : Int}, w = 0 ∨ Sign w → xs.length = ps.length → (gen ppz ps xs w).2 = -1 → w = -1 ∧ ps.all gvb = true
  | [], [], w, _, _, h => ⟨h, rfl⟩
  | p :: ps, x :: xs, w, hw, hl, h => by
    have hl' : xs.length = ps.length := Nat.succ.inj hl
    have h' : (gen ppz ps xs (ppz p x w).2).2 = -1 := h
    have hz : (ppz p x w).2 = 0 ∨ Sign (ppz p x w).2 := by
      unfold ppz
      split
      · exact .inl rfl
      · rename_i e
        exact pp_sign p x w (hw.resolve_left e)
    obtain ⟨h1, h2⟩ := gen_back hz hl' h'
    have e : w ≠ 0 := fun z => by
      rw [show ppz p x w = (x, 0) from if_pos z] at h1
      exact absurd (show (0 : Int) = -1 from h1) (by decide)
    unfold ppz at h1
    rw [if_neg e] at h1
    obtain ⟨h3, h4⟩ := pp_back (hw.resolve_left e) h1
    exact ⟨h3, by rw [List.all_cons, h4, h2]; rfl⟩
/-- a stand at which each wheel stands at a mark -/
def atMarks : List Part → List Int
  | [] => []
  | .wheel _ (m :: _) :: r => m :: atMarks r
  | _ :: r => 0 :: atMarks r
theorem marks_back : ∀ {ps : List Part}, (∀ p ∈ ps, p.ok) → ps.all gvb = true → StandL ps (atMarks ps) ∧ (gen ppz ps (atMarks ps) (-1)).2 = -1
  | [], _, _ => ⟨trivial, rfl⟩
  | .wheel z (m :: ms) :: r, ok, h => by
    rw [List.all_cons, Bool.and_eq_true] at h
    have o := ok _ List.mem_cons_self
    obtain ⟨h1, h2⟩ := marks_back (fun p hp => ok p (List.mem_cons_of_mem _ hp)) h.2
    have hm := o.2.2.1.2 m List.mem_cons_self
    refine ⟨⟨o, hm.1, hm.2, h1⟩, ?_⟩
    show (gen ppz r (atMarks r) (ppz (.wheel z (m :: ms)) m (-1)).2).2 = -1
    rw [show (ppz (.wheel z (m :: ms)) m (-1)).2 = -1 from if_pos List.mem_cons_self]
    exact h2
  | .wheel z [] :: r, _, h => by
    rw [List.all_cons, Bool.and_eq_true] at h
    exact absurd (show false = true from h.1) (by decide)
  | .click :: r, _, h => by
    rw [List.all_cons, Bool.and_eq_true] at h
    exact absurd h.1 (by decide)
  | .rocker :: r, _, h => by
    rw [List.all_cons, Bool.and_eq_true] at h
    exact absurd h.1 (by decide)
  | .spring k :: r, _, h => by
    rw [List.all_cons, Bool.and_eq_true] at h
    exact absurd (show false = true from h.1) (by decide)
theorem run_back {ps : List Part} {xs : List Int} {w : Int} (hl : xs.length = ps.length) (hw : Sign w) (h : (Ct.run ps xs 0 w).2 = -1) : w = -1 ∧ ps.all gvb = true := by
  rw [run_gen hl (Nat.zero_le _)] at h
  exact gen_back (.inr hw) hl h
theorem run_marks {ps : List Part} (ok : ∀ p ∈ ps, p.ok) (h : ps.all gvb = true) : StandL ps (atMarks ps) ∧ (Ct.run ps (atMarks ps) 0 (-1)).2 = -1 := by
  obtain ⟨h1, h2⟩ := marks_back ok h
  refine ⟨h1, ?_⟩
  rw [run_gen h1.len (Nat.zero_le _)]
  exact h2
/-! worn teeth -/
def offMark (ms : List Int) (m : Int) : List Int := ms.filter fun k => !decide (k = m)
def wornP (ps : List Part) : Option (Nat × Int) → List Part
  | none => ps
  | some (i, m) => match ps[i]? with
    | some (.wheel z ms) => ps.set i (.wheel z (offMark ms m))
    | _ => ps
theorem offMark_ok {z : Int} {ms : List Int} {m : Int} (h : (Part.wheel z ms).ok) : (Part.wheel z (offMark ms m)).ok :=
  ⟨h.1, h.2.1, ⟨h.2.2.1.1.filter _, fun k hk => h.2.2.1.2 k (List.mem_filter.mp hk).1⟩, Nat.le_trans (List.length_filter_le _ _) h.2.2.2⟩
theorem wornP_ok {ps : List Part} (h : ∀ p ∈ ps, p.ok) (w : Option (Nat × Int)) : ∀ p ∈ wornP ps w, p.ok := by
  unfold wornP
  split
  · exact h
  · split
    · rename_i i m z ms e
      intro p hp
      rcases List.mem_or_eq_of_mem_set hp with hp | hp
      · exact h p hp
      · rw [hp]
        exact offMark_ok (h _ (List.mem_of_getElem? e))
    · exact h
theorem wornP_len (ps : List Part) (w : Option (Nat × Int)) : (wornP ps w).length = ps.length := by
  unfold wornP
  split
  · rfl
  · split
    · rw [List.length_set]
    · rfl
/-- a wear as it is handed in -/
def WearAt (K : PySem.W.Frag) (H : Hp) (v : V) : Option (Nat × Int) → Prop
  | none => v = .non
  | some (i, m) => ∃ g, v = .ref g ∧ SqT K H g [.int i, .int m]
end Ct
namespace Ct
open PySem PySem.Spec PyProof.Rows L2
theorem dpAll_set {K : PySem.W.Frag} {H : Hp} : ∀ {vs : List V} {ds : List PyData} {i : Nat} {v : V} {d : PyData}, DpAll K H vs ds → Dp K H v d → DpAll K H (vs.set i v) (ds.set i d)
  | _, _, _, _, _, .nil, _ => .nil
  | _, _, 0, _, _, .cons _ t, h => .cons h t
  | _, _, _ + 1, _, _, .cons a t, h => .cons a (dpAll_set t h)
theorem WearAt.same {K : PySem.W.Frag} {H H' : Hp} {v : V} {w : Option (Nat × Int)} (s : Same H H') (h : WearAt K H v w) : WearAt K H' v w := by
  cases w with
  | none => exact h
  | some im =>
    obtain ⟨g, e, hg⟩ := h
    exact ⟨g, e, Same.tup s hg⟩
end Ct
namespace Ct
open PySem PySem.Spec PyProof.Rows L2
/-! trains behind one another -/
theorem gen_app (f : Part → Int → Int → Int × Int) (qs : List Part) (ys : List Int) : ∀ (ps : List Part) (xs : List Int) (a : Int), xs.length = ps.length →
    gen f (ps ++ qs) (xs ++ ys) a = ((gen f ps xs a).1 ++ (gen f qs ys (gen f ps xs a).2).1, (gen f qs ys (gen f ps xs a).2).2)
  | [], [], _, _ => rfl
  | p :: ps, x :: xs, a, h => by
    have ih := gen_app f qs ys ps xs (f p x a).2 (Nat.succ.inj h)
    show ((f p x a).1 :: (gen f (ps ++ qs) (xs ++ ys) (f p x a).2).1, (gen f (ps ++ qs) (xs ++ ys) (f p x a).2).2) = _
    rw [ih]
    rfl
theorem run0 {ps : List Part} {xs : List Int} (w : Int) (hx : xs.length = ps.length) : Ct.run ps xs 0 w = gen ppz ps xs w := by
  rw [run_gen hx (Nat.zero_le _)]
  rfl
theorem run_len (ps : List Part) (xs : List Int) (w : Int) : (Ct.run ps xs 0 w).1.length = xs.length := runN_len ps 0 (xs, w) _
theorem run_app {ps qs : List Part} {xs ys : List Int} (w : Int) (hx : xs.length = ps.length) (hy : ys.length = qs.length) :
    Ct.run (ps ++ qs) (xs ++ ys) 0 w = ((Ct.run ps xs 0 w).1 ++ (Ct.run qs ys 0 (Ct.run ps xs 0 w).2).1, (Ct.run qs ys 0 (Ct.run ps xs 0 w).2).2) := by
  rw [run0 w (by rw [List.length_append, List.length_append, hx, hy]), gen_app ppz qs ys ps xs w hx, run0 w hx, run0 _ hy]
theorem run_sg {ps : List Part} {xs : List Int} {w : Int} (hw : w = 0 ∨ Sign w) : (Ct.run ps xs 0 w).2 = 0 ∨ Sign (Ct.run ps xs 0 w).2 := by
  rcases hw with e | e
  · rw [e, run_zero]
    exact .inl rfl
  · exact runN_sign ps 0 (xs, w) e _
theorem fedS_sg {ps : List Part} : ∀ {ss : List Int} {xs : List Int}, (∀ s ∈ ss, s = 0 ∨ Sign s) → ∀ s ∈ (fedS ps xs ss).2, s = 0 ∨ Sign s
  | [], _, _, _, h => by cases h
  | s :: r, xs, hs, t, h => by
    rcases List.mem_cons.mp h with h | h
    · rw [h]
      exact run_sg (hs s List.mem_cons_self)
    · exact fedS_sg (ss := r) (fun u hu => hs u (List.mem_cons_of_mem s hu)) t h
theorem fedS_len1 (ps : List Part) : ∀ (ss : List Int) (xs : List Int), (fedS ps xs ss).1.length = xs.length
  | [], _ => rfl
  | s :: r, xs => by rw [fedS, fedS_len1 ps r, run_len]
theorem fed_app {ps qs : List Part} : ∀ {ss : List Int} {xs ys : List Int}, xs.length = ps.length → ys.length = qs.length →
    fedS (ps ++ qs) (xs ++ ys) ss = ((fedS ps xs ss).1 ++ (fedS qs ys (fedS ps xs ss).2).1, (fedS qs ys (fedS ps xs ss).2).2)
  | [], _, _, _, _ => rfl
  | s :: r, xs, ys, hx, hy => by
    have ih := fed_app (ss := r) (xs := (Ct.run ps xs 0 s).1) (ys := (Ct.run qs ys 0 (Ct.run ps xs 0 s).2).1) (by rw [run_len, hx]) (by rw [run_len, hy])
    rw [fedS, run_app s hx hy, fedS]
    show ((fedS (ps ++ qs) ((Ct.run ps xs 0 s).1 ++ (Ct.run qs ys 0 (Ct.run ps xs 0 s).2).1) r).1, (Ct.run qs ys 0 (Ct.run ps xs 0 s).2).2 :: (fedS (ps ++ qs) ((Ct.run ps xs 0 s).1 ++ (Ct.run qs ys 0 (Ct.run ps xs 0 s).2).1) r).2) = _
    rw [ih]
    rfl
theorem gen_nought {w : Int} : ∀ {ps : List Part} {xs : List Int}, StandL ps xs → gen (ptw w) ps xs 0 = (xs, 0)
  | [], [], _ => rfl
  | p :: ps, x :: xs, h => by
    obtain ⟨ok, x0, x1, hr⟩ := h
    show ((ptw w p x 0).1 :: (gen (ptw w) ps xs (ptw w p x 0).2).1, (gen (ptw w) ps xs (ptw w p x 0).2).2) = _
    rw [show ptw w p x 0 = (x, 0) from pt_zero ok x0 x1, gen_nought hr]
theorem gen_upto {w : Int} (hw : Sign w) : ∀ {ps : List Part} {xs : List Int} {t : Int}, 0 ≤ t → StandL ps xs → 0 ≤ (gen (ptw w) ps xs t).2 ∧ (gen (ptw w) ps xs t).2 ≤ t
  | [], [], t, h, _ => ⟨h, Int.le_refl _⟩
  | p :: ps, x :: xs, t, h, hs => by
    obtain ⟨ok, x0, x1, hr⟩ := hs
    have e : ((t.toNat : Nat) : Int) = t := Int.toNat_of_nonneg h
    have h1 := pt_nn ok x0 x1 hw t.toNat
    have h2 := pt_le ok x0 x1 hw t.toNat
    rw [e] at h1 h2
    have ih := gen_upto (ps := ps) (xs := xs) (t := (ptw w p x t).2) hw h1 hr
    exact ⟨ih.1, Int.le_trans ih.2 h2⟩
/-- a deed at a part of the first train: what it gives comes to the second one -/
theorem deed_front {ps qs : List Part} {xs ys : List Int} {d : Deed} (hx : StandL ps xs) (hy : StandL qs ys) (hd : d.ok ps.length) {w' : Int} {t' : Nat} (hw' : w' = if (deedL ps xs d).2 < 0 then -1 else 1) (ht' : (t' : Int) = if (deedL ps xs d).2 < 0 then -(deedL ps xs d).2 else (deedL ps xs d).2) :
    t' ≤ d.t ∧ deedL (ps ++ qs) (xs ++ ys) d = ((deedL ps xs d).1 ++ (deedL qs ys ⟨0, w', t'⟩).1, (deedL qs ys ⟨0, w', t'⟩).2) := by
  have hl := hx.len
  have e1 : (xs ++ ys).take d.i = xs.take d.i := List.take_append_of_le_length (by have := hd.1; omega)
  have e2 : (xs ++ ys).drop d.i = xs.drop d.i ++ ys := List.drop_append_of_le_length (by have := hd.1; omega)
  have e3 : (ps ++ qs).drop d.i = ps.drop d.i ++ qs := List.drop_append_of_le_length (by have := hd.1; omega)
  have hg := gen_upto (t := (d.t : Int)) hd.2 (by omega) (stand_drop d.i hx)
  have ga := gen_app (ptw d.w) qs ys (ps.drop d.i) (xs.drop d.i) d.t (by rw [List.length_drop, List.length_drop, hl])
  unfold deedL at hw' ht' ⊢
  rw [e1, e2, e3, ga]
  generalize gen (ptw d.w) (ps.drop d.i) (xs.drop d.i) d.t = r at *
  have hw' : w' = if d.w * r.2 < 0 then -1 else 1 := hw'
  have ht' : (t' : Int) = if d.w * r.2 < 0 then -(d.w * r.2) else d.w * r.2 := ht'
  have et : (t' : Int) = r.2 := by
    rcases hd.2 with e | e <;> rw [e] at ht' <;> split at ht' <;> omega
  refine ⟨by omega, ?_⟩
  show (xs.take d.i ++ (r.1 ++ (gen (ptw d.w) qs ys r.2).1), d.w * (gen (ptw d.w) qs ys r.2).2) = ((xs.take d.i ++ r.1) ++ ([] ++ (gen (ptw w') qs ys (t' : Int)).1), w' * (gen (ptw w') qs ys (t' : Int)).2)
  rw [et, List.nil_append, List.append_assoc]
  by_cases h0 : r.2 = 0
  · rw [h0, gen_nought hy, gen_nought hy, Int.mul_zero, Int.mul_zero]
  · have ew : w' = d.w := by
      rcases hd.2 with e | e <;> rw [e] at hw' ⊢ <;> rw [hw'] <;> split <;> omega
    rw [ew]
theorem deed_behind {ps qs : List Part} {xs ys : List Int} {d : Deed} {j : Nat} (hx : xs.length = ps.length) (hi : d.i = ps.length + j) : deedL (ps ++ qs) (xs ++ ys) d = (xs ++ (deedL qs ys ⟨j, d.w, d.t⟩).1, (deedL qs ys ⟨j, d.w, d.t⟩).2) := by
  unfold deedL
  rw [hi]
  have e1 : (xs ++ ys).take (ps.length + j) = xs ++ ys.take j := by rw [← hx, List.take_length_add_append]
  have e2 : (xs ++ ys).drop (ps.length + j) = ys.drop j := by rw [← hx, List.drop_length_add_append]
  have e3 : (ps ++ qs).drop (ps.length + j) = qs.drop j := by rw [List.drop_length_add_append]
  rw [e1, e2, e3, List.append_assoc]
end Ct

namespace Ct
open PySem PySem.Spec PyProof.Rows L2
/-! a row done often -/
def itR (ps : List Part) (ds : List Deed) : Nat → List Int → List Int × Int
  | 0, xs => (xs, 0)
  | n + 1, xs => ((rowL ps ds ((itR ps ds n xs).1, 0)).1, (itR ps ds n xs).2 + (rowL ps ds ((itR ps ds n xs).1, 0)).2)
theorem itR_stand {ps : List Part} {ds : List Deed} {xs : List Int} (h : StandL ps xs) (hd : ∀ d ∈ ds, d.ok ps.length) : ∀ n, StandL ps (itR ps ds n xs).1
  | 0 => h
  | n + 1 => rowL_stand (s := ((itR ps ds n xs).1, 0)) (itR_stand h hd n) hd
theorem itR_round {ps : List Part} {ds : List Deed} {xs : List Int} {j k : Nat} (e : (itR ps ds j xs).1 = (itR ps ds k xs).1) : ∀ m, (itR ps ds (k + m) xs).1 = (itR ps ds (j + m) xs).1 ∧ (itR ps ds (k + m) xs).2 - (itR ps ds (j + m) xs).2 = (itR ps ds k xs).2 - (itR ps ds j xs).2
  | 0 => ⟨e.symm, rfl⟩
  | m + 1 => by
    obtain ⟨h1, h2⟩ := itR_round e m
    show (rowL ps ds ((itR ps ds (k + m) xs).1, 0)).1 = (rowL ps ds ((itR ps ds (j + m) xs).1, 0)).1 ∧ (itR ps ds (k + m) xs).2 + (rowL ps ds ((itR ps ds (k + m) xs).1, 0)).2 - ((itR ps ds (j + m) xs).2 + (rowL ps ds ((itR ps ds (j + m) xs).1, 0)).2) = _
    rw [h1]
    exact ⟨rfl, by omega⟩
theorem itR_rounds {ps : List Part} {ds : List Deed} {xs : List Int} {j k : Nat} (hjk : j ≤ k) (e : (itR ps ds j xs).1 = (itR ps ds k xs).1) (m : Nat) : ∀ r : Nat, itR ps ds (j + m + r * (k - j)) xs = ((itR ps ds (j + m) xs).1, (itR ps ds (j + m) xs).2 + (r : Int) * ((itR ps ds k xs).2 - (itR ps ds j xs).2))
  | 0 => by
    rw [Nat.zero_mul, Nat.add_zero, show ((0 : Nat) : Int) = 0 from rfl, Int.zero_mul, Int.add_zero]
  | r + 1 => by
    have ih := itR_rounds hjk e m r
    have hr := itR_round e (m + r * (k - j))
    rw [← Nat.add_assoc j m, ih] at hr
    rw [show j + m + (r + 1) * (k - j) = k + (m + r * (k - j)) by rw [Nat.add_mul, Nat.one_mul]; omega]
    refine Prod.ext hr.1 ?_
    have h2 : (itR ps ds (k + (m + r * (k - j))) xs).2 - ((itR ps ds (j + m) xs).2 + (r : Int) * ((itR ps ds k xs).2 - (itR ps ds j xs).2)) = (itR ps ds k xs).2 - (itR ps ds j xs).2 := hr.2
    show (itR ps ds (k + (m + r * (k - j))) xs).2 = (itR ps ds (j + m) xs).2 + ((r + 1 : Nat) : Int) * ((itR ps ds k xs).2 - (itR ps ds j xs).2)
    rw [show ((r + 1 : Nat) : Int) = (r : Int) + 1 by omega, Int.add_mul, Int.one_mul]
    omega
/-- the way round, reckoned -/
theorem itR_at {ps : List Part} {ds : List Deed} {xs : List Int} {j k n : Nat} (hjk : j < k) (hn : j ≤ n) (e : (itR ps ds j xs).1 = (itR ps ds k xs).1) :
    itR ps ds n xs = ((itR ps ds (j + (n - j) % (k - j)) xs).1, (itR ps ds (j + (n - j) % (k - j)) xs).2 + (((n - j) / (k - j) : Nat) : Int) * ((itR ps ds k xs).2 - (itR ps ds j xs).2)) := by
  have h := itR_rounds (Nat.le_of_lt hjk) e ((n - j) % (k - j)) ((n - j) / (k - j))
  rw [show j + (n - j) % (k - j) + (n - j) / (k - j) * (k - j) = n by
    have := Nat.mod_add_div (n - j) (k - j)
    rw [Nat.mul_comm (k - j)] at this
    omega] at h
  exact h
/-! no more unlike stands than there are -/
theorem filt_len {N : Nat} : ∀ {l : List Nat}, l.Nodup → (∀ x ∈ l, x < N + 1) → l.length ≤ (l.filter fun x => decide (x < N)).length + 1
  | [], _, _ => Nat.zero_le _
  | a :: r, hn, h => by
    obtain ⟨h1, h2⟩ := List.nodup_cons.mp hn
    by_cases ha : a < N
    · rw [List.filter_cons, if_pos (decide_eq_true ha), List.length_cons, List.length_cons]
      have := filt_len h2 fun x hx => h x (List.mem_cons_of_mem _ hx)
      omega
    · have ea : a = N := by
        have := h a List.mem_cons_self
        omega
      have : (r.filter fun x => decide (x < N)) = r := List.filter_eq_self.mpr fun x hx => decide_eq_true (by
        have h3 := h x (List.mem_cons_of_mem _ hx)
        have h4 : x ≠ N := fun z => h1 (by rw [ea, ← z]; exact hx)
        omega)
      rw [List.filter_cons, if_neg (by rw [decide_eq_false ha]; exact Bool.false_ne_true), this, List.length_cons]
      omega
theorem holes : ∀ (N : Nat) (l : List Nat), l.Nodup → (∀ x ∈ l, x < N) → l.length ≤ N
  | 0, [], _, _ => Nat.le_refl _
  | 0, a :: _, _, h => absurd (h a List.mem_cons_self) (Nat.not_lt_zero a)
  | N + 1, l, hn, h => by
    have h1 := filt_len hn h
    have h2 := holes N (l.filter fun x => decide (x < N)) (hn.filter _) fun x hx => of_decide_eq_true (List.mem_filter.mp hx).2
    omega
def code : List Part → List Int → Nat
  | _ :: ps, x :: xs => x.toNat * (stands ps).toNat + code ps xs
  | _, _ => 0
theorem code_lt : ∀ {ps : List Part} {xs : List Int}, StandL ps xs → code ps xs < (stands ps).toNat
  | [], [], _ => by decide
  | p :: ps, x :: xs, ⟨ok, h0, h1, h⟩ => by
    have ih := code_lt (ps := ps) (xs := xs) h
    have po := ok.pos.1
    show x.toNat * (stands ps).toNat + code ps xs < (p.places * stands ps).toNat
    have sp : 1 ≤ stands ps := stands_pos ps h.okp
    have e : (p.places * stands ps).toNat = p.places.toNat * (stands ps).toNat := by
      rw [Int.toNat_mul (by omega) (by omega)]
    rw [e]
    have hx : x.toNat + 1 ≤ p.places.toNat := by omega
    have := Nat.mul_le_mul_right (stands ps).toNat hx
    rw [Nat.add_mul, Nat.one_mul] at this
    omega
theorem code_inj : ∀ {ps : List Part} {xs ys : List Int}, StandL ps xs → StandL ps ys → code ps xs = code ps ys → xs = ys
  | [], [], [], _, _, _ => rfl
  | p :: ps, x :: xs, y :: ys, ⟨_, a0, _, ha⟩, ⟨_, b0, _, hb⟩, e => by
    have la := code_lt ha
    have lb := code_lt hb
    have e2 : x.toNat * (stands ps).toNat + code ps xs = y.toNat * (stands ps).toNat + code ps ys := e
    generalize (stands ps).toNat = N at *
    have d1 : (x.toNat * N + code ps xs) / N = x.toNat := by
      rw [Nat.mul_comm, Nat.mul_add_div (by omega), Nat.div_eq_of_lt la, Nat.add_zero]
    have d2 : (y.toNat * N + code ps ys) / N = y.toNat := by
      rw [Nat.mul_comm, Nat.mul_add_div (by omega), Nat.div_eq_of_lt lb, Nat.add_zero]
    rw [e2, d2] at d1
    have ex : x = y := by omega
    subst ex
    rw [code_inj ha hb (by omega)]
theorem few_stands {ps : List Part} {ds : List Deed} {xs : List Int} (h : StandL ps xs) (hd : ∀ d ∈ ds, d.ok ps.length) {k : Nat} (dist : ∀ i j, i < j → j < k → (itR ps ds i xs).1 ≠ (itR ps ds j xs).1) : k ≤ (stands ps).toNat := by
  have := holes (stands ps).toNat ((List.range k).map fun i => code ps (itR ps ds i xs).1) ?_ ?_
  · rw [List.length_map, List.length_range] at this
    exact this
  · rw [List.nodup_iff_pairwise_ne, List.pairwise_map]
    refine List.Pairwise.imp_of_mem (fun {a b} ha hb hab => ?_) (List.pairwise_lt_range (n := k))
    rw [List.mem_range] at ha hb
    exact fun z => dist a b hab hb (code_inj (itR_stand h hd a) (itR_stand h hd b) z)
  · intro x hx
    obtain ⟨i, _, rfl⟩ := List.mem_map.mp hx
    exact code_lt (itR_stand h hd i)
/-! how great a sum may be -/
theorem gen_le {w : Int} (hw : Sign w) : ∀ (ps : List Part) (xs : List Int) (t : Int), 0 ≤ t → StandL ps xs → (gen (ptw w) ps xs t).2 ≤ t
  | [], [], t, _, _ => Int.le_refl _
  | p :: ps, x :: xs, t, ht, ⟨ok, h0, h1, h⟩ => by
    have e : ((t.toNat : Nat) : Int) = t := by omega
    have a := pt_le ok h0 h1 hw t.toNat
    have n := pt_nn ok h0 h1 hw t.toNat
    rw [e] at a n
    exact Int.le_trans (gen_le hw ps xs (pt p x w t).2 n h) a
theorem deedL_sum {ps : List Part} {xs : List Int} {d : Deed} (h : StandL ps xs) (hd : d.ok ps.length) : -(d.t : Int) ≤ (deedL ps xs d).2 ∧ (deedL ps xs d).2 ≤ d.t := by
  have g1 := (gen_stand hd.2 _ _ (d.t : Int) (by omega) (stand_drop d.i h)).2
  have g2 := gen_le hd.2 _ _ (d.t : Int) (by omega) (stand_drop d.i h)
  show -(d.t : Int) ≤ d.w * (gen (ptw d.w) (ps.drop d.i) (xs.drop d.i) d.t).2 ∧ d.w * (gen (ptw d.w) (ps.drop d.i) (xs.drop d.i) d.t).2 ≤ d.t
  generalize (gen (ptw d.w) (ps.drop d.i) (xs.drop d.i) d.t).2 = g at *
  rcases hd.2 with e | e
  · rw [e, Int.one_mul]
    exact ⟨by omega, g2⟩
  · rw [e]
    exact ⟨by omega, by omega⟩
theorem rowL_sum {ps : List Part} : ∀ {ds : List Deed} {s : List Int × Int}, StandL ps s.1 → (∀ d ∈ ds, d.ok ps.length ∧ d.t < 2 ^ 200) → s.2 - ds.length * 2 ^ 200 ≤ (rowL ps ds s).2 ∧ (rowL ps ds s).2 ≤ s.2 + ds.length * 2 ^ 200
  | [], s, _, _ => by
    show s.2 - ((0 : Nat) : Int) * 2 ^ 200 ≤ s.2 ∧ s.2 ≤ s.2 + ((0 : Nat) : Int) * 2 ^ 200
    rw [show ((0 : Nat) : Int) = 0 from rfl, Int.zero_mul]
    omega
  | d :: ds, s, h, hd => by
    have d0 := hd d List.mem_cons_self
    have a := deedL_sum h d0.1
    have ih := rowL_sum (ds := ds) (s := ((deedL ps s.1 d).1, s.2 + (deedL ps s.1 d).2)) (deedL_stand h d0.1) fun e he => hd e (List.mem_cons_of_mem _ he)
    have i1 : s.2 + (deedL ps s.1 d).2 - (ds.length : Int) * 2 ^ 200 ≤ (rowL ps (d :: ds) s).2 := ih.1
    have i2 : (rowL ps (d :: ds) s).2 ≤ s.2 + (deedL ps s.1 d).2 + (ds.length : Int) * 2 ^ 200 := ih.2
    have dt := d0.2
    rw [List.length_cons, show ((ds.length + 1 : Nat) : Int) = (ds.length : Int) + 1 by omega, Int.add_mul, Int.one_mul]
    omega
theorem itR_sum {ps : List Part} {ds : List Deed} {xs : List Int} (h : StandL ps xs) (hd : ∀ d ∈ ds, d.ok ps.length ∧ d.t < 2 ^ 200) (hl : ds.length ≤ 1000) : ∀ n : Nat, -(n : Int) * 2 ^ 210 ≤ (itR ps ds n xs).2 ∧ (itR ps ds n xs).2 ≤ (n : Int) * 2 ^ 210
  | 0 => by
    show -((0 : Nat) : Int) * 2 ^ 210 ≤ 0 ∧ (0 : Int) ≤ ((0 : Nat) : Int) * 2 ^ 210
    decide
  | n + 1 => by
    have ih := itR_sum h hd hl n
    have r := rowL_sum (s := ((itR ps ds n xs).1, 0)) (itR_stand h (fun d hm => (hd d hm).1) n) hd
    have r1 : (0 : Int) - ds.length * 2 ^ 200 ≤ (rowL ps ds ((itR ps ds n xs).1, 0)).2 := r.1
    have r2 : (rowL ps ds ((itR ps ds n xs).1, 0)).2 ≤ 0 + ds.length * 2 ^ 200 := r.2
    show -((n + 1 : Nat) : Int) * 2 ^ 210 ≤ (itR ps ds n xs).2 + (rowL ps ds ((itR ps ds n xs).1, 0)).2 ∧ (itR ps ds n xs).2 + (rowL ps ds ((itR ps ds n xs).1, 0)).2 ≤ ((n + 1 : Nat) : Int) * 2 ^ 210
    rw [show ((n + 1 : Nat) : Int) = (n : Int) + 1 by omega]
    omega
theorem inl_inj : ∀ {xs ys : List Int}, xs.map (Sum.inl : Int → Key) = ys.map Sum.inl → xs = ys
  | [], [], _ => rfl
  | [], _ :: _, h => nomatch h
  | _ :: _, [], h => nomatch h
  | x :: xs, y :: ys, h => by
    injection h with h1 h2
    injection h1 with h3
    rw [h3, inl_inj h2]
theorem key_map (xs : List Int) : (xs.map (Sum.inl : Int → Key)).map kV = xs.map V.int := by
  rw [List.map_map]
  rfl
theorem units65 {k : Nat} {A : Around} (r : Room k A) : A.units + 65 < cLine := by
  have := r.un
  omega
theorem eqv_ints : ∀ (xs ys : List Int), PyData.eqvAll (xs.map PyData.int) (ys.map PyData.int) = decide (xs = ys)
  | [], [] => rfl
  | [], _ :: _ => rfl
  | _ :: _, [] => rfl
  | x :: xs, y :: ys => by
    rw [List.map_cons, List.map_cons, PyData.eqvAll, eqv_ints xs ys, PyData.eqv]
    by_cases e : x = y
    · subst e
      by_cases e2 : xs = ys
      · subst e2
        simp
      · rw [decide_eq_false e2, decide_eq_false (fun z => e2 (List.cons.inj z).2), Bool.and_false]
    · rw [decide_eq_false (fun z => e (List.cons.inj z).1), show (x == y) = false from beq_eq_false_iff_ne.mpr e, Bool.false_and]
theorem eqv_tupD (xs ys : List Int) : PyData.eqv (tupD xs) (tupD ys) = decide (xs = ys) := by
  unfold tupD
  rw [PyData.eqv]
  exact eqv_ints xs ys
theorem itR_one {ps : List Part} {xs : List Int} {i : Nat} {w : Int} (h : StandL ps xs) (hi : i < ps.length) (hw : Sign w) : ∀ n, itR ps [⟨i, w, 1⟩] n xs = pushes ps i w n (xs, 0)
  | 0 => rfl
  | n + 1 => by
    have ih := itR_one h hi hw n
    have hs : StandL ps (pushes ps i w n (xs, 0)).1 := pushes_stand h hi hw 0 n
    have e : rowL ps [⟨i, w, 1⟩] ((pushes ps i w n (xs, 0)).1, 0) = pushes ps i w 1 ((pushes ps i w n (xs, 0)).1, 0) := rowL_one (s := ((pushes ps i w n (xs, 0)).1, 0)) (d := ⟨i, w, 1⟩) hs ⟨hi, hw⟩
    show ((rowL ps [⟨i, w, 1⟩] ((itR ps [⟨i, w, 1⟩] n xs).1, 0)).1, (itR ps [⟨i, w, 1⟩] n xs).2 + (rowL ps [⟨i, w, 1⟩] ((itR ps [⟨i, w, 1⟩] n xs).1, 0)).2) = _
    rw [ih, e]
    refine Prod.ext rfl ?_
    show (pushes ps i w n (xs, 0)).2 + (0 + (Ct.run ps (pushes ps i w n (xs, 0)).1 i w).2) = (pushes ps i w n (xs, 0)).2 + (Ct.run ps (pushes ps i w n (xs, 0)).1 i w).2
    omega
theorem itR_deed {ps : List Part} {xs : List Int} {i : Nat} {w : Int} (h : StandL ps xs) (hi : i < ps.length) (hw : Sign w) (n : Nat) : itR ps [⟨i, w, 1⟩] n xs = rowL ps [⟨i, w, n⟩] (xs, 0) := by
  rw [itR_one h hi hw n, rowL_one (s := (xs, 0)) (d := ⟨i, w, n⟩) h ⟨hi, hw⟩]
theorem itR_add {ps : List Part} {ds : List Deed} (a : Nat) (xs : List Int) : ∀ b, itR ps ds (a + b) xs = ((itR ps ds b (itR ps ds a xs).1).1, (itR ps ds a xs).2 + (itR ps ds b (itR ps ds a xs).1).2)
  | 0 => Prod.ext rfl (Int.add_zero _).symm
  | b + 1 => by
    have ih := itR_add (ps := ps) (ds := ds) a xs b
    show ((rowL ps ds ((itR ps ds (a + b) xs).1, 0)).1, (itR ps ds (a + b) xs).2 + (rowL ps ds ((itR ps ds (a + b) xs).1, 0)).2) = _
    rw [ih]
    refine Prod.ext rfl ?_
    show (itR ps ds a xs).2 + (itR ps ds b (itR ps ds a xs).1).2 + _ = (itR ps ds a xs).2 + ((itR ps ds b (itR ps ds a xs).1).2 + _)
    rw [Int.add_assoc]
section
variable {K : PySem.W.Frag} {H : Hp} {σ : L2.St} {Q : VK} {D : Ends}
theorem w_dnewT (h : ∀ p, H p = none → Q (.ref p) (upd H p (.dT []))) : tDNewT σ H Q := h
theorem w_dnotin {ty td : TE} (h : ty σ H fun y H1 => td σ H1 fun x H2 => ∃ a o, x = .ref a ∧ DGet H2 a y o ∧ Q (.bl (!o.isSome)) H2) : tDNotIn ty td σ H Q := h
theorem w_dget {td ty : TE} (h : td σ H fun x H1 => ty σ H1 fun y H2 => ∃ a v, x = .ref a ∧ DGet H2 a y (some v) ∧ Q v H2) : tDGet td ty σ H Q := h
theorem w_dput {td ty tv : TE} (h : tv σ H fun v H1 => td σ H1 fun x H2 => ty σ H2 fun y H3 => ∃ a H4, x = .ref a ∧ DPut H3 a y v H4 ∧ D.nx σ H4) : sDPut td ty tv D σ H := h
end
end Ct

/-! all(.. for .. in ..), any(.. for .. in ..): the generator's own frame -/
namespace Ct
open PySem PySem.Spec PyProof.Rows L2 GenW
/-- the table of a def's code objects, whatever it holds -/
def TabX (P : Addr) : HO := .ext fun h => ∃ ps : Array Value, h.get? P = some { cls := .none, data := .fields ps } ∧ TriplesOk ps.toList
theorem over_gen {A : Around} {elt : Expr} {gs : List Comprehension} {scope : Scope} {pos : Pos} {it acc : Value} {env : Env} : A.over (.compLoop (.GeneratorExp elt gs scope pos) 0 it acc env) [] = A.deeper env := by
  first
    | rfl
    | (obtain ⟨hd, d, fr, gu, u⟩ := A; simp [Around.over, Around.deeper, marksOver, frameCount, unitsOf, envsOf, guardsOf, pushEnvs, pushGuards, Code.envs, Code.env?, Code.isFrame, Code.guards, Code.isGuard, Code.weight, Code.frames, Code.isCreation, Code.isCaller, Code.cUnits])
theorem over_genS {A : Around} {elt : Expr} {gs : List Comprehension} {scope : Scope} {pos : Pos} {it acc : Value} {env : Env} : A.over (.compStart (.GeneratorExp elt gs scope pos) 0 it acc env) [] = A.deeper env := by
  first
    | rfl
    | (obtain ⟨hd, d, fr, gu, u⟩ := A; simp [Around.over, Around.deeper, marksOver, frameCount, unitsOf, envsOf, guardsOf, pushEnvs, pushGuards, Code.envs, Code.env?, Code.isFrame, Code.guards, Code.isGuard, Code.weight, Code.frames, Code.isCreation, Code.isCaller, Code.cUnits])
section
variable {X : Cx} {pins : List (Addr × Obj)} {σ : L2.St} {H : Hp} {s : Shared}
theorem tabx_ok {P0 : Program} {w : World} {H : Hp} {h : Heap} {P : Addr} {ps : Array Value} (hm : h.get? P = some { cls := .none, data := .fields ps }) (ht : TriplesOk ps.toList) : ObjOk P0 w H h P (TabX P) :=
  ⟨⟨ps, hm, ht⟩, ⟨_, hm⟩, fun h1 h2 ⟨qs, a, b⟩ st => ⟨qs, st _ a, b⟩⟩
/-- the table has grown, all else is kept -/
theorem inv_tabX {P : Addr} {ps : Array Value} {h' : Heap} {g' : Array GenState} {d' : Drawn} {t' : Nat} (I : Inv X pins σ H s) (hP : H P = some (TabX P)) (k : ∀ b o, b ≠ P → s.heap.get? b = some o → h'.get? b = some o)
    (hm : h'.get? P = some { cls := .none, data := .fields ps }) (ht : TriplesOk ps.toList) (hg : AllBare g') : Inv X pins σ H { s with heap := h', gens := g', drawn := d', toks := t' } := by
  have nP : ∀ b u, H b = some u → u ≠ TabX P → b ≠ P := fun b u e q z => by
    rw [z, hP] at e
    exact q (Option.some.inj e).symm
  have nN : ∀ b, H b = none → b ≠ P := fun b e z => by
    rw [z, hP] at e
    cases e
  refine I.step (g' := g') (d' := d') (ch := []) (fun b hb => absurd hb (by simp)) (fun b o _ _ _ e n => k b o (nN b n) e) (fun b o _ _ _ e n => ⟨o.slots, k b o (nN b n) e⟩)
    (fun b o _ e n => n) (fun b o _ e => ?_) (fun b xs e => e) (fun b o u e => e) (fun b qs e => ⟨#[], by rw [e]; simp⟩) (fun m hn => ?_) (fun b u e => ?_) hg
  · by_cases hb : b = P
    · rw [hb]
      exact ⟨_, hm⟩
    · exact ⟨o, k b o hb e⟩
  · obtain ⟨ob, es, ep, ho, r⟩ := hn
    exact ⟨ob, es, ep, k _ ob (nN _ I.free) ho, r⟩
  · by_cases hb2 : b = P
    · rw [hb2, hP] at e
      cases e
      rw [hb2]
      exact tabx_ok hm ht
    · refine (I.hok b u e).stay (fun d v hd q => k d v ?_ q) (fun d q => q) fun d xs q => q
      rcases hd with z | z
      · rw [z]
        exact hb2
      · exact nP d _ z (fun q => by unfold TabX at q; cases q)
/-- the context of a generator expression's frame: its iterator's objects at fp, what stands at pn -/
abbrev gxc (X : Cx) (B : Around) (s : Shared) (H : Hp) (scope : Scope) (cenv : Env) (fp : List Addr) (pn : List (Addr × Obj)) : Cx :=
  { X with A := B.deeper cenv, s_0 := s, H_0 := H, env := cenv, outer := X.stack, stack := cenv :: X.stack, ex := fp, fn := fun x => scope.names.lookup x == some .cell, pn := pn, xe := fun _ _ => False }
theorem lookup_clo {cells : List (Str × Addr)} {names : List (Str × NameKind)} {y : Str} {c : Addr} (e : (cloFrom cells names []).lookup y = some c) : (y, NameKind.free) ∈ names ∧ c = (cells.lookup y).getD 0 := by
  rcases cloFrom_mem (PySem.mem_of_lookup e) with z | z
  · cases z
  · exact z
/-- the frame is made -/
theorem gx_start {B : Around} {scope : Scope} {own : List (Str × Nat)} {fp : List Addr} {code : Value} {itv : Value} {h5 : Heap} {g5 : Array GenState} {t5 : Nat} {d5 : Drawn} {a : Addr} {go : Obj}
    (I : Inv X pins σ H s) (hB : B.frames = some X.stack) (hBh : B.handled = none) (ok : BlkOk X.N X.env.scope scope own) (hN : X.N.Nodup) (hcell : ∀ y ∈ scope.names, y.2 ≠ .cell) (hfp : ∀ b ∈ fp, FpOk X pins H b ∧ b < s.heap.objs.size)
    (hns : h5.Ns s.heap.objs.size (fun y => if y = ".0" then some itv else none)) (kp : ∀ b o, s.heap.get? b = some o → h5.get? b = some o)
    (ha : s.heap.objs.size < a) (hgo : h5.get? a = some go) (hgc : ∀ v, go.data ≠ .cell v) (hg5 : AllBare g5) :
    Inv (gxc X B s H scope (genEnv scope (cloFrom X.env.cells scope.names []) s.heap.objs.size code builtinsNs X.env) fp [(a, go)]) [] (wipe σ (own.map (·.2))) H { s with heap := h5, gens := g5, toks := t5, drawn := d5 } := by
  have hfree : ∀ y ∈ scope.names, y.2 = .free → ∃ c, X.env.cells.lookup y.1 = some c := fun y hy e => by
    rcases ok.free y hy e with k | k
    · exact I.ok.has _ (.inl k)
    · exact I.ok.has _ (.inr k)
  generalize hcenv : genEnv scope (cloFrom X.env.cells scope.names []) s.heap.objs.size code builtinsNs X.env = cenv
  have hL : cenv.locals = s.heap.objs.size := by rw [← hcenv]; rfl
  have hcl : cenv.cells = cloFrom X.env.cells scope.names [] := by rw [← hcenv]; rfl
  have hsc : cenv.scope = scope := by rw [← hcenv]; rfl
  have mem : ∀ {y c}, cenv.cells.lookup y = some c → X.env.cells.lookup y = some c ∧ c < s.heap.objs.size := fun {y c} e => by
    rw [hcl] at e
    obtain ⟨h1, rfl⟩ := lookup_clo e
    obtain ⟨c, hc⟩ := hfree _ h1 rfl
    rw [hc]
    obtain ⟨w, z⟩ := I.cell _ _ hc
    exact ⟨rfl, z.lt⟩
  have look : ∀ {y}, scope.names.lookup y = some .free → ∃ c, cenv.cells.lookup y = some c ∧ X.env.cells.lookup y = some c := fun {y} hl => by
    have hy : (y, NameKind.free) ∈ scope.names := PySem.mem_of_lookup hl
    obtain ⟨c', e'⟩ := mem_lookup (cloFrom_has (cells := X.env.cells) (acc := []) hy)
    rw [← hcl] at e'
    exact ⟨c', e', (mem e').1⟩
  have okB : (gxc X B s H scope cenv fp [(a, go)]).Ok := by
    refine ⟨I.ok.mod, by show cenv.scope.kind = _; rw [hsc]; exact ok.kind, by show cenv.globals = _; rw [← hcenv]; exact I.ok.glob, by show cenv.builtins = _; rw [← hcenv]; rfl, by show s.heap.objs.size ≤ cenv.locals; rw [hL]; exact Nat.le_refl _,
      fun y z c e1 e2 => I.ok.inj y z c (mem e1).1 (mem e2).1, fun y hy => ?_, fun y c z e => ?_, fun _ => hBh, Around.frames_deeper hB, .inr ⟨rfl, ?_⟩, fun b hb => ⟨?_, fun y c e z => ?_⟩, I.bs, Nat.le_trans I.ok.bsz I.sz, fun b o e hb => ?_, fun b hb z => ?_, I.stack, I.stkFree⟩
    · have hy : cenv.scope.names.lookup y = some .cell ∨ cenv.scope.names.lookup y = some .free := hy
      rw [hsc] at hy
      rcases hy with hy | hy
      · exact absurd rfl (hcell _ (PySem.mem_of_lookup hy))
      · obtain ⟨c, h1, _⟩ := look hy
        exact ⟨c, h1⟩
    · have z : (scope.names.lookup y == some NameKind.cell) = true := z
      have z : scope.names.lookup y = some .cell := by simpa using z
      exact absurd rfl (hcell _ (PySem.mem_of_lookup z))
    · show cenv.frame = some cenv.locals
      rw [← hcenv]
      rfl
    · show b ≠ cenv.locals
      rw [hL]
      exact Nat.ne_of_lt (hfp b hb).2
    · exact (hfp b hb).1.2.2.2.2.1 y c (mem e).1 z
    · rcases (hfp b hb).1.2.2.2.1 with z | z
      · exact I.ok.noex b o e z
      · exact absurd (Nat.lt_of_lt_of_le (Heap.lt_size e) (Nat.le_trans I.ok.bsz z)) (Nat.lt_irrefl _)
    · rcases List.mem_cons.mp (I.stkSub b z) with z | z
      · exact (hfp b hb).1.2.1 z
      · exact (hfp b hb).1.2.2.1 z
  refine ⟨okB, rfl, hg5, Un.kept kp, ⟨fun y => if y = ".0" then some itv else none, ?_, fun i y av e1 e2 e3 => ?_⟩, fun y c e => ?_, ?_, fun y c e => ?_, fun p hp => ?_, I.hok.kept kp, by rw [wipe_length]; exact I.len⟩
  · show Heap.Ns _ cenv.locals _
    rw [hL]
    exact hns
  · obtain ⟨e2, hne⟩ := wipe_some e2
    have hfr : scope.names.lookup y = some .free := by
      have e3 : Vis cenv.scope y := e3
      rw [hsc] at e3
      have no : ∀ k, scope.names.lookup y = some k → ¬ (k = .local ∨ k = .cell) := fun k e hh => by
        rcases ok.own _ (PySem.mem_of_lookup e) hh with e' | e'
        · obtain ⟨p, hp, hpy⟩ := List.mem_map.mp e'
          have e3 := ok.ix p hp
          have : p.1 = y := hpy
          rw [this] at e3
          exact hne (List.mem_map.mpr ⟨p, hp, nodup_ix hN e3 e1⟩)
        · exact e' (List.mem_of_getElem? e1)
      rcases e3 with e3 | e3 | e3
      · exact absurd (.inl rfl) (no _ e3)
      · exact absurd (.inr rfl) (no _ e3)
      · exact e3
    obtain ⟨m, hn, hl⟩ := I.loc
    have hvis : Vis X.env.scope y := (ok.free _ (PySem.mem_of_lookup hfr) rfl).elim (fun k => .inr (.inl k)) (fun k => .inr (.inr k))
    obtain ⟨w, r, q⟩ := hl i y av e1 e2 hvis
    refine ⟨w, r, .inr ⟨.inr (by show cenv.scope.names.lookup y = _; rw [hsc]; exact hfr), ?_⟩⟩
    obtain ⟨c, h1, h2⟩ := look hfr
    rcases q with ⟨k, _⟩ | ⟨_, c', e', z⟩
    · have k : X.env.scope.names.lookup y = some .local := k
      rcases ok.free _ (PySem.mem_of_lookup hfr) rfl with k' | k' <;> rw [show X.env.scope.names.lookup y = _ from k'] at k <;> cases k
    · rw [h2] at e'
      cases e'
      exact ⟨c, h1, z.keeps kp⟩
  · obtain ⟨w, z⟩ := I.cell y c (mem e).1
    exact ⟨w, z.keeps kp⟩
  · show H cenv.locals = none
    rw [hL]
    exact I.hok.fresh (Nat.le_refl _)
  · exact I.freeC y c (mem e).1
  · have hp : p ∈ [(a, go)] ++ [] := hp
    rw [List.append_nil, List.mem_singleton] at hp
    subst hp
    refine ⟨hgo, I.hok.fresh (Nat.le_of_lt ha), ?_, ?_, hgc⟩
    · show a ≠ cenv.locals
      rw [hL]
      exact Nat.ne_of_gt ha
    · show a ∉ frs X.stack
      intro z
      rcases List.mem_cons.mp (I.stkSub a z) with z | z
      · have h1 := I.lt
        rw [← z] at h1
        exact Nat.lt_irrefl _ (Nat.lt_trans h1 ha)
      · exact I.nofs (Nat.le_of_lt ha) z
end
end Ct
namespace Ct
open PySem PySem.Spec PyProof.Rows L2 GenW
section
variable {X : Cx}
/-- what is known where the whole is done: b the answer -/
def GFin (P : Program) (w : World) (fr fp : List Addr) (H4 : Hp) (h4 : Heap) (Q : VK) (b : Bool) (h : Heap) : Prop := ∃ H', Un fr fp H4 H' h4 h ∧ HOk P w H' h ∧ Q (.bl b) H'
def GDone (P : Program) (w : World) (fr fp : List Addr) (H4 : Hp) (s4 : Shared) (Q : VK) (st : Bool) : Nat → Shared → Shared → Prop := fun _ _ s1 => s1.os = s4.os ∧ AllBare s1.gens ∧ GFin P w fr fp H4 s4.heap Q (!st) s1.heap
/-- the generator hands out a truth: the one that ends the walk, or another one, and goes on -/
def GYld (P : Program) (w : World) (fr fp : List Addr) (H4 : Hp) (s4 : Shared) (Q : VK) (st : Bool) (a : Addr) (g : Nat) : Protocol := fun _ _ v s1 kap =>
  ∃ b, v = .bool b ∧ s1.os = s4.os ∧ AllBare s1.gens ∧ s1.heap.NoLimit ∧ s1.heap.IsGen a g ∧ (if b = st then GFin P w fr fp H4 s4.heap Q st s1.heap else ∀ s' : Shared, s'.heap = s1.heap → s'.os = s1.os → AllBare s'.gens → kap (.send .none) s')
/-- all(..) with st = false, any(..) with st = true -/
def tGen (P : Addr) (st : Bool) (wi : TI) (g : TG) (te : TE) (vs : List Nat) : TE := fun σ H Q => wi σ H fun J H1 => H1 P = some (TabX P) ∧ ∃ W : Nat → Nat → Hp → Prop, (∃ m, W 0 m H1) ∧ ∀ i m H, W i m H →
  (J.stop i H ∧ Q (.bl (!st)) H) ∨ (J.go i H ∧ ∃ Nx : Hp → Prop, (∀ H', Nx H' → ∃ m', m' < m ∧ W (i + 1) m' H') ∧ ∀ x H', J.yld i H x H' → g x (wipe σ vs) H' fun σ2 H2 => wipe σ2 vs = wipe σ vs ∧ te σ2 H2 fun y H3 => ∃ b, y = .bl b ∧ if b = st then Q (.bl st) H3 else Nx H3)

theorem seg_gx {B : Around} {scope : Scope} {own : List (Str × Nat)} {fp : List Addr} {s4 : Shared} {H4 : Hp} {cenv : Env} {a : Addr} {go : Obj} {gn : Nat} {elt tg iter : Expr} {pos : Pos} {it : Addr} {tn : Nat → Heap → Prop} {J : It} {g : TG} {te : TE} {σ : L2.St} {Q : VK} {st : Bool} {W : Nat → Nat → Hp → Prop}
    (hc : X.calm = true) (hco : cenv.scope.isCoroutine = false) (hgn : ∀ h : Heap, h.get? a = some go → h.IsGen a gn)
    (T : Turn X.prog X.w X.K tg J fp it tn) (pg : PG (gxc X B s4 H4 scope cenv fp [(a, go)]) tg g) (pe : PE (gxc X B s4 H4 scope cenv fp [(a, go)]) elt te) (hfa : ∀ b ∈ fp, b ≠ a)
    (turn : ∀ i m H, W i m H → (J.stop i H ∧ Q (.bl (!st)) H) ∨ (J.go i H ∧ ∃ Nx : Hp → Prop, (∀ H', Nx H' → ∃ m', m' < m ∧ W (i + 1) m' H') ∧ ∀ x H', J.yld i H x H' → g x (wipe σ (own.map (·.2))) H' fun σ2 H2 => wipe σ2 (own.map (·.2)) = wipe σ (own.map (·.2)) ∧ te σ2 H2 fun y H3 => ∃ b, y = .bl b ∧ if b = st then Q (.bl st) H3 else Nx H3)) :
    ∀ (m n : Nat), m < n → ∀ (i : Nat) (s₀ s : Shared) (H : Hp), W i m H → Inv (gxc X B s4 H4 scope cenv fp [(a, go)]) [] (wipe σ (own.map (·.2))) H s → tn i s.heap → (∀ b ∈ fp, H b = none) →
      Seg (model X.prog X.w) B (fun n s₀ r s₁ => r = .ok .next ∧ GDone X.prog X.w (frs X.stack) fp H4 s4 Q st n s₀ s₁) (GYld X.prog X.w (frs X.stack) fp H4 s4 Q st a gn) n s₀
        (.compLoop (.GeneratorExp elt [⟨tg, iter, [], 0⟩] scope pos) 0 (.ref it) .none cenv)
        ((model X.prog X.w).den (.compLoop (.GeneratorExp elt [⟨tg, iter, [], 0⟩] scope pos) 0 (.ref it) .none cenv)) [] s := by
  intro m
  induction m using Nat.strongRecOn with
  | ind m ih =>
    intro n hmn i s₀ s H w I st5 n5
    have stat : ∀ {σ' : L2.St} {H' : Hp} {s' : Shared}, Inv (gxc X B s4 H4 scope cenv fp [(a, go)]) [] σ' H' s' → (∀ b ∈ fp, H' b = none) → ∀ b ∈ fp, FpOk (gxc X B s4 H4 scope cenv fp [(a, go)]) [] H' b := fun {σ' H' s'} I' hn b hb =>
      ⟨hn b hb, (I'.ok.exf b hb).1, I'.ok.exfs b hb, .inl hb, fun x c e => (I'.ok.exf b hb).2 x c e, fun p hp => by
        have hp : p ∈ [(a, go)] ++ [] := hp
        rw [List.append_nil, List.mem_singleton] at hp
        subst hp
        exact fun z => hfa b hb z.symm⟩
    have pinned : ∀ {pins' : List (Addr × Obj)} {σ' : L2.St} {H' : Hp} {s' : Shared}, Inv (gxc X B s4 H4 scope cenv fp [(a, go)]) pins' σ' H' s' → s'.heap.IsGen a gn := fun {pins' σ' H' s'} I' =>
      hgn _ (I'.pin (a, go) (List.mem_append_left _ (List.mem_singleton.mpr rfl))).1
    show Seg _ B _ _ _ s₀ _ ((compTurn (.GeneratorExp elt [⟨tg, iter, [], 0⟩] scope pos) 0 (.ref it) .none cenv).onRaise (leaving cenv)) [] s
    rw [compTurn_gen, Sem.onRaise_eq_wrap]
    refine seg_bind_wrap (wpAny_standAt ?_)
    rcases turn i m H w with ⟨stop, qq⟩ | ⟨goes, Nx, hNx, step⟩
    · refine seg_bind_wrap ?_
      rw [over_gen]
      refine wpAny_mono (T.done (gxc X B s4 H4 scope cenv fp [(a, go)]) rfl rfl rfl hc i [] s _ H (fun _ _ => False) I (stat I n5) st5 stop) (fun r s6 hr => ?_) (fun _ _ z => z.elim)
      obtain ⟨rfl, I6⟩ := hr
      exact seg_end (.ok .next) ⟨rfl, I6.os, I6.bare, H, I6.base, I6.hok, qq⟩
    · refine seg_bind_wrap ?_
      rw [over_gen]
      refine wpAny_mono (T.item (gxc X B s4 H4 scope cenv fp [(a, go)]) rfl rfl rfl hc i [] s _ H (fun _ _ => False) I (stat I n5) st5 goes) (fun r s6 hr => ?_) (fun _ _ z => z.elim)
      obtain ⟨u, rfl, h6⟩ := hr
      refine seg_bind_wrap ?_
      rw [over_gen]
      refine wpAny_mono h6 (fun _ s7 h7 => ?_) (fun _ _ z => z.elim)
      obtain ⟨x, H7, I7, r7, y7, st7, n7⟩ := h7
      have I7' := I7.pinned (stat I7 n7) (T.obj _ _ st7)
      refine seg_bind_wrap ?_
      rw [over_gen]
      refine wpAny_mono (pg.run _ s7 _ H7 x u _ I7' r7 (step x H7 y7)) (fun _ s8 h8 => ?_) (fun _ _ z => z.elim)
      obtain ⟨σ8, H8, I8, hw8, q8⟩ := h8
      refine seg_bind_wrap (wpAny_tests_nil ?_)
      simp only [if_true]
      have hy : ∀ v, yieldOut cenv v = yieldValue v := fun v => by simp only [yieldOut, hco, Bool.false_eq_true, if_false]
      simp only [hy]
      rw [Sem.bind_eq_wrap', Sem.bind_eq_wrap', Sem.wrap_wrap, Sem.wrap_wrap]
      refine seg_wrap ?_
      rw [over_gen]
      refine wpAny_mono (pe.run _ s8 σ8 H8 _ I8 q8) (fun z s9 h9 => ?_) (fun _ _ z => z.elim)
      obtain ⟨y, H9, I9, r9, b, rfl, q9⟩ := h9
      have r9 : z = Value.bool b := r9
      subst r9
      have hlim : s9.heap.NoLimit := I9.nolimit
      by_cases hb : b = st
      · obtain ⟨k, rfl⟩ : ∃ k, n = k + 1 := ⟨n - 1, by omega⟩
        rw [if_pos hb] at q9
        refine seg_at (seg_yield rfl rfl rfl ⟨b, rfl, I9.os, I9.bare, hlim, pinned I9, ?_⟩)
        rw [if_pos hb]
        exact ⟨H9, I9.base, I9.hok, q9⟩
      · rw [if_neg hb] at q9
        obtain ⟨m', hm, w'⟩ := hNx H9 q9
        obtain ⟨k, rfl⟩ : ∃ k, n = k + 1 := ⟨n - 1, by omega⟩
        refine seg_at (seg_yield rfl rfl rfl ⟨b, rfl, I9.os, I9.bare, hlim, pinned I9, ?_⟩)
        rw [if_neg hb]
        intro s' e1 e2 e3
        have pin' : ∀ b ∈ fp, ∀ o, s7.heap.get? b = some o → s9.heap.get? b = some o ∧ H9 b = none := fun b hb o e =>
          let z := I9.pin (b, o) (List.mem_append_right _ (List.mem_append_right _ (mem_pinsAt hb e)))
          ⟨z.1, z.2.1⟩
        have hl : (wipe σ (own.map (·.2))).length = σ8.length := by rw [← hw8, wipe_length]
        have I10 : Inv (gxc X B s4 H4 scope cenv fp [(a, go)]) [] (wipe σ (own.map (·.2))) H9 s9 := (I9.unpinned (pins := [])).weak hl (fun j v e => by
          rw [← hw8] at e
          exact (wipe_some e).1)
        have I11 : Inv (gxc X B s4 H4 scope cenv fp [(a, go)]) [] (wipe σ (own.map (·.2))) H9 s' := by
          refine I10.call' (ch := []) e2 (Un.kept fun b o e => by rw [e1]; exact e) (by rw [e1]; exact I10.hok) e3 fun b z => by simp at z
        refine seg_again rfl (ih m' hm k (by omega) (i + 1) s' s' H9 w' I11 ?_ fun b hb => ?_)
        · rw [e1]
          exact T.keep _ _ _ st7 fun b hb o e => (pin' b hb o e).1
        · obtain ⟨o, e, _⟩ := T.obj _ _ st7 b hb
          exact (pin' b hb o e).2
end
end Ct
namespace Ct
open PySem PySem.Spec PyProof.Rows L2 GenW
section
variable {P : Program} {w : World} {A : Around} {fr fp : List Addr} {H4 : Hp} {s4 : Shared} {Q : VK} {a : Addr} {g : Nat} {R : Result → Shared → Prop}
theorem all_gx (hh : A.handled = none) (hd : A.depth < recursionLimit) (hend : ∀ b (s' : Shared), s'.os = s4.os → AllBare s'.gens → GFin P w fr fp H4 s4.heap Q b s'.heap → R (.ok (.ret (.bool b))) s') :
    ∀ (m : Nat) (s : Shared), s.heap.IsGen a g → s.heap.NoLimit →
      (∃ gs, s.gens[g]? = some gs ∧ gs.Goes (model P w) A.in1.in1 (fun n s₀ r s₁ => r = .ok .next ∧ GDone P w fr fp H4 s4 Q false n s₀ s₁) (GYld P w fr fp H4 s4 Q false a g) m (.send .none) (s.setGen g .running)) →
      codeAny (model P w) A (.builtin "all.loop" ⟨[.ref a], []⟩) R s := by
  intro m
  induction m with
  | zero =>
    intro s hg hl ⟨gs, hgs, hgo⟩
    refine codeAny_builtin F.entry_all_loop ?_
    rw [Around.under_plainId F.plain_all_loop _]
    show wpAny _ A.in1 (pyNext (.ref a) >>= _) _ _ s
    refine wpAny_bind (wpAny_pyNext_genexpQ (A := A.in1) hh hl hd hg hgs hgo (fun v s₁ gs' hbare hv => ?_) (fun s₁ hp h' hk => ?_))
    · obtain ⟨b, rfl, os1, hb1, hl1, hg1, q⟩ := hv
      refine wpAny_bind (wpAny_holding (wpAny_truthy_bool ?_))
      refine wpAny_bind (wpAny_letGo ?_)
      by_cases hb : b = false
      · rw [if_pos hb] at q
        subst hb
        simp only [Bool.false_eq_true, if_false]
        refine wpAny_bind (wpAny_rule (wpAny_pure ?_))
        exact hend false _ os1 (allBare_setGen hb1 hbare) q
      · rw [if_neg hb] at q
        exact False.elim (q s₁ rfl rfl hb1)
    · obtain ⟨os1, hb1, H', un, hok, hQ⟩ := hp
      refine wpAny_bind (wpAny_rule (wpAny_pure ?_))
      exact hend true _ os1 (allBare_setGen hb1 rfl) ⟨H', un.trans (Un.kept hk), hok.kept hk, hQ⟩
  | succ m ih =>
    intro s hg hl ⟨gs, hgs, hgo⟩
    have hgl : g < s.gens.size := (Array.getElem?_eq_some_iff.mp hgs).1
    refine codeAny_builtin F.entry_all_loop ?_
    rw [Around.under_plainId F.plain_all_loop _]
    show wpAny _ A.in1 (pyNext (.ref a) >>= _) _ _ s
    refine wpAny_bind (wpAny_gsz (n := g + 1) hgl (wpAny_pyNext_genexpQ (A := A.in1) hh hl hd hg hgs hgo (fun v s₁ gs' hbare hv => ?_) (fun s₁ hp h' hk => ?_)))
    · intro hsz
      obtain ⟨b, rfl, os1, hb1, hl1, hg1, q⟩ := hv
      refine wpAny_bind (wpAny_holding (wpAny_truthy_bool ?_))
      refine wpAny_bind (wpAny_letGo ?_)
      have hsz1 : g < s₁.gens.size := by
        have q : (s₁.setGen g gs').gens.size = s₁.gens.size := setGen_size _ _ _
        have hsz' : g + 1 ≤ (s₁.setGen g gs').gens.size := hsz
        omega
      by_cases hb : b = false
      · rw [if_pos hb] at q
        subst hb
        simp only [Bool.false_eq_true, if_false]
        refine wpAny_bind (wpAny_rule (wpAny_pure ?_))
        exact hend false _ os1 (allBare_setGen hb1 hbare) q
      · rw [if_neg hb] at q
        have hb2 : b = true := by
          cases b with
          | true => rfl
          | false => exact absurd rfl hb
        subst hb2
        simp only [if_true]
        refine wpAny_pure ⟨plainId_quiet F.plain_all_loop _, ?_⟩
        exact ih (s₁.setGen g gs') hg1 hl1 ⟨gs', setGen_at hsz1, q _ rfl rfl (allBare_setGen (allBare_setGen hb1 hbare) rfl)⟩
    · intro _
      obtain ⟨os1, hb1, H', un, hok, hQ⟩ := hp
      refine wpAny_bind (wpAny_rule (wpAny_pure ?_))
      exact hend true _ os1 (allBare_setGen hb1 rfl) ⟨H', un.trans (Un.kept hk), hok.kept hk, hQ⟩
theorem any_gx (hh : A.handled = none) (hd : A.depth < recursionLimit) (hend : ∀ b (s' : Shared), s'.os = s4.os → AllBare s'.gens → GFin P w fr fp H4 s4.heap Q b s'.heap → R (.ok (.ret (.bool b))) s') :
    ∀ (m : Nat) (s : Shared), s.heap.IsGen a g → s.heap.NoLimit →
      (∃ gs, s.gens[g]? = some gs ∧ gs.Goes (model P w) A.in1.in1 (fun n s₀ r s₁ => r = .ok .next ∧ GDone P w fr fp H4 s4 Q true n s₀ s₁) (GYld P w fr fp H4 s4 Q true a g) m (.send .none) (s.setGen g .running)) →
      codeAny (model P w) A (.builtin "any.loop" ⟨[.ref a], []⟩) R s := by
  intro m
  induction m with
  | zero =>
    intro s hg hl ⟨gs, hgs, hgo⟩
    refine codeAny_builtin F.entry_any_loop ?_
    rw [Around.under_plainId F.plain_any_loop _]
    show wpAny _ A.in1 (pyNext (.ref a) >>= _) _ _ s
    refine wpAny_bind (wpAny_pyNext_genexpQ (A := A.in1) hh hl hd hg hgs hgo (fun v s₁ gs' hbare hv => ?_) (fun s₁ hp h' hk => ?_))
    · obtain ⟨b, rfl, os1, hb1, hl1, hg1, q⟩ := hv
      refine wpAny_bind (wpAny_holding (wpAny_truthy_bool ?_))
      refine wpAny_bind (wpAny_letGo ?_)
      by_cases hb : b = true
      · rw [if_pos hb] at q
        subst hb
        simp only [if_true]
        refine wpAny_bind (wpAny_rule (wpAny_pure ?_))
        exact hend true _ os1 (allBare_setGen hb1 hbare) q
      · rw [if_neg hb] at q
        exact False.elim (q s₁ rfl rfl hb1)
    · obtain ⟨os1, hb1, H', un, hok, hQ⟩ := hp
      refine wpAny_bind (wpAny_rule (wpAny_pure ?_))
      exact hend false _ os1 (allBare_setGen hb1 rfl) ⟨H', un.trans (Un.kept hk), hok.kept hk, hQ⟩
  | succ m ih =>
    intro s hg hl ⟨gs, hgs, hgo⟩
    have hgl : g < s.gens.size := (Array.getElem?_eq_some_iff.mp hgs).1
    refine codeAny_builtin F.entry_any_loop ?_
    rw [Around.under_plainId F.plain_any_loop _]
    show wpAny _ A.in1 (pyNext (.ref a) >>= _) _ _ s
    refine wpAny_bind (wpAny_gsz (n := g + 1) hgl (wpAny_pyNext_genexpQ (A := A.in1) hh hl hd hg hgs hgo (fun v s₁ gs' hbare hv => ?_) (fun s₁ hp h' hk => ?_)))
    · intro hsz
      obtain ⟨b, rfl, os1, hb1, hl1, hg1, q⟩ := hv
      refine wpAny_bind (wpAny_holding (wpAny_truthy_bool ?_))
      refine wpAny_bind (wpAny_letGo ?_)
      have hsz1 : g < s₁.gens.size := by
        have q : (s₁.setGen g gs').gens.size = s₁.gens.size := setGen_size _ _ _
        have hsz' : g + 1 ≤ (s₁.setGen g gs').gens.size := hsz
        omega
      by_cases hb : b = true
      · rw [if_pos hb] at q
        subst hb
        simp only [if_true]
        refine wpAny_bind (wpAny_rule (wpAny_pure ?_))
        exact hend true _ os1 (allBare_setGen hb1 hbare) q
      · rw [if_neg hb] at q
        have hb2 : b = false := by
          cases b with
          | false => rfl
          | true => exact absurd rfl hb
        subst hb2
        simp only [Bool.false_eq_true, if_false]
        refine wpAny_pure ⟨plainId_quiet F.plain_any_loop _, ?_⟩
        exact ih (s₁.setGen g gs') hg1 hl1 ⟨gs', setGen_at hsz1, q _ rfl rfl (allBare_setGen (allBare_setGen hb1 hbare) rfl)⟩
    · intro _
      obtain ⟨os1, hb1, H', un, hok, hQ⟩ := hp
      refine wpAny_bind (wpAny_rule (wpAny_pure ?_))
      exact hend false _ os1 (allBare_setGen hb1 rfl) ⟨H', un.trans (Un.kept hk), hok.kept hk, hQ⟩
end
end Ct
namespace Ct
open PySem PySem.Spec PyProof.Rows L2 GenW
section
variable {X : Cx}
theorem gen_eval {pins : List (Addr × Obj)} {σ : L2.St} {H : Hp} {s : Shared} {Q : VK} {c P : Addr} {elt tg iter : Expr} {scope : Scope} {own : List (Str × Nat)} {pos : Pos} {wi : TI} {g : TG} {te : TE} {st : Bool} {k : Nat} {Q' : Value → Shared → Prop}
    (hr : Room (k + 1) X.A) (hc : X.calm = true) (hN : X.N.Nodup) (TB : GxR.TabB X.base X.mg c P) (hcode : X.env.code = .ref c) (hi : PI X tg iter wi) (ok : BlkOk X.N X.env.scope scope own) (hcell : ∀ y ∈ scope.names, y.2 ≠ .cell) (hco : scope.isCoroutine = false) (hdot : scope.names.lookup (".0" : Str) = some NameKind.local)
    (hg : ∀ (s : Shared) (H : Hp) (C : Addr) (cl : List (Str × Addr)) (cd : Value) (fp : List Addr) (pn : List (Addr × Obj)) (B : Around), PG (gxc X B s H scope (genEnv scope cl C cd builtinsNs X.env) fp pn) tg g)
    (he : ∀ (s : Shared) (H : Hp) (C : Addr) (cl : List (Str × Addr)) (cd : Value) (fp : List Addr) (pn : List (Addr × Obj)) (B : Around), Room k (B.deeper (genEnv scope cl C cd builtinsNs X.env)) → PE (gxc X B s H scope (genEnv scope cl C cd builtinsNs X.env) fp pn) elt te)
    (hs : ∀ x, genFold iter X.env x = pure x) (I : Inv X pins σ H s) (h : tGen P st wi g te (own.map (·.2)) σ H Q)
    (hQ : ∀ (a : Addr) (gn : Nat) (s4 s5 : Shared) (H4 : Hp) (fp : List Addr) (m : Nat) (gs : GenState), Inv X pins σ H4 s4 → (∀ b ∈ fp, FpOk X pins H4 b) → s5.heap.IsGen a gn → s5.heap.NoLimit → s5.gens[gn]? = some gs →
      gs.Goes (model X.prog X.w) X.A.in1.in1 (fun n s₀ r s₁ => r = .ok .next ∧ GDone X.prog X.w (frs X.stack) fp H4 s4 Q st n s₀ s₁) (GYld X.prog X.w (frs X.stack) fp H4 s4 Q st a gn) m (.send .none) (s5.setGen gn .running) → Q' (.ref a) s5) :
    wpAny (model X.prog X.w) X.A (eval (.GeneratorExp elt [⟨tg, iter, [], 0⟩] scope pos) X.env) Q' X.xe s := by
  have hfree : ∀ y ∈ scope.names, y.2 = .free → ∃ c, X.env.cells.lookup y.1 = some c := fun y hy e => by
    rcases ok.free y hy e with k | k
    · exact I.ok.has _ (.inl k)
    · exact I.ok.has _ (.inr k)
  refine wpAny_GeneratorExp_make hco (closure_ok hfree) hcell hdot ok.kind hr.depth (thn (hi.run pins s σ H _ I h) fun xv s1 hx => thn hx fun itv s2 h2 => ?_) hs
  obtain ⟨it, fp, tn, J, H2, rfl, I2, T, st2, f2, hTab, W, ⟨m0, w0⟩, turn⟩ := h2
  obtain ⟨⟨ps, hP2, ht⟩, _, _⟩ := I2.hok P _ hTab
  have hPlt : P < s2.heap.objs.size := Heap.lt_size hP2
  have cd : PySem.W.CodeHd s2.heap c P := TB.code.keeps I2.bk
  have nP : ∀ b, H2 b = none → b ≠ P := fun b e z => by
    rw [z, hTab] at e
    cases e
  have cont : ∀ (code : Value) (h3 : Heap) (tk : Nat) (ps' : Array Value), Heap.ExtBut P s2.heap h3 → s2.heap.objs.size ≤ h3.objs.size → h3.get? P = some { cls := .none, data := .fields ps' } → TriplesOk ps'.toList →
      wpAny (model X.prog X.w) X.A (builtinsFor X.env.globals X.env.builtins) (fun bi s₄ =>
        ∀ h', h'.Ns s₄.heap.objs.size (fun y => if y = ".0" then some (Value.ref it) else none) → Heap.SameBut s₄.heap.objs.size (s₄.heap.push { cls := .type "frame", data := .dict #[] }) h' →
          Q' (.ref h'.objs.size) { s₄ with
            gens := s₄.gens.push (.fresh (.compStart (.GeneratorExp elt [⟨tg, iter, [], 0⟩] scope pos) 0 (.ref it) .none (genEnv scope (cloFrom X.env.cells scope.names []) s₄.heap.objs.size code bi X.env))),
            toks := s₄.toks + 1 + 1 + 1,
            heap := h'.push { cls := .type "generator", data := .fields #[.int s₄.gens.size 0, .str "<genexpr>" (s₄.toks + 1), .str (X.env.qual ++ "<genexpr>") (s₄.toks + 1 + 1)] } }) X.xe { s2 with heap := h3, toks := tk } := by
    intro code h3 tk ps' hx hsz hP3 ht3
    obtain ⟨bm, ob, e1, e2, e3, e4, e5, e6, e7, e8⟩ := TB.bm
    have keep3 : ∀ b u, b ≠ P → s2.heap.get? b = some u → h3.get? b = some u := fun b u hb e => hx b u hb e
    refine wpAny_builtinsFor (m := X.mg) (by rw [I2.ok.glob]; exact (I2.mod.glob.keeps I2.bk).extBut hx TB.gP) e1 e2 (keep3 _ _ e4 (I2.bk _ _ e5)) e6 e7 e8 ?_
    intro h' hn' hs'
    have I4 : Inv X pins σ H2 { s2 with heap := h3, toks := tk } := inv_tabX (g' := s2.gens) (d' := s2.drawn) (t' := tk) I2 hTab keep3 hP3 ht3 I2.bare
    generalize hs4 : ({ s2 with heap := h3, toks := tk } : Shared) = s4 at *
    have h4 : s4.heap = h3 := by rw [← hs4]
    have keep' : ∀ b o, s4.heap.get? b = some o → h'.get? b = some o := fun b o e => hs'.extBut b o (Nat.ne_of_lt (Heap.lt_size e)) (Heap.get?_push_of_some _ e)
    have hsz' : h'.objs.size = s4.heap.objs.size + 1 := by rw [hs'.1, Heap.size_push]
    generalize hgo : ({ cls := .type "generator", data := .fields #[.int s4.gens.size 0, .str "<genexpr>" (s4.toks + 1), .str (X.env.qual ++ "<genexpr>") (s4.toks + 1 + 1)] } : Obj) = go
    have hgn : ∀ h : Heap, h.get? h'.objs.size = some go → h.IsGen h'.objs.size s4.gens.size := fun h e => ⟨go, _, _, e, by rw [← hgo], by rw [← hgo], by rw [← hgo]⟩
    have keep5 : ∀ b o, s4.heap.get? b = some o → (h'.push go).get? b = some o := fun b o e => Heap.get?_push_of_some _ (keep' b o e)
    have hgoat : (h'.push go).get? h'.objs.size = some go := Heap.get?_push_size _ (by rw [← hgo]; rfl)
    have f4 : ∀ b ∈ fp, FpOk X pins H2 b ∧ b < s4.heap.objs.size := fun b hb => by
      obtain ⟨o, e, _⟩ := T.obj _ _ st2 b hb
      refine ⟨f2 b hb, ?_⟩
      rw [h4]
      exact Heap.lt_size (keep3 b o (nP b (f2 b hb).1) e)
    have kfp : ∀ b ∈ fp, ∀ o, s2.heap.get? b = some o → (h'.push go).get? b = some o := fun b hb o e => keep5 b o (by rw [h4]; exact keep3 b o (nP b (f2 b hb).1) e)
    have lim5 : (h'.push go).NoLimit := I4.nolimit.keeps keep5
    refine hQ h'.objs.size s4.gens.size s4 _ H2 fp (m0 + 1) _ I4 f2 (hgn _ hgoat) lim5 (Array.getElem?_push_size ..) ?_
    have hns5 : (h'.push go).Ns s4.heap.objs.size (fun y => if y = ".0" then some (Value.ref it) else none) := hn'.push _
    have hfa : ∀ b ∈ fp, b ≠ h'.objs.size := fun b hb => by
      have := (f4 b hb).2
      intro z
      rw [z, hsz'] at this
      exact absurd (Nat.lt_trans (Nat.lt_succ_self _) this) (Nat.lt_irrefl _)
    have J5 : ∀ (g5 : Array GenState), AllBare g5 → Inv (gxc X X.A.in1.in1 s4 H2 scope (genEnv scope (cloFrom X.env.cells scope.names []) s4.heap.objs.size code builtinsNs X.env) fp [(h'.objs.size, go)]) [] (wipe σ (own.map (·.2))) H2 { s4 with heap := h'.push go, gens := g5, toks := s4.toks + 1 + 1 + 1, drawn := s4.drawn } := fun g5 b5 =>
      gx_start (B := X.A.in1.in1) I4 I4.ok.frames hr.hd ok hN hcell f4 hns5 keep5 (by rw [hsz']; exact Nat.lt_succ_self _) hgoat (fun v z => by rw [← hgo] at z; cases z) b5
    have room : Room k (X.A.in1.in1.deeper (genEnv scope (cloFrom X.env.cells scope.names []) s4.heap.objs.size code builtinsNs X.env)) :=
      ⟨hr.hd, by have := hr.dp; show X.A.depth + 1 + 3 * k + 5 < _; omega, by have := hr.un; show X.A.units + 1 + 1 + 3 + 16 * k + 200 < _; omega⟩
    have b5 : AllBare ((s4.gens.push (.fresh (.compStart (.GeneratorExp elt [⟨tg, iter, [], 0⟩] scope pos) 0 (.ref it) .none (genEnv scope (cloFrom X.env.cells scope.names []) s4.heap.objs.size code builtinsNs X.env)))).setIfInBounds s4.gens.size .running) :=
      allBare_setGen (s := { s4 with gens := s4.gens.push (.fresh (.compStart (.GeneratorExp elt [⟨tg, iter, [], 0⟩] scope pos) 0 (.ref it) .none (genEnv scope (cloFrom X.env.cells scope.names []) s4.heap.objs.size code builtinsNs X.env))) }) (g := s4.gens.size) (AllBare.push I4.bare rfl) rfl
    have loop := seg_gx (iter := iter) (pos := pos) (σ := σ) (own := own) (Q := Q) (st := st) hc hco hgn T (hg s4 H2 _ _ code fp [(h'.objs.size, go)] X.A.in1.in1) (he s4 H2 _ _ code fp [(h'.objs.size, go)] X.A.in1.in1 room) hfa turn m0 (m0 + 1) (Nat.lt_succ_self _) 0
      (Shared.setGen { s4 with heap := h'.push go, gens := s4.gens.push (.fresh (.compStart (.GeneratorExp elt [⟨tg, iter, [], 0⟩] scope pos) 0 (.ref it) .none (genEnv scope (cloFrom X.env.cells scope.names []) s4.heap.objs.size code builtinsNs X.env))), toks := s4.toks + 1 + 1 + 1 } s4.gens.size .running)
      (Shared.setGen { s4 with heap := h'.push go, gens := s4.gens.push (.fresh (.compStart (.GeneratorExp elt [⟨tg, iter, [], 0⟩] scope pos) 0 (.ref it) .none (genEnv scope (cloFrom X.env.cells scope.names []) s4.heap.objs.size code builtinsNs X.env))), toks := s4.toks + 1 + 1 + 1 } s4.gens.size .running)
      H2 w0 (J5 _ b5) (T.keep _ _ _ st2 kfp) (fun b hb => (f2 b hb).1)
    refine ⟨rfl, ?_⟩
    show Seg _ X.A.in1.in1 _ _ _ _ _ ((compStart (.GeneratorExp elt [⟨tg, iter, [], 0⟩] scope pos) 0 (.ref it) .none (genEnv scope (cloFrom X.env.cells scope.names []) s4.heap.objs.size code builtinsNs X.env)).onRaise (leaving (genEnv scope (cloFrom X.env.cells scope.names []) s4.heap.objs.size code builtinsNs X.env))) [] _
    unfold compStart
    rw [Sem.onRaise_eq_wrap]
    show Seg _ X.A.in1.in1 _ _ _ _ _ ((ask >>= _).wrap _ _ _ _) [] _
    refine seg_bind_wrap (wpAny_askSetting ?_)
    split
    · exact seg_again rfl loop
    · first
        | exact seg_bind_wrap (wpAny_rule (seg_bind_wrap (wpAny_standAt (seg_bind_wrap (T.self _ 0 _ _ _ (T.keep _ _ _ st2 kfp) (seg_again rfl loop))))))
        | (refine seg_bind_wrap (wpAny_rule ?_); show Seg _ _ _ _ _ _ _ ((standAt iter.pos >>= _).wrap _ _ _ _) [] _; exact seg_bind_wrap (wpAny_standAt (seg_bind_wrap (T.self _ 0 _ _ _ (T.keep _ _ _ st2 kfp) (seg_again rfl loop)))))
  refine ⟨I2.nolimit, ?_⟩
  cases hf : codeAmong pos ps.toList with
  | none =>
    refine wpAny_genexprCodeX hcode (cd.code hP2 ht) (cd.tab hP2) hf fun c' h' tk hx hge hlt hco' _ htab' _ => ?_
    obtain ⟨o1, vs, f1, tf, fl, tg, inF, tx, tt, op, _, _, _, _, _, _, _, _, _, htr, _⟩ := hco'
    exact cont _ h' tk _ hx (Nat.le_trans hge (Nat.le_of_lt hlt)) htab'.2 htr
  | some cv =>
    refine wpAny_genexprCode_hit hcode (cd.code hP2 ht) hf ?_
    exact cont cv s2.heap s2.toks ps (Heap.ExtBut.refl _ _) (Nat.le_refl _) hP2 ht
end
end Ct
namespace Ct
open PySem PySem.Spec PyProof.Rows L2 GenW
section
variable {X : Cx}
theorem gx_end {pins : List (Addr × Obj)} {σ : L2.St} {H4 : Hp} {s4 s' : Shared} {fp : List Addr} {Q : VK} {b : Bool} (I4 : Inv X pins σ H4 s4) (f4 : ∀ b ∈ fp, FpOk X pins H4 b) (os : s'.os = s4.os) (bare : AllBare s'.gens) (h : GFin X.prog X.w (frs X.stack) fp H4 s4.heap Q b s'.heap) : EP X pins σ Q (.bool b) s' := by
  obtain ⟨H', un, hok, q⟩ := h
  exact ⟨.bl b, H', I4.call' (ch := fp) os un hok bare fun b hb => ⟨(f4 b hb).2.2.2.1, (f4 b hb).2.1, (f4 b hb).2.2.2.2.1, (f4 b hb).2.2.2.2.2⟩, rfl, q⟩
/-- all(elt for tg in iter) -/
theorem pe_allX {c P : Addr} {elt tg iter : Expr} {scope : Scope} {own : List (Str × Nat)} {p pos gpos : Pos} {wi : TI} {g : TG} {te : TE} {k : Nat}
    (hr : Room (k + 1) X.A) (hgl : Gl X "all") (hm : X.mg "all" = none) (hc : X.calm = true) (hN : X.N.Nodup) (TB : GxR.TabB X.base X.mg c P) (hcode : X.env.code = .ref c) (hi : PI X tg iter wi) (ok : BlkOk X.N X.env.scope scope own) (hcell : ∀ y ∈ scope.names, y.2 ≠ .cell) (hco : scope.isCoroutine = false) (hdot : scope.names.lookup (".0" : Str) = some NameKind.local)
    (hg : ∀ (s : Shared) (H : Hp) (C : Addr) (cl : List (Str × Addr)) (cd : Value) (fp : List Addr) (pn : List (Addr × Obj)) (B : Around), PG (gxc X B s H scope (genEnv scope cl C cd builtinsNs X.env) fp pn) tg g)
    (he : ∀ (s : Shared) (H : Hp) (C : Addr) (cl : List (Str × Addr)) (cd : Value) (fp : List Addr) (pn : List (Addr × Obj)) (B : Around), Room k (B.deeper (genEnv scope cl C cd builtinsNs X.env)) → PE (gxc X B s H scope (genEnv scope cl C cd builtinsNs X.env) fp pn) elt te)
    (hs : ∀ x, genFold iter X.env x = pure x := by intro _; rfl) (hb : bootBuiltins "all" = some (.builtin "all") := by decide +kernel)
    (hst : starEach [.GeneratorExp elt [⟨tg, iter, [], 0⟩] scope gpos] X.env = (false, eval (.GeneratorExp elt [⟨tg, iter, [], 0⟩] scope gpos) X.env) :: starEach [] X.env := by rfl) :
    PE X (.Call (.Name "all" p) [.GeneratorExp elt [⟨tg, iter, [], 0⟩] scope gpos] [] pos) (tGen P false wi g te (own.map (·.2))) := by
  refine ⟨fun pins s σ H Q I h => ?_⟩
  refine wpAny_Call_Name_kw (ld_blt I hgl hm hb ?_)
  refine PyProof.Rows.callWith_builtin1 ?_ hst (by rfl)
  rw [hst]
  show wpAny _ _ (spliced ((false, eval (.GeneratorExp elt [⟨tg, iter, [], 0⟩] scope gpos) X.env) :: backTo pos (starEach [] X.env))) _ _ s
  refine Calls.spliced_cons (gen_eval hr hc hN TB hcode hi ok hcell hco hdot hg he hs I h fun a gn s4 s5 H4 fp m gs I4 f4 hgen hlim hgs hgo => ?_)
  refine Calls.spliced_nil ?_
  refine call_function_tree F.kind_all F.plain_all F.entry_all (F.args_all1 _) ?_
  unfold Builtin.«all»
  refine wpAny_bind (m := oneArg "all" _) (wpAny_pure ?_)
  refine wpAny_bind (wpAny_pyIter_gen hgen ?_)
  exact wpAny_pure ⟨plainId_quiet F.plain_all_loop _, all_gx hr.hd hr.depth (fun b s' os bare fin => gx_end I4 f4 os bare fin) m s5 hgen hlim ⟨gs, hgs, hgo⟩⟩
/-- any(elt for tg in iter) -/
theorem pe_anyX {c P : Addr} {elt tg iter : Expr} {scope : Scope} {own : List (Str × Nat)} {p pos gpos : Pos} {wi : TI} {g : TG} {te : TE} {k : Nat}
    (hr : Room (k + 1) X.A) (hgl : Gl X "any") (hm : X.mg "any" = none) (hc : X.calm = true) (hN : X.N.Nodup) (TB : GxR.TabB X.base X.mg c P) (hcode : X.env.code = .ref c) (hi : PI X tg iter wi) (ok : BlkOk X.N X.env.scope scope own) (hcell : ∀ y ∈ scope.names, y.2 ≠ .cell) (hco : scope.isCoroutine = false) (hdot : scope.names.lookup (".0" : Str) = some NameKind.local)
    (hg : ∀ (s : Shared) (H : Hp) (C : Addr) (cl : List (Str × Addr)) (cd : Value) (fp : List Addr) (pn : List (Addr × Obj)) (B : Around), PG (gxc X B s H scope (genEnv scope cl C cd builtinsNs X.env) fp pn) tg g)
    (he : ∀ (s : Shared) (H : Hp) (C : Addr) (cl : List (Str × Addr)) (cd : Value) (fp : List Addr) (pn : List (Addr × Obj)) (B : Around), Room k (B.deeper (genEnv scope cl C cd builtinsNs X.env)) → PE (gxc X B s H scope (genEnv scope cl C cd builtinsNs X.env) fp pn) elt te)
    (hs : ∀ x, genFold iter X.env x = pure x := by intro _; rfl) (hb : bootBuiltins "any" = some (.builtin "any") := by decide +kernel)
    (hst : starEach [.GeneratorExp elt [⟨tg, iter, [], 0⟩] scope gpos] X.env = (false, eval (.GeneratorExp elt [⟨tg, iter, [], 0⟩] scope gpos) X.env) :: starEach [] X.env := by rfl) :
    PE X (.Call (.Name "any" p) [.GeneratorExp elt [⟨tg, iter, [], 0⟩] scope gpos] [] pos) (tGen P true wi g te (own.map (·.2))) := by
  refine ⟨fun pins s σ H Q I h => ?_⟩
  refine wpAny_Call_Name_kw (ld_blt I hgl hm hb ?_)
  refine PyProof.Rows.callWith_builtin1 ?_ hst (by rfl)
  rw [hst]
  show wpAny _ _ (spliced ((false, eval (.GeneratorExp elt [⟨tg, iter, [], 0⟩] scope gpos) X.env) :: backTo pos (starEach [] X.env))) _ _ s
  refine Calls.spliced_cons (gen_eval hr hc hN TB hcode hi ok hcell hco hdot hg he hs I h fun a gn s4 s5 H4 fp m gs I4 f4 hgen hlim hgs hgo => ?_)
  refine Calls.spliced_nil ?_
  refine call_function_tree F.kind_any F.plain_any F.entry_any (F.args_any1 _) ?_
  unfold Builtin.«any»
  refine wpAny_bind (m := oneArg "any" _) (wpAny_pure ?_)
  refine wpAny_bind (wpAny_pyIter_gen hgen ?_)
  exact wpAny_pure ⟨plainId_quiet F.plain_any_loop _, any_gx hr.hd hr.depth (fun b s' os bare fin => gx_end I4 f4 os bare fin) m s5 hgen hlim ⟨gs, hgs, hgo⟩⟩
end
end Ct
namespace Ct
open PySem PySem.Spec PyProof.Rows L2
/-! walking it -/
def GB (P : Addr) (st : Bool) (J : It) (g : TG) (te : TE) (vs : List Nat) (σ : L2.St) (H : Hp) (Q : VK) : Prop := tGen P st (fun _ H R => R J H) g te vs σ H Q
theorem w_gen {P : Addr} {st : Bool} {wi : TI} {g : TG} {te : TE} {vs : List Nat} {σ : L2.St} {H : Hp} {Q : VK} (h : wi σ H fun J H1 => GB P st J g te vs σ H1 Q) : tGen P st wi g te vs σ H Q := h
theorem gb_it {P : Addr} {st : Bool} {J : It} {n : Nat} {G : Hp → Prop} {Y : Nat → Hp → V → Hp → Prop} (w : Walk J n G Y) {g : TG} {te : TE} {vs : List Nat} {σ : L2.St} {H : Hp} {Q : VK} (Pv : Nat → Hp → Prop) (hT : H P = some (TabX P)) (h0 : Pv 0 H) (hG : ∀ i H1, i ≤ n → Pv i H1 → G H1)
    (hs : ∀ i x H1 H2, i < n → Pv i H1 → Y i H1 x H2 → g x (wipe σ vs) H2 fun σ3 H3 => wipe σ3 vs = wipe σ vs ∧ te σ3 H3 fun y H4 => ∃ b, y = .bl b ∧ if b = st then Q (.bl st) H4 else Pv (i + 1) H4) (hd : ∀ H1, Pv n H1 → Q (.bl (!st)) H1) : GB P st J g te vs σ H Q := by
  refine ⟨hT, fun i m H1 => m = n - i ∧ i ≤ n ∧ Pv i H1, ⟨n, by simp, Nat.zero_le _, h0⟩, ?_⟩
  rintro i m H1 ⟨rfl, hi, p⟩
  have q := hG i H1 hi p
  by_cases hlt : i < n
  · exact .inr ⟨w.goes i H1 hlt q, Pv (i + 1), fun H' p' => ⟨n - (i + 1), by omega, rfl, hlt, p'⟩, fun x H' y => hs i x H1 H' hlt p (w.yields i H1 x H' hlt q y)⟩
  · have e : i = n := by omega
    subst e
    exact .inl ⟨w.stops H1 q, hd H1 p⟩
theorem gb_list {K : PySem.W.Frag} {P : Addr} {st : Bool} {a : Addr} (xs : List V) {g : TG} {te : TE} {vs : List Nat} {σ : L2.St} {H : Hp} {Q : VK} (Pv : Nat → Hp → Prop) (hT : H P = some (TabX P)) (h0 : Pv 0 H) (hl : ∀ i H1, i ≤ xs.length → Pv i H1 → SqL K H1 a xs)
    (hs : ∀ i x H1, xs[i]? = some x → Pv i H1 → g x (wipe σ vs) H1 fun σ3 H3 => wipe σ3 vs = wipe σ vs ∧ te σ3 H3 fun y H4 => ∃ b, y = .bl b ∧ if b = st then Q (.bl st) H4 else Pv (i + 1) H4) (hd : ∀ H1, Pv xs.length H1 → Q (.bl (!st)) H1) : GB P st (Itl K a) g te vs σ H Q :=
  gb_it (walk_list (xs := xs)) Pv hT h0 hl (fun i x H1 H2 _ p y => by
    obtain ⟨e, y⟩ := y
    subst e
    exact hs i x _ y p) hd
theorem gb_tup {K : PySem.W.Frag} {P : Addr} {st : Bool} {a : Addr} (xs : List V) {g : TG} {te : TE} {vs : List Nat} {σ : L2.St} {H : Hp} {Q : VK} (Pv : Nat → Hp → Prop) (hT : H P = some (TabX P)) (h0 : Pv 0 H) (hl : ∀ i H1, i ≤ xs.length → Pv i H1 → SqT K H1 a xs)
    (hs : ∀ i x H1, xs[i]? = some x → Pv i H1 → g x (wipe σ vs) H1 fun σ3 H3 => wipe σ3 vs = wipe σ vs ∧ te σ3 H3 fun y H4 => ∃ b, y = .bl b ∧ if b = st then Q (.bl st) H4 else Pv (i + 1) H4) (hd : ∀ H1, Pv xs.length H1 → Q (.bl (!st)) H1) : GB P st (Itt K a) g te vs σ H Q :=
  gb_it (walk_tup (xs := xs)) Pv hT h0 hl (fun i x H1 H2 _ p y => by
    obtain ⟨e, y⟩ := y
    subst e
    exact hs i x _ y p) hd
/-- the tables of the defs that hold generator expressions -/
def Tb (T : List Addr) (H : Hp) : Prop := ∀ P ∈ T, H P = some (TabX P)
theorem Tb.same {T : List Addr} {H H' : Hp} (h : Tb T H) (s : Same H H') : Tb T H' := fun P hP => s _ _ (h P hP)
/-- a def whose own code object is known -/
theorem okC {P : Program} {w : World} {K : PySem.W.Frag} {mg : Str → Option Value} {base : Heap} {x qual : Str} {st : Stmt} {f : Addr} {fd : FuncData} {N ps : List Str} {k : Nat} {sp : Sp} (F : Fun K x qual st f fd) (S : FnScope N ps (defScope st)) (len : ∀ vs H Q E, sp vs H Q E → vs.length = ps.length)
    (hbody : ∀ (A : Around) (outer : List Env) (s : Shared) (H : Hp) (vs : List V) (Q : VK) (E : XK), Room k (A.deeper (envOfC qual (defScope st) s.heap.objs.size f fd.code)) → sp vs H Q E →
      ∃ t, PSs (cxOf CX0 P w K mg base N qual (defScope st) f fd.code A outer s H E).nox (defBody st) t ∧ t { nx := fun _ H' => Q .non H', rt := Q } (start N vs) H) : FnOk P w K mg base CX0 (k + 1) f fd ps sp := by
  obtain ⟨oc, od, kV, doc, pm, an, cdv, ct, osl, rfl, lk, hcd⟩ := F.ex
  refine fn_of lk hcd S len fun A outer s H vs Q E hr hsp => ?_
  obtain ⟨t, h, q⟩ := hbody A outer s H vs Q E hr hsp
  exact ⟨t, h.nox, q⟩
end Ct

/-! the end of a law whose defs hold generator expressions -/
namespace Ct
open PySem PySem.Spec PyProof.Rows L2
def codeOf : Value → Addr
  | .ref c => c
  | _ => 0
/-- where the table of a code object stands -/
def tabOf (K : PySem.W.Frag) (cd : Value) : Addr := match K.lookup (codeOf cd) with
  | some ⟨_, _, .fields vs, _⟩ => (match (vs : Array Value)[11]? with | some (Value.ref P) => P | _ => 0)
  | _ => 0
def tabOkB (K : PySem.W.Frag) (cd : Value) : Bool := match cd with
  | .ref c => (match K.lookup c with
    | some ⟨_, _, .fields vs, _⟩ => (match (vs : Array Value)[11]? with | some (Value.ref P) => (K.lookup P).isNone | _ => false)
    | _ => false)
  | _ => false
theorem tab_inv {K : PySem.W.Frag} {cd : Value} (h : tabOkB K cd = true) : ∃ e dd vs sl, cd = .ref (codeOf cd) ∧ K.lookup (codeOf cd) = some ⟨e, dd, .fields vs, sl⟩ ∧ vs[11]? = some (.ref (tabOf K cd)) ∧ K.lookup (tabOf K cd) = none := by
  unfold tabOkB at h
  cases cd with
  | ref c =>
    cases q : K.lookup c with
    | none =>
      simp only [q] at h
      cases h
    | some o =>
      obtain ⟨e, dd, dt, sl⟩ := o
      cases dt with
      | fields vs =>
        simp only [q] at h
        cases r : vs[11]? with
        | none =>
          simp only [r] at h
          cases h
        | some u =>
          cases u with
          | ref P =>
            simp only [r] at h
            have t : tabOf K (.ref c) = P := by
              unfold tabOf codeOf
              simp only [q, r]
            refine ⟨e, dd, vs, sl, rfl, q, ?_, ?_⟩
            · rw [t]
              exact r
            · rw [t]
              exact Option.isNone_iff_eq_none.mp h
          | _ =>
            simp only [r] at h
            cases h
      | _ =>
        simp only [q] at h
        cases h
  | _ => cases h
/-- a def that is called on the script -/
def RunOk (P : Program) (w : World) (K : PySem.W.Frag) (mg : Str → Option Value) (base : Heap) (fa : Addr) (fd : FuncData) (x : Str) (sp : Sp) : Prop :=
  ∀ (z : Shared) (H : Hp) (ws : List Value) (vs : List V) (Q : VK) (E : XK), Env0 P w K mg base callerA [] z H → BindsTo z fd ⟨ws, []⟩ ([x].zip ws) → Vals vs ws → sp vs H Q E → codeAny (model P w) callerA (.call (.ref fa) ⟨ws, []⟩) (CR CX0 [] P w H z Q E) z
theorem law_callX {P : Program} {w : World} {K : PySem.W.Frag} {mg mb : Str → Option Value} {fa a : Addr} {cs : List (Addr × Addr)} {fd : FuncData} {x : Str} {sp : Sp} {s₁ : Shared} {vs : List Value} {ns : List Int}
    (KX : K.In s₁.heap) (hns : s₁.heap.Ns mainGlobals mg) (hb : s₁.heap.Ns builtinsNs mb) (hbb : ∀ x : Str, x ≠ "__name__" → mb x = bootBuiltins x) (hlim : s₁.heap.NoLimit) (hg : s₁.gens = #[])
    (hT : ∀ p ∈ cs, s₁.heap.get? p.2 = some { cls := .none, data := .fields #[] }) (nT : ∀ p ∈ cs, K.lookup p.2 = none) (C : ∀ p ∈ cs, PySem.W.CodeHd s₁.heap p.1 p.2)
    (hbm : ∃ (bm : Addr) (ob : Obj), mg "__builtins__" = some (.ref bm) ∧ bm ≠ builtinsNs ∧ s₁.heap.get? bm = some ob ∧ ob.cls = .type "module" ∧ ob.dict = some builtinsNs ∧ ob.data = .plain)
    (ha : s₁.heap.get? a = some { cls := .type "list", data := .seq vs.toArray }) (hi : IntsAre vs ns) (hl : ns.length ≤ sizeLine)
    (F : ∀ base : Heap, K.In base → base.Ns mainGlobals mg → (∀ p ∈ cs, GxR.TabB base mg p.1 p.2) → RunOk P w K mg base fa fd x sp) (hbind : ∀ (s : Shared) (u : Value), BindsTo s fd ⟨[u], []⟩ [(x, u)])
    (hsp : ∀ H : Hp, (∀ p ∈ cs, H p.2 = some (TabX p.2)) → SqL K H a (ns.map V.int) → sp [.ref a] H (fun v H' => v = .bl true ∧ Same H H') fun _ _ _ => False) :
    codeAny (model P w) callerA (.call (.ref fa) ⟨[.ref a], []⟩) (fun r s' => r = .ok (.ret (.bool true)) ∧ OldK s₁.heap s'.heap ∧ s'.os = s₁.os ∧ AllBare s'.gens) s₁ := by
  have rv := vals_ints hi
  have lenV := hi.length
  have isT : ∀ b : Addr, b ∈ cs.map (·.2) → s₁.heap.get? b = some { cls := .none, data := .fields #[] } := fun b hb => by
    obtain ⟨p, hp, e⟩ := List.mem_map.mp hb
    rw [← e]
    exact hT p hp
  have aT : a ∉ cs.map (·.2) := fun z => by
    have q := isT a z
    rw [ha] at q
    have z' : Data.seq vs.toArray _ = Data.fields #[] := congrArg Obj.data (Option.some.inj q)
    cases z'
  have memT : ∀ p ∈ cs, p.2 ∈ cs.map (·.2) := fun p hp => List.mem_map.mpr ⟨p, hp, rfl⟩
  have core : ∀ H : Hp, (∀ b, b ∈ cs.map (·.2) → H b = some (TabX b)) → (∀ b, H b = none ∨ b ∈ cs.map (·.2) ∨ ∃ o xs, H b = some (.frz o (.lst xs))) → SqL K H a (ns.map V.int) → HOk P w H s₁.heap → (∀ b, H b ≠ none → b = a ∨ b ∈ cs.map (·.2)) → (H a ≠ none → K.lookup a = none) →
      codeAny (model P w) callerA (.call (.ref fa) ⟨[.ref a], []⟩) (fun r s' => r = .ok (.ret (.bool true)) ∧ OldK s₁.heap s'.heap ∧ s'.os = s₁.os ∧ AllBare s'.gens) s₁ := by
    intro H hH hO hS hok hA hK
    have base_of : ∀ {b : Addr} {o : Obj}, s₁.heap.get? b = some o → H b = none → (hidT s₁.heap H).get? b = some o := fun e n => hidT_get e n
    have noD : ∀ {b : Addr} {o : Obj}, s₁.heap.get? b = some o → (∀ vs n, o.data ≠ .seq vs n) → o.data ≠ .fields #[] → H b = none := fun {b o} e h1 h2 => by
      cases q : H b with
      | none => rfl
      | some u =>
        rcases hA b (by rw [q]; simp) with e' | e'
        · rw [e', ha] at e
          cases e
          exact (h1 _ _ rfl).elim
        · rw [isT b e'] at e
          cases e
          exact (h2 rfl).elim
    have noA : ∀ {b : Addr} {o : Obj} {es : Array DictEntry} {ep : Nat}, s₁.heap.get? b = some o → o.data = .dict es ep → H b = none := fun {b o es ep} e d => by
      refine noD e (fun vs n z => ?_) fun z => ?_
      · rw [d] at z
        cases z
      · rw [d] at z
        cases z
    have nsK : ∀ {b : Addr} {m : Str → Option Value}, s₁.heap.Ns b m → (hidT s₁.heap H).Ns b m := fun {b m} ⟨o, es, ep, e, d, r⟩ => ⟨o, es, ep, base_of e (noA e d), d, r⟩
    have hKb : K.In (hidT s₁.heap H) := fun b o e => base_of (KX b o e) (by
      cases q : H b with
      | none => rfl
      | some u =>
        rcases hA b (by rw [q]; simp) with e' | e'
        · rw [e'] at e q
          rw [hK (by rw [q]; simp)] at e
          cases e
        · obtain ⟨p, hp, ep⟩ := List.mem_map.mp e'
          rw [← ep, nT p hp] at e
          cases e)
    have hM : L2.Mod K mg (hidT s₁.heap H) := ⟨hKb, nsK hns, ⟨mb, nsK hb, hbb⟩, let ⟨mc, h1, h2⟩ := hlim; ⟨mc, nsK h1, h2⟩⟩
    have TB : ∀ p ∈ cs, GxR.TabB (hidT s₁.heap H) mg p.1 p.2 := fun p hp => by
      have hTp := hT p hp
      refine ⟨?_, ?_, fun z => ?_⟩
      · obtain ⟨o, us, file, tf, flags, tg, inF, text, tt, e1, r1, r2, r3, r4, r5, r6, r7, r8, hne⟩ := C p hp
        refine ⟨o, us, file, tf, flags, tg, inF, text, tt, base_of e1 (noD e1 (fun vs n z => ?_) fun z => ?_), r1, r2, r3, r4, r5, r6, r7, r8, hne⟩
        · rw [r2] at z
          cases z
        · rw [r2] at z
          cases z
          simp at r3
      · obtain ⟨bm, ob, b1, b2, b3, b4, b5, b6⟩ := hbm
        have nG : bm ≠ mainGlobals := fun q => by
          obtain ⟨o, es, ep, e, hd, _⟩ := hns
          rw [q, e] at b3
          cases b3
          rw [hd] at b6
          cases b6
        have nP : bm ≠ p.2 := fun q => by
          rw [q, hTp] at b3
          cases b3
          cases b6
        refine ⟨bm, ob, b1, b2, nG, nP, base_of b3 (noD b3 (fun vs n z => ?_) fun z => ?_), b4, b5, b6⟩
        · rw [b6] at z
          cases z
        · rw [b6] at z
          cases z
      · obtain ⟨o, es, ep, e, hd, _⟩ := hns
        rw [z, hTp] at e
        cases e
        cases hd
    have e0 : Env0 P w K mg (hidT s₁.heap H) callerA [] s₁ H := ⟨rfl, hM, fun b o e => of_hidT e, Nat.le_of_eq (hidT_size _ _), trivial, fun b hb => absurd (show b ∈ ([] : List Addr) from hb) (by simp), hok, .of_eq hg⟩
    refine codeAny_mono (F _ hKb (nsK hns) TB s₁ H [.ref a] [.ref a] _ _ e0 (hbind s₁ (.ref a)) (.cons rfl .nil) (hsp H (fun p hp => hH _ (memT p hp)) hS)) fun r s' h => ?_
    cases r with
    | error e => exact (show False from h).elim
    | ok fl =>
      cases fl with
      | next => exact False.elim h
      | brk => exact False.elim h
      | cont => exact False.elim h
      | ret u =>
        obtain ⟨v, H', os, bare, un, hok', r', q, sm⟩ := h
        subst q
        obtain rfl : u = Value.bool true := r'
        have key : ∀ b o, b ∉ cs.map (·.2) → s₁.heap.get? b = some o → s'.heap.get? b = some o := fun b o nb e => by
          cases q : H b with
          | none => exact un.keep b o e q (by intro z; exact absurd (show b ∈ ([] : List Addr) from z) (by simp)) (by simp)
          | some u =>
            rcases hO b with z | z | ⟨ob, xs, z⟩
            · rw [q] at z; cases z
            · exact absurd z nb
            · have z2 := un.frzs b ob _ z
              obtain ⟨e1, _⟩ := hok b _ z
              obtain ⟨e2, _⟩ := hok' b _ z2
              rw [e] at e1; cases e1
              exact e2
        have grown : ∀ p ∈ cs, ∃ more : Array Value, s'.heap.get? p.2 = some { cls := .none, data := .fields more } := fun p hp => by
          obtain ⟨⟨more, z, _⟩, _⟩ := hok' p.2 _ (sm _ _ (hH _ (memT p hp)))
          exact ⟨_, z⟩
        refine ⟨rfl, ⟨fun b o e => ?_, fun b o e => ?_⟩, os, bare⟩
        · by_cases hb : b ∈ cs.map (·.2)
          · obtain ⟨p, hp, ep⟩ := List.mem_map.mp hb
            obtain ⟨more, hm⟩ := grown p hp
            rw [← ep] at e ⊢
            rw [hT p hp] at e
            cases e
            exact .inr (.inl ⟨((C p hp).tab (hT p hp)).isCodeTable, rfl, #[], more, rfl, by rw [Array.empty_append]; exact hm⟩)
          · exact .inl (key b o hb e)
        · by_cases hb : b ∈ cs.map (·.2)
          · obtain ⟨p, hp, ep⟩ := List.mem_map.mp hb
            obtain ⟨more, hm⟩ := grown p hp
            rw [← ep]
            exact ⟨_, hm⟩
          · exact ⟨o, key b o hb e⟩
  cases hk : K.lookup a with
  | some o =>
    have e := KX a o hk
    rw [ha] at e
    cases e
    refine core (fun b => if b ∈ cs.map (·.2) then some (TabX b) else none) (fun b hb => if_pos hb) (fun b => ?_) (.inr ⟨_, vs.toArray, _, hk, rfl, rfl, rfl, by rw [List.size_toArray, lenV]; exact hl, by simpa using rv⟩) (fun b u z => ?_) (fun b z => ?_) fun z => absurd (show (if a ∈ cs.map (·.2) then some (TabX a) else none) = none from if_neg aT) z
    · by_cases hb : b ∈ cs.map (·.2)
      · exact .inr (.inl hb)
      · exact .inl (if_neg hb)
    · by_cases hb : b ∈ cs.map (·.2)
      · have z' := (if_pos hb).symm.trans z
        cases z'
        exact tabx_ok (isT b hb) True.intro
      · have z' := (if_neg hb).symm.trans z
        cases z'
    · by_cases hb : b ∈ cs.map (·.2)
      · exact .inr hb
      · exact absurd (if_neg hb) z
  | none =>
    refine core (fun b => if b = a then some (.frz { cls := .type "list", data := .seq vs.toArray } (.lst (ns.map V.int))) else if b ∈ cs.map (·.2) then some (TabX b) else none) (fun b hb => (if_neg (show ¬ b = a from fun z => aT (by rw [← z]; exact hb))).trans (if_pos hb)) (fun b => ?_)
      (.inl (.inr ⟨{ cls := .type "list", data := .seq vs.toArray }, if_pos rfl⟩)) (fun b u z => ?_) (fun b z => ?_) fun _ => hk
    · by_cases hb : b = a
      · exact .inr (.inr ⟨_, _, if_pos hb⟩)
      · by_cases hb2 : b ∈ cs.map (·.2)
        · exact .inr (.inl hb2)
        · exact .inl ((if_neg hb).trans (if_neg hb2))
    · by_cases hb : b = a
      · have z' := (if_pos hb).symm.trans z
        cases z'
        rw [hb]
        exact ⟨ha, by rw [List.length_map]; exact hl, vs, _, rv, ha⟩
      · have z1 := (if_neg hb).symm.trans z
        by_cases hb2 : b ∈ cs.map (·.2)
        · have z' := (if_pos hb2).symm.trans z1
          cases z'
          exact tabx_ok (isT b hb2) True.intro
        · have z' := (if_neg hb2).symm.trans z1
          cases z'
    · by_cases hb : b = a
      · exact .inl hb
      · by_cases hb2 : b ∈ cs.map (·.2)
        · exact .inr hb2
        · exact absurd ((if_neg hb).trans (if_neg hb2)) z
/-- what is known of the law's promise: cs, the defs that hold generator expressions and their code objects -/
def LawAtX (l : PySem.W.OpenLaw) (w : World) (K : PySem.W.Frag) (n : Nat) (x : Str) (mg : Str → Option Value) (fa : Addr) (defs : List Str) : Prop :=
  ∃ (fd : FuncData) (cs : List (Str × Value)) (sp : Sp), (∀ p ∈ cs, p.1 ∈ defs ∧ ∃ (f : Addr) (oc : Value) (od : Option Addr) (fdx : FuncData) (osl : Array (Option Value)), mg p.1 = some (.ref f) ∧ K.lookup f = some ⟨oc, od, .func fdx, osl⟩ ∧ fdx.code = p.2 ∧ tabOkB K p.2 = true) ∧ (∀ (s : Shared) (u : Value), BindsTo s fd ⟨[u], []⟩ [(x, u)]) ∧
    (∀ (H : Hp) (a : Addr) (ns : List Int), ns.length ≤ n → (∀ p ∈ cs, H (tabOf K p.2) = some (TabX (tabOf K p.2))) → SqL K H a (ns.map V.int) → sp [.ref a] H (fun v H' => v = .bl true ∧ Same H H') fun _ _ _ => False) ∧
    ∀ base : Heap, K.In base → base.Ns mainGlobals mg → (∀ p ∈ cs, GxR.TabB base mg (codeOf p.2) (tabOf K p.2)) → RunOk l.prog w K mg base fa fd x sp
theorem walk_ofX {l : PySem.W.OpenLaw} {n : Nat} {q : Program} {loose : List Str} {XP : (Str → Option Value) → Heap → Prop} {YP : World → Heap → Prop} {d : DefRec} {K : Params → PySem.W.Frag} {x : Str} {defs : List Str}
    (hn : l.most = some n) (hn2 : n ≤ sizeLine) (hdf : d.params.defaults = []) (hrec : (defs.all fun y => (recsOf q).any fun e => e.name == y) = true) (hY : ∀ (w : World) (h : Heap), YP w h → (K w.params).In h)
    (F : ∀ (w : World) (mg : Str → Option Value) (fa : Addr) (h : Heap), (K w.params).In h → h.Ns mainGlobals mg → mg d.name = some (.ref fa) → LawAtX l w (K w.params) n x mg fa defs) :
    PySem.W.WalkO q loose XP YP l.row.toRowW d [] (fun f vs => PySem.call f vs) := by
  refine Att.attach_callB hn hdf fun w s₀ s₁ mg mb fa o pm cd doc a vs ns G Y ho hd hcd hmg hobj hints hlen hbits hg => ?_
  have KX := hY w _ Y
  obtain ⟨fd, cs, sp, hcs, hb, hsp, hF⟩ := F w mg fa _ KX G.T.g hmg
  have facts : ∀ p ∈ cs, s₁.heap.get? (tabOf (K w.params) p.2) = some { cls := .none, data := .fields #[] } ∧ (K w.params).lookup (tabOf (K w.params) p.2) = none ∧ PySem.W.CodeHd s₁.heap (codeOf p.2) (tabOf (K w.params) p.2) := fun p hp => by
    obtain ⟨hm, f, oc, od, fdx, osl, g1, g2, g3, g4⟩ := hcs p hp
    obtain ⟨e, dd, us, sl, t1, t2, t3, t4⟩ := tab_inv g4
    obtain ⟨dL, hdm, hn1⟩ := List.any_eq_true.mp (List.all_eq_true.mp hrec _ hm)
    have hn2 : dL.name = p.1 := beq_iff_eq.mp hn1
    obtain ⟨a', o', fd', c', P', h1, h2, h3, h4, h5, h6⟩ := G.T.tab dL hdm
    rw [hn2, g1] at h1
    cases h1
    rw [KX _ _ g2] at h2
    cases h2
    cases h3
    rw [g3, t1] at h4
    cases h4
    obtain ⟨⟨ob, vc, e1, e2, e3, e4⟩, hP⟩ := id h6
    rw [KX _ _ t2] at e1
    cases e1
    cases e3
    rw [t3] at e4
    cases e4
    exact ⟨hP, t4, .of h5 h6⟩
  refine law_callX (cs := cs.map fun p => (codeOf p.2, tabOf (K w.params) p.2)) KX G.T.g G.T.b G.T.builtins G.T.nolimit hg ?_ ?_ ?_ G.T.bmain hobj hints (Nat.le_trans hlen hn2) (fun base h1 h2 h3 => hF base h1 h2 fun p hp => h3 _ (List.mem_map.mpr ⟨p, hp, rfl⟩)) hb fun H hH hS => hsp H a ns hlen (fun p hp => hH _ (List.mem_map.mpr ⟨p, hp, rfl⟩)) hS
  · intro p hp
    obtain ⟨q, hq, rfl⟩ := List.mem_map.mp hp
    exact (facts q hq).1
  · intro p hp
    obtain ⟨q, hq, rfl⟩ := List.mem_map.mp hp
    exact (facts q hq).2.1
  · intro p hp
    obtain ⟨q, hq, rfl⟩ := List.mem_map.mp hp
    exact (facts q hq).2.2
theorem RunOk.of {P : Program} {w : World} {K : PySem.W.Frag} {mg : Str → Option Value} {base : Heap} {k : Nat} {fa : Addr} {fd : FuncData} {x : Str} {sp : Sp} (hr : Room k callerA) (F : FnOk P w K mg base CX0 k fa fd [x] sp) : RunOk P w K mg base fa fd x sp :=
  fun z H ws vs Q E e b r h => F.run callerA [] z H ⟨ws, []⟩ ws vs Q E hr e b r h
end Ct

local macro_rules | `(tactic| walk_at "ct") => `(tactic| repeat (first
  | with_reducible refine Ct.w_seq ?_ | with_reducible refine Ct.w_gen ?_ | with_reducible refine Ct.w_asg ?_ | with_reducible refine Ct.w_ret ?_ | with_reducible refine Ct.w_ifS ?_ | with_reducible refine Ct.w_drop ?_ | with_reducible refine Ct.w_next ?_
  | with_reducible refine Ct.w_op ?_ | with_reducible refine Ct.w_c ?_ | with_reducible refine Ct.w_chain ?_ | with_reducible refine Ct.w_un ?_ | with_reducible refine Ct.w_test ?_ | with_reducible refine Ct.w_B ?_ | with_reducible refine Ct.w_and ?_ | with_reducible refine Ct.w_or ?_ | with_reducible refine Ct.w_not ?_ | with_reducible refine Ct.w_if ?_
  | with_reducible refine Ct.w_andV ?_ | with_reducible refine Ct.w_orV ?_ | with_reducible refine Ct.w_notV ?_
  | with_reducible refine Ct.w_nil ?_ | with_reducible refine Ct.w_cons ?_ | with_reducible refine Ct.w_cb ?_ | with_reducible refine Ct.w_call ?_ | with_reducible refine Ct.w_tup ?_ | with_reducible refine Ct.w_lst ?_ | with_reducible refine Ct.w_bm ?_
  | with_reducible refine Ct.w_for ?_ | with_reducible refine Ct.w_rng1 ?_ | with_reducible refine Ct.w_rng2 ?_ | with_reducible refine Ct.w_ilist ?_ | with_reducible refine Ct.w_itup ?_ | with_reducible refine Ct.w_im ?_ | with_reducible refine Ct.w_enum ?_ | with_reducible refine Ct.w_irev ?_ | with_reducible refine Ct.w_dcT ?_ | with_reducible refine Ct.w_bm0 ?_ | with_reducible refine Ct.w_dnewT ?_ | with_reducible refine Ct.w_dnotin ?_ | with_reducible refine Ct.w_dget ?_ | with_reducible refine Ct.w_dput ?_ | with_reducible refine Ct.w_lc ?_ | with_reducible refine Ct.w_lc2 ?_ | with_reducible refine Ct.w_star ?_ | with_reducible refine Ct.w_revL ?_ | with_reducible refine Ct.w_yes ?_
  | with_reducible refine Ct.w_gcons ?_ | with_reducible refine Ct.w_gnil ?_ | with_reducible refine Ct.w_gsub ?_ | with_reducible refine Ct.w_sl ?_ | with_reducible refine Ct.w_nopart ?_ | with_reducible refine Ct.w_part ?_
  | with_reducible refine Ct.w_rI0 ?_ | with_reducible refine Ct.w_rU ?_ | with_reducible refine Ct.w_rEqI ?_ | with_reducible refine Ct.w_rNeI ?_ | with_reducible refine Ct.w_ipI ?_ | with_reducible refine Ct.w_bl ?_ | with_reducible refine Ct.w_in ?_ | with_reducible refine Ct.w_break ?_ | with_reducible refine Ct.w_cont ?_ | with_reducible refine Ct.w_nT ?_ | with_reducible refine Ct.w_nF ?_ | with_reducible refine L2.iteT ?_ | with_reducible refine L2.iteF ?_
  | ((with_reducible refine Ct.w_rEqS (b := true) ?ceq ?_); (case ceq => decide +kernel)) | ((with_reducible refine Ct.w_rEqS (b := false) ?ceq ?_); (case ceq => decide +kernel))
  | with_reducible refine Ct.w_var rfl ?_
  | ((with_reducible refine' Ct.w_ixT ?cas ?cix ?_); (case cas => assumption); (case cix => first | exact Ct.at0 | exact Ct.at1 | exact Ct.at2 | exact rfl))
  | ((with_reducible refine' Ct.w_name ?cnm ?_); (case cnm => simp only [L2.wipe, List.map, List.set_cons_zero, List.set_cons_succ]; exact rfl)) ))

namespace My
open PySem PySem.Spec PyProof.Rows L2 Ct
def topS (i : Nat) : Stmt := PySem.Challenge.pw_clicktrain_k83_whole_joined_trains_show.main.body.getD i (.Pass ⟨0, 0, 0, 0⟩)
section
variable {P : Program} {w : World} {K : PySem.W.Frag} {mg : Str → Option Value} {base : Heap}
abbrev S_is_whole : Stmt := topS 7
theorem sc_is_whole : FnScope ["thing"] ["thing"] (defScope S_is_whole) := ⟨rfl, rfl, rfl, by decide +kernel, rfl, by decide +kernel, by decide +kernel⟩
def sp_is_whole (K : PySem.W.Frag) : Sp := fun vs H Q _ => ∃ (v : V) (d : PyData), vs = [v] ∧ Dp K H v d ∧ Q (.bl (isW d)) H
theorem ok_is_whole {f : Addr} {fd : FuncData} (F : Fun K "is_whole" "is_whole" S_is_whole f fd) (m_isinstance : mg "isinstance" = none) (m_int : mg "int" = none) (m_bool : mg "bool" = none) :
    FnOk P w K mg base CX0 1 f fd ["thing"] (sp_is_whole K) := by
  refine F.ok sc_is_whole (fun vs H Q E h => ?_) (fun cdv A outer s H vs Q E hr h => ?_)
  ·
    obtain ⟨v, d, rfl, _⟩ := h
    rfl
  ·
    obtain ⟨v, d, rfl, hd, q⟩ := h
    refine ⟨_, (pss_one (ps_ret (pe_and (pe_callB (r := rIsi K) call_isi (by rfl) m_isinstance (by decide +kernel) (pa_cons (pv 0) (pa_cons (pe_bltn (v := .ty "int") (u := .type "int") (by rfl) m_int (by decide +kernel) rfl) pa_nil))) (pe_one (pe_not (pe_callB (r := rIsi K) call_isi (by rfl) m_isinstance (by decide +kernel) (pa_cons (pv 0) (pa_cons (pe_bltn (v := .ty "bool") (u := .type "bool") (by rfl) m_bool (by decide +kernel) rfl) pa_nil)))))))), ?_⟩
    refine w_st (σ' := [some v]) rfl ?_
    walk_at "ct"
    cases hd with
    | non =>
      refine w_isi (b := false) (.base .non) (kit_ty (by decide +kernel)) ?_
      walk_at "ct"
      exact q
    | bl b =>
      refine w_isi (b := true) (.base (.bl b)) (kit_ty (by decide +kernel)) ?_
      walk_at "ct"
      refine w_isi (b := true) (.base (.bl b)) (kit_ty (by decide +kernel)) ?_
      walk_at "ct"
      exact q
    | int i =>
      refine w_isi (b := true) (.base (.int i)) (kit_ty (by decide +kernel)) ?_
      walk_at "ct"
      refine w_isi (b := false) (.base (.int i)) (kit_ty (by decide +kernel)) ?_
      walk_at "ct"
      exact q
    | str x =>
      refine w_isi (b := false) (.base (.str x)) (kit_ty (by decide +kernel)) ?_
      walk_at "ct"
      exact q
    | lst hs ht =>
      refine w_isi (b := false) (tyx_L hs) (kit_ty (by decide +kernel)) ?_
      walk_at "ct"
      exact q
    | tup hs ht =>
      refine w_isi (b := false) (tyx_T hs) (kit_ty (by decide +kernel)) ?_
      walk_at "ct"
      exact q
abbrev S_are_marks : Stmt := topS 8
theorem sc_are_marks : FnScope ["thing", "teeth", "last", "mark"] ["thing", "teeth"] (defScope S_are_marks) := ⟨rfl, rfl, rfl, by decide +kernel, rfl, by decide +kernel, by decide +kernel⟩
def sp_are_marks (K : PySem.W.Frag) : Sp := fun vs H Q _ => ∃ (v : V) (d : PyData) (z : Int), vs = [v, .int z] ∧ Dp K H v d ∧ Q (.bl (areM d z)) H
theorem ok_are_marks {f : Addr} {fd : FuncData} {f_is_whole : Addr} {fd_is_whole : FuncData} (F : Fun K "are_marks" "are_marks" S_are_marks f fd)
    (F_is_whole : Fun K "is_whole" "is_whole" S_is_whole f_is_whole fd_is_whole) (b_is_whole : Binds K fd_is_whole ["thing"] []) (g_is_whole : mg "is_whole" = some (.ref f_is_whole)) (G_is_whole : FnOk P w K mg base CX0 1 f_is_whole fd_is_whole ["thing"] (sp_is_whole K)) (m_isinstance : mg "isinstance" = none) (m_tuple : mg "tuple" = none) :
    FnOk P w K mg base CX0 2 f fd ["thing", "teeth"] (sp_are_marks K) := by
  refine F.ok sc_are_marks (fun vs H Q E h => ?_) (fun cdv A outer s H vs Q E hr h => ?_)
  ·
    obtain ⟨v, d, z, rfl, _⟩ := h
    rfl
  ·
    obtain ⟨v, d, z, rfl, hd, q⟩ := h
    refine ⟨_, (pss_cons (ps_if (pt_not (pt_val (pe_callB (r := rIsi K) call_isi (by rfl) m_isinstance (by decide +kernel) (pa_cons (pv 0) (pa_cons (pe_bltn (v := .ty "tuple") (u := .type "tuple") (by rfl) m_tuple (by decide +kernel) rfl) pa_nil))))) (pss_one (ps_ret pe_bl)) pss_nil)
      (pss_cons (ps_set (i := 2) sc_are_marks.nd rfl (.inl rfl) (pe_un un_neg pe_int))
      (pss_cons (ps_for PassesOwn.never rfl (pi_tup (pv 0)) (pg_name (i := 3) sc_are_marks.nd rfl (.inl rfl))
      (pss_cons (ps_if (PW.pt (pw_or (pt_not (pt_val (pe_call G_is_whole (hr.mono (by decide)) (by rfl) g_is_whole F_is_whole.kp b_is_whole .nil pass0 (pa_cons (pv 3) pa_nil)))) (pw_or (pt_cmpR op_le (pv 3) (pv 2) (nomark _)) (pw_or1 (pt_cmpR op_ge (pv 3) (pv 1) (nomark _)))))) (pss_one (ps_ret pe_bl)) pss_nil)
      (pss_one (ps_set (i := 2) sc_are_marks.nd rfl (.inl rfl) (pv 3)))))
      (pss_one (ps_ret pe_bl))))), ?_⟩
    refine w_st (σ' := [some v, some (.int z), none, none]) rfl ?_
    walk_at "ct"
    cases hd with
    | non =>
      refine w_isi (b := false) (.base .non) (kit_ty (by decide +kernel)) ?_
      walk_at "ct"
      exact q
    | bl b =>
      refine w_isi (b := false) (.base (.bl b)) (kit_ty (by decide +kernel)) ?_
      walk_at "ct"
      exact q
    | int i =>
      refine w_isi (b := false) (.base (.int i)) (kit_ty (by decide +kernel)) ?_
      walk_at "ct"
      exact q
    | str x =>
      refine w_isi (b := false) (.base (.str x)) (kit_ty (by decide +kernel)) ?_
      walk_at "ct"
      exact q
    | lst hs ht =>
      refine w_isi (b := false) (tyx_L hs) (kit_ty (by decide +kernel)) ?_
      walk_at "ct"
      exact q
    | @tup a xs ds hs ht =>
      refine w_isi (b := true) (tyx_T hs) (kit_ty (by decide +kernel)) ?_
      walk_at "ct"
      refine w_IT hs ?_
      have hxl := dpAll_len ht
      refine fb_tup xs (fun n σ H' => ∃ (last : Int) (y : Option V), σ = [some (.ref a), some (.int z), some (.int last), y] ∧ H' = H ∧ risesD (-1) z ds = risesD last z (ds.drop n)) ⟨-1, none, rfl, rfl, rfl⟩ ?_ ?_ ?_
      · rintro n σ H' hn ⟨last, y, rfl, rfl, _⟩
        exact hs
      · rintro n x σ H' hx ⟨last, y, rfl, rfl, hr⟩
        have hn : n < xs.length := (List.getElem?_eq_some_iff.mp hx).1
        obtain ⟨e, he⟩ : ∃ e, ds[n]? = some e := ⟨_, List.getElem?_eq_getElem (by omega)⟩
        obtain ⟨x', hx', hde⟩ := dpAll_get ht he
        cases Option.some.inj (hx.symm.trans hx')
        have hdr : ds.drop n = e :: ds.drop (n + 1) := by
          rw [List.drop_eq_getElem_cons (by omega)]
          congr 1
          rw [List.getElem?_eq_getElem (by omega)] at he
          exact Option.some.inj he
        rw [hdr] at hr
        have hq : risesD last z (e :: ds.drop (n + 1)) = false → Q (.bl false) H' := fun z => by
          rw [z] at hr
          rw [show areM (.tuple ds) _ = risesD (-1) _ ds from rfl, hr] at q
          exact q
        walk_at "ct"
        refine ⟨x, e, rfl, hde, ?_⟩
        cases hde with
        | int m =>
          refine w_bl (w_nT ?_)
          walk_at "ct"
          refine w_ite (fun e1 => ?_) (fun e1 => ?_)
          · walk_at "ct"
            exact hq (if_pos (.inl e1))
          · walk_at "ct"
            refine w_ite (fun e2 => ?_) (fun e2 => ?_)
            · walk_at "ct"
              exact hq (if_pos (.inr e2))
            · walk_at "ct"
              exact ⟨m, _, rfl, rfl, hr.trans (if_neg (by omega))⟩
        | non =>
          refine w_bl (w_nF ?_)
          walk_at "ct"
          exact hq rfl
        | bl b =>
          refine w_bl (w_nF ?_)
          walk_at "ct"
          exact hq rfl
        | str s =>
          refine w_bl (w_nF ?_)
          walk_at "ct"
          exact hq rfl
        | lst h1 h2 =>
          refine w_bl (w_nF ?_)
          walk_at "ct"
          exact hq rfl
        | tup h1 h2 =>
          refine w_bl (w_nF ?_)
          walk_at "ct"
          exact hq rfl
      · rintro σ H' ⟨last, y, rfl, rfl, hr⟩
        walk_at "ct"
        rw [show areM (.tuple ds) z = risesD (-1) z ds from rfl, hr, List.drop_of_length_le (by omega)] at q
        exact q
abbrev S_is_part : Stmt := topS 9
theorem sc_is_part : FnScope ["thing"] ["thing"] (defScope S_is_part) := ⟨rfl, rfl, rfl, by decide +kernel, rfl, by decide +kernel, by decide +kernel⟩
def sp_is_part (K : PySem.W.Frag) : Sp := fun vs H Q _ => ∃ (v : V) (d : PyData) (n : Nat), vs = [v] ∧ Dp K H v d ∧ d.canLay0 = true ∧ d.depth ≤ n ∧ n ≤ 60 ∧ ∀ H', Same H H' → Q (.bl (isP d)) H'
theorem ok_is_part {f : Addr} {fd : FuncData} {f_is_whole : Addr} {fd_is_whole : FuncData} {f_are_marks : Addr} {fd_are_marks : FuncData} (F : Fun K "is_part" "is_part" S_is_part f fd)
    (F_is_whole : Fun K "is_whole" "is_whole" S_is_whole f_is_whole fd_is_whole) (b_is_whole : Binds K fd_is_whole ["thing"] []) (g_is_whole : mg "is_whole" = some (.ref f_is_whole)) (G_is_whole : FnOk P w K mg base CX0 1 f_is_whole fd_is_whole ["thing"] (sp_is_whole K))
    (F_are_marks : Fun K "are_marks" "are_marks" S_are_marks f_are_marks fd_are_marks) (b_are_marks : Binds K fd_are_marks ["thing", "teeth"] []) (g_are_marks : mg "are_marks" = some (.ref f_are_marks)) (G_are_marks : FnOk P w K mg base CX0 2 f_are_marks fd_are_marks ["thing", "teeth"] (sp_are_marks K)) (m_isinstance : mg "isinstance" = none) (m_tuple : mg "tuple" = none) (m_len : mg "len" = none) :
    FnOk P w K mg base CX0 3 f fd ["thing"] (sp_is_part K) := by
  refine F.ok sc_is_part (fun vs H Q E h => ?_) (fun cdv A outer s H vs Q E hr h => ?_)
  ·
    obtain ⟨v, d, n, rfl, _⟩ := h
    rfl
  ·
    obtain ⟨v, d, n, rfl, hd, lay, dep, n60, q⟩ := h
    refine ⟨_, (pss_cons (ps_if (PW.pt (pw_or (pt_not (pt_val (pe_callB (r := rIsi K) call_isi (by rfl) m_isinstance (by decide +kernel) (pa_cons (pv 0) (pa_cons (pe_bltn (v := .ty "tuple") (u := .type "tuple") (by rfl) m_tuple (by decide +kernel) rfl) pa_nil))))) (pw_or1 (pt_cmpR op_eq (pe_callB call_len_seq (by rfl) m_len (by decide +kernel) (pa_cons (pv 0) pa_nil)) pe_int (nomark _))))) (pss_one (ps_ret pe_bl)) pss_nil)
      (pss_cons (ps_if (pt_cmpR (r := rEqD K) (op_eqD hr.units) (pe_ix (r := rIxT K) ix_tup (pv 0) pe_int (fun _ _ => rfl)) pe_str (nomark _)) (pss_one (ps_ret (pe_and (pe_cmpR op_eq (pe_callB call_len_seq (by rfl) m_len (by decide +kernel) (pa_cons (pv 0) pa_nil)) pe_int (nomark _)) (pe_and (pe_call G_is_whole (hr.mono (by decide)) (by rfl) g_is_whole F_is_whole.kp b_is_whole .nil pass0 (pa_cons (pe_ix (r := rIxT K) ix_tup (pv 0) pe_int (fun _ _ => rfl)) pa_nil)) (pe_and (pe_cmpR op_ge (pe_ix (r := rIxT K) ix_tup (pv 0) pe_int (fun _ _ => rfl)) pe_int (nomark _)) (pe_one (pe_call G_are_marks (hr.mono (by decide)) (by rfl) g_are_marks F_are_marks.kp b_are_marks .nil pass0 (pa_cons (pe_ix (r := rIxT K) ix_tup (pv 0) pe_int (fun _ _ => rfl)) (pa_cons (pe_ix (r := rIxT K) ix_tup (pv 0) pe_int (fun _ _ => rfl)) pa_nil))))))))) pss_nil)
      (pss_cons (ps_if (pt_cmpR (r := rEqD K) (op_eqD hr.units) (pe_ix (r := rIxT K) ix_tup (pv 0) pe_int (fun _ _ => rfl)) pe_str (nomark _)) (pss_one (ps_ret (pe_and (pe_cmpR op_eq (pe_callB call_len_seq (by rfl) m_len (by decide +kernel) (pa_cons (pv 0) pa_nil)) pe_int (nomark _)) (pe_and (pe_call G_is_whole (hr.mono (by decide)) (by rfl) g_is_whole F_is_whole.kp b_is_whole .nil pass0 (pa_cons (pe_ix (r := rIxT K) ix_tup (pv 0) pe_int (fun _ _ => rfl)) pa_nil)) (pe_one (pe_cmpR op_ge (pe_ix (r := rIxT K) ix_tup (pv 0) pe_int (fun _ _ => rfl)) pe_int (nomark _))))))) pss_nil)
      (pss_one (ps_ret (pe_or (pe_cmpR (r := rEqD K) (op_eqD hr.units) (pv 0) (pe_tup (pa_cons pe_str pa_nil)) (nomark _)) (pe_one (pe_cmpR (r := rEqD K) (op_eqD hr.units) (pv 0) (pe_tup (pa_cons pe_str pa_nil)) (nomark _))))))))), ?_⟩
    refine w_st (σ' := [some v]) rfl ?_
    walk_at "ct"
    cases hd with
    | non =>
      refine w_isi (b := false) (.base .non) (kit_ty (by decide +kernel)) ?_
      walk_at "ct"
      exact q H (Same.refl H)
    | bl b =>
      refine w_isi (b := false) (.base (.bl b)) (kit_ty (by decide +kernel)) ?_
      walk_at "ct"
      exact q H (Same.refl H)
    | int i =>
      refine w_isi (b := false) (.base (.int i)) (kit_ty (by decide +kernel)) ?_
      walk_at "ct"
      exact q H (Same.refl H)
    | str x =>
      refine w_isi (b := false) (.base (.str x)) (kit_ty (by decide +kernel)) ?_
      walk_at "ct"
      exact q H (Same.refl H)
    | lst hs ht =>
      refine w_isi (b := false) (tyx_L hs) (kit_ty (by decide +kernel)) ?_
      walk_at "ct"
      exact q H (Same.refl H)
    | @tup a xs ds hs ht =>
      refine w_isi (b := true) (tyx_T hs) (kit_ty (by decide +kernel)) ?_
      walk_at "ct"
      refine ⟨a, xs, rfl, .inr hs, ?_⟩
      walk_at "ct"
      cases ht with
      | nil =>
        refine w_ite (fun e => ?_) (fun e => absurd rfl e)
        walk_at "ct"
        exact q H (Same.refl H)
      | @cons v0 vs0 d0 ds0 h0 t0 =>
        have hw : SeqAt.shaped (.str "wheel") = true := by decide +kernel
        have hsp : SeqAt.shaped (.str "spring") = true := by decide +kernel
        rw [PyData.canLay0, PyData.canLayAll0, Bool.and_eq_true] at lay
        rw [PyData.depth, PyData.depthAll] at dep
        have sh0 : SeqAt.shaped d0 = true := shaped_of (n := n) ⟨lay.1, by omega⟩ (by omega)
        have hwhole : ∀ H', Same H H' → Dp K H' (.ref a) (.tuple (d0 :: ds0)) := fun H' s => .tup (Same.tup s hs) (.cons (dp_same s h0) (dpAll_same s t0))
        have shw : SeqAt.shaped (.tuple (d0 :: ds0)) = true := shaped_of (n := n) ⟨by rw [PyData.canLay0, PyData.canLayAll0, lay.1, lay.2]; rfl, by rw [PyData.depth, PyData.depthAll]; omega⟩ (by omega)
        refine w_ite (fun e => absurd e (by rw [List.length_cons]; omega)) (fun e => ?_)
        walk_at "ct"
        refine ⟨d0, .str "wheel", h0, .str _, sh0, hw, ?_⟩
        walk_at "ct"
        by_cases e1 : PyData.eqv d0 (.str "wheel") = true
        · rw [if_pos e1]
          have hq : ∀ b : Bool, b = isP (.tuple (d0 :: ds0)) → Q (.bl b) H := fun b hb => by
            rw [hb]
            exact q H (Same.refl H)
          have hP : isP (.tuple (d0 :: ds0)) = wheelT ds0 := by
            simp only [isP, if_pos e1]
          walk_at "ct"
          refine ⟨a, _, rfl, .inr hs, ?_⟩
          walk_at "ct"
          have l0 := dpAll_len t0
          cases t0 with
          | nil =>
            refine w_ite (fun e => absurd e (by show ¬ ((1 : Nat) : Int) = 3; decide)) (fun e => ?_)
            exact hq _ hP.symm
          | @cons v1 vs1 d1 ds1 h1 t1 =>
            cases t1 with
            | nil =>
              refine w_ite (fun e => absurd e (by show ¬ ((2 : Nat) : Int) = 3; decide)) (fun e => ?_)
              exact hq _ (by rw [hP]; cases d1 <;> rfl)
            | @cons v2 vs2 d2 ds2 h2 t2 =>
              cases t2 with
              | nil =>
                refine w_ite (fun e => ?_) (fun e => absurd rfl e)
                walk_at "ct"
                refine ⟨v1, d1, rfl, h1, ?_⟩
                cases h1 with
                | int z =>
                  refine w_bl ?_
                  refine iteT ?_
                  walk_at "ct"
                  refine w_ite (fun e => ?_) (fun e => ?_)
                  · walk_at "ct"
                    refine ⟨v2, d2, z, rfl, h2, ?_⟩
                    exact hq _ (by rw [hP]; show _ = (decide (1 ≤ z) && areM d2 z); rw [decide_eq_true e]; rfl)
                  · exact hq _ (by rw [hP]; show _ = (decide (1 ≤ z) && areM d2 z); rw [decide_eq_false e]; rfl)
                | non => exact w_bl (iteF (hq _ hP.symm))
                | bl b => exact w_bl (iteF (hq _ hP.symm))
                | str s => exact w_bl (iteF (hq _ hP.symm))
                | lst g1 g2 => exact w_bl (iteF (hq _ hP.symm))
                | tup g1 g2 => exact w_bl (iteF (hq _ hP.symm))
              | @cons v3 vs3 d3 ds3 h3 t3 =>
                refine w_ite (fun e => absurd e (by rw [List.length_cons, List.length_cons, List.length_cons, List.length_cons]; omega)) (fun e => ?_)
                exact hq _ (by rw [hP]; cases d1 <;> rfl)
        · rw [if_neg e1]
          walk_at "ct"
          refine ⟨d0, .str "spring", h0, .str _, sh0, hsp, ?_⟩
          walk_at "ct"
          by_cases e2 : PyData.eqv d0 (.str "spring") = true
          · rw [if_pos e2]
            have hq : ∀ b : Bool, b = isP (.tuple (d0 :: ds0)) → Q (.bl b) H := fun b hb => by
              rw [hb]
              exact q H (Same.refl H)
            have hP : isP (.tuple (d0 :: ds0)) = springT ds0 := by
              simp only [isP, if_neg e1, if_pos e2]
            walk_at "ct"
            refine ⟨a, _, rfl, .inr hs, ?_⟩
            walk_at "ct"
            cases t0 with
            | nil =>
              refine w_ite (fun e => absurd e (by show ¬ ((1 : Nat) : Int) = 2; decide)) (fun e => ?_)
              exact hq _ hP.symm
            | @cons v1 vs1 d1 ds1 h1 t1 =>
              cases t1 with
              | nil =>
                refine w_ite (fun e => ?_) (fun e => absurd rfl e)
                walk_at "ct"
                refine ⟨v1, d1, rfl, h1, ?_⟩
                cases h1 with
                | int z =>
                  refine w_bl ?_
                  refine iteT ?_
                  walk_at "ct"
                  exact hq _ hP.symm
                | non => exact w_bl (iteF (hq _ hP.symm))
                | bl b => exact w_bl (iteF (hq _ hP.symm))
                | str s => exact w_bl (iteF (hq _ hP.symm))
                | lst g1 g2 => exact w_bl (iteF (hq _ hP.symm))
                | tup g1 g2 => exact w_bl (iteF (hq _ hP.symm))
              | @cons v2 vs2 d2 ds2 h2 t2 =>
                refine w_ite (fun e => absurd e (by rw [List.length_cons, List.length_cons, List.length_cons]; omega)) (fun e => ?_)
                exact hq _ (by rw [hP]; cases d1 <;> rfl)
          · rw [if_neg e2]
            have hP : isP (.tuple (d0 :: ds0)) = (PyData.eqv (.tuple (d0 :: ds0)) (.tuple [.str "click"]) || PyData.eqv (.tuple (d0 :: ds0)) (.tuple [.str "rocker"])) := by
              simp only [isP, if_neg e1, if_neg e2]
            rw [hP] at q
            walk_at "ct"
            refine ⟨len2 rfl, fun p np => ?_⟩
            have s1 : Same H (upd H p (.tup [.str "click"])) := same_upd np
            refine ⟨.tuple (d0 :: ds0), .tuple [.str "click"], hwhole _ s1, .tup (.of upd_same) (.cons (.str _) .nil), shw, by decide +kernel, ?_⟩
            walk_at "ct"
            by_cases e3 : PyData.eqv (.tuple (d0 :: ds0)) (.tuple [.str "click"]) = true
            · rw [if_pos e3]
              rw [e3] at q
              exact q _ s1
            · rw [if_neg e3]
              rw [Bool.not_eq_true] at e3
              rw [e3] at q
              walk_at "ct"
              refine ⟨len2 rfl, fun p2 np2 => ?_⟩
              have s2 := same_new (o := .tup [.str "rocker"]) s1 (s1.free np2)
              refine ⟨.tuple (d0 :: ds0), .tuple [.str "rocker"], hwhole _ s2, .tup (.of upd_same) (.cons (.str _) .nil), shw, by decide +kernel, ?_⟩
              exact q _ s2
abbrev S_check_train : Stmt := topS 10
theorem sc_check_train : FnScope ["train", "part"] ["train"] (defScope S_check_train) := ⟨rfl, rfl, rfl, by decide +kernel, rfl, by decide +kernel, by decide +kernel⟩
def sp_check_train (K : PySem.W.Frag) : Sp := fun vs H Q _ => ∃ (a : Addr) (ps : List Part), vs = [.ref a] ∧ TrainAt K H a ps ∧ (∀ p ∈ ps, p.ok) ∧ 1 ≤ ps.length ∧ ∀ H', Same H H' → Q .non H'
theorem ok_check_train {f : Addr} {fd : FuncData} {f_is_part : Addr} {fd_is_part : FuncData} (F : Fun K "check_train" "check_train" S_check_train f fd)
    (F_is_part : Fun K "is_part" "is_part" S_is_part f_is_part fd_is_part) (b_is_part : Binds K fd_is_part ["thing"] []) (g_is_part : mg "is_part" = some (.ref f_is_part)) (G_is_part : FnOk P w K mg base CX0 3 f_is_part fd_is_part ["thing"] (sp_is_part K)) (m_isinstance : mg "isinstance" = none) (m_list : mg "list" = none) (m_len : mg "len" = none) :
    FnOk P w K mg base CX0 4 f fd ["train"] (sp_check_train K) := by
  refine F.ok sc_check_train (fun vs H Q E h => ?_) (fun cdv A outer s H vs Q E hr h => ?_)
  ·
    obtain ⟨a, ps, rfl, _⟩ := h
    rfl
  ·
    obtain ⟨a, ps, rfl, ⟨vs, hv, hd⟩, hok, hps, q⟩ := h
    refine ⟨_, (pss_cons (ps_if (PW.pt (pw_or (pt_not (pt_val (pe_callB (r := rIsi K) call_isi (by rfl) m_isinstance (by decide +kernel) (pa_cons (pv 0) (pa_cons (pe_bltn (v := .ty "list") (u := .type "list") (by rfl) m_list (by decide +kernel) rfl) pa_nil))))) (pw_or1 (pt_cmpR op_eq (pe_callB call_len_seq (by rfl) m_len (by decide +kernel) (pa_cons (pv 0) pa_nil)) pe_int (nomark _))))) (pss_one ps_never) pss_nil)
      (pss_one (ps_for PassesOwn.never rfl (pi_list (pv 0)) (pg_name (i := 1) sc_check_train.nd rfl (.inl rfl))
      (pss_one (ps_if (pt_not (pt_val (pe_call G_is_part (hr.mono (by decide)) (by rfl) g_is_part F_is_part.kp b_is_part .nil pass0 (pa_cons (pv 1) pa_nil)))) (pss_one ps_never) pss_nil))))), ?_⟩
    refine w_st (σ' := [some (.ref a), none]) rfl ?_
    have hvl : vs.length = ps.length := by rw [dpAll_len hd, List.length_map]
    walk_at "ct"
    refine w_isi (b := true) (tyx_L hv) (kit_ty (by decide +kernel)) ?_
    walk_at "ct"
    refine ⟨a, vs, rfl, .inl hv, ?_⟩
    walk_at "ct"
    refine w_ite (fun e => absurd e (by omega)) (fun e => ?_)
    walk_at "ct"
    refine w_IL hv ?_
    refine fb_list vs (fun n σ H' => ∃ y, σ = [some (.ref a), y] ∧ Same H H') ⟨none, rfl, Same.refl H⟩ ?_ ?_ ?_
    · rintro n σ H' hn ⟨y, rfl, sm⟩
      exact sm.seq hv
    · rintro n v σ H' hx ⟨y, rfl, sm⟩
      have hn : n < vs.length := (List.getElem?_eq_some_iff.mp hx).1
      obtain ⟨p, hp⟩ : ∃ p, ps[n]? = some p := ⟨_, List.getElem?_eq_getElem (by omega)⟩
      obtain ⟨v', hv1, hd1⟩ := TrainAt.at (a := a) hd hp
      cases Option.some.inj (hx.symm.trans hv1)
      walk_at "ct"
      refine ⟨v, p.data, 2, rfl, dp_same sm hd1, (lay_part p).1, (lay_part p).2, by decide, fun H1 s1 => ?_⟩
      rw [isP_of (hok p (List.mem_of_getElem? hp))]
      walk_at "ct"
      exact ⟨_, rfl, sm.trans s1⟩
    · rintro σ H' ⟨y, rfl, sm⟩
      exact q H' sm
abbrev S_place_count : Stmt := topS 11
theorem sc_place_count : FnScope ["part"] ["part"] (defScope S_place_count) := ⟨rfl, rfl, rfl, by decide +kernel, rfl, by decide +kernel, by decide +kernel⟩
def sp_place_count (K : PySem.W.Frag) : Sp := fun vs H Q _ => ∃ (v : V) (p : Part), vs = [v] ∧ Dp K H v p.data ∧ Q (.int p.places) H
theorem ok_place_count {f : Addr} {fd : FuncData} (F : Fun K "place_count" "place_count" S_place_count f fd) :
    FnOk P w K mg base CX0 1 f fd ["part"] (sp_place_count K) := by
  refine F.ok sc_place_count (fun vs H Q E h => ?_) (fun cdv A outer s H vs Q E hr h => ?_)
  ·
    obtain ⟨v, p, rfl, _⟩ := h
    rfl
  ·
    obtain ⟨v, p, rfl, hp, q⟩ := h
    refine ⟨_, (pss_cons (ps_if (pt_cmpR op_eq (pe_ix (r := rIxT K) ix_tup (pv 0) pe_int (fun _ _ => rfl)) pe_str (nomark _)) (pss_one (ps_ret pe_int)) pss_nil)
      (pss_cons (ps_if (pt_cmpR op_eq (pe_ix (r := rIxT K) ix_tup (pv 0) pe_int (fun _ _ => rfl)) pe_str (nomark _)) (pss_one (ps_ret pe_int)) pss_nil)
      (pss_one (ps_ret (pe_ix (r := rIxT K) ix_tup (pv 0) pe_int (fun _ _ => rfl)))))), ?_⟩
    refine w_st (σ' := [some v]) rfl ?_
    cases p with
    | wheel z ms =>
      obtain ⟨a, b, rfl, ha, hb⟩ := wheel_inv hp
      walk_at "ct"
      exact q
    | click =>
      obtain ⟨a, rfl, ha⟩ := click_inv hp
      walk_at "ct"
      exact q
    | rocker =>
      obtain ⟨a, rfl, ha⟩ := rocker_inv hp
      walk_at "ct"
      exact q
    | spring k =>
      obtain ⟨a, rfl, ha⟩ := spring_inv hp
      walk_at "ct"
      exact q
abbrev S_is_stand : Stmt := topS 12
theorem sc_is_stand : FnScope ["train", "thing", "part", "place"] ["train", "thing"] (defScope S_is_stand) := ⟨rfl, rfl, rfl, by decide +kernel, rfl, by decide +kernel, by decide +kernel⟩
def sp_is_stand (K : PySem.W.Frag) : Sp := fun vs H Q _ => ∃ (a t : Addr) (ps : List Part) (xs : List Int), vs = [.ref a, .ref t] ∧ TrainAt K H a ps ∧ SqT K H t (xs.map V.int) ∧ StandOk ps xs ∧ ∀ H', Same H H' → Q (.bl true) H'
theorem ok_is_stand {f : Addr} {fd : FuncData} {f_place_count : Addr} {fd_place_count : FuncData} {f_is_whole : Addr} {fd_is_whole : FuncData} (F : Fun K "is_stand" "is_stand" S_is_stand f fd)
    (F_place_count : Fun K "place_count" "place_count" S_place_count f_place_count fd_place_count) (b_place_count : Binds K fd_place_count ["part"] []) (g_place_count : mg "place_count" = some (.ref f_place_count)) (G_place_count : FnOk P w K mg base CX0 1 f_place_count fd_place_count ["part"] (sp_place_count K))
    (F_is_whole : Fun K "is_whole" "is_whole" S_is_whole f_is_whole fd_is_whole) (b_is_whole : Binds K fd_is_whole ["thing"] []) (g_is_whole : mg "is_whole" = some (.ref f_is_whole)) (G_is_whole : FnOk P w K mg base CX0 1 f_is_whole fd_is_whole ["thing"] (sp_is_whole K)) (m_zip : mg "zip" = none) (m_isinstance : mg "isinstance" = none) (m_tuple : mg "tuple" = none) (m_len : mg "len" = none) :
    FnOk P w K mg base CX0 2 f fd ["train", "thing"] (sp_is_stand K) := by
  refine F.ok sc_is_stand (fun vs H Q E h => ?_) (fun cdv A outer s H vs Q E hr h => ?_)
  ·
    obtain ⟨a, t, ps, xs, rfl, _⟩ := h
    rfl
  ·
    obtain ⟨a, t, ps, xs, rfl, ⟨vs, hv, hd⟩, hS, hso, q⟩ := h
    have s1 := Same.refl H
    refine ⟨_, (pss_cons (ps_if (PW.pt (pw_or (pt_not (pt_val (pe_callB (r := rIsi K) call_isi (by rfl) m_isinstance (by decide +kernel) (pa_cons (pv 1) (pa_cons (pe_bltn (v := .ty "tuple") (u := .type "tuple") (by rfl) m_tuple (by decide +kernel) rfl) pa_nil))))) (pw_or1 (pt_cmpR op_ne (pe_callB call_len_seq (by rfl) m_len (by decide +kernel) (pa_cons (pv 1) pa_nil)) (pe_callB call_len_seq (by rfl) m_len (by decide +kernel) (pa_cons (pv 0) pa_nil)) (nomark _))))) (pss_one (ps_ret pe_bl)) pss_nil)
      (pss_cons (ps_for PassesOwn.never rfl (pi_zipM (by rfl) m_zip (pa_cons (pv 0) (pa_cons (pv 1) pa_nil))) (pg_tup rfl (pgs_cons (pg_name (i := 2) sc_is_stand.nd rfl (.inl rfl)) (pgs_cons (pg_name (i := 3) sc_is_stand.nd rfl (.inl rfl)) pgs_nil)))
      (pss_one (ps_if (PW.pt (pw_or (pt_not (pt_val (pe_call G_is_whole (hr.mono (by decide)) (by rfl) g_is_whole F_is_whole.kp b_is_whole .nil pass0 (pa_cons (pv 3) pa_nil)))) (pw_or (pt_cmpR op_lt (pv 3) pe_int (nomark _)) (pw_or1 (pt_cmpR op_ge (pv 3) (pe_call G_place_count (hr.mono (by decide)) (by rfl) g_place_count F_place_count.kp b_place_count .nil pass0 (pa_cons (pv 2) pa_nil)) (nomark _)))))) (pss_one (ps_ret pe_bl)) pss_nil)))
      (pss_one (ps_ret pe_bl)))), ?_⟩
    refine w_st (σ' := [some (.ref a), some (.ref t), none, none]) rfl ?_
    have hvl : vs.length = ps.length := by rw [dpAll_len hd, List.length_map]
    have hxl := hso.1
    walk_at "ct"
    refine w_isi (b := true) (tyx_T (Same.tup s1 hS)) (kit_ty (by decide +kernel)) ?_
    walk_at "ct"
    refine ⟨t, _, rfl, .inr (Same.tup s1 hS), ?_⟩
    walk_at "ct"
    refine ⟨a, _, rfl, .inl (s1.seq hv), ?_⟩
    walk_at "ct"
    refine w_iteN (fun e => absurd (by rw [List.length_map, hxl, hvl]) e) (fun e => ?_)
    walk_at "ct"
    refine w_IM (s1.seq hv) (Same.tup s1 hS) ?_
    refine fb_zipM vs (xs.map V.int) (by rw [List.length_map]; omega) (fun n σ H' => ∃ y z, σ = [some (.ref a), some (.ref t), y, z] ∧ Same H H') ⟨none, none, rfl, s1⟩ ?_ ?_ ?_
    · rintro n σ H' hn ⟨y, z, rfl, sm⟩
      exact ⟨sm.seq hv, Same.tup sm hS⟩
    · rintro n v u T σ H' hx hu ⟨y, z, rfl, sm⟩ hT
      have hn : n < vs.length := (List.getElem?_eq_some_iff.mp hx).1
      obtain ⟨p, hp⟩ : ∃ p, ps[n]? = some p := ⟨_, List.getElem?_eq_getElem (by omega)⟩
      obtain ⟨v', hv1, hd1⟩ := TrainAt.at (a := a) hd hp
      cases Option.some.inj (hx.symm.trans hv1)
      obtain ⟨x, hxx⟩ : ∃ x, xs[n]? = some x := ⟨_, List.getElem?_eq_getElem (by omega)⟩
      rw [List.getElem?_map, hxx] at hu
      cases Option.some.inj hu
      have hb := hso.2 n p x hp hxx
      have s2 : Same H (upd H' T (.tup [v, .int x])) := same_new sm (sm.free hT)
      refine w_gtup (.of upd_same) rfl ?_
      walk_at "ct"
      refine ⟨.int x, .int x, rfl, .int x, ?_⟩
      walk_at "ct"
      refine w_nT ?_
      walk_at "ct"
      refine w_ite (fun e => absurd e (by omega)) (fun e => ?_)
      walk_at "ct"
      refine ⟨v, p, rfl, dp_same s2 hd1, ?_⟩
      walk_at "ct"
      refine w_ite (fun e => absurd e (by omega)) (fun e => ?_)
      walk_at "ct"
      exact ⟨_, _, rfl, s2⟩
    · rintro σ H' ⟨y, z, rfl, sm⟩
      walk_at "ct"
      exact q H' sm
abbrev S_check_stand : Stmt := topS 13
theorem sc_check_stand : FnScope ["train", "stand"] ["train", "stand"] (defScope S_check_stand) := ⟨rfl, rfl, rfl, by decide +kernel, rfl, by decide +kernel, by decide +kernel⟩
def sp_check_stand (K : PySem.W.Frag) : Sp := fun vs H Q _ => ∃ (a t : Addr) (ps : List Part) (xs : List Int), vs = [.ref a, .ref t] ∧ TrainAt K H a ps ∧ (∀ p ∈ ps, p.ok) ∧ 1 ≤ ps.length ∧ SqT K H t (xs.map V.int) ∧ StandOk ps xs ∧ ∀ H', Same H H' → Q .non H'
theorem ok_check_stand {f : Addr} {fd : FuncData} {f_is_stand : Addr} {fd_is_stand : FuncData} {f_check_train : Addr} {fd_check_train : FuncData} (F : Fun K "check_stand" "check_stand" S_check_stand f fd)
    (F_is_stand : Fun K "is_stand" "is_stand" S_is_stand f_is_stand fd_is_stand) (b_is_stand : Binds K fd_is_stand ["train", "thing"] []) (g_is_stand : mg "is_stand" = some (.ref f_is_stand)) (G_is_stand : FnOk P w K mg base CX0 2 f_is_stand fd_is_stand ["train", "thing"] (sp_is_stand K))
    (F_check_train : Fun K "check_train" "check_train" S_check_train f_check_train fd_check_train) (b_check_train : Binds K fd_check_train ["train"] []) (g_check_train : mg "check_train" = some (.ref f_check_train)) (G_check_train : FnOk P w K mg base CX0 4 f_check_train fd_check_train ["train"] (sp_check_train K)) :
    FnOk P w K mg base CX0 5 f fd ["train", "stand"] (sp_check_stand K) := by
  refine F.ok sc_check_stand (fun vs H Q E h => ?_) (fun cdv A outer s H vs Q E hr h => ?_)
  ·
    obtain ⟨a, t, ps, xs, rfl, _⟩ := h
    rfl
  ·
    obtain ⟨a, t, ps, xs, rfl, hT, hok, hps, hS, hso, q⟩ := h
    refine ⟨_, (pss_cons (ps_expr (pe_call G_check_train (hr.mono (by decide)) (by rfl) g_check_train F_check_train.kp b_check_train .nil pass0 (pa_cons (pv 0) pa_nil)))
      (pss_one (ps_if (pt_not (pt_val (pe_call G_is_stand (hr.mono (by decide)) (by rfl) g_is_stand F_is_stand.kp b_is_stand .nil pass0 (pa_cons (pv 0) (pa_cons (pv 1) pa_nil))))) (pss_one ps_never) pss_nil))), ?_⟩
    refine w_st (σ' := [some (.ref a), some (.ref t)]) rfl ?_
    walk_at "ct"
    refine ⟨a, ps, rfl, hT, hok, hps, fun H1 s1 => ?_⟩
    walk_at "ct"
    refine ⟨a, t, ps, xs, rfl, hT.same s1, Same.tup s1 hS, hso, fun H2 s2 => ?_⟩
    walk_at "ct"
    exact q H2 (s1.trans s2)
abbrev S_is_way : Stmt := topS 14
theorem sc_is_way : FnScope ["thing"] ["thing"] (defScope S_is_way) := ⟨rfl, rfl, rfl, by decide +kernel, rfl, by decide +kernel, by decide +kernel⟩
def isWay : PyData → Bool
  | .int i => decide (i = 1) || decide (i = -1)
  | _ => false
def sp_is_way (K : PySem.W.Frag) : Sp := fun vs H Q _ => ∃ (v : V) (d : PyData), vs = [v] ∧ Dp K H v d ∧ ∀ H', Same H H' → Q (.bl (isWay d)) H'
theorem ok_is_way {f : Addr} {fd : FuncData} {f_is_whole : Addr} {fd_is_whole : FuncData} (F : Fun K "is_way" "is_way" S_is_way f fd)
    (F_is_whole : Fun K "is_whole" "is_whole" S_is_whole f_is_whole fd_is_whole) (b_is_whole : Binds K fd_is_whole ["thing"] []) (g_is_whole : mg "is_whole" = some (.ref f_is_whole)) (G_is_whole : FnOk P w K mg base CX0 1 f_is_whole fd_is_whole ["thing"] (sp_is_whole K)) :
    FnOk P w K mg base CX0 2 f fd ["thing"] (sp_is_way K) := by
  refine F.ok sc_is_way (fun vs H Q E h => ?_) (fun cdv A outer s H vs Q E hr h => ?_)
  ·
    obtain ⟨v, d, rfl, _⟩ := h
    rfl
  ·
    obtain ⟨v, d, rfl, hd, q⟩ := h
    refine ⟨_, (pss_one (ps_ret (pe_and (pe_call G_is_whole (hr.mono (by decide)) (by rfl) g_is_whole F_is_whole.kp b_is_whole .nil pass0 (pa_cons (pv 0) pa_nil)) (pe_one (pe_cmpR (r := rIn K false) op_in_seq (pv 0) (pe_tup (pa_cons pe_int (pa_cons (pe_un un_neg pe_int) pa_nil))) (by rfl)))))), ?_⟩
    refine w_st (σ' := [some v]) rfl ?_
    walk_at "ct"
    refine ⟨v, d, rfl, hd, ?_⟩
    cases hd with
    | int i =>
      refine w_bl (iteT ?_)
      walk_at "ct"
      refine ⟨len2 rfl, fun p np => ?_⟩
      refine w_inT (ns := [1, -1]) (.of upd_same) ?_
      have e : decide (i ∈ ([1, -1] : List Int)) = isWay (.int i) := by
        rw [Bool.eq_iff_iff, decide_eq_true_iff, isWay, Bool.or_eq_true, decide_eq_true_iff, decide_eq_true_iff]
        simp
      rw [e]
      exact q _ (same_upd np)
    | non =>
      refine w_bl (iteF ?_)
      exact q H (Same.refl H)
    | bl b =>
      refine w_bl (iteF ?_)
      exact q H (Same.refl H)
    | str s =>
      refine w_bl (iteF ?_)
      exact q H (Same.refl H)
    | lst g1 g2 =>
      refine w_bl (iteF ?_)
      exact q H (Same.refl H)
    | tup g1 g2 =>
      refine w_bl (iteF ?_)
      exact q H (Same.refl H)
abbrev S_wheel_pushed : Stmt := topS 15
theorem sc_wheel_pushed : FnScope ["part", "place", "way", "after", "tooth"] ["part", "place", "way"] (defScope S_wheel_pushed) := ⟨rfl, rfl, rfl, by decide +kernel, rfl, by decide +kernel, by decide +kernel⟩
def sp_wheel_pushed (K : PySem.W.Frag) : Sp := fun vs H Q _ => ∃ (v : V) (z : Int) (ms : List Int) (x w : Int), vs = [v, .int x, .int w] ∧ Dp K H v (Part.wheel z ms).data ∧ 1 ≤ z ∧ Sign w ∧ ∀ t H', Same H H' → H t = none → H' t = some (.tup [.int (pp (.wheel z ms) x w).1, .int (pp (.wheel z ms) x w).2]) → Q (.ref t) H'
theorem ok_wheel_pushed {f : Addr} {fd : FuncData} (F : Fun K "wheel_pushed" "wheel_pushed" S_wheel_pushed f fd) :
    FnOk P w K mg base CX0 1 f fd ["part", "place", "way"] (sp_wheel_pushed K) := by
  refine F.ok sc_wheel_pushed (fun vs H Q E h => ?_) (fun cdv A outer s H vs Q E hr h => ?_)
  ·
    obtain ⟨v, z, ms, x, w, rfl, _⟩ := h
    rfl
  ·
    obtain ⟨v, z, ms, x, w, rfl, hp, hz, hw, q⟩ := h
    refine ⟨_, (pss_cons (ps_set (i := 3) sc_wheel_pushed.nd rfl (.inl rfl) (pe_op op_mod (pe_op op_add (pv 1) (pv 2)) (pe_ix (r := rIxT K) ix_tup (pv 0) pe_int (fun _ _ => rfl))))
      (pss_cons (ps_set (i := 4) sc_wheel_pushed.nd rfl (.inl rfl) (pe_ifExp (pt_cmpR op_eq (pv 2) pe_int (nomark _)) (pv 3) (pv 1)))
      (pss_one (ps_ret (pe_tup (pa_cons (pv 3) (pa_cons (pe_ifExp (pt_cmpR (r := rIn K false) op_in_seq (pv 4) (pe_ix (r := rIxT K) ix_tup (pv 0) pe_int (fun _ _ => rfl)) (by rfl)) (pv 2) pe_int) pa_nil))))))), ?_⟩
    obtain ⟨a, b, rfl, ha, hb⟩ := wheel_inv hp
    refine w_st (σ' := [some (.ref a), some (.int x), some (.int w), none, none]) rfl ?_
    walk_at "ct"
    refine w_rI (by omega) ?_
    walk_at "ct"
    refine w_ite (fun e => ?_) (fun e => ?_)
    · walk_at "ct"
      refine w_inT hb ?_
      walk_at "ct"
      refine w_ite (fun e2 => ?_) (fun e2 => ?_)
      · walk_at "ct"
        refine ⟨len2 rfl, fun p np => ?_⟩
        refine q _ _ (same_upd np) np ?_
        rw [upd_same]
        simp only [pp]
        rw [if_pos e, if_pos e2]
      · walk_at "ct"
        refine ⟨len2 rfl, fun p np => ?_⟩
        refine q _ _ (same_upd np) np ?_
        rw [upd_same]
        simp only [pp]
        rw [if_pos e, if_neg e2]
    · walk_at "ct"
      refine w_inT hb ?_
      walk_at "ct"
      refine w_ite (fun e2 => ?_) (fun e2 => ?_)
      · walk_at "ct"
        refine ⟨len2 rfl, fun p np => ?_⟩
        refine q _ _ (same_upd np) np ?_
        rw [upd_same]
        simp only [pp]
        rw [if_neg e, if_pos e2]
      · walk_at "ct"
        refine ⟨len2 rfl, fun p np => ?_⟩
        refine q _ _ (same_upd np) np ?_
        rw [upd_same]
        simp only [pp]
        rw [if_neg e, if_neg e2]
abbrev S_rocker_pushed : Stmt := topS 16
theorem sc_rocker_pushed : FnScope ["place", "way"] ["place", "way"] (defScope S_rocker_pushed) := ⟨rfl, rfl, rfl, by decide +kernel, rfl, by decide +kernel, by decide +kernel⟩
def sp_rocker_pushed (K : PySem.W.Frag) : Sp := fun vs H Q _ => ∃ (x w : Int), vs = [.int x, .int w] ∧ Sign w ∧ ∀ t H', Same H H' → H t = none → H' t = some (.tup [.int (pp .rocker x w).1, .int (pp .rocker x w).2]) → Q (.ref t) H'
theorem ok_rocker_pushed {f : Addr} {fd : FuncData} (F : Fun K "rocker_pushed" "rocker_pushed" S_rocker_pushed f fd) :
    FnOk P w K mg base CX0 1 f fd ["place", "way"] (sp_rocker_pushed K) := by
  refine F.ok sc_rocker_pushed (fun vs H Q E h => ?_) (fun cdv A outer s H vs Q E hr h => ?_)
  ·
    obtain ⟨x, w, rfl, _⟩ := h
    rfl
  ·
    obtain ⟨x, w, rfl, hw, q⟩ := h
    refine ⟨_, (pss_cons (ps_if (pt_cmpR op_eq (pv 1) pe_int (nomark _)) (pss_one (ps_ret (pe_tup (pa_cons pe_int (pa_cons (pe_ifExp (pt_cmpR op_eq (pv 0) pe_int (nomark _)) pe_int pe_int) pa_nil))))) pss_nil)
      (pss_one (ps_ret (pe_tup (pa_cons pe_int (pa_cons pe_int pa_nil)))))), ?_⟩
    refine w_st (σ' := [some (.int x), some (.int w)]) rfl ?_
    walk_at "ct"
    refine w_ite (fun e => ?_) (fun e => ?_)
    · walk_at "ct"
      refine w_ite (fun e2 => ?_) (fun e2 => ?_)
      · walk_at "ct"
        refine ⟨len2 rfl, fun p np => ?_⟩
        refine q _ _ (same_upd np) np ?_
        rw [upd_same]
        simp only [pp]
        rw [if_pos e, if_pos ⟨e, e2⟩]
      · walk_at "ct"
        refine ⟨len2 rfl, fun p np => ?_⟩
        refine q _ _ (same_upd np) np ?_
        rw [upd_same]
        simp only [pp]
        rw [if_pos e, if_neg fun z => e2 z.2]
    · walk_at "ct"
      refine ⟨len2 rfl, fun p np => ?_⟩
      refine q _ _ (same_upd np) np ?_
      rw [upd_same]
      simp only [pp]
      rw [if_neg e, if_neg fun z => e z.1]
abbrev S_spring_pushed : Stmt := topS 17
theorem sc_spring_pushed : FnScope ["part", "place", "way"] ["part", "place", "way"] (defScope S_spring_pushed) := ⟨rfl, rfl, rfl, by decide +kernel, rfl, by decide +kernel, by decide +kernel⟩
def sp_spring_pushed (K : PySem.W.Frag) : Sp := fun vs H Q _ => ∃ (v : V) (k x w : Int), vs = [v, .int x, .int w] ∧ Dp K H v (Part.spring k).data ∧ 0 ≤ x ∧ Sign w ∧ ∀ t H', Same H H' → H t = none → H' t = some (.tup [.int (pp (.spring k) x w).1, .int (pp (.spring k) x w).2]) → Q (.ref t) H'
theorem ok_spring_pushed {f : Addr} {fd : FuncData} (F : Fun K "spring_pushed" "spring_pushed" S_spring_pushed f fd) (m_max : mg "max" = none) :
    FnOk P w K mg base CX0 1 f fd ["part", "place", "way"] (sp_spring_pushed K) := by
  refine F.ok sc_spring_pushed (fun vs H Q E h => ?_) (fun cdv A outer s H vs Q E hr h => ?_)
  ·
    obtain ⟨v, k, x, w, rfl, _⟩ := h
    rfl
  ·
    obtain ⟨v, k, x, w, rfl, hp, x0, hw, q⟩ := h
    refine ⟨_, (pss_cons (ps_if (pt_cmpR op_eq (pv 2) (pe_un un_neg pe_int) (nomark _)) (pss_one (ps_ret (pe_tup (pa_cons (pe_callB (call_max2 rfl) (by rfl) m_max (by decide +kernel) (pa_cons pe_int (pa_cons (pe_op op_sub (pv 1) pe_int) pa_nil))) (pa_cons pe_int pa_nil))))) pss_nil)
      (pss_cons (ps_if (pt_cmpR op_eq (pv 1) (pe_op op_sub (pe_ix (r := rIxT K) ix_tup (pv 0) pe_int (fun _ _ => rfl)) pe_int) (nomark _)) (pss_one (ps_ret (pe_tup (pa_cons pe_int (pa_cons pe_int pa_nil))))) pss_nil)
      (pss_one (ps_ret (pe_tup (pa_cons (pe_op op_add (pv 1) pe_int) (pa_cons pe_int pa_nil))))))), ?_⟩
    obtain ⟨a, rfl, ha⟩ := spring_inv hp
    refine w_st (σ' := [some (.ref a), some (.int x), some (.int w)]) rfl ?_
    walk_at "ct"
    refine w_ite (fun e => ?_) (fun e => ?_)
    · walk_at "ct"
      refine ⟨_, _, rfl, ?_⟩
      walk_at "ct"
      refine ⟨len2 rfl, fun p np => ?_⟩
      refine q _ _ (same_upd np) np ?_
      rw [upd_same]
      simp only [pp]
      rw [if_neg (show ¬ w = 1 by omega)]
    · have e1 : w = 1 := hw.elim id fun z => absurd z e
      walk_at "ct"
      refine w_ite (fun e2 => ?_) (fun e2 => ?_)
      · walk_at "ct"
        refine ⟨len2 rfl, fun p np => ?_⟩
        refine q _ _ (same_upd np) np ?_
        rw [upd_same]
        simp only [pp]
        rw [if_pos e1, if_pos e2]
      · walk_at "ct"
        refine ⟨len2 rfl, fun p np => ?_⟩
        refine q _ _ (same_upd np) np ?_
        rw [upd_same]
        simp only [pp]
        rw [if_pos e1, if_neg e2]
abbrev S_part_pushed : Stmt := topS 18
theorem sc_part_pushed : FnScope ["part", "place", "way"] ["part", "place", "way"] (defScope S_part_pushed) := ⟨rfl, rfl, rfl, by decide +kernel, rfl, by decide +kernel, by decide +kernel⟩
def sp_part_pushed (K : PySem.W.Frag) : Sp := fun vs H Q _ => ∃ (v : V) (p : Part) (x w : Int), vs = [v, .int x, .int w] ∧ Dp K H v p.data ∧ p.ok ∧ 0 ≤ x ∧ x < p.places ∧ Sign w ∧ ∀ t H', Same H H' → H t = none → H' t = some (.tup [.int (pp p x w).1, .int (pp p x w).2]) → Q (.ref t) H'
theorem ok_part_pushed {f : Addr} {fd : FuncData} {f_spring_pushed : Addr} {fd_spring_pushed : FuncData} {f_rocker_pushed : Addr} {fd_rocker_pushed : FuncData} {f_wheel_pushed : Addr} {fd_wheel_pushed : FuncData} (F : Fun K "part_pushed" "part_pushed" S_part_pushed f fd)
    (F_spring_pushed : Fun K "spring_pushed" "spring_pushed" S_spring_pushed f_spring_pushed fd_spring_pushed) (b_spring_pushed : Binds K fd_spring_pushed ["part", "place", "way"] []) (g_spring_pushed : mg "spring_pushed" = some (.ref f_spring_pushed)) (G_spring_pushed : FnOk P w K mg base CX0 1 f_spring_pushed fd_spring_pushed ["part", "place", "way"] (sp_spring_pushed K))
    (F_rocker_pushed : Fun K "rocker_pushed" "rocker_pushed" S_rocker_pushed f_rocker_pushed fd_rocker_pushed) (b_rocker_pushed : Binds K fd_rocker_pushed ["place", "way"] []) (g_rocker_pushed : mg "rocker_pushed" = some (.ref f_rocker_pushed)) (G_rocker_pushed : FnOk P w K mg base CX0 1 f_rocker_pushed fd_rocker_pushed ["place", "way"] (sp_rocker_pushed K))
    (F_wheel_pushed : Fun K "wheel_pushed" "wheel_pushed" S_wheel_pushed f_wheel_pushed fd_wheel_pushed) (b_wheel_pushed : Binds K fd_wheel_pushed ["part", "place", "way"] []) (g_wheel_pushed : mg "wheel_pushed" = some (.ref f_wheel_pushed)) (G_wheel_pushed : FnOk P w K mg base CX0 1 f_wheel_pushed fd_wheel_pushed ["part", "place", "way"] (sp_wheel_pushed K)) :
    FnOk P w K mg base CX0 2 f fd ["part", "place", "way"] (sp_part_pushed K) := by
  refine F.ok sc_part_pushed (fun vs H Q E h => ?_) (fun cdv A outer s H vs Q E hr h => ?_)
  ·
    obtain ⟨v, p, x, w, rfl, _⟩ := h
    rfl
  ·
    obtain ⟨v, p, x, w, rfl, hp, hok, x0, x1, hw, q⟩ := h
    refine ⟨_, (pss_cons (ps_if (pt_cmpR op_eq (pe_ix (r := rIxT K) ix_tup (pv 0) pe_int (fun _ _ => rfl)) pe_str (nomark _)) (pss_one (ps_ret (pe_call G_wheel_pushed (hr.mono (by decide)) (by rfl) g_wheel_pushed F_wheel_pushed.kp b_wheel_pushed .nil pass0 (pa_cons (pv 0) (pa_cons (pv 1) (pa_cons (pv 2) pa_nil)))))) pss_nil)
      (pss_cons (ps_if (pt_cmpR op_eq (pe_ix (r := rIxT K) ix_tup (pv 0) pe_int (fun _ _ => rfl)) pe_str (nomark _)) (pss_one (ps_ret (pe_call G_rocker_pushed (hr.mono (by decide)) (by rfl) g_rocker_pushed F_rocker_pushed.kp b_rocker_pushed .nil pass0 (pa_cons (pv 1) (pa_cons (pv 2) pa_nil))))) pss_nil)
      (pss_cons (ps_if (pt_cmpR op_eq (pe_ix (r := rIxT K) ix_tup (pv 0) pe_int (fun _ _ => rfl)) pe_str (nomark _)) (pss_one (ps_ret (pe_call G_spring_pushed (hr.mono (by decide)) (by rfl) g_spring_pushed F_spring_pushed.kp b_spring_pushed .nil pass0 (pa_cons (pv 0) (pa_cons (pv 1) (pa_cons (pv 2) pa_nil)))))) pss_nil)
      (pss_one (ps_ret (pe_tup (pa_cons (pv 1) (pa_cons (pe_ifExp (pt_cmpR op_eq (pv 2) pe_int (nomark _)) pe_int pe_int) pa_nil)))))))), ?_⟩
    refine w_st (σ' := [some v, some (.int x), some (.int w)]) rfl ?_
    cases p with
    | wheel z ms =>
      obtain ⟨a, b, rfl, ha, hb⟩ := wheel_inv hp
      walk_at "ct"
      exact ⟨_, z, ms, x, w, rfl, hp, hok.1, hw, q⟩
    | click =>
      obtain ⟨a, rfl, ha⟩ := click_inv hp
      have x2 : x < 1 := x1
      have ex : x = 0 := by omega
      subst ex
      walk_at "ct"
      refine w_ite (fun e => ?_) (fun e => ?_)
      · walk_at "ct"
        refine ⟨len2 rfl, fun p np => ?_⟩
        refine q _ _ (same_upd np) np ?_
        rw [upd_same]
        simp only [pp]
        rw [if_pos e]
      · walk_at "ct"
        refine ⟨len2 rfl, fun p np => ?_⟩
        refine q _ _ (same_upd np) np ?_
        rw [upd_same]
        simp only [pp]
        rw [if_neg e]
    | rocker =>
      obtain ⟨a, rfl, ha⟩ := rocker_inv hp
      walk_at "ct"
      exact ⟨x, w, rfl, hw, q⟩
    | spring k =>
      obtain ⟨a, rfl, ha⟩ := spring_inv hp
      walk_at "ct"
      exact ⟨_, k, x, w, rfl, hp, x0, hw, q⟩
abbrev S_pushed : Stmt := topS 19
theorem sc_pushed : FnScope ["train", "stand", "i", "way", "places", "given", "number"] ["train", "stand", "i", "way"] (defScope S_pushed) := ⟨rfl, rfl, rfl, by decide +kernel, rfl, by decide +kernel, by decide +kernel⟩
def sp_pushed (K : PySem.W.Frag) : Sp := fun vs H Q _ => ∃ (a t : Addr) (ps : List Part) (xs : List Int) (i : Nat) (w : Int), vs = [.ref a, .ref t, .int i, .int w] ∧ TrainAt K H a ps ∧ (∀ p ∈ ps, p.ok) ∧ SqT K H t (xs.map V.int) ∧ StandOk ps xs ∧ i ≤ ps.length ∧ ps.length ≤ 1000 ∧ Sign w ∧
  ∀ q u H', Same H H' → H u = none → H q = none → H' u = some (.tup ((run ps xs i w).1.map V.int)) → H' q = some (.tup [.ref u, .int (run ps xs i w).2]) → Q (.ref q) H'
theorem ok_pushed {f : Addr} {fd : FuncData} {f_part_pushed : Addr} {fd_part_pushed : FuncData} (F : Fun K "pushed" "pushed" S_pushed f fd)
    (F_part_pushed : Fun K "part_pushed" "part_pushed" S_part_pushed f_part_pushed fd_part_pushed) (b_part_pushed : Binds K fd_part_pushed ["part", "place", "way"] []) (g_part_pushed : mg "part_pushed" = some (.ref f_part_pushed)) (G_part_pushed : FnOk P w K mg base CX0 2 f_part_pushed fd_part_pushed ["part", "place", "way"] (sp_part_pushed K)) (m_list : mg "list" = none) (m_range : mg "range" = none) (m_len : mg "len" = none) (m_tuple : mg "tuple" = none) :
    FnOk P w K mg base CX0 3 f fd ["train", "stand", "i", "way"] (sp_pushed K) := by
  refine F.ok sc_pushed (fun vs H Q E h => ?_) (fun cdv A outer s H vs Q E hr h => ?_)
  ·
    obtain ⟨a, t, ps, xs, i, w, rfl, _⟩ := h
    rfl
  ·
    obtain ⟨a, t, ps, xs, i, w, rfl, ⟨vs, hv, hd⟩, hok, hS, hso, hi, hps, hw, q⟩ := h
    refine ⟨_, (pss_cons (ps_set (i := 4) sc_pushed.nd rfl (.inl rfl) (pe_callTy call_list_of (by rfl) m_list (by decide +kernel) (pa_cons (pv 1) pa_nil)))
      (pss_cons (ps_set (i := 5) sc_pushed.nd rfl (.inl rfl) (pv 3))
      (pss_cons (ps_for PassesOwn.never rfl (pi_range2 (by rfl) m_range (pa_cons (pv 2) (pa_cons (pe_callB call_len_seq (by rfl) m_len (by decide +kernel) (pa_cons (pv 0) pa_nil)) pa_nil))) (pg_name (i := 6) sc_pushed.nd rfl (.inl rfl))
      (pss_cons (ps_if (pt_cmpR op_eq (pv 5) pe_int (nomark _)) (pss_one ps_break) pss_nil)
      (pss_one (ps_asg (pe_call G_part_pushed (hr.mono (by decide)) (by rfl) g_part_pushed F_part_pushed.kp b_part_pushed .nil pass0 (pa_cons (pe_ix (r := rIxL K) ix_list (pv 0) (pv 6) (fun _ _ => rfl)) (pa_cons (pe_ix (r := rIxL K) ix_list (pv 4) (pv 6) (fun _ _ => rfl)) (pa_cons (pv 5) pa_nil)))) (pg_tup rfl (pgs_cons (pg_sub (pv 4) (pv 6) set_list) (pgs_cons (pg_name (i := 5) sc_pushed.nd rfl (.inl rfl)) pgs_nil)))))))
      (pss_one (ps_ret (pe_tup (pa_cons (pe_callTy call_tuple_of (by rfl) m_tuple (by decide +kernel) (pa_cons (pv 4) pa_nil)) (pa_cons (pv 5) pa_nil)))))))), ?_⟩
    refine w_st (σ' := [some (.ref a), some (.ref t), some (.int i), some (.int w), none, none, none]) rfl ?_
    have hvl : vs.length = ps.length := by rw [dpAll_len hd, List.length_map]
    have hxl : xs.length = ps.length := hso.1
    walk_at "ct"
    refine ⟨t, _, rfl, .inr hS, fun l nl => ?_⟩
    walk_at "ct"
    refine ⟨a, vs, rfl, .inl ((same_upd nl).seq hv), ?_⟩
    walk_at "ct"
    refine w_RG2 (by omega) (by omega) (by omega) (by omega) ?_
    rw [show ((vs.length : Int) - (i : Int)).toNat = ps.length - i by omega]
    refine fb_range (fun n σ H' => ∃ y, σ = [some (.ref a), some (.ref t), some (.int i), some (.int w), some (.ref l), some (.int (runN ps i (xs, w) n).2), y] ∧ Same H H' ∧ H' l = some (.lst ((runN ps i (xs, w) n).1.map V.int))) ⟨none, rfl, same_upd nl, upd_same⟩ ?_ ?_
    · rintro n σ H' hn ⟨y, rfl, sm, hl⟩
      obtain ⟨p, hp⟩ : ∃ p, ps[i + n]? = some p := ⟨_, List.getElem?_eq_getElem (by omega)⟩
      obtain ⟨v, hv1, hd1⟩ := TrainAt.at (a := a) hd hp
      obtain ⟨x, hx⟩ : ∃ x, xs[i + n]? = some x := ⟨_, List.getElem?_eq_getElem (by omega)⟩
      have hx2 : (runN ps i (xs, w) n).1[i + n]? = some x := by
        rw [runN_ahead ps i (xs, w) n (i + n) (Nat.le_refl _)]
        exact hx
      have hx0 := hso.2 _ _ _ hp hx
      walk_at "ct"
      refine w_ite (fun e => ?_) (fun e => ?_)
      · walk_at "ct"
        have er : run ps xs i w = runN ps i (xs, w) n := by
          unfold Ct.run
          rw [show ps.length - i = n + (ps.length - i - n) by omega]
          exact runN_zero e _
        rw [← er] at hl
        rw [← er]
        refine ⟨l, _, rfl, .inl ⟨.of hl, fun u nu => ?_⟩⟩
        walk_at "ct"
        refine ⟨len2 rfl, fun p np => ?_⟩
        have s2 : Same H (upd H' u (.tup ((run ps xs i w).1.map V.int))) := same_new sm (sm.free nu)
        exact q p u _ (same_new s2 (s2.free np)) (sm.free nu) (s2.free np) (by rw [upd_ne (ne_of_none upd_same np)]; exact upd_same) upd_same
      ·
        walk_at "ct"
        refine w_ixL (sm.seq hv) (at_of (j := i + n) (by omega) hv1) ?_
        walk_at "ct"
        refine w_ixL (.of hl) (at_of (j := i + n) (by omega) (by rw [List.getElem?_map, hx2]; rfl)) ?_
        walk_at "ct"
        refine ⟨v, p, x, _, rfl, dp_same sm hd1, hok p (List.mem_of_getElem? hp), hx0.1, hx0.2, (runN_sign ps i (xs, w) hw n).resolve_left e, fun u H1 s1 n1 hu => ?_⟩
        refine w_gtup (.of hu) rfl ?_
        walk_at "ct"
        refine w_setL (s1 _ _ hl) (ix_at (j := i + n) (by omega) (by rw [List.length_map, runN_len]; show i + n < xs.length; omega)) ?_
        walk_at "ct"
        have er : runN ps i (xs, w) (n + 1) = ((runN ps i (xs, w) n).1.set (i + n) (pp p x (runN ps i (xs, w) n).2).1, (pp p x (runN ps i (xs, w) n).2).2) := stp_at e hp hx2
        refine ⟨some (.int ((i : Int) + (n : Int))), ?_, same_new (sm.trans s1) nl, ?_⟩
        · rw [er]
        · rw [er, upd_same, List.map_set]
    · rintro σ H' ⟨y, rfl, sm, hl⟩
      ·
        walk_at "ct"
        refine ⟨l, _, rfl, .inl ⟨.of hl, fun u nu => ?_⟩⟩
        walk_at "ct"
        refine ⟨len2 rfl, fun p np => ?_⟩
        have s2 : Same H (upd H' u (.tup ((run ps xs i w).1.map V.int))) := same_new sm (sm.free nu)
        exact q p u _ (same_new s2 (s2.free np)) (sm.free nu) (s2.free np) (by rw [upd_ne (ne_of_none upd_same np)]; exact upd_same) upd_same
abbrev S_is_deed : Stmt := topS 21
theorem sc_is_deed : FnScope ["thing", "parts", "i", "way", "times"] ["thing", "parts"] (defScope S_is_deed) := ⟨rfl, rfl, rfl, by decide +kernel, rfl, by decide +kernel, by decide +kernel⟩
def sp_is_deed (K : PySem.W.Frag) : Sp := fun vs H Q _ => ∃ (v : V) (d : PyData) (n : Int), vs = [v, .int n] ∧ Dp K H v d ∧ ∀ H', Same H H' → Q (.bl (isD d n)) H'
theorem ok_is_deed {f : Addr} {fd : FuncData} {f_is_whole : Addr} {fd_is_whole : FuncData} {f_is_way : Addr} {fd_is_way : FuncData} (F : Fun K "is_deed" "is_deed" S_is_deed f fd)
    (F_is_whole : Fun K "is_whole" "is_whole" S_is_whole f_is_whole fd_is_whole) (b_is_whole : Binds K fd_is_whole ["thing"] []) (g_is_whole : mg "is_whole" = some (.ref f_is_whole)) (G_is_whole : FnOk P w K mg base CX0 1 f_is_whole fd_is_whole ["thing"] (sp_is_whole K))
    (F_is_way : Fun K "is_way" "is_way" S_is_way f_is_way fd_is_way) (b_is_way : Binds K fd_is_way ["thing"] []) (g_is_way : mg "is_way" = some (.ref f_is_way)) (G_is_way : FnOk P w K mg base CX0 2 f_is_way fd_is_way ["thing"] (sp_is_way K)) (m_isinstance : mg "isinstance" = none) (m_tuple : mg "tuple" = none) (m_len : mg "len" = none) :
    FnOk P w K mg base CX0 3 f fd ["thing", "parts"] (sp_is_deed K) := by
  refine F.ok sc_is_deed (fun vs H Q E h => ?_) (fun cdv A outer s H vs Q E hr h => ?_)
  ·
    obtain ⟨v, d, n, rfl, _⟩ := h
    rfl
  ·
    obtain ⟨v, d, n, rfl, hd, q⟩ := h
    refine ⟨_, (pss_cons (ps_if (PW.pt (pw_or (pt_not (pt_val (pe_callB (r := rIsi K) call_isi (by rfl) m_isinstance (by decide +kernel) (pa_cons (pv 0) (pa_cons (pe_bltn (v := .ty "tuple") (u := .type "tuple") (by rfl) m_tuple (by decide +kernel) rfl) pa_nil))))) (pw_or1 (pt_cmpR op_ne (pe_callB call_len_seq (by rfl) m_len (by decide +kernel) (pa_cons (pv 0) pa_nil)) pe_int (nomark _))))) (pss_one (ps_ret pe_bl)) pss_nil)
      (pss_cons (ps_asg (pv 0) (pg_tup rfl (pgs_cons (pg_name (i := 2) sc_is_deed.nd rfl (.inl rfl)) (pgs_cons (pg_name (i := 3) sc_is_deed.nd rfl (.inl rfl)) (pgs_cons (pg_name (i := 4) sc_is_deed.nd rfl (.inl rfl)) pgs_nil)))))
      (pss_cons (ps_if (PW.pt (pw_or (pt_not (pt_val (pe_call G_is_whole (hr.mono (by decide)) (by rfl) g_is_whole F_is_whole.kp b_is_whole .nil pass0 (pa_cons (pv 2) pa_nil)))) (pw_or (pt_not (pt_val (pe_call G_is_way (hr.mono (by decide)) (by rfl) g_is_way F_is_way.kp b_is_way .nil pass0 (pa_cons (pv 3) pa_nil)))) (pw_or1 (pt_not (pt_val (pe_call G_is_whole (hr.mono (by decide)) (by rfl) g_is_whole F_is_whole.kp b_is_whole .nil pass0 (pa_cons (pv 4) pa_nil)))))))) (pss_one (ps_ret pe_bl)) pss_nil)
      (pss_one (ps_ret (pe_and (pe_chain op_le op_lt pe_int (pv 2) (pv 1)) (pe_one (pe_cmpR op_ge (pv 4) pe_int (nomark _))))))))), ?_⟩
    refine w_st (σ' := [some v, some (.int n), none, none, none]) rfl ?_
    walk_at "ct"
    cases hd with
    | non =>
      refine w_isi (b := false) (.base .non) (kit_ty (by decide +kernel)) ?_
      walk_at "ct"
      exact q H (Same.refl H)
    | bl b =>
      refine w_isi (b := false) (.base (.bl b)) (kit_ty (by decide +kernel)) ?_
      walk_at "ct"
      exact q H (Same.refl H)
    | int i =>
      refine w_isi (b := false) (.base (.int i)) (kit_ty (by decide +kernel)) ?_
      walk_at "ct"
      exact q H (Same.refl H)
    | str x =>
      refine w_isi (b := false) (.base (.str x)) (kit_ty (by decide +kernel)) ?_
      walk_at "ct"
      exact q H (Same.refl H)
    | lst hs ht =>
      refine w_isi (b := false) (tyx_L hs) (kit_ty (by decide +kernel)) ?_
      walk_at "ct"
      exact q H (Same.refl H)
    | @tup a xs ds hs ht =>
      refine w_isi (b := true) (tyx_T hs) (kit_ty (by decide +kernel)) ?_
      walk_at "ct"
      refine ⟨a, xs, rfl, .inr hs, ?_⟩
      walk_at "ct"
      refine w_iteN (fun e => ?_) (fun e => ?_)
      · walk_at "ct"
        have hF : isD (.tuple ds) n = false := by
          cases ht with
          | nil => rfl
          | @cons v0 vs0 d0 ds0 h0 t0 => cases t0 with
            | nil => cases d0 <;> rfl
            | @cons v1 vs1 d1 ds1 h1 t1 => cases t1 with
              | nil => cases d0 <;> first | rfl | (cases d1 <;> rfl)
              | @cons v2 vs2 d2 ds2 h2 t2 => cases t2 with
                | nil => exact absurd rfl e
                | @cons v3 vs3 d3 ds3 h3 t3 => cases d0 <;> first | rfl | (cases d1 <;> first | rfl | (cases d2 <;> rfl))
        rw [hF] at q
        exact q H (Same.refl H)
      · obtain ⟨v0, v1, v2, rfl⟩ : ∃ v0 v1 v2, xs = [v0, v1, v2] := by
          match xs, e with
          | [a, b, c], _ => exact ⟨a, b, c, rfl⟩
          | [], e => exact absurd e (by decide)
          | [_], e => exact absurd e (by show ¬ ((1 : Nat) : Int) = 3; decide)
          | [_, _], e => exact absurd e (by show ¬ ((2 : Nat) : Int) = 3; decide)
          | _ :: _ :: _ :: _ :: r, e => exact absurd e (by rw [List.length_cons, List.length_cons, List.length_cons, List.length_cons]; omega)
        cases ht with
        | @cons _ _ d0 _ h0 t0 => cases t0 with
          | @cons _ _ d1 _ h1 t1 => cases t1 with
            | @cons _ _ d2 _ h2 t2 =>
              cases t2
              walk_at "ct"
              refine w_gtup hs rfl ?_
              walk_at "ct"
              refine ⟨v0, d0, rfl, h0, ?_⟩
              have bad : isD (.tuple [d0, d1, d2]) n = false → ∀ H', Same H H' → Q (.bl false) H' := fun z H' s => by
                rw [z] at q
                exact q H' s
              have sr := Same.refl H
              cases h0 with
              | int i =>
                refine w_bl (w_nT ?_)
                walk_at "ct"
                refine ⟨v1, d1, rfl, h1, fun H1 s1 => ?_⟩
                cases h1 with
                | int w =>
                  cases hw : isWay (.int w) with
                  | false =>
                    walk_at "ct"
                    refine bad ?_ _ s1
                    have hw' : (decide (w = 1) || decide (w = -1)) = false := hw
                    cases d2 <;> first | rfl | (show (_ && _ && (decide (w = 1) || decide (w = -1)) && _) = false; rw [hw', Bool.and_false, Bool.false_and])
                  | true =>
                    have hw' : (decide (w = 1) || decide (w = -1)) = true := hw
                    walk_at "ct"
                    refine ⟨v2, d2, rfl, dp_same s1 h2, ?_⟩
                    cases h2 with
                    | int t =>
                      refine w_bl (w_nT ?_)
                      walk_at "ct"
                      have hD : isD (.tuple [.int i, .int w, .int t]) n = (decide (0 ≤ i) && decide (i < n) && (decide (w = 1) || decide (w = -1)) && decide (0 ≤ t)) := rfl
                      have go : ∀ b, b = isD (.tuple [.int i, .int w, .int t]) n → ∀ H', Same H H' → Q (.bl b) H' := fun b hb H' s => by
                        rw [hb]
                        exact q H' s
                      rw [hD, hw'] at go
                      refine w_ite (fun e1 => ?_) (fun e1 => ?_)
                      · walk_at "ct"
                        refine w_ite (fun e2 => ?_) (fun e2 => ?_)
                        · walk_at "ct"
                          refine go _ ?_ _ s1
                          rw [decide_eq_true e1, decide_eq_true e2]
                          rfl
                        · walk_at "ct"
                          refine go _ ?_ _ s1
                          rw [decide_eq_false e2, Bool.and_false, Bool.false_and, Bool.false_and]
                      · walk_at "ct"
                        refine go _ ?_ _ s1
                        rw [decide_eq_false e1, Bool.false_and, Bool.false_and, Bool.false_and]
                    | non =>
                      refine w_bl (w_nF ?_)
                      walk_at "ct"
                      exact bad rfl _ s1
                    | bl b =>
                      refine w_bl (w_nF ?_)
                      walk_at "ct"
                      exact bad rfl _ s1
                    | str s =>
                      refine w_bl (w_nF ?_)
                      walk_at "ct"
                      exact bad rfl _ s1
                    | lst g1 g2 =>
                      refine w_bl (w_nF ?_)
                      walk_at "ct"
                      exact bad rfl _ s1
                    | tup g1 g2 =>
                      refine w_bl (w_nF ?_)
                      walk_at "ct"
                      exact bad rfl _ s1
                | non =>
                  refine w_bl (w_nF ?_)
                  walk_at "ct"
                  exact bad rfl _ s1
                | bl b =>
                  refine w_bl (w_nF ?_)
                  walk_at "ct"
                  exact bad rfl _ s1
                | str s =>
                  refine w_bl (w_nF ?_)
                  walk_at "ct"
                  exact bad rfl _ s1
                | lst g1 g2 =>
                  refine w_bl (w_nF ?_)
                  walk_at "ct"
                  exact bad rfl _ s1
                | tup g1 g2 =>
                  refine w_bl (w_nF ?_)
                  walk_at "ct"
                  exact bad rfl _ s1
              | non =>
                refine w_bl (w_nF ?_)
                walk_at "ct"
                exact bad rfl _ sr
              | bl b =>
                refine w_bl (w_nF ?_)
                walk_at "ct"
                exact bad rfl _ sr
              | str s =>
                refine w_bl (w_nF ?_)
                walk_at "ct"
                exact bad rfl _ sr
              | lst g1 g2 =>
                refine w_bl (w_nF ?_)
                walk_at "ct"
                exact bad rfl _ sr
              | tup g1 g2 =>
                refine w_bl (w_nF ?_)
                walk_at "ct"
                exact bad rfl _ sr
abbrev S_check_row : Stmt := topS 22
theorem sc_check_row : FnScope ["train", "row", "deed"] ["train", "row"] (defScope S_check_row) := ⟨rfl, rfl, rfl, by decide +kernel, rfl, by decide +kernel, by decide +kernel⟩
def sp_check_row (K : PySem.W.Frag) : Sp := fun vs H Q _ => ∃ (a b : Addr) (ps : List Part) (ds : List Deed), vs = [.ref a, .ref b] ∧ TrainAt K H a ps ∧ RowAt K H b ds ∧ (∀ d ∈ ds, d.ok ps.length) ∧ ∀ H', Same H H' → Q .non H'
theorem ok_check_row {f : Addr} {fd : FuncData} {f_is_deed : Addr} {fd_is_deed : FuncData} (F : Fun K "check_row" "check_row" S_check_row f fd)
    (F_is_deed : Fun K "is_deed" "is_deed" S_is_deed f_is_deed fd_is_deed) (b_is_deed : Binds K fd_is_deed ["thing", "parts"] []) (g_is_deed : mg "is_deed" = some (.ref f_is_deed)) (G_is_deed : FnOk P w K mg base CX0 3 f_is_deed fd_is_deed ["thing", "parts"] (sp_is_deed K)) (m_isinstance : mg "isinstance" = none) (m_list : mg "list" = none) (m_len : mg "len" = none) :
    FnOk P w K mg base CX0 4 f fd ["train", "row"] (sp_check_row K) := by
  refine F.ok sc_check_row (fun vs H Q E h => ?_) (fun cdv A outer s H vs Q E hr h => ?_)
  ·
    obtain ⟨a, b, ps, ds, rfl, _⟩ := h
    rfl
  ·
    obtain ⟨a, b, ps, ds, rfl, ⟨vs, hv, hd⟩, ⟨us, hu, he⟩, hok, q⟩ := h
    refine ⟨_, (pss_cons (ps_if (pt_not (pt_val (pe_callB (r := rIsi K) call_isi (by rfl) m_isinstance (by decide +kernel) (pa_cons (pv 1) (pa_cons (pe_bltn (v := .ty "list") (u := .type "list") (by rfl) m_list (by decide +kernel) rfl) pa_nil))))) (pss_one ps_never) pss_nil)
      (pss_one (ps_for PassesOwn.never rfl (pi_list (pv 1)) (pg_name (i := 2) sc_check_row.nd rfl (.inl rfl))
      (pss_one (ps_if (pt_not (pt_val (pe_call G_is_deed (hr.mono (by decide)) (by rfl) g_is_deed F_is_deed.kp b_is_deed .nil pass0 (pa_cons (pv 2) (pa_cons (pe_callB call_len_seq (by rfl) m_len (by decide +kernel) (pa_cons (pv 0) pa_nil)) pa_nil))))) (pss_one ps_never) pss_nil))))), ?_⟩
    refine w_st (σ' := [some (.ref a), some (.ref b), none]) rfl ?_
    have hvl : vs.length = ps.length := by rw [dpAll_len hd, List.length_map]
    have hul : us.length = ds.length := by rw [dpAll_len he, List.length_map]
    walk_at "ct"
    refine w_isi (b := true) (tyx_L hu) (kit_ty (by decide +kernel)) ?_
    walk_at "ct"
    refine w_IL hu ?_
    refine fb_list us (fun n σ H' => ∃ y, σ = [some (.ref a), some (.ref b), y] ∧ Same H H') ⟨none, rfl, Same.refl H⟩ ?_ ?_ ?_
    · rintro n σ H' hn ⟨y, rfl, sm⟩
      exact sm.seq hu
    · rintro n v σ H' hx ⟨y, rfl, sm⟩
      have hn : n < us.length := (List.getElem?_eq_some_iff.mp hx).1
      obtain ⟨d, hdn⟩ : ∃ d, ds[n]? = some d := ⟨_, List.getElem?_eq_getElem (by omega)⟩
      obtain ⟨v', hv1, hd1⟩ := deed_get he hdn
      cases Option.some.inj (hx.symm.trans hv1)
      walk_at "ct"
      refine ⟨a, vs, rfl, .inl (sm.seq hv), ?_⟩
      walk_at "ct"
      refine ⟨v, d.data, _, rfl, dp_same sm hd1, fun H1 s1 => ?_⟩
      have ok := hok d (List.mem_of_getElem? hdn)
      have hD : isD d.data (vs.length : Int) = true := by
        show (decide (0 ≤ (d.i : Int)) && decide ((d.i : Int) < (vs.length : Int)) && (decide (d.w = 1) || decide (d.w = -1)) && decide (0 ≤ (d.t : Int))) = true
        have o1 := ok.1
        rw [decide_eq_true (show 0 ≤ (d.i : Int) by omega), decide_eq_true (show (d.i : Int) < (vs.length : Int) by omega), decide_eq_true (show 0 ≤ (d.t : Int) by omega), show (decide (d.w = 1) || decide (d.w = -1)) = true by
          rcases ok.2 with z | z
          · rw [decide_eq_true z]; rfl
          · rw [decide_eq_true z, Bool.or_true]]
        rfl
      rw [hD]
      walk_at "ct"
      exact ⟨_, rfl, sm.trans s1⟩
    · rintro σ H' ⟨y, rfl, sm⟩
      exact q H' sm
abbrev S_marks_up_to : Stmt := topS 23
theorem sc_marks_up_to : FnScope ["marks", "place", "low", "high", "middle"] ["marks", "place"] (defScope S_marks_up_to) := ⟨rfl, rfl, rfl, by decide +kernel, rfl, by decide +kernel, by decide +kernel⟩
def sp_marks_up_to (K : PySem.W.Frag) : Sp := fun vs H Q _ => ∃ (b : Addr) (ms : List Int) (r : Int), vs = [.ref b, .int r] ∧ SqT K H b (ms.map V.int) ∧ ms.Pairwise (· < ·) ∧ ms.length ≤ 1000 ∧ Q (.int (cnt ms r)) H
theorem ok_marks_up_to {f : Addr} {fd : FuncData} (F : Fun K "marks_up_to" "marks_up_to" S_marks_up_to f fd) (m_len : mg "len" = none) :
    FnOk P w K mg base CX0 1 f fd ["marks", "place"] (sp_marks_up_to K) := by
  refine F.ok sc_marks_up_to (fun vs H Q E h => ?_) (fun cdv A outer s H vs Q E hr h => ?_)
  ·
    obtain ⟨b, ms, r, rfl, _⟩ := h
    rfl
  ·
    obtain ⟨b, ms, r, rfl, hb, hp, hl, q⟩ := h
    refine ⟨_, (pss_cons (ps_set (i := 2) sc_marks_up_to.nd rfl (.inl rfl) pe_int)
      (pss_cons (ps_set (i := 3) sc_marks_up_to.nd rfl (.inl rfl) (pe_callB call_len_seq (by rfl) m_len (by decide +kernel) (pa_cons (pv 0) pa_nil)))
      (pss_cons (ps_while PassesOwn.never (pt_cmpR op_lt (pv 2) (pv 3) (nomark _)) (pss_cons (ps_set (i := 4) sc_marks_up_to.nd rfl (.inl rfl) (pe_op op_fdivW (pe_op op_add (pv 2) (pv 3)) pe_int))
      (pss_one (ps_if (pt_cmpR op_le (pe_ix (r := rIxT K) ix_tup (pv 0) (pv 4) (fun _ _ => rfl)) (pv 1) (nomark _)) (pss_one (ps_set (i := 2) sc_marks_up_to.nd rfl (.inl rfl) (pe_op op_add (pv 4) pe_int))) (pss_one (ps_set (i := 3) sc_marks_up_to.nd rfl (.inl rfl) (pv 4)))))))
      (pss_one (ps_ret (pv 2)))))), ?_⟩
    refine w_st (σ' := [some (.ref b), some (.int r), none, none, none]) rfl ?_
    walk_at "ct"
    refine ⟨b, _, rfl, .inr hb, ?_⟩
    walk_at "ct"
    rw [List.length_map]
    refine while_by (fun σ H' => ∃ (lo hi : Nat) (y : Option V), σ = [some (.ref b), some (.int r), some (.int (lo : Int)), some (.int (hi : Int)), y] ∧ H' = H ∧ lo ≤ hi ∧ hi ≤ ms.length ∧ (∀ (j : Nat) (m : Int), j < lo → ms[j]? = some m → m ≤ r) ∧ (∀ (j : Nat) (m : Int), hi ≤ j → ms[j]? = some m → r < m))
      (fun σ _ => match σ with | [_, _, some (.int lo), some (.int hi), _] => (hi - lo).toNat | _ => 0)
      ⟨0, ms.length, none, rfl, rfl, Nat.zero_le _, Nat.le_refl _, (fun j m hj => absurd hj (Nat.not_lt_zero j)), fun j m hj e => by rw [List.getElem?_eq_none hj] at e; cases e⟩ ?_ ?_
    · rintro σ H' ⟨lo, hi, y, rfl, rfl, h1, h2, h3, h4⟩
      walk_at "ct"
      refine w_ite (fun e => ?_) (fun e => ?_)
      · walk_at "ct"
        refine w_rI (div_ok (by decide) (by decide)) ?_
        walk_at "ct"
        obtain ⟨mid, hm, g1, g2⟩ : ∃ mid : Nat, ((lo : Int) + (hi : Int)) / 2 = (mid : Int) ∧ lo ≤ mid ∧ mid < hi := ⟨((lo : Int) + (hi : Int)).toNat / 2, by omega, by omega, by omega⟩
        rw [hm]
        obtain ⟨m, hmm⟩ : ∃ m, ms[mid]? = some m := ⟨_, List.getElem?_eq_getElem (by omega)⟩
        refine w_ixT hb (at_of (j := mid) rfl (by rw [List.getElem?_map, hmm]; rfl)) ?_
        walk_at "ct"
        have mono : ∀ (j k : Nat) (x y : Int), j < k → ms[j]? = some x → ms[k]? = some y → x < y := fun j k x y hjk hx hy => by
          obtain ⟨l1, e1⟩ := List.getElem?_eq_some_iff.mp hx
          obtain ⟨l2, e2⟩ := List.getElem?_eq_some_iff.mp hy
          rw [← e1, ← e2]
          exact List.pairwise_iff_getElem.mp hp j k l1 l2 hjk
        refine w_ite (fun e2 => ?_) (fun e2 => ?_)
        · walk_at "ct"
          refine ⟨⟨mid + 1, hi, _, rfl, rfl, by omega, h2, fun j x hj hx => ?_, h4⟩, ?_⟩
          · by_cases hjm : j = mid
            · subst hjm
              cases Option.some.inj (hmm.symm.trans hx)
              exact e2
            · have := mono j mid x m (by omega) hx hmm
              omega
          · show ((hi : Int) - ((mid : Int) + 1)).toNat < ((hi : Int) - (lo : Int)).toNat
            omega
        · walk_at "ct"
          refine ⟨⟨lo, mid, _, rfl, rfl, g1, by omega, h3, fun j x hj hx => ?_⟩, ?_⟩
          · by_cases hjm : j = mid
            · subst hjm
              cases Option.some.inj (hmm.symm.trans hx)
              omega
            · have := mono mid j m x (by omega) hmm hx
              omega
          · show ((mid : Int) - (lo : Int)).toNat < ((hi : Int) - (lo : Int)).toNat
            omega
      · walk_at "ct"
        have e3 : lo = hi := by omega
        subst e3
        rw [← cnt_split ms lo r h2 h3 h4]
        exact q
    · rintro σ H' Q1 Q2 hQ ⟨v1, e1, v2, e2, i, j, rfl, rfl, k, e3, hq⟩
      exact ⟨_, e1, _, e2, i, j, rfl, rfl, k, e3, hQ _ _ hq⟩
abbrev S_marks_ahead : Stmt := topS 24
theorem sc_marks_ahead : FnScope ["part", "tooth"] ["part", "tooth"] (defScope S_marks_ahead) := ⟨rfl, rfl, rfl, by decide +kernel, rfl, by decide +kernel, by decide +kernel⟩
def sp_marks_ahead (K : PySem.W.Frag) : Sp := fun vs H Q _ => ∃ (v : V) (z : Int) (ms : List Int) (y : Int), vs = [v, .int y] ∧ Dp K H v (Part.wheel z ms).data ∧ (Part.wheel z ms).ok ∧ -(2 ^ 220) < y ∧ y < 2 ^ 220 ∧ Q (.int (mah z ms y)) H
theorem ok_marks_ahead {f : Addr} {fd : FuncData} {f_marks_up_to : Addr} {fd_marks_up_to : FuncData} (F : Fun K "marks_ahead" "marks_ahead" S_marks_ahead f fd)
    (F_marks_up_to : Fun K "marks_up_to" "marks_up_to" S_marks_up_to f_marks_up_to fd_marks_up_to) (b_marks_up_to : Binds K fd_marks_up_to ["marks", "place"] []) (g_marks_up_to : mg "marks_up_to" = some (.ref f_marks_up_to)) (G_marks_up_to : FnOk P w K mg base CX0 1 f_marks_up_to fd_marks_up_to ["marks", "place"] (sp_marks_up_to K)) (m_len : mg "len" = none) :
    FnOk P w K mg base CX0 2 f fd ["part", "tooth"] (sp_marks_ahead K) := by
  refine F.ok sc_marks_ahead (fun vs H Q E h => ?_) (fun cdv A outer s H vs Q E hr h => ?_)
  ·
    obtain ⟨v, z, ms, y, rfl, _⟩ := h
    rfl
  ·
    obtain ⟨v, z, ms, y, rfl, hp, ok, y0, y1, q⟩ := h
    refine ⟨_, (pss_one (ps_ret (pe_op op_add (pe_op op_mulW (pe_op op_fdivW (pv 1) (pe_ix (r := rIxT K) ix_tup (pv 0) pe_int (fun _ _ => rfl))) (pe_callB call_len_seq (by rfl) m_len (by decide +kernel) (pa_cons (pe_ix (r := rIxT K) ix_tup (pv 0) pe_int (fun _ _ => rfl)) pa_nil))) (pe_call G_marks_up_to (hr.mono (by decide)) (by rfl) g_marks_up_to F_marks_up_to.kp b_marks_up_to .nil pass0 (pa_cons (pe_ix (r := rIxT K) ix_tup (pv 0) pe_int (fun _ _ => rfl)) (pa_cons (pe_op op_mod (pv 1) (pe_ix (r := rIxT K) ix_tup (pv 0) pe_int (fun _ _ => rfl))) pa_nil)))))), ?_⟩
    obtain ⟨a, b, rfl, ha, hb⟩ := wheel_inv hp
    refine w_st (σ' := [some (.ref a), some (.int y)]) rfl ?_
    have hz : 1 ≤ z := ok.1
    have hz2 : z < 2 ^ 200 := ok.2.1
    walk_at "ct"
    refine w_rI (div_ok (by omega) (by omega)) ?_
    walk_at "ct"
    refine ⟨b, _, rfl, .inr hb, ?_⟩
    have hl : ms.length ≤ 1000 := ok.2.2.2
    have hq : -(2 ^ 220) ≤ y / z ∧ y / z < 2 ^ 220 := by
      refine ⟨Int.le_ediv_of_mul_le (by omega) ?_, Int.ediv_lt_of_lt_mul (by omega) ?_⟩
      · omega
      · omega
    rw [List.length_map]
    refine w_rI (mul_ok (by omega) (by omega) (by omega) (by omega)) ?_
    walk_at "ct"
    refine w_rI (by omega) ?_
    walk_at "ct"
    refine ⟨b, ms, _, rfl, hb, ok.2.2.1.1, hl, ?_⟩
    walk_at "ct"
    exact q
abbrev S_wheel_turned : Stmt := topS 25
theorem sc_wheel_turned : FnScope ["part", "place", "way", "times", "after", "given"] ["part", "place", "way", "times"] (defScope S_wheel_turned) := ⟨rfl, rfl, rfl, by decide +kernel, rfl, by decide +kernel, by decide +kernel⟩
def sp_wheel_turned (K : PySem.W.Frag) : Sp := fun vs H Q _ => ∃ (v : V) (z : Int) (ms : List Int) (x w : Int) (t : Nat), vs = [v, .int x, .int w, .int t] ∧ Dp K H v (Part.wheel z ms).data ∧ (Part.wheel z ms).ok ∧ 0 ≤ x ∧ x < z ∧ Sign w ∧ t < 2 ^ 200 ∧
  ∀ u H', Same H H' → H u = none → H' u = some (.tup [.int (pt (.wheel z ms) x w t).1, .int (pt (.wheel z ms) x w t).2]) → Q (.ref u) H'
theorem ok_wheel_turned {f : Addr} {fd : FuncData} {f_marks_ahead : Addr} {fd_marks_ahead : FuncData} (F : Fun K "wheel_turned" "wheel_turned" S_wheel_turned f fd)
    (F_marks_ahead : Fun K "marks_ahead" "marks_ahead" S_marks_ahead f_marks_ahead fd_marks_ahead) (b_marks_ahead : Binds K fd_marks_ahead ["part", "tooth"] []) (g_marks_ahead : mg "marks_ahead" = some (.ref f_marks_ahead)) (G_marks_ahead : FnOk P w K mg base CX0 2 f_marks_ahead fd_marks_ahead ["part", "tooth"] (sp_marks_ahead K)) (m_abs : mg "abs" = none) :
    FnOk P w K mg base CX0 3 f fd ["part", "place", "way", "times"] (sp_wheel_turned K) := by
  refine F.ok sc_wheel_turned (fun vs H Q E h => ?_) (fun cdv A outer s H vs Q E hr h => ?_)
  ·
    obtain ⟨v, z, ms, x, w, t, rfl, _⟩ := h
    rfl
  ·
    obtain ⟨v, z, ms, x, w, t, rfl, hp, ok, x0, x1, hw, ht, q⟩ := h
    refine ⟨_, (pss_cons (ps_set (i := 4) sc_wheel_turned.nd rfl (.inl rfl) (pe_op op_add (pv 1) (pe_op op_mulW (pv 2) (pv 3))))
      (pss_cons (ps_set (i := 5) sc_wheel_turned.nd rfl (.inl rfl) (pe_callB call_abs (by rfl) m_abs (by decide +kernel) (pa_cons (pe_op op_sub (pe_call G_marks_ahead (hr.mono (by decide)) (by rfl) g_marks_ahead F_marks_ahead.kp b_marks_ahead .nil pass0 (pa_cons (pv 0) (pa_cons (pv 4) pa_nil))) (pe_call G_marks_ahead (hr.mono (by decide)) (by rfl) g_marks_ahead F_marks_ahead.kp b_marks_ahead .nil pass0 (pa_cons (pv 0) (pa_cons (pv 1) pa_nil)))) pa_nil)))
      (pss_one (ps_ret (pe_tup (pa_cons (pe_op op_mod (pv 4) (pe_ix (r := rIxT K) ix_tup (pv 0) pe_int (fun _ _ => rfl))) (pa_cons (pv 5) pa_nil))))))), ?_⟩
    obtain ⟨a, b, rfl, ha, hb⟩ := wheel_inv hp
    refine w_st (σ' := [some (.ref a), some (.int x), some (.int w), some (.int t), none, none]) rfl ?_
    have hz : 1 ≤ z := ok.1
    have hz2 : z < 2 ^ 200 := ok.2.1
    have hw1 : -1 ≤ w ∧ w ≤ 1 := by rcases hw with rfl | rfl <;> exact ⟨by decide, by decide⟩
    walk_at "ct"
    refine w_rI (mul_ok (by omega) (by omega) (by omega) (by omega)) ?_
    walk_at "ct"
    have hb2 : -(2 ^ 220) < x + w * t ∧ x + w * t < 2 ^ 220 := by rcases hw with rfl | rfl <;> exact ⟨by omega, by omega⟩
    refine ⟨_, z, ms, _, rfl, hp, ok, hb2.1, hb2.2, ?_⟩
    walk_at "ct"
    refine ⟨_, z, ms, _, rfl, hp, ok, by omega, by omega, ?_⟩
    walk_at "ct"
    refine ⟨_, rfl, ?_⟩
    walk_at "ct"
    refine w_rI (by omega) ?_
    walk_at "ct"
    refine ⟨len2 rfl, fun p np => ?_⟩
    exact q _ _ (same_upd np) np upd_same
abbrev S_rocker_turned : Stmt := topS 26
theorem sc_rocker_turned : FnScope ["place", "way", "times"] ["place", "way", "times"] (defScope S_rocker_turned) := ⟨rfl, rfl, rfl, by decide +kernel, rfl, by decide +kernel, by decide +kernel⟩
def sp_rocker_turned (K : PySem.W.Frag) : Sp := fun vs H Q _ => ∃ (x w : Int) (t : Nat), vs = [.int x, .int w, .int t] ∧ ∀ u H', Same H H' → H u = none → H' u = some (.tup [.int (pt .rocker x w t).1, .int (pt .rocker x w t).2]) → Q (.ref u) H'
theorem ok_rocker_turned {f : Addr} {fd : FuncData} (F : Fun K "rocker_turned" "rocker_turned" S_rocker_turned f fd) :
    FnOk P w K mg base CX0 1 f fd ["place", "way", "times"] (sp_rocker_turned K) := by
  refine F.ok sc_rocker_turned (fun vs H Q E h => ?_) (fun cdv A outer s H vs Q E hr h => ?_)
  ·
    obtain ⟨x, w, t, rfl, _⟩ := h
    rfl
  ·
    obtain ⟨x, w, t, rfl, q⟩ := h
    refine ⟨_, (pss_cons (ps_if (pt_cmpR op_eq (pv 2) pe_int (nomark _)) (pss_one (ps_ret (pe_tup (pa_cons (pv 0) (pa_cons pe_int pa_nil))))) pss_nil)
      (pss_cons (ps_if (pt_cmpR op_eq (pv 1) (pe_un un_neg pe_int) (nomark _)) (pss_one (ps_ret (pe_tup (pa_cons pe_int (pa_cons pe_int pa_nil))))) pss_nil)
      (pss_one (ps_ret (pe_tup (pa_cons pe_int (pa_cons (pe_op op_sub pe_int (pv 0)) pa_nil))))))), ?_⟩
    refine w_st (σ' := [some (.int x), some (.int w), some (.int t)]) rfl ?_
    walk_at "ct"
    refine w_ite (fun e => ?_) (fun e => ?_)
    · walk_at "ct"
      refine ⟨len2 rfl, fun p np => q _ _ (same_upd np) np ?_⟩
      rw [upd_same]
      simp only [pt, if_pos e]
    · walk_at "ct"
      refine w_ite (fun e2 => ?_) (fun e2 => ?_)
      · walk_at "ct"
        refine ⟨len2 rfl, fun p np => q _ _ (same_upd np) np ?_⟩
        rw [upd_same]
        simp only [pt, if_neg e, if_pos e2]
      · walk_at "ct"
        refine ⟨len2 rfl, fun p np => q _ _ (same_upd np) np ?_⟩
        rw [upd_same]
        simp only [pt, if_neg e, if_neg e2]
abbrev S_spring_turned : Stmt := topS 27
theorem sc_spring_turned : FnScope ["part", "place", "way", "times"] ["part", "place", "way", "times"] (defScope S_spring_turned) := ⟨rfl, rfl, rfl, by decide +kernel, rfl, by decide +kernel, by decide +kernel⟩
def sp_spring_turned (K : PySem.W.Frag) : Sp := fun vs H Q _ => ∃ (v : V) (k x w : Int) (t : Nat), vs = [v, .int x, .int w, .int t] ∧ Dp K H v (Part.spring k).data ∧ (Part.spring k).ok ∧ ∀ u H', Same H H' → H u = none → H' u = some (.tup [.int (pt (.spring k) x w t).1, .int (pt (.spring k) x w t).2]) → Q (.ref u) H'
theorem ok_spring_turned {f : Addr} {fd : FuncData} (F : Fun K "spring_turned" "spring_turned" S_spring_turned f fd) (m_max : mg "max" = none) :
    FnOk P w K mg base CX0 1 f fd ["part", "place", "way", "times"] (sp_spring_turned K) := by
  refine F.ok sc_spring_turned (fun vs H Q E h => ?_) (fun cdv A outer s H vs Q E hr h => ?_)
  ·
    obtain ⟨v, k, x, w, t, rfl, _⟩ := h
    rfl
  ·
    obtain ⟨v, k, x, w, t, rfl, hp, ok, q⟩ := h
    refine ⟨_, (pss_cons (ps_if (pt_cmpR op_eq (pv 2) (pe_un un_neg pe_int) (nomark _)) (pss_one (ps_ret (pe_tup (pa_cons (pe_callB (call_max2 rfl) (by rfl) m_max (by decide +kernel) (pa_cons pe_int (pa_cons (pe_op op_sub (pv 1) (pv 3)) pa_nil))) (pa_cons pe_int pa_nil))))) pss_nil)
      (pss_one (ps_ret (pe_tup (pa_cons (pe_op op_mod (pe_op op_add (pv 1) (pv 3)) (pe_ix (r := rIxT K) ix_tup (pv 0) pe_int (fun _ _ => rfl))) (pa_cons (pe_op op_fdivW (pe_op op_add (pv 1) (pv 3)) (pe_ix (r := rIxT K) ix_tup (pv 0) pe_int (fun _ _ => rfl))) pa_nil)))))), ?_⟩
    obtain ⟨a, rfl, ha⟩ := spring_inv hp
    refine w_st (σ' := [some (.ref a), some (.int x), some (.int w), some (.int t)]) rfl ?_
    have k0 : 1 ≤ k := ok.1
    have k1 : k < 2 ^ 200 := ok.2
    walk_at "ct"
    refine w_ite (fun e2 => ?_) (fun e2 => ?_)
    · walk_at "ct"
      refine ⟨_, _, rfl, ?_⟩
      walk_at "ct"
      refine ⟨len2 rfl, fun p np => q _ _ (same_upd np) np ?_⟩
      rw [upd_same]
      simp only [pt, if_pos e2]
    · walk_at "ct"
      refine w_rI (by omega) ?_
      walk_at "ct"
      refine w_rI (div_ok (by omega) (by omega)) ?_
      walk_at "ct"
      refine ⟨len2 rfl, fun p np => q _ _ (same_upd np) np ?_⟩
      rw [upd_same]
      simp only [pt, if_neg e2]
abbrev S_part_turned : Stmt := topS 28
theorem sc_part_turned : FnScope ["part", "place", "way", "times"] ["part", "place", "way", "times"] (defScope S_part_turned) := ⟨rfl, rfl, rfl, by decide +kernel, rfl, by decide +kernel, by decide +kernel⟩
def sp_part_turned (K : PySem.W.Frag) : Sp := fun vs H Q _ => ∃ (v : V) (p : Part) (x w : Int) (t : Nat), vs = [v, .int x, .int w, .int t] ∧ Dp K H v p.data ∧ p.ok ∧ 0 ≤ x ∧ x < p.places ∧ Sign w ∧ t < 2 ^ 200 ∧
  ∀ u H', Same H H' → H u = none → H' u = some (.tup [.int (pt p x w t).1, .int (pt p x w t).2]) → Q (.ref u) H'
theorem ok_part_turned {f : Addr} {fd : FuncData} {f_spring_turned : Addr} {fd_spring_turned : FuncData} {f_rocker_turned : Addr} {fd_rocker_turned : FuncData} {f_wheel_turned : Addr} {fd_wheel_turned : FuncData} (F : Fun K "part_turned" "part_turned" S_part_turned f fd)
    (F_spring_turned : Fun K "spring_turned" "spring_turned" S_spring_turned f_spring_turned fd_spring_turned) (b_spring_turned : Binds K fd_spring_turned ["part", "place", "way", "times"] []) (g_spring_turned : mg "spring_turned" = some (.ref f_spring_turned)) (G_spring_turned : FnOk P w K mg base CX0 1 f_spring_turned fd_spring_turned ["part", "place", "way", "times"] (sp_spring_turned K))
    (F_rocker_turned : Fun K "rocker_turned" "rocker_turned" S_rocker_turned f_rocker_turned fd_rocker_turned) (b_rocker_turned : Binds K fd_rocker_turned ["place", "way", "times"] []) (g_rocker_turned : mg "rocker_turned" = some (.ref f_rocker_turned)) (G_rocker_turned : FnOk P w K mg base CX0 1 f_rocker_turned fd_rocker_turned ["place", "way", "times"] (sp_rocker_turned K))
    (F_wheel_turned : Fun K "wheel_turned" "wheel_turned" S_wheel_turned f_wheel_turned fd_wheel_turned) (b_wheel_turned : Binds K fd_wheel_turned ["part", "place", "way", "times"] []) (g_wheel_turned : mg "wheel_turned" = some (.ref f_wheel_turned)) (G_wheel_turned : FnOk P w K mg base CX0 3 f_wheel_turned fd_wheel_turned ["part", "place", "way", "times"] (sp_wheel_turned K)) :
    FnOk P w K mg base CX0 4 f fd ["part", "place", "way", "times"] (sp_part_turned K) := by
  refine F.ok sc_part_turned (fun vs H Q E h => ?_) (fun cdv A outer s H vs Q E hr h => ?_)
  ·
    obtain ⟨v, p, x, w, t, rfl, _⟩ := h
    rfl
  ·
    obtain ⟨v, p, x, w, t, rfl, hp, ok, x0, x1, hw, ht, q⟩ := h
    refine ⟨_, (pss_cons (ps_if (pt_cmpR op_eq (pe_ix (r := rIxT K) ix_tup (pv 0) pe_int (fun _ _ => rfl)) pe_str (nomark _)) (pss_one (ps_ret (pe_call G_wheel_turned (hr.mono (by decide)) (by rfl) g_wheel_turned F_wheel_turned.kp b_wheel_turned .nil pass0 (pa_cons (pv 0) (pa_cons (pv 1) (pa_cons (pv 2) (pa_cons (pv 3) pa_nil))))))) pss_nil)
      (pss_cons (ps_if (pt_cmpR op_eq (pe_ix (r := rIxT K) ix_tup (pv 0) pe_int (fun _ _ => rfl)) pe_str (nomark _)) (pss_one (ps_ret (pe_call G_rocker_turned (hr.mono (by decide)) (by rfl) g_rocker_turned F_rocker_turned.kp b_rocker_turned .nil pass0 (pa_cons (pv 1) (pa_cons (pv 2) (pa_cons (pv 3) pa_nil)))))) pss_nil)
      (pss_cons (ps_if (pt_cmpR op_eq (pe_ix (r := rIxT K) ix_tup (pv 0) pe_int (fun _ _ => rfl)) pe_str (nomark _)) (pss_one (ps_ret (pe_call G_spring_turned (hr.mono (by decide)) (by rfl) g_spring_turned F_spring_turned.kp b_spring_turned .nil pass0 (pa_cons (pv 0) (pa_cons (pv 1) (pa_cons (pv 2) (pa_cons (pv 3) pa_nil))))))) pss_nil)
      (pss_one (ps_ret (pe_tup (pa_cons (pv 1) (pa_cons (pe_ifExp (pt_cmpR op_eq (pv 2) pe_int (nomark _)) (pv 3) pe_int) pa_nil)))))))), ?_⟩
    refine w_st (σ' := [some v, some (.int x), some (.int w), some (.int t)]) rfl ?_
    cases p with
    | wheel z ms =>
      obtain ⟨a, b, rfl, ha, hb⟩ := wheel_inv hp
      walk_at "ct"
      exact ⟨_, z, ms, x, w, t, rfl, hp, ok, x0, x1, hw, ht, q⟩
    | click =>
      obtain ⟨a, rfl, ha⟩ := click_inv hp
      walk_at "ct"
      refine w_ite (fun e => ?_) (fun e => ?_)
      · walk_at "ct"
        refine ⟨len2 rfl, fun p np => q _ _ (same_upd np) np ?_⟩
        rw [upd_same]
        simp only [pt, if_pos e]
      · walk_at "ct"
        refine ⟨len2 rfl, fun p np => q _ _ (same_upd np) np ?_⟩
        rw [upd_same]
        simp only [pt, if_neg e]
    | rocker =>
      obtain ⟨a, rfl, ha⟩ := rocker_inv hp
      walk_at "ct"
      exact ⟨x, w, t, rfl, q⟩
    | spring k =>
      obtain ⟨a, rfl, ha⟩ := spring_inv hp
      walk_at "ct"
      exact ⟨_, k, x, w, t, rfl, hp, ok, q⟩
abbrev S_row_left : Stmt := topS 29
theorem sc_row_left : FnScope ["train", "stand", "row", "places", "total", "i", "way", "times", "given", "number"] ["train", "stand", "row"] (defScope S_row_left) := ⟨rfl, rfl, rfl, by decide +kernel, rfl, by decide +kernel, by decide +kernel⟩
def sp_row_left (K : PySem.W.Frag) : Sp := fun vs H Q _ => ∃ (a t b : Addr) (ps : List Part) (xs : List Int) (ds : List Deed), vs = [.ref a, .ref t, .ref b] ∧ TrainAt K H a ps ∧ StandL ps xs ∧ ps.length ≤ 1000 ∧ SqT K H t (xs.map V.int) ∧ RowAt K H b ds ∧ (∀ d ∈ ds, d.ok ps.length ∧ d.t < 2 ^ 200) ∧
  ∀ q u H', Same H H' → H u = none → H q = none → H' u = some (.tup ((rowL ps ds (xs, 0)).1.map V.int)) → H' q = some (.tup [.ref u, .int (rowL ps ds (xs, 0)).2]) → Q (.ref q) H'
theorem ok_row_left {f : Addr} {fd : FuncData} {f_part_turned : Addr} {fd_part_turned : FuncData} (F : Fun K "row_left" "row_left" S_row_left f fd)
    (F_part_turned : Fun K "part_turned" "part_turned" S_part_turned f_part_turned fd_part_turned) (b_part_turned : Binds K fd_part_turned ["part", "place", "way", "times"] []) (g_part_turned : mg "part_turned" = some (.ref f_part_turned)) (G_part_turned : FnOk P w K mg base CX0 4 f_part_turned fd_part_turned ["part", "place", "way", "times"] (sp_part_turned K)) (m_list : mg "list" = none) (m_range : mg "range" = none) (m_tuple : mg "tuple" = none) (m_len : mg "len" = none) :
    FnOk P w K mg base CX0 5 f fd ["train", "stand", "row"] (sp_row_left K) := by
  refine F.ok sc_row_left (fun vs H Q E h => ?_) (fun cdv A outer s H vs Q E hr h => ?_)
  ·
    obtain ⟨a, t, b, ps, xs, ds, rfl, _⟩ := h
    rfl
  ·
    obtain ⟨a, t, b, ps, xs, ds, rfl, ⟨vs, hv, hd⟩, hst, hps, hS, ⟨us, hu, he⟩, hok, q⟩ := h
    refine ⟨_, (pss_cons (ps_set (i := 3) sc_row_left.nd rfl (.inl rfl) (pe_callTy call_list_of (by rfl) m_list (by decide +kernel) (pa_cons (pv 1) pa_nil)))
      (pss_cons (ps_set (i := 4) sc_row_left.nd rfl (.inl rfl) pe_int)
      (pss_cons (ps_for PassesOwn.never rfl (pi_list (pv 2)) (pg_tup rfl (pgs_cons (pg_name (i := 5) sc_row_left.nd rfl (.inl rfl)) (pgs_cons (pg_name (i := 6) sc_row_left.nd rfl (.inl rfl)) (pgs_cons (pg_name (i := 7) sc_row_left.nd rfl (.inl rfl)) pgs_nil))))
      (pss_cons (ps_set (i := 8) sc_row_left.nd rfl (.inl rfl) (pv 7))
      (pss_cons (ps_for PassesOwn.never rfl (pi_range2 (by rfl) m_range (pa_cons (pv 5) (pa_cons (pe_callB call_len_seq (by rfl) m_len (by decide +kernel) (pa_cons (pv 0) pa_nil)) pa_nil))) (pg_name (i := 9) sc_row_left.nd rfl (.inl rfl))
      (pss_one (ps_asg (pe_call G_part_turned (hr.mono (by decide)) (by rfl) g_part_turned F_part_turned.kp b_part_turned .nil pass0 (pa_cons (pe_ix (r := rIxL K) ix_list (pv 0) (pv 9) (fun _ _ => rfl)) (pa_cons (pe_ix (r := rIxL K) ix_list (pv 3) (pv 9) (fun _ _ => rfl)) (pa_cons (pv 6) (pa_cons (pv 8) pa_nil))))) (pg_tup rfl (pgs_cons (pg_sub (pv 3) (pv 9) set_list) (pgs_cons (pg_name (i := 8) sc_row_left.nd rfl (.inl rfl)) pgs_nil))))))
      (pss_one (ps_aug (i := 4) sc_row_left.nd rfl (.inl rfl) (pe_op op_mulW (pv 6) (pv 8)) ip_add)))))
      (pss_one (ps_ret (pe_tup (pa_cons (pe_callTy call_tuple_of (by rfl) m_tuple (by decide +kernel) (pa_cons (pv 3) pa_nil)) (pa_cons (pv 4) pa_nil)))))))), ?_⟩
    refine w_st (σ' := [some (.ref a), some (.ref t), some (.ref b), none, none, none, none, none, none, none]) rfl ?_
    have hvl : vs.length = ps.length := by rw [dpAll_len hd, List.length_map]
    have hul : us.length = ds.length := by rw [dpAll_len he, List.length_map]
    walk_at "ct"
    refine ⟨t, _, rfl, .inr hS, fun l nl => ?_⟩
    walk_at "ct"
    refine w_IL ((same_upd nl).seq hu) ?_
    refine fb_list us (fun n σ H' => ∃ y4 y5 y6 y7 y8, σ = [some (.ref a), some (.ref t), some (.ref b), some (.ref l), some (.int (rowL ps (ds.take n) (xs, 0)).2), y4, y5, y6, y7, y8] ∧ Same H H' ∧ H' l = some (.lst ((rowL ps (ds.take n) (xs, 0)).1.map V.int)))
      ⟨none, none, none, none, none, rfl, same_upd nl, upd_same⟩ ?_ ?_ ?_
    · rintro n σ H' hn ⟨y4, y5, y6, y7, y8, rfl, sm, _⟩
      exact sm.seq hu
    · rintro n v σ H' hx ⟨y4, y5, y6, y7, y8, rfl, sm, hl⟩
      have hn : n < us.length := (List.getElem?_eq_some_iff.mp hx).1
      obtain ⟨d, hdn⟩ : ∃ d, ds[n]? = some d := ⟨_, List.getElem?_eq_getElem (by omega)⟩
      obtain ⟨v', hv1, hd1⟩ := deed_get he hdn
      cases Option.some.inj (hx.symm.trans hv1)
      obtain ⟨c, rfl, hc⟩ := deed_inv hd1
      have okd := hok d (List.mem_of_getElem? hdn)
      have hi : d.i < ps.length := okd.1.1
      have hw : Sign d.w := okd.1.2
      have ht2 : d.t < 2 ^ 200 := okd.2
      have hw1 : -1 ≤ d.w ∧ d.w ≤ 1 := by rcases hw with z | z <;> rw [z] <;> exact ⟨by decide, by decide⟩
      have hst2 : StandL ps (rowL ps (ds.take n) (xs, 0)).1 := rowL_stand hst fun e he => (hok e (List.mem_of_mem_take he)).1
      have htk : ds.take (n + 1) = ds.take n ++ [d] := by rw [List.take_add_one, hdn]; rfl
      generalize hrw : rowL ps (ds.take n) (xs, 0) = rw0 at *
      obtain ⟨ys, tot⟩ := rw0
      have hst3 : StandL ps ys := hst2
      have hyl : ys.length = ps.length := hst3.len
      refine w_gtup (Same.tup sm hc) rfl ?_
      walk_at "ct"
      refine ⟨a, vs, rfl, .inl (sm.seq hv), ?_⟩
      walk_at "ct"
      refine w_RG2 (by omega) (by omega) (by omega) (by omega) ?_
      rw [show ((vs.length : Int) - (d.i : Int)).toNat = ps.length - d.i by omega]
      refine fb_range (fun m σ H' => ∃ y9, σ = [some (.ref a), some (.ref t), some (.ref b), some (.ref l), some (.int tot), some (.int d.i), some (.int d.w), some (.int d.t), some (.int (rnF (ptw d.w) ps d.i (ys, (d.t : Int)) m).2), y9] ∧ Same H H' ∧ H' l = some (.lst ((rnF (ptw d.w) ps d.i (ys, (d.t : Int)) m).1.map V.int)) ∧ 0 ≤ (rnF (ptw d.w) ps d.i (ys, (d.t : Int)) m).2 ∧ (rnF (ptw d.w) ps d.i (ys, (d.t : Int)) m).2 ≤ d.t)
        ⟨_, rfl, sm, hl, Int.natCast_nonneg _, Int.le_refl _⟩ ?_ ?_
      · rintro m σ H1 hm ⟨y9, rfl, s1, hl1, n0, n1⟩
        obtain ⟨p, hp⟩ : ∃ p, ps[d.i + m]? = some p := ⟨_, List.getElem?_eq_getElem (by omega)⟩
        obtain ⟨v, hv1, hd1⟩ := TrainAt.at (a := a) hd hp
        obtain ⟨x, hx⟩ : ∃ x, ys[d.i + m]? = some x := ⟨_, List.getElem?_eq_getElem (by omega)⟩
        have hx2 : (rnF (ptw d.w) ps d.i (ys, (d.t : Int)) m).1[d.i + m]? = some x := by
          rw [rnF_ahead _ ps d.i _ m (d.i + m) (Nat.le_refl _)]
          exact hx
        have hx0 := hst3.ok.2 _ _ _ hp hx
        have okp : p.ok := hst3.okp p (List.mem_of_getElem? hp)
        obtain ⟨g, hg⟩ : ∃ g : Nat, (rnF (ptw d.w) ps d.i (ys, (d.t : Int)) m).2 = (g : Int) := ⟨_, (Int.toNat_of_nonneg n0).symm⟩
        have er : rnF (ptw d.w) ps d.i (ys, (d.t : Int)) (m + 1) = ((rnF (ptw d.w) ps d.i (ys, (d.t : Int)) m).1.set (d.i + m) (pt p x d.w g).1, (pt p x d.w g).2) := by
          rw [← hg]
          exact stF_at hp hx2
        rw [hg] at n0 n1 ⊢
        walk_at "ct"
        refine w_ixL (s1.seq hv) (at_of (j := d.i + m) (by omega) hv1) ?_
        walk_at "ct"
        refine w_ixL (.of hl1) (at_of (j := d.i + m) (by omega) (by rw [List.getElem?_map, hx2]; rfl)) ?_
        walk_at "ct"
        refine ⟨v, p, x, d.w, g, rfl, dp_same s1 hd1, okp, hx0.1, hx0.2, hw, by omega, fun u H2 s2 nu hu2 => ?_⟩
        refine w_gtup (.of hu2) rfl ?_
        walk_at "ct"
        refine w_setL (s2 _ _ hl1) (ix_at (j := d.i + m) (by omega) (by rw [List.length_map, rnF_len]; show d.i + m < ys.length; omega)) ?_
        walk_at "ct"
        have hle := pt_le okp hx0.1 hx0.2 hw g
        have hnn := pt_nn okp hx0.1 hx0.2 hw g
        refine ⟨some (.int ((d.i : Int) + (m : Int))), ?_, same_new (s1.trans s2) nl, ?_, ?_, ?_⟩
        · rw [er]
        · rw [er, upd_same, List.map_set]
        · rw [er]
          exact hnn
        · rw [er]
          show (pt p x d.w g).2 ≤ _
          omega
      · rintro σ H1 ⟨y9, rfl, s1, hl1, n0, n1⟩
        have hR : rnF (ptw d.w) ps d.i (ys, (d.t : Int)) (ps.length - d.i) = (ys.take d.i ++ (gen (ptw d.w) (ps.drop d.i) (ys.drop d.i) d.t).1, (gen (ptw d.w) (ps.drop d.i) (ys.drop d.i) d.t).2) := rnF_gen _ ps _ _ _ _ hyl (by omega)
        have hD : rowL ps (ds.take (n + 1)) (xs, 0) = ((deedL ps ys d).1, tot + (deedL ps ys d).2) := by
          rw [htk, rowL_app, hrw]
          rfl
        have hl2 : (rnF (ptw d.w) ps d.i (ys, (d.t : Int)) (ps.length - d.i)).1 = (deedL ps ys d).1 := by rw [hR]; rfl
        have hl3 : d.w * (rnF (ptw d.w) ps d.i (ys, (d.t : Int)) (ps.length - d.i)).2 = (deedL ps ys d).2 := by rw [hR]; rfl
        rw [hl2] at hl1
        refine w_aug rfl ?_
        walk_at "ct"
        refine w_rI (mul_ok (by omega) (by omega) (by omega) (by omega)) ?_
        walk_at "ct"
        rw [hl3]
        rw [hD]
        exact ⟨_, _, _, _, _, rfl, s1, hl1⟩
    · rintro σ H' ⟨y4, y5, y6, y7, y8, rfl, sm, hl⟩
      rw [List.take_of_length_le (by omega)] at hl ⊢
      walk_at "ct"
      refine ⟨l, _, rfl, .inl ⟨.of hl, fun u nu => ?_⟩⟩
      walk_at "ct"
      refine ⟨len2 rfl, fun p np => ?_⟩
      have s2 : Same H (upd H' u (.tup ((rowL ps ds (xs, 0)).1.map V.int))) := same_new sm (sm.free nu)
      exact q p u _ (same_new s2 (s2.free np)) (sm.free nu) (s2.free np) (by rw [upd_ne (ne_of_none upd_same np)]; exact upd_same) upd_same
abbrev S_left : Stmt := topS 30
theorem sc_left : FnScope ["train", "stand", "row"] ["train", "stand", "row"] (defScope S_left) := ⟨rfl, rfl, rfl, by decide +kernel, rfl, by decide +kernel, by decide +kernel⟩
def sp_left (K : PySem.W.Frag) : Sp := fun vs H Q _ => ∃ (a t b : Addr) (ps : List Part) (xs : List Int) (ds : List Deed), vs = [.ref a, .ref t, .ref b] ∧ TrainAt K H a ps ∧ StandL ps xs ∧ 1 ≤ ps.length ∧ ps.length ≤ 1000 ∧ SqT K H t (xs.map V.int) ∧ RowAt K H b ds ∧ (∀ d ∈ ds, d.ok ps.length ∧ d.t < 2 ^ 200) ∧
  ∀ q u H', Same H H' → H u = none → H q = none → H' u = some (.tup ((rowL ps ds (xs, 0)).1.map V.int)) → H' q = some (.tup [.ref u, .int (rowL ps ds (xs, 0)).2]) → Q (.ref q) H'
theorem ok_left {f : Addr} {fd : FuncData} {f_row_left : Addr} {fd_row_left : FuncData} {f_check_row : Addr} {fd_check_row : FuncData} {f_check_stand : Addr} {fd_check_stand : FuncData} (F : Fun K "left" "left" S_left f fd)
    (F_row_left : Fun K "row_left" "row_left" S_row_left f_row_left fd_row_left) (b_row_left : Binds K fd_row_left ["train", "stand", "row"] []) (g_row_left : mg "row_left" = some (.ref f_row_left)) (G_row_left : FnOk P w K mg base CX0 5 f_row_left fd_row_left ["train", "stand", "row"] (sp_row_left K))
    (F_check_row : Fun K "check_row" "check_row" S_check_row f_check_row fd_check_row) (b_check_row : Binds K fd_check_row ["train", "row"] []) (g_check_row : mg "check_row" = some (.ref f_check_row)) (G_check_row : FnOk P w K mg base CX0 4 f_check_row fd_check_row ["train", "row"] (sp_check_row K))
    (F_check_stand : Fun K "check_stand" "check_stand" S_check_stand f_check_stand fd_check_stand) (b_check_stand : Binds K fd_check_stand ["train", "stand"] []) (g_check_stand : mg "check_stand" = some (.ref f_check_stand)) (G_check_stand : FnOk P w K mg base CX0 5 f_check_stand fd_check_stand ["train", "stand"] (sp_check_stand K)) :
    FnOk P w K mg base CX0 6 f fd ["train", "stand", "row"] (sp_left K) := by
  refine F.ok sc_left (fun vs H Q E h => ?_) (fun cdv A outer s H vs Q E hr h => ?_)
  ·
    obtain ⟨a, t, b, ps, xs, ds, rfl, _⟩ := h
    rfl
  ·
    obtain ⟨a, t, b, ps, xs, ds, rfl, hT, hst, hp1, hps, hS, hR, hok, q⟩ := h
    refine ⟨_, (pss_cons (ps_expr (pe_call G_check_stand (hr.mono (by decide)) (by rfl) g_check_stand F_check_stand.kp b_check_stand .nil pass0 (pa_cons (pv 0) (pa_cons (pv 1) pa_nil))))
      (pss_cons (ps_expr (pe_call G_check_row (hr.mono (by decide)) (by rfl) g_check_row F_check_row.kp b_check_row .nil pass0 (pa_cons (pv 0) (pa_cons (pv 2) pa_nil))))
      (pss_one (ps_ret (pe_call G_row_left (hr.mono (by decide)) (by rfl) g_row_left F_row_left.kp b_row_left .nil pass0 (pa_cons (pv 0) (pa_cons (pv 1) (pa_cons (pv 2) pa_nil)))))))), ?_⟩
    refine w_st (σ' := [some (.ref a), some (.ref t), some (.ref b)]) rfl ?_
    walk_at "ct"
    refine ⟨a, t, ps, xs, rfl, hT, hst.okp, hp1, hS, hst.ok, fun H1 s1 => ?_⟩
    walk_at "ct"
    refine ⟨a, b, ps, ds, rfl, hT.same s1, hR.same s1, fun d hd => (hok d hd).1, fun H2 s2 => ?_⟩
    have s12 := s1.trans s2
    walk_at "ct"
    exact ⟨a, t, b, ps, xs, ds, rfl, hT.same s12, hst, hps, Same.tup s12 hS, hR.same s12, hok, fun q' u H3 s3 nu nq hu hq => q q' u H3 (s12.trans s3) (s12.free nu) (s12.free nq) hu hq⟩
abbrev S_joined : Stmt := topS 32
theorem sc_joined : FnScope ["one", "other"] ["one", "other"] (defScope S_joined) := ⟨rfl, rfl, rfl, by decide +kernel, rfl, by decide +kernel, by decide +kernel⟩
def sp_joined (K : PySem.W.Frag) : Sp := fun vs H Q _ => ∃ (a b : Addr) (ps qs : List Part) (wa wb : List V), vs = [.ref a, .ref b] ∧ H a = some (.lst wa) ∧ H b = some (.lst wb) ∧ DpAll K H wa (ps.map Part.data) ∧ DpAll K H wb (qs.map Part.data) ∧ (∀ p ∈ ps, p.ok) ∧ (∀ p ∈ qs, p.ok) ∧ 1 ≤ ps.length ∧ 1 ≤ qs.length ∧ ps.length + qs.length ≤ 1000 ∧
  ∀ l H', Same H H' → H l = none → H' l = some (.lst (wa ++ wb)) → Q (.ref l) H'
theorem ok_joined {f : Addr} {fd : FuncData} {f_check_train : Addr} {fd_check_train : FuncData} (F : Fun K "joined" "joined" S_joined f fd)
    (F_check_train : Fun K "check_train" "check_train" S_check_train f_check_train fd_check_train) (b_check_train : Binds K fd_check_train ["train"] []) (g_check_train : mg "check_train" = some (.ref f_check_train)) (G_check_train : FnOk P w K mg base CX0 4 f_check_train fd_check_train ["train"] (sp_check_train K)) :
    FnOk P w K mg base CX0 5 f fd ["one", "other"] (sp_joined K) := by
  refine F.ok sc_joined (fun vs H Q E h => ?_) (fun cdv A outer s H vs Q E hr h => ?_)
  ·
    obtain ⟨a, b, ps, qs, wa, wb, rfl, _⟩ := h
    rfl
  ·
    obtain ⟨a, b, ps, qs, wa, wb, rfl, ha, hb, da, db, oa, ob, la, lb, l8, q⟩ := h
    refine ⟨_, (pss_cons (ps_expr (pe_call G_check_train (hr.mono (by decide)) (by rfl) g_check_train F_check_train.kp b_check_train .nil pass0 (pa_cons (pv 0) pa_nil)))
      (pss_cons (ps_expr (pe_call G_check_train (hr.mono (by decide)) (by rfl) g_check_train F_check_train.kp b_check_train .nil pass0 (pa_cons (pv 1) pa_nil)))
      (pss_one (ps_ret (pe_op op_cat (pv 0) (pv 1)))))), ?_⟩
    refine w_st (σ' := [some (.ref a), some (.ref b)]) rfl ?_
    have hwa : wa.length = ps.length := by rw [dpAll_len da, List.length_map]
    have hwb : wb.length = qs.length := by rw [dpAll_len db, List.length_map]
    walk_at "ct"
    refine ⟨a, ps, rfl, ⟨wa, .of ha, da⟩, oa, la, fun H1 s1 => ?_⟩
    walk_at "ct"
    refine ⟨b, qs, rfl, ⟨wb, .of (s1 _ _ hb), dpAll_same s1 db⟩, ob, lb, fun H2 s2 => ?_⟩
    walk_at "ct"
    have s12 := s1.trans s2
    refine ⟨a, b, wa, wb, rfl, rfl, s12 _ _ ha, s12 _ _ hb, Nat.le_of_lt (small1000 (by omega)), fun l nl => ?_⟩
    exact q l _ (s12.trans (same_upd nl)) (s12.free nl) upd_same
abbrev S_together : Stmt := topS 33
theorem sc_together : FnScope ["one", "here", "other", "there"] ["one", "here", "other", "there"] (defScope S_together) := ⟨rfl, rfl, rfl, by decide +kernel, rfl, by decide +kernel, by decide +kernel⟩
def sp_together (K : PySem.W.Frag) : Sp := fun vs H Q _ => ∃ (a t b u : Addr) (ps qs : List Part) (xs ys : List Int), vs = [.ref a, .ref t, .ref b, .ref u] ∧ TrainAt K H a ps ∧ TrainAt K H b qs ∧ (∀ p ∈ ps, p.ok) ∧ (∀ p ∈ qs, p.ok) ∧ 1 ≤ ps.length ∧ 1 ≤ qs.length ∧ ps.length + qs.length ≤ 1000 ∧ SqT K H t (xs.map V.int) ∧ SqT K H u (ys.map V.int) ∧ StandOk ps xs ∧ StandOk qs ys ∧
  ∀ g H', Same H H' → H g = none → H' g = some (.tup ((xs ++ ys).map V.int)) → Q (.ref g) H'
theorem ok_together {f : Addr} {fd : FuncData} {f_check_stand : Addr} {fd_check_stand : FuncData} (F : Fun K "together" "together" S_together f fd)
    (F_check_stand : Fun K "check_stand" "check_stand" S_check_stand f_check_stand fd_check_stand) (b_check_stand : Binds K fd_check_stand ["train", "stand"] []) (g_check_stand : mg "check_stand" = some (.ref f_check_stand)) (G_check_stand : FnOk P w K mg base CX0 5 f_check_stand fd_check_stand ["train", "stand"] (sp_check_stand K)) :
    FnOk P w K mg base CX0 6 f fd ["one", "here", "other", "there"] (sp_together K) := by
  refine F.ok sc_together (fun vs H Q E h => ?_) (fun cdv A outer s H vs Q E hr h => ?_)
  ·
    obtain ⟨a, t, b, u, ps, qs, xs, ys, rfl, _⟩ := h
    rfl
  ·
    obtain ⟨a, t, b, u, ps, qs, xs, ys, rfl, ha, hb, oa, ob, la, lb, l8, hx, hy, sx, sy, q⟩ := h
    refine ⟨_, (pss_cons (ps_expr (pe_call G_check_stand (hr.mono (by decide)) (by rfl) g_check_stand F_check_stand.kp b_check_stand .nil pass0 (pa_cons (pv 0) (pa_cons (pv 1) pa_nil))))
      (pss_cons (ps_expr (pe_call G_check_stand (hr.mono (by decide)) (by rfl) g_check_stand F_check_stand.kp b_check_stand .nil pass0 (pa_cons (pv 2) (pa_cons (pv 3) pa_nil))))
      (pss_one (ps_ret (pe_op op_catT (pv 1) (pv 3)))))), ?_⟩
    refine w_st (σ' := [some (.ref a), some (.ref t), some (.ref b), some (.ref u)]) rfl ?_
    have hxl := sx.1
    have hyl := sy.1
    walk_at "ct"
    refine ⟨a, t, ps, xs, rfl, ha, oa, la, hx, sx, fun H1 s1 => ?_⟩
    walk_at "ct"
    refine ⟨b, u, qs, ys, rfl, hb.same s1, ob, lb, Same.tup s1 hy, sy, fun H2 s2 => ?_⟩
    walk_at "ct"
    have s12 := s1.trans s2
    refine ⟨t, u, _, _, rfl, rfl, Same.tup s12 hx, Same.tup s12 hy, ?_, ?_, ?_, ?_⟩
    · intro z
      rw [List.map_eq_nil_iff] at z
      rw [z] at hxl
      have : 0 = ps.length := hxl
      omega
    · rw [List.length_map, List.length_map]
      exact Nat.le_of_lt (small1000 (by omega))
    · intro z
      rw [List.map_eq_nil_iff] at z
      rw [z] at hyl
      have : 0 = qs.length := hyl
      omega
    · intro _ g ng
      exact q g _ (s12.trans (same_upd ng)) (s12.free ng) (by rw [List.map_append]; exact upd_same)
abbrev S_parted : Stmt := topS 34
theorem sc_parted : FnScope ["one", "other", "stand"] ["one", "other", "stand"] (defScope S_parted) := ⟨rfl, rfl, rfl, by decide +kernel, rfl, by decide +kernel, by decide +kernel⟩
def sp_parted (K : PySem.W.Frag) : Sp := fun vs H Q _ => ∃ (a b t : Addr) (ps qs : List Part) (wa wb : List V) (zs : List Int), vs = [.ref a, .ref b, .ref t] ∧ H a = some (.lst wa) ∧ H b = some (.lst wb) ∧ DpAll K H wa (ps.map Part.data) ∧ DpAll K H wb (qs.map Part.data) ∧ (∀ p ∈ ps, p.ok) ∧ (∀ p ∈ qs, p.ok) ∧ 1 ≤ ps.length ∧ 1 ≤ qs.length ∧ ps.length + qs.length ≤ 1000 ∧ SqT K H t (zs.map V.int) ∧ StandOk (ps ++ qs) zs ∧
  ∀ p1 p2 g H', Same H H' → H' p1 = some (.tup ((zs.take ps.length).map V.int)) → H' p2 = some (.tup ((zs.drop ps.length).map V.int)) → H' g = some (.tup [.ref p1, .ref p2]) → Q (.ref g) H'
theorem ok_parted {f : Addr} {fd : FuncData} {f_joined : Addr} {fd_joined : FuncData} {f_check_stand : Addr} {fd_check_stand : FuncData} (F : Fun K "parted" "parted" S_parted f fd)
    (F_joined : Fun K "joined" "joined" S_joined f_joined fd_joined) (b_joined : Binds K fd_joined ["one", "other"] []) (g_joined : mg "joined" = some (.ref f_joined)) (G_joined : FnOk P w K mg base CX0 5 f_joined fd_joined ["one", "other"] (sp_joined K))
    (F_check_stand : Fun K "check_stand" "check_stand" S_check_stand f_check_stand fd_check_stand) (b_check_stand : Binds K fd_check_stand ["train", "stand"] []) (g_check_stand : mg "check_stand" = some (.ref f_check_stand)) (G_check_stand : FnOk P w K mg base CX0 5 f_check_stand fd_check_stand ["train", "stand"] (sp_check_stand K)) (m_len : mg "len" = none) :
    FnOk P w K mg base CX0 6 f fd ["one", "other", "stand"] (sp_parted K) := by
  refine F.ok sc_parted (fun vs H Q E h => ?_) (fun cdv A outer s H vs Q E hr h => ?_)
  ·
    obtain ⟨a, b, t, ps, qs, wa, wb, zs, rfl, _⟩ := h
    rfl
  ·
    obtain ⟨a, b, t, ps, qs, wa, wb, zs, rfl, ha, hb, da, db, oa, ob, la, lb, l8, hz, sz, q⟩ := h
    refine ⟨_, (pss_cons (ps_expr (pe_call G_check_stand (hr.mono (by decide)) (by rfl) g_check_stand F_check_stand.kp b_check_stand .nil pass0 (pa_cons (pe_call G_joined (hr.mono (by decide)) (by rfl) g_joined F_joined.kp b_joined .nil pass0 (pa_cons (pv 0) (pa_cons (pv 1) pa_nil))) (pa_cons (pv 2) pa_nil))))
      (pss_one (ps_ret (pe_tup (pa_cons (pe_slice sl_tup (pv 2) po_none (po_some (pe_callB call_len_seq (by rfl) m_len (by decide +kernel) (pa_cons (pv 0) pa_nil)))) (pa_cons (pe_slice sl_tup (pv 2) (po_some (pe_callB call_len_seq (by rfl) m_len (by decide +kernel) (pa_cons (pv 0) pa_nil))) po_none) pa_nil)))))), ?_⟩
    refine w_st (σ' := [some (.ref a), some (.ref b), some (.ref t)]) rfl ?_
    have hwa : wa.length = ps.length := by rw [dpAll_len da, List.length_map]
    have hzl := sz.1
    rw [List.length_append] at hzl
    walk_at "ct"
    refine ⟨a, b, ps, qs, wa, wb, rfl, ha, hb, da, db, oa, ob, la, lb, l8, fun l H1 s1 nl hl => ?_⟩
    walk_at "ct"
    refine ⟨l, t, ps ++ qs, zs, rfl, ⟨wa ++ wb, .of hl, by rw [List.map_append]; exact dpAll_app (dpAll_same s1 da) (dpAll_same s1 db)⟩, fun p hp => ?_, by rw [List.length_append]; omega, Same.tup s1 hz, sz, fun H2 s2 => ?_⟩
    · rcases List.mem_append.mp hp with hp | hp
      · exact oa p hp
      · exact ob p hp
    have s12 := s1.trans s2
    walk_at "ct"
    refine ⟨a, wa, rfl, .inl (.of (s12 _ _ ha)), ?_⟩
    walk_at "ct"
    refine ⟨t, _, rfl, Same.tup s12 hz, fun z => ?_, fun p1 n1 => ?_⟩
    · have z2 := z.2
      rw [HT.sIx_nat, List.length_map] at z2
      omega
    have s3 : Same H2 (upd H2 p1 (.tup (cutV (zs.map V.int) none (some (wa.length : Int))))) := same_upd n1
    have h3 : upd H2 p1 (.tup (cutV (zs.map V.int) none (some (wa.length : Int)))) p1 = some (.tup (cutV (zs.map V.int) none (some (wa.length : Int)))) := upd_same
    rw [cutV_map, HT.sIx_none, HT.sIx_nat, List.drop_zero, Nat.sub_zero, Nat.min_eq_left (by omega), hwa] at h3 s3 ⊢
    generalize upd H2 p1 _ = H3 at *
    have s13 := s12.trans s3
    walk_at "ct"
    refine ⟨a, wa, rfl, .inl (.of (s13 _ _ ha)), ?_⟩
    walk_at "ct"
    refine ⟨t, _, rfl, Same.tup s13 hz, fun z => ?_, fun p2 n2 => ?_⟩
    · have z2 := z.1
      rw [HT.sIx_nat, List.length_map] at z2
      omega
    have s4 : Same H3 (upd H3 p2 (.tup (cutV (zs.map V.int) (some (wa.length : Int)) none))) := same_upd n2
    have h4 : upd H3 p2 (.tup (cutV (zs.map V.int) (some (wa.length : Int)) none)) p2 = some (.tup (cutV (zs.map V.int) (some (wa.length : Int)) none)) := upd_same
    rw [cutV_map, HT.sIx_none, HT.sIx_nat, Nat.min_eq_left (by omega), hwa, List.take_of_length_le (by rw [List.length_drop]; omega)] at h4 s4 ⊢
    generalize upd H3 p2 _ = H4 at *
    walk_at "ct"
    refine ⟨len2 rfl, fun g ng => ?_⟩
    have s5 : Same H4 (upd H4 g (.tup [.ref p1, .ref p2])) := same_upd ng
    exact q p1 p2 g _ ((s13.trans s4).trans s5) (s5 _ _ (s4 _ _ h3)) (s5 _ _ h4) upd_same
abbrev S_is_sign : Stmt := topS 35
theorem sc_is_sign : FnScope ["thing"] ["thing"] (defScope S_is_sign) := ⟨rfl, rfl, rfl, by decide +kernel, rfl, by decide +kernel, by decide +kernel⟩
def sp_is_sign (K : PySem.W.Frag) : Sp := fun vs H Q _ => ∃ (v : V) (d : PyData), vs = [v] ∧ Dp K H v d ∧ ∀ H', Same H H' → Q (.bl (isSg d)) H'
theorem ok_is_sign {f : Addr} {fd : FuncData} {f_is_whole : Addr} {fd_is_whole : FuncData} (F : Fun K "is_sign" "is_sign" S_is_sign f fd)
    (F_is_whole : Fun K "is_whole" "is_whole" S_is_whole f_is_whole fd_is_whole) (b_is_whole : Binds K fd_is_whole ["thing"] []) (g_is_whole : mg "is_whole" = some (.ref f_is_whole)) (G_is_whole : FnOk P w K mg base CX0 1 f_is_whole fd_is_whole ["thing"] (sp_is_whole K)) :
    FnOk P w K mg base CX0 2 f fd ["thing"] (sp_is_sign K) := by
  refine F.ok sc_is_sign (fun vs H Q E h => ?_) (fun cdv A outer s H vs Q E hr h => ?_)
  ·
    obtain ⟨v, d, rfl, _⟩ := h
    rfl
  ·
    obtain ⟨v, d, rfl, hd, q⟩ := h
    refine ⟨_, (pss_one (ps_ret (pe_and (pe_call G_is_whole (hr.mono (by decide)) (by rfl) g_is_whole F_is_whole.kp b_is_whole .nil pass0 (pa_cons (pv 0) pa_nil)) (pe_one (pe_cmpR (r := rIn K false) op_in_seq (pv 0) (pe_tup (pa_cons pe_int (pa_cons (pe_un un_neg pe_int) (pa_cons pe_int pa_nil)))) (by rfl)))))), ?_⟩
    refine w_st (σ' := [some v]) rfl ?_
    walk_at "ct"
    refine ⟨v, d, rfl, hd, ?_⟩
    cases hd with
    | int i =>
      refine w_bl ?_
      refine iteT ?_
      walk_at "ct"
      refine ⟨len2 rfl, fun p np => ?_⟩
      refine w_inT (ns := [1, -1, 0]) (.of upd_same) ?_
      exact q _ (same_upd np)
    | non => exact w_bl (iteF (q H (Same.refl H)))
    | bl b => exact w_bl (iteF (q H (Same.refl H)))
    | str s => exact w_bl (iteF (q H (Same.refl H)))
    | lst g1 g2 => exact w_bl (iteF (q H (Same.refl H)))
    | tup g1 g2 => exact w_bl (iteF (q H (Same.refl H)))
abbrev S_fed : Stmt := topS 36
theorem sc_fed : FnScope ["train", "stand", "signs", "shown", "sign", "given", "thing"] ["train", "stand", "signs"] (defScope S_fed) := ⟨rfl, rfl, rfl, by decide +kernel, rfl, by decide +kernel, by decide +kernel⟩
def sp_fed (K : PySem.W.Frag) (T : List Addr) : Sp := fun vs H Q _ => ∃ (a t b : Addr) (ps : List Part) (xs ss : List Int), vs = [.ref a, .ref t, .ref b] ∧ TrainAt K H a ps ∧ (∀ p ∈ ps, p.ok) ∧ 1 ≤ ps.length ∧ ps.length ≤ 1000 ∧ SqT K H t (xs.map V.int) ∧ StandOk ps xs ∧ SqL K H b (ss.map V.int) ∧ (∀ s ∈ ss, s = 0 ∨ Sign s) ∧ ss.length ≤ 1000 ∧ Tb T H ∧
  ∀ l u g H', Same H H' → H l = none → H' l = some (.lst ((fedS ps xs ss).2.map V.int)) → SqT K H' u ((fedS ps xs ss).1.map V.int) → H' g = some (.tup [.ref u, .ref l]) → Q (.ref g) H'
theorem ok_fed {f : Addr} {fd : FuncData} {f_pushed : Addr} {fd_pushed : FuncData} {f_is_sign : Addr} {fd_is_sign : FuncData} {f_check_stand : Addr} {fd_check_stand : FuncData} {T : List Addr} {cT PT : Addr} (F : Fun K "fed" "fed" S_fed f fd)
    (F_pushed : Fun K "pushed" "pushed" S_pushed f_pushed fd_pushed) (b_pushed : Binds K fd_pushed ["train", "stand", "i", "way"] []) (g_pushed : mg "pushed" = some (.ref f_pushed)) (G_pushed : FnOk P w K mg base CX0 3 f_pushed fd_pushed ["train", "stand", "i", "way"] (sp_pushed K))
    (F_is_sign : Fun K "is_sign" "is_sign" S_is_sign f_is_sign fd_is_sign) (b_is_sign : Binds K fd_is_sign ["thing"] []) (g_is_sign : mg "is_sign" = some (.ref f_is_sign)) (G_is_sign : FnOk P w K mg base CX0 2 f_is_sign fd_is_sign ["thing"] (sp_is_sign K))
    (F_check_stand : Fun K "check_stand" "check_stand" S_check_stand f_check_stand fd_check_stand) (b_check_stand : Binds K fd_check_stand ["train", "stand"] []) (g_check_stand : mg "check_stand" = some (.ref f_check_stand)) (G_check_stand : FnOk P w K mg base CX0 5 f_check_stand fd_check_stand ["train", "stand"] (sp_check_stand K)) (m_isinstance : mg "isinstance" = none) (m_list : mg "list" = none) (m_all : mg "all" = none)
    (TB_fed : GxR.TabB base mg cT PT) (HC_fed : fd.code = .ref cT) (tm : PT ∈ T) :
    FnOk P w K mg base CX0 7 f fd ["train", "stand", "signs"] (sp_fed K T) := by
  refine okC F sc_fed (fun vs H Q E h => ?_) (fun A outer s H vs Q E hr h => ?_)
  ·
    obtain ⟨a, t, b, ps, xs, ss, rfl, _⟩ := h
    rfl
  ·
    obtain ⟨a, t, b, ps, xs, ss, rfl, hT, hok, hps, hps2, hS, hso, hG, hss, hsl, hTb, q⟩ := h
    refine ⟨_, (pss_cons (ps_expr (pe_call G_check_stand (hr.mono (by decide)) (by rfl) g_check_stand F_check_stand.kp b_check_stand .nil pass0 (pa_cons (pv 0) (pa_cons (pv 1) pa_nil))))
      (pss_cons (ps_if (PW.pt (pw_or (pt_not (pt_val (pe_callB (r := rIsi K) call_isi (by rfl) m_isinstance (by decide +kernel) (pa_cons (pv 2) (pa_cons (pe_bltn (v := .ty "list") (u := .type "list") (by rfl) m_list (by decide +kernel) rfl) pa_nil))))) (pw_or1 (pt_not (pt_val (pe_allX (own := [("thing", 6)]) (g := (gName 6)) hr (by rfl) m_all rfl sc_fed.nd TB_fed HC_fed (pi_list (pv 2)) (blkOk_by (own := [("thing", 6)]) (N := ["train", "stand", "signs", "shown", "sign", "given", "thing"]) (sc := defScope S_fed) (by decide +kernel)) (by decide +kernel) rfl (by decide +kernel) (fun _ _ _ _ _ _ _ _ => (pg_name (i := 6) sc_fed.nd rfl (Or.inl rfl))) (fun _ _ _ _ _ _ _ _ hr => (pe_call G_is_sign (hr.mono (by decide)) (by rfl) g_is_sign F_is_sign.kp b_is_sign .nil pass0 (pa_cons (pv 6) pa_nil))))))))) (pss_one ps_never) pss_nil)
      (pss_cons (ps_set (i := 3) sc_fed.nd rfl (.inl rfl) (pe_lst pa_nil))
      (pss_cons (ps_for PassesOwn.never rfl (pi_list (pv 2)) (pg_name (i := 4) sc_fed.nd rfl (.inl rfl))
      (pss_cons (ps_set (i := 5) sc_fed.nd rfl (.inl rfl) pe_int)
      (pss_cons (ps_if (pt_cmpR op_ne (pv 4) pe_int (nomark _)) (pss_one (ps_asg (pe_call G_pushed (hr.mono (by decide)) (by rfl) g_pushed F_pushed.kp b_pushed .nil pass0 (pa_cons (pv 0) (pa_cons (pv 1) (pa_cons pe_int (pa_cons (pv 4) pa_nil))))) (pg_tup rfl (pgs_cons (pg_name (i := 1) sc_fed.nd rfl (.inl rfl)) (pgs_cons (pg_name (i := 5) sc_fed.nd rfl (.inl rfl)) pgs_nil))))) pss_nil)
      (pss_one (ps_expr (pe_bm PySem.F.plainAttrs_list PySem.F.slot_list_append PySem.F.type_list_append mt_append (pv 3) (pa_cons (pv 5) pa_nil)))))))
      (pss_one (ps_ret (pe_tup (pa_cons (pv 1) (pa_cons (pv 3) pa_nil))))))))), ?_⟩
    refine w_st (σ' := [some (.ref a), some (.ref t), some (.ref b), none, none, none, none]) rfl ?_
    have hstl := standL_of hok hso
    walk_at "ct"
    refine ⟨a, t, ps, xs, rfl, hT, hok, hps, hS, hso, fun H1 s1 => ?_⟩
    walk_at "ct"
    refine w_isi (b := true) (tyx_L (s1.seq hG)) (kit_ty (by decide +kernel)) ?_
    walk_at "ct"
    refine w_IL (s1.seq hG) ?_
    refine gb_list (ss.map V.int) (fun i H2 => Same H1 H2) ((hTb.same s1) _ tm) (Same.refl _) (fun i H2 _ s2 => (s1.trans s2).seq hG) ?_ ?_
    · rintro i x H2 hx s2
      obtain ⟨c, hc, rfl⟩ : ∃ c : Int, (c = 0 ∨ Sign c) ∧ x = .int c := by
        obtain ⟨k, hk, rfl⟩ := List.mem_map.mp (List.mem_of_getElem? hx)
        exact ⟨k, hss k hk, rfl⟩
      walk_at "ct"
      refine ⟨rfl, ?_⟩
      walk_at "ct"
      refine ⟨_, .int c, rfl, .int c, fun H3 s3 => ⟨_, rfl, ?_⟩⟩
      rw [isSg_of hc, if_neg (by decide)]
      exact s2.trans s3
    · intro H2 s2
      have s12 := s1.trans s2
      walk_at "ct"
      refine ⟨len2 rfl, fun l nl => ?_⟩
      walk_at "ct"
      refine w_IL ((s12.trans (same_upd nl)).seq hG) ?_
      have nl0 : H l = none := s12.free nl
      refine fb_list (ss.map V.int) (fun k σ H3 => ∃ (u : Addr) (y4 y5 : Option V), σ = [some (.ref a), some (.ref u), some (.ref b), some (.ref l), y4, y5, none] ∧ Same H H3 ∧ H3 l = some (.lst ((fedS ps xs (ss.take k)).2.map V.int)) ∧ SqT K H3 u ((fedS ps xs (ss.take k)).1.map V.int))
        ⟨t, none, none, rfl, s12.trans (same_upd nl), upd_same, Same.tup (s12.trans (same_upd nl)) hS⟩ ?_ ?_ ?_
      · rintro k σ H3 _ ⟨u, y4, y5, rfl, s3, _⟩
        exact s3.seq hG
      · rintro k x σ H3 hx ⟨u, y4, y5, rfl, s3, hl, hu⟩
        obtain ⟨c, hc, rfl⟩ : ∃ c : Int, ss[k]? = some c ∧ x = .int c := by
          rw [List.getElem?_map] at hx
          cases e : ss[k]? with
          | none => rw [e] at hx; cases hx
          | some c => rw [e] at hx; exact ⟨c, rfl, (Option.some.inj hx).symm⟩
        have hk : k < ss.length := (List.getElem?_eq_some_iff.mp hc).1
        have hcs := hss c (List.mem_of_getElem? hc)
        have hst := fedS_stand (ss := ss.take k) hps hstl fun s hs => hss s (List.mem_of_mem_take hs)
        have ft := fedS_take (ps := ps) xs hc
        have fl : (fedS ps xs (ss.take k)).2.length ≤ 1000 := by
          rw [fedS_len, List.length_take]
          omega
        walk_at "ct"
        refine w_iteN (fun e => ?_) (fun e => ?_)
        · walk_at "ct"
          refine ⟨a, u, ps, _, 0, c, rfl, hT.same s3, hok, hu, hst.ok, by omega, hps2, hcs.resolve_left e, fun g v H4 s4 _ _ hv hg => ?_⟩
          refine w_gtup (.of hg) rfl ?_
          walk_at "ct"
          have hl4 := s4 _ _ hl
          refine ⟨ty_list hl4, ?_⟩
          walk_at "ct"
          refine w_append hl4 (by rw [List.length_map]; exact small1000 fl) ?_
          walk_at "ct"
          refine ⟨v, _, _, rfl, same_new (s3.trans s4) nl0, ?_, ?_⟩
          · rw [upd_same, ft, List.map_append]
            rfl
          · rw [ft]
            exact sqT_upd (.of hv) hl4
        · walk_at "ct"
          refine ⟨ty_list hl, ?_⟩
          walk_at "ct"
          refine w_append hl (by rw [List.length_map]; exact small1000 fl) ?_
          walk_at "ct"
          rw [e, run_zero] at ft
          refine ⟨u, _, _, rfl, same_new s3 nl0, ?_, ?_⟩
          · rw [upd_same, ft, List.map_append]
            rfl
          · rw [ft]
            exact sqT_upd hu hl
      · rintro σ H3 ⟨u, y4, y5, rfl, s3, hl, hu⟩
        rw [List.length_map, List.take_length] at hl hu
        walk_at "ct"
        refine ⟨len2 rfl, fun g ng => ?_⟩
        have s4 : Same H3 (upd H3 g (.tup [.ref u, .ref l])) := same_upd ng
        exact q l u g _ (s3.trans s4) nl0 (s4 _ _ hl) (Same.tup s4 hu) upd_same
abbrev S__law_mix : Stmt := topS 39
theorem sc__law_mix : FnScope ["_law_cell", "_law_k", "_law_turn", "_law_number"] ["_law_cell", "_law_k"] (defScope S__law_mix) := ⟨rfl, rfl, rfl, by decide +kernel, rfl, by decide +kernel, by decide +kernel⟩
def sp__law_mix (K : PySem.W.Frag) : Sp := fun vs H Q _ => ∃ c k : Int, vs = [.int c, .int k] ∧ 0 ≤ k ∧ k ≤ 1000 ∧ ∀ n : Int, 0 ≤ n → n < 2147483648 → Q (.int n) H
theorem ok__law_mix {f : Addr} {fd : FuncData} (F : Fun K "_law_mix" "_law_mix" S__law_mix f fd) (m_range : mg "range" = none) :
    FnOk P w K mg base CX0 1 f fd ["_law_cell", "_law_k"] (sp__law_mix K) := by
  refine F.ok sc__law_mix (fun vs H Q E h => ?_) (fun cdv A outer s H vs Q E hr h => ?_)
  ·
    obtain ⟨c, k, rfl, _⟩ := h
    rfl
  ·
    obtain ⟨c, k, rfl, k0, k1, q⟩ := h
    refine ⟨_, (pss_cons (ps_if (pt_cmpR op_ge (pv 0) (pe_op op_powB pe_int pe_int) (nomark _)) (pss_cons (ps_for PassesOwn.never rfl (pi_range1 (by rfl) m_range (pa_cons (pv 1) pa_nil)) (pg_name (i := 2) sc__law_mix.nd rfl (.inl rfl))
      (pss_one (ps_set (i := 0) sc__law_mix.nd rfl (.inl rfl) (pe_op op_fdivW (pv 0) (pe_op op_powB pe_int pe_int)))))
      (pss_one (ps_ret (pe_op op_mod (pv 0) (pe_op op_powB pe_int pe_int))))) pss_nil)
      (pss_cons (ps_set (i := 3) sc__law_mix.nd rfl (.inl rfl) (pe_op op_mod (pe_op op_mulW (pe_op op_add (pe_op op_add (pe_op op_mod (pv 0) pe_int) (pe_op op_mulW (pe_op op_mulW (pv 1) (pv 1)) pe_int)) (pv 1)) pe_int) pe_int))
      (pss_cons (ps_set (i := 3) sc__law_mix.nd rfl (.inl rfl) (pe_op op_mod (pe_op op_mulW (pv 3) (pv 3)) pe_int))
      (pss_one (ps_ret (pe_op op_fdivW (pe_op op_mod (pe_op op_mulW (pv 3) (pe_op op_add (pv 3) pe_int)) pe_int) pe_int)))))), ?_⟩
    refine w_st (σ' := [some (.int c), some (.int k), none, none]) rfl ?_
    walk_at "ct"
    refine w_rIv (.int 1000000000000000000) ⟨by decide, by decide⟩ rfl ?_
    walk_at "ct"
    refine w_ite (fun e => ?_) (fun e => ?_)
    · walk_at "ct"
      refine w_RG1 (by omega) (by omega) ?_
      refine fb_range (fun n σ H' => ∃ (c' : Int) (y : Option V), σ = [some (.int c'), some (.int k), y, none] ∧ H' = H) ⟨c, none, rfl, rfl⟩ ?_ ?_
      · rintro i σ H' hi ⟨c', y, rfl, rfl⟩
        walk_at "ct"
        refine w_rIv (.int 1000000) ⟨by decide, by decide⟩ rfl ?_
        refine w_div (div_ok (by decide) (by decide)) fun r => ?_
        walk_at "ct"
        exact ⟨_, _, rfl, rfl⟩
      · rintro σ H' ⟨c', y, rfl, rfl⟩
        walk_at "ct"
        refine w_rIv (.int 1000000) ⟨by decide, by decide⟩ rfl ?_
        refine w_mod (by decide) fun r h0 h1 => ?_
        exact q _ h0 (by omega)
    · walk_at "ct"
      refine w_mod (by decide) fun r0 a0 a1 => ?_
      walk_at "ct"
      have kk : 0 ≤ k * k ∧ k * k ≤ 1000 * 1000 := ⟨Int.mul_nonneg k0 k0, Int.mul_le_mul k1 k1 k0 (by decide)⟩
      refine w_rI (mul_ok (by omega) (by omega) (by omega) (by omega)) ?_
      walk_at "ct"
      refine w_rI (mul_ok (by omega) (by omega) (by omega) (by omega)) ?_
      walk_at "ct"
      refine w_rI (mul_ok (by omega) (by omega) (by omega) (by omega)) ?_
      walk_at "ct"
      refine w_mod (by decide) fun r1 b0 b1 => ?_
      walk_at "ct"
      refine w_rI (mul_ok (by omega) (by omega) (by omega) (by omega)) ?_
      walk_at "ct"
      refine w_mod (by decide) fun r2 c0 c1 => ?_
      walk_at "ct"
      refine w_rI (mul_ok (by omega) (by omega) (by omega) (by omega)) ?_
      walk_at "ct"
      refine w_mod (by decide) fun r3 d0 d1 => ?_
      walk_at "ct"
      refine w_rI (div_ok (by decide) (by decide)) ?_
      exact q _ (by omega) (by omega)
abbrev S__law_digit : Stmt := topS 40
theorem sc__law_digit : FnScope ["_law_number", "_law_by", "_law_k", "_law_turn"] ["_law_number", "_law_by", "_law_k"] (defScope S__law_digit) := ⟨rfl, rfl, rfl, by decide +kernel, rfl, by decide +kernel, by decide +kernel⟩
def sp__law_digit (K : PySem.W.Frag) : Sp := fun vs H Q _ => ∃ (n b : Int) (k : Nat), vs = [.int n, .int b, .int k] ∧ 1 ≤ b ∧ b < 2 ^ 64 ∧ k ≤ 1000 ∧ ∀ r : Int, 0 ≤ r → r < b → Q (.int r) H
theorem ok__law_digit {f : Addr} {fd : FuncData} (F : Fun K "_law_digit" "_law_digit" S__law_digit f fd) (m_range : mg "range" = none) :
    FnOk P w K mg base CX0 1 f fd ["_law_number", "_law_by", "_law_k"] (sp__law_digit K) := by
  refine F.ok sc__law_digit (fun vs H Q E h => ?_) (fun cdv A outer s H vs Q E hr h => ?_)
  ·
    obtain ⟨n, b, k, rfl, _⟩ := h
    rfl
  ·
    obtain ⟨n, b, k, rfl, b0, b1, hk, q⟩ := h
    refine ⟨_, (pss_cons (ps_for PassesOwn.never rfl (pi_range1 (by rfl) m_range (pa_cons (pv 2) pa_nil)) (pg_name (i := 3) sc__law_digit.nd rfl (.inl rfl))
      (pss_one (ps_set (i := 0) sc__law_digit.nd rfl (.inl rfl) (pe_op op_fdivW (pv 0) (pv 1)))))
      (pss_one (ps_ret (pe_op op_mod (pv 0) (pv 1))))), ?_⟩
    refine w_st (σ' := [some (.int n), some (.int b), some (.int k), none]) rfl ?_
    walk_at "ct"
    refine w_RG1 (by omega) (by omega) ?_
    refine fb_range (fun i σ H' => ∃ (n' : Int) (y : Option V), σ = [some (.int n'), some (.int b), some (.int k), y] ∧ H' = H) ⟨n, none, rfl, rfl⟩ ?_ ?_
    · rintro i σ H' hi ⟨n', y, rfl, rfl⟩
      walk_at "ct"
      refine w_div (div_ok (by omega) (by omega)) fun r => ?_
      walk_at "ct"
      exact ⟨_, _, rfl, rfl⟩
    · rintro σ H' ⟨n', y, rfl, rfl⟩
      walk_at "ct"
      refine w_mod (by omega) fun r h0 h1 => ?_
      exact q _ h0 h1
abbrev S__law_places : Stmt := topS 41
theorem sc__law_places : FnScope ["_law_part_here"] ["_law_part_here"] (defScope S__law_places) := ⟨rfl, rfl, rfl, by decide +kernel, rfl, by decide +kernel, by decide +kernel⟩
def sp__law_places (K : PySem.W.Frag) : Sp := fun vs H Q _ => ∃ (v : V) (p : Part), vs = [v] ∧ Dp K H v p.data ∧ ∀ H', Same H H' → Q (.int p.places) H'
theorem ok__law_places {f : Addr} {fd : FuncData} (F : Fun K "_law_places" "_law_places" S__law_places f fd) (m_int : mg "int" = none) :
    FnOk P w K mg base CX0 1 f fd ["_law_part_here"] (sp__law_places K) := by
  refine F.ok sc__law_places (fun vs H Q E h => ?_) (fun cdv A outer s H vs Q E hr h => ?_)
  ·
    obtain ⟨v, p, rfl, _⟩ := h
    rfl
  ·
    obtain ⟨v, p, rfl, hp, q⟩ := h
    refine ⟨_, (pss_cons (ps_if (pt_cmpR (r := rIn K false) op_in_seq (pe_ix (r := rIxT K) ix_tup (pv 0) pe_int (fun _ _ => rfl)) (pe_lst (pa_cons pe_str (pa_cons pe_str pa_nil))) (by rfl)) (pss_one (ps_ret (pe_ix (r := rIxT K) ix_tup (pv 0) pe_int (fun _ _ => rfl)))) pss_nil)
      (pss_one (ps_ret (pe_op op_add pe_int (pe_callTy call_int1 (by rfl) m_int (by decide +kernel) (pa_cons (pe_cmpR op_eq (pe_ix (r := rIxT K) ix_tup (pv 0) pe_int (fun _ _ => rfl)) pe_str (nomark _)) pa_nil)))))), ?_⟩
    refine w_st (σ' := [some v]) rfl ?_
    cases p with
    | wheel z ms =>
      obtain ⟨a, b, rfl, ha, hb⟩ := wheel_inv hp
      walk_at "ct"
      refine ⟨len2 rfl, fun l nl => ?_⟩
      have s1 : Same H (upd H l (.lst [.str "wheel", .str "spring"])) := same_upd nl
      refine ⟨l, _, rfl, .inl (.of upd_same), rfl, rfl, ?_⟩
      have ha1 := Same.tup s1 ha
      generalize upd H l _ = H1 at *
      rw [show (if false = true then !inV (.str "wheel") [.str "wheel", .str "spring"] else inV (.str "wheel") [.str "wheel", .str "spring"]) = true by decide +kernel]
      walk_at "ct"
      exact q H1 s1
    | click =>
      obtain ⟨a, rfl, ha⟩ := click_inv hp
      walk_at "ct"
      refine ⟨len2 rfl, fun l nl => ?_⟩
      have s1 : Same H (upd H l (.lst [.str "wheel", .str "spring"])) := same_upd nl
      refine ⟨l, _, rfl, .inl (.of upd_same), rfl, rfl, ?_⟩
      have ha1 := Same.tup s1 ha
      generalize upd H l _ = H1 at *
      rw [show (if false = true then !inV (.str "click") [.str "wheel", .str "spring"] else inV (.str "click") [.str "wheel", .str "spring"]) = false by decide +kernel]
      walk_at "ct"
      refine .inr ⟨_, rfl, ?_⟩
      walk_at "ct"
      exact q H1 s1
    | rocker =>
      obtain ⟨a, rfl, ha⟩ := rocker_inv hp
      walk_at "ct"
      refine ⟨len2 rfl, fun l nl => ?_⟩
      have s1 : Same H (upd H l (.lst [.str "wheel", .str "spring"])) := same_upd nl
      refine ⟨l, _, rfl, .inl (.of upd_same), rfl, rfl, ?_⟩
      have ha1 := Same.tup s1 ha
      generalize upd H l _ = H1 at *
      rw [show (if false = true then !inV (.str "rocker") [.str "wheel", .str "spring"] else inV (.str "rocker") [.str "wheel", .str "spring"]) = false by decide +kernel]
      walk_at "ct"
      refine .inr ⟨_, rfl, ?_⟩
      walk_at "ct"
      exact q H1 s1
    | spring k =>
      obtain ⟨a, rfl, ha⟩ := spring_inv hp
      walk_at "ct"
      refine ⟨len2 rfl, fun l nl => ?_⟩
      have s1 : Same H (upd H l (.lst [.str "wheel", .str "spring"])) := same_upd nl
      refine ⟨l, _, rfl, .inl (.of upd_same), rfl, rfl, ?_⟩
      have ha1 := Same.tup s1 ha
      generalize upd H l _ = H1 at *
      rw [show (if false = true then !inV (.str "spring") [.str "wheel", .str "spring"] else inV (.str "spring") [.str "wheel", .str "spring"]) = true by decide +kernel]
      walk_at "ct"
      exact q H1 s1
abbrev S__law_part : Stmt := topS 42
theorem sc__law_part : FnScope ["_law_pick", "_law_most", "_law_teeth", "_law_marks", "_law_k"] ["_law_pick", "_law_most"] (defScope S__law_part) := ⟨rfl, rfl, rfl, by decide +kernel, rfl, by decide +kernel, by decide +kernel⟩
def sp__law_part (K : PySem.W.Frag) : Sp := fun vs H Q _ => ∃ (pick most : Int), vs = [.int pick, .int most] ∧ 1 ≤ most ∧ most ≤ 500 ∧ ∀ (v : V) (p : Part) H', Same H H' → Dp K H' v p.data → p.ok → p.places ≤ 500 → (pick % 8 ≤ 3 → ∃ z ms, p = .wheel z ms) → Q v H'
theorem ok__law_part {f : Addr} {fd : FuncData} {f__law_digit : Addr} {fd__law_digit : FuncData} (F : Fun K "_law_part" "_law_part" S__law_part f fd)
    (F__law_digit : Fun K "_law_digit" "_law_digit" S__law_digit f__law_digit fd__law_digit) (b__law_digit : Binds K fd__law_digit ["_law_number", "_law_by", "_law_k"] []) (g__law_digit : mg "_law_digit" = some (.ref f__law_digit)) (G__law_digit : FnOk P w K mg base CX0 1 f__law_digit fd__law_digit ["_law_number", "_law_by", "_law_k"] (sp__law_digit K)) (m_tuple : mg "tuple" = none) (m_range : mg "range" = none) :
    FnOk P w K mg base CX0 2 f fd ["_law_pick", "_law_most"] (sp__law_part K) := by
  refine F.ok sc__law_part (fun vs H Q E h => ?_) (fun cdv A outer s H vs Q E hr h => ?_)
  ·
    obtain ⟨pick, most, rfl, _⟩ := h
    rfl
  ·
    obtain ⟨pick, most, rfl, hm, hm2, q⟩ := h
    refine ⟨_, (pss_cons (ps_set (i := 2) sc__law_part.nd rfl (.inl rfl) (pe_op op_add pe_int (pe_op op_mod (pe_op op_fdivW (pv 0) pe_int) (pv 1))))
      (pss_cons (ps_if (pt_cmpR op_gt (pe_op op_mod (pv 0) pe_int) pe_int (nomark _)) (pss_one (ps_ret (pe_ix (r := rIxL K) ix_list (pe_lst (pa_cons (pe_tup (pa_cons pe_str pa_nil)) (pa_cons (pe_tup (pa_cons pe_str pa_nil)) (pa_cons (pe_tup (pa_cons pe_str (pa_cons (pv 2) pa_nil))) (pa_cons (pe_tup (pa_cons pe_str pa_nil)) pa_nil))))) (pe_op op_mod (pv 0) pe_int) (fun _ _ => rfl)))) pss_nil)
      (pss_cons (ps_setLc (i := 3) (own := [("_law_k", 4)]) (g := gName 4)  rfl sc__law_part.nd rfl rfl (sw_true rfl rfl rfl (by decide +kernel)) (pi_range1 (by rfl) m_range (pa_cons (pv 2) pa_nil)) (blkOk_by (own := [("_law_k", 4)]) (N := ["_law_pick", "_law_most", "_law_teeth", "_law_marks", "_law_k"]) (sc := defScope S__law_part) (by decide +kernel)) (fun _ _ _ _ _ => pg_name (i := 4) sc__law_part.nd rfl (Or.inl rfl)) (fun _ _ _ _ _ => (pts_one (PW.pt (pw_or (pt_cmpR op_eq (pe_call G__law_digit (hr.mono (by decide)) (by rfl) g__law_digit F__law_digit.kp b__law_digit .nil pass0 (pa_cons (pe_op op_fdivW (pv 0) pe_int) (pa_cons pe_int (pa_cons (pv 4) pa_nil)))) pe_int (nomark _)) (pw_or1 (pt_cmpR op_eq (pe_op op_mod (pe_op op_fdivW (pv 0) pe_int) pe_int) pe_int (nomark _))))))) (fun _ _ _ _ _ => (pv 4)))
      (pss_one (ps_ret (pe_tup (pa_cons pe_str (pa_cons (pv 2) (pa_cons (pe_callTy call_tuple_of (by rfl) m_tuple (by decide +kernel) (pa_cons (pv 3) pa_nil)) pa_nil))))))))), ?_⟩
    refine w_st (σ' := [some (.int pick), some (.int most), none, none, none]) rfl ?_
    walk_at "ct"
    refine w_div (div_ok (by decide) (by decide)) fun p8 => ?_
    walk_at "ct"
    refine w_mod (by omega) fun sz z0 z1 => ?_
    walk_at "ct"
    obtain ⟨z, hz⟩ : ∃ z : Int, 1 + sz = z := ⟨_, rfl⟩
    rw [hz]
    refine w_rI (by decide) ?_
    walk_at "ct"
    refine w_ite (fun e => ?_) (fun e => ?_)
    · walk_at "ct"
      refine ⟨len2 rfl, fun c1 n1 => ?_⟩
      have s1 : Same H (upd H c1 (.tup [.str "click"])) := same_upd n1
      have h1 : upd H c1 (.tup [.str "click"]) c1 = some (.tup [.str "click"]) := upd_same
      generalize upd H c1 _ = H1 at *
      walk_at "ct"
      refine ⟨len2 rfl, fun c2 n2 => ?_⟩
      have s2 : Same H1 (upd H1 c2 (.tup [.str "rocker"])) := same_upd n2
      have h2 : upd H1 c2 (.tup [.str "rocker"]) c2 = some (.tup [.str "rocker"]) := upd_same
      generalize upd H1 c2 _ = H2 at *
      walk_at "ct"
      refine ⟨len2 rfl, fun c3 n3 => ?_⟩
      have s3 : Same H2 (upd H2 c3 (.tup [.str "spring", .int z])) := same_upd n3
      have h3 : upd H2 c3 (.tup [.str "spring", .int z]) c3 = some (.tup [.str "spring", .int z]) := upd_same
      generalize upd H2 c3 _ = H3 at *
      walk_at "ct"
      refine ⟨len2 rfl, fun c4 n4 => ?_⟩
      have s4 : Same H3 (upd H3 c4 (.tup [.str "rocker"])) := same_upd n4
      have h4 : upd H3 c4 (.tup [.str "rocker"]) c4 = some (.tup [.str "rocker"]) := upd_same
      generalize upd H3 c4 _ = H4 at *
      walk_at "ct"
      refine ⟨len2 rfl, fun l nl => ?_⟩
      have s5 : Same H4 (upd H4 l (.lst [.ref c1, .ref c2, .ref c3, .ref c4])) := same_upd nl
      have h5 : upd H4 l (.lst [.ref c1, .ref c2, .ref c3, .ref c4]) l = some (.lst [.ref c1, .ref c2, .ref c3, .ref c4]) := upd_same
      generalize upd H4 l _ = H5 at *
      have sA : Same H H5 := (((s1.trans s2).trans s3).trans s4).trans s5
      walk_at "ct"
      refine w_mod (by decide) fun r r0 r1 => ?_
      have hr : r = 0 ∨ r = 1 ∨ r = 2 ∨ r = 3 := by omega
      rcases hr with rfl | rfl | rfl | rfl
      · refine w_ixL (.of h5) (v := .ref c1) rfl ?_
        exact q _ .click _ sA (click_dp (.of ((((s2.trans s3).trans s4).trans s5) _ _ h1))) trivial (by decide) (fun z => absurd z (by omega))
      · refine w_ixL (.of h5) (v := .ref c2) rfl ?_
        exact q _ .rocker _ sA (rocker_dp (.of (((s3.trans s4).trans s5) _ _ h2))) trivial (by decide) (fun z => absurd z (by omega))
      · refine w_ixL (.of h5) (v := .ref c3) rfl ?_
        exact q _ (.spring z) _ sA (spring_dp (.of ((s4.trans s5) _ _ h3))) ⟨by omega, by omega⟩ (show z ≤ 500 by omega) (fun z => absurd z (by omega))
      · refine w_ixL (.of h5) (v := .ref c4) rfl ?_
        exact q _ .rocker _ sA (rocker_dp (.of (s5 _ _ h4))) trivial (by decide) (fun z => absurd z (by omega))
    · walk_at "ct"
      refine w_RG1 (by omega) (by omega) ?_
      refine lb_range (fun D i H1 => Same H H1 ∧ ∃ ms : List Int, H1 D = some (.lst (ms.map V.int)) ∧ ms.length ≤ i ∧ Rise (i : Int) ms) (fun D hD => ⟨same_upd hD, [], upd_same, Nat.le_refl _, List.Pairwise.nil, fun m hm => by cases hm⟩) ?_ ?_
      · rintro D hD i H1 hi ⟨sm, ms, hD1, ml, rs⟩
        have hi5 : i < 500 := by omega
        have yes : ∃ acc, H1 D = some (.lst acc) ∧ acc.length < sizeLine ∧ (Same H (upd H1 D (.lst (acc ++ [.int (0 + (i : Int))]))) ∧ ∃ ms : List Int, upd H1 D (.lst (acc ++ [.int (0 + (i : Int))])) D = some (.lst (ms.map V.int)) ∧ ms.length ≤ i + 1 ∧ Rise ((i + 1 : Nat) : Int) ms) := by
          refine ⟨ms.map V.int, hD1, by rw [List.length_map]; exact small1000 (by omega), same_new sm hD, ms ++ [(i : Int)], ?_, ?_, ?_, ?_⟩
          · rw [upd_same, List.map_append, Int.zero_add]
            rfl
          · rw [List.length_append]
            show ms.length + 1 ≤ i + 1
            omega
          · refine List.pairwise_append.mpr ⟨rs.1, List.pairwise_singleton _ _, fun a ha b hb => ?_⟩
            rw [List.mem_singleton] at hb
            rw [hb]
            exact (rs.2 a ha).2
          · intro m hm
            rcases List.mem_append.mp hm with hm | hm
            · have := rs.2 m hm
              omega
            · rw [List.mem_singleton] at hm
              omega
        walk_at "ct"
        refine ⟨rfl, ?_⟩
        walk_at "ct"
        refine w_div (div_ok (by decide) (by decide)) fun p64 => ?_
        walk_at "ct"
        rw [Int.zero_add] at *
        refine ⟨p64, 2, i, rfl, by decide, by decide, by omega, fun r r0 r1 => ?_⟩
        walk_at "ct"
        refine w_ite (fun e2 => ?_) (fun e2 => ?_)
        · refine iteT ?_
          walk_at "ct"
          exact yes
        · walk_at "ct"
          refine w_div (div_ok (by decide) (by decide)) fun p512 => ?_
          walk_at "ct"
          refine w_mod (by decide) fun bit _ _ => ?_
          walk_at "ct"
          refine w_ite (fun e3 => ?_) (fun e3 => ?_)
          · walk_at "ct"
            exact yes
          · exact ⟨sm, ms, hD1, by omega, rs.1, fun m hm => by have := rs.2 m hm; omega⟩
      · rintro D hD H1 ⟨sm, ms, hD1, ml, rs⟩
        have rs2 : Rise z ms := ⟨rs.1, fun m hm => by have := rs.2 m hm; omega⟩
        walk_at "ct"
        refine ⟨D, _, rfl, .inl ⟨.of hD1, fun b nb => ?_⟩⟩
        walk_at "ct"
        refine ⟨len2 rfl, fun c nc => ?_⟩
        have s1 : Same H (upd H1 b (.tup (ms.map V.int))) := same_new sm (sm.free nb)
        refine q (.ref c) (.wheel z ms) _ (same_new s1 (s1.free nc)) (wheel_dp (.of upd_same) (.of ?_)) ⟨by omega, by omega, rs2, by omega⟩ (show z ≤ 500 by omega) (fun _ => ⟨_, _, rfl⟩)
        rw [upd_ne (ne_of_none upd_same nc), upd_same]
abbrev S__law_train : Stmt := topS 43
theorem sc__law_train : FnScope ["_law_cell", "_law_place", "_law_many", "_law_most", "_law_room", "_law_train_here", "_law_stand", "_law_k", "_law_part_here"] ["_law_cell", "_law_place", "_law_many", "_law_most", "_law_room"] (defScope S__law_train) := ⟨rfl, rfl, rfl, by decide +kernel, rfl, by decide +kernel, by decide +kernel⟩
def sp__law_train (K : PySem.W.Frag) : Sp := fun vs H Q _ => ∃ (cell place many most room : Int), vs = [.int cell, .int place, .int many, .int most, .int room] ∧ 0 ≤ place ∧ place ≤ 400 ∧ 0 ≤ many ∧ many ≤ 16 ∧ 1 ≤ most ∧ most ≤ 500 ∧ 1 ≤ room ∧
  ∀ (ps : List Part) (xs : List Int) (a t g : Addr) (ws : List V) H', Same H H' → H a = none → H' a = some (.lst ws) → DpAll K H' ws (ps.map Part.data) → SqT K H' t (xs.map V.int) → H' g = some (.tup [.ref a, .ref t]) → (∀ p ∈ ps, p.ok) → StandOk ps xs → (ps.length : Int) = many → stands ps ≤ room → Q (.ref g) H'
theorem ok__law_train {f : Addr} {fd : FuncData} {f__law_mix : Addr} {fd__law_mix : FuncData} {f__law_places : Addr} {fd__law_places : FuncData} {f__law_part : Addr} {fd__law_part : FuncData} (F : Fun K "_law_train" "_law_train" S__law_train f fd)
    (F__law_mix : Fun K "_law_mix" "_law_mix" S__law_mix f__law_mix fd__law_mix) (b__law_mix : Binds K fd__law_mix ["_law_cell", "_law_k"] []) (g__law_mix : mg "_law_mix" = some (.ref f__law_mix)) (G__law_mix : FnOk P w K mg base CX0 1 f__law_mix fd__law_mix ["_law_cell", "_law_k"] (sp__law_mix K))
    (F__law_places : Fun K "_law_places" "_law_places" S__law_places f__law_places fd__law_places) (b__law_places : Binds K fd__law_places ["_law_part_here"] []) (g__law_places : mg "_law_places" = some (.ref f__law_places)) (G__law_places : FnOk P w K mg base CX0 1 f__law_places fd__law_places ["_law_part_here"] (sp__law_places K))
    (F__law_part : Fun K "_law_part" "_law_part" S__law_part f__law_part fd__law_part) (b__law_part : Binds K fd__law_part ["_law_pick", "_law_most"] []) (g__law_part : mg "_law_part" = some (.ref f__law_part)) (G__law_part : FnOk P w K mg base CX0 2 f__law_part fd__law_part ["_law_pick", "_law_most"] (sp__law_part K)) (m_range : mg "range" = none) :
    FnOk P w K mg base CX0 3 f fd ["_law_cell", "_law_place", "_law_many", "_law_most", "_law_room"] (sp__law_train K) := by
  refine F.ok sc__law_train (fun vs H Q E h => ?_) (fun cdv A outer s H vs Q E hr h => ?_)
  ·
    obtain ⟨cell, place, many, most, room, rfl, _⟩ := h
    rfl
  ·
    obtain ⟨cell, place, many, most, room, rfl, hp0, hp1, hy0, hy1, hm0, hm1, hr0, q⟩ := h
    refine ⟨_, (pss_cons (ps_set (i := 5) sc__law_train.nd rfl (.inl rfl) (pe_lst pa_nil))
      (pss_cons (ps_set (i := 6) sc__law_train.nd rfl (.inl rfl) (pe_tup pa_nil))
      (pss_cons (ps_for PassesOwn.never rfl (pi_range1 (by rfl) m_range (pa_cons (pv 2) pa_nil)) (pg_name (i := 7) sc__law_train.nd rfl (.inl rfl))
      (pss_cons (ps_set (i := 8) sc__law_train.nd rfl (.inl rfl) (pe_call G__law_part (hr.mono (by decide)) (by rfl) g__law_part F__law_part.kp b__law_part .nil pass0 (pa_cons (pe_call G__law_mix (hr.mono (by decide)) (by rfl) g__law_mix F__law_mix.kp b__law_mix .nil pass0 (pa_cons (pv 0) (pa_cons (pe_op op_add (pv 1) (pe_op op_mulW pe_int (pv 7))) pa_nil))) (pa_cons (pv 3) pa_nil))))
      (pss_cons (ps_if (pt_cmpR op_gt (pe_call G__law_places (hr.mono (by decide)) (by rfl) g__law_places F__law_places.kp b__law_places .nil pass0 (pa_cons (pv 8) pa_nil)) (pv 4) (nomark _)) (pss_one (ps_set (i := 8) sc__law_train.nd rfl (.inl rfl) (pe_tup (pa_cons pe_str pa_nil)))) pss_nil)
      (pss_cons (ps_set (i := 4) sc__law_train.nd rfl (.inl rfl) (pe_op op_fdivW (pv 4) (pe_call G__law_places (hr.mono (by decide)) (by rfl) g__law_places F__law_places.kp b__law_places .nil pass0 (pa_cons (pv 8) pa_nil))))
      (pss_cons (ps_expr (pe_bm PySem.F.plainAttrs_list PySem.F.slot_list_append PySem.F.type_list_append mt_append (pv 5) (pa_cons (pv 8) pa_nil)))
      (pss_one (ps_set (i := 6) sc__law_train.nd rfl (.inl rfl) (pe_op (r := rCatA K) op_catA (pv 6) (pe_tup (pa_cons (pe_op op_mod (pe_call G__law_mix (hr.mono (by decide)) (by rfl) g__law_mix F__law_mix.kp b__law_mix .nil pass0 (pa_cons (pv 0) (pa_cons (pe_op op_add (pe_op op_add (pv 1) (pe_op op_mulW pe_int (pv 7))) pe_int) pa_nil))) (pe_call G__law_places (hr.mono (by decide)) (by rfl) g__law_places F__law_places.kp b__law_places .nil pass0 (pa_cons (pv 8) pa_nil))) pa_nil))))))))))
      (pss_one (ps_ret (pe_tup (pa_cons (pv 5) (pa_cons (pv 6) pa_nil)))))))), ?_⟩
    refine w_st (σ' := [some (.int cell), some (.int place), some (.int many), some (.int most), some (.int room), none, none, none, none]) rfl ?_
    walk_at "ct"
    refine ⟨len2 rfl, fun l nl => ?_⟩
    have s1 : Same H (upd H l (.lst [])) := same_upd nl
    have h1 : upd H l (.lst []) l = some (.lst []) := upd_same
    generalize upd H l _ = H1 at *
    walk_at "ct"
    refine ⟨len2 rfl, fun t nt => ?_⟩
    have s2 : Same H1 (upd H1 t (.tup [])) := same_upd nt
    have h2 : upd H1 t (.tup []) t = some (.tup []) := upd_same
    generalize upd H1 t _ = H2 at *
    walk_at "ct"
    refine w_RG1 (by omega) (by omega) ?_
    refine fb_range (fun n σ H' => ∃ (rm : Int) (t : Addr) (y7 y8 : Option V) (ws : List V) (ps : List Part) (xs : List Int), σ = [some (.int cell), some (.int place), some (.int many), some (.int most), some (.int rm), some (.ref l), some (.ref t), y7, y8] ∧ Same H H' ∧ H' l = some (.lst ws) ∧ DpAll K H' ws (ps.map Part.data) ∧ SqT K H' t (xs.map V.int) ∧ (∀ p ∈ ps, p.ok) ∧ StandOk ps xs ∧ ps.length = n ∧ 1 ≤ rm ∧ stands ps * rm ≤ room)
      ⟨room, t, none, none, [], [], [], rfl, s1.trans s2, s2 _ _ h1, .nil, .of h2, (fun p hp => by cases hp), ⟨rfl, fun i p x hp _ => by simp at hp⟩, rfl, hr0, by show 1 * room ≤ room; omega⟩ ?_ ?_
    · rintro n σ H' hn ⟨rm, t, y7, y8, ws, ps, xs, rfl, sm, hl, hd, hS, hok, hso, hpl, hr1, hst⟩
      have hn16 : n < 16 := by omega
      have hwl : ws.length = ps.length := by rw [dpAll_len hd, List.length_map]
      have hxl : xs.length = ps.length := hso.1
      walk_at "ct"
      rw [Int.zero_add] at *
      refine w_rI (mul_ok (by omega) (by omega) (by omega) (by omega)) ?_
      walk_at "ct"
      refine ⟨cell, _, rfl, by omega, by omega, fun n1 _ _ => ?_⟩
      walk_at "ct"
      refine ⟨n1, most, rfl, hm0, hm1, fun v p H3 s3 hv ok p5 _ => ?_⟩
      refine w_name (σ' := [some (.int cell), some (.int place), some (.int many), some (.int most), some (.int rm), some (.ref l), some (.ref t), some (.int (n : Int)), some v]) rfl ?_
      with_reducible refine w_join (fun σ H4 => ∃ (v : V) (p : Part), σ = [some (.int cell), some (.int place), some (.int many), some (.int most), some (.int rm), some (.ref l), some (.ref t), some (.int (n : Int)), some v] ∧ Same H' H4 ∧ Dp K H4 v p.data ∧ p.ok ∧ p.places ≤ rm) ?_ ?_
      · rintro σ H4 ⟨v, p, rfl, s4, hv, ok, prm⟩
        have pw := ok.pos
        have rs := room_step (stands_pos ps hok) pw.1 prm hst
        walk_at "ct"
        refine ⟨v, p, rfl, hv, fun H5 s5 => ?_⟩
        refine w_rI (div_ok (by omega) (by omega)) ?_
        walk_at "ct"
        have s45 := s4.trans s5
        have hl5 := s45 _ _ hl
        refine ⟨ty_list hl5, ?_⟩
        walk_at "ct"
        refine w_append hl5 (small1000 (by omega)) ?_
        have hv6 : Dp K (upd H5 l (.lst (ws ++ [v]))) v p.data := part_upd (dp_same s5 hv) hl5
        have hd6 : DpAll K (upd H5 l (.lst (ws ++ [v]))) (ws ++ [v]) ((ps ++ [p]).map Part.data) := by
          rw [List.map_append]
          exact dpAll_app (parts_upd hl5 ps (dpAll_same s45 hd)) (.cons hv6 .nil)
        have hS6 := sqT_upd (o := .lst (ws ++ [v])) (Same.tup s45 hS) hl5
        have hl6 : upd H5 l (.lst (ws ++ [v])) l = some (.lst (ws ++ [v])) := upd_same
        have s6 : Same H (upd H5 l (.lst (ws ++ [v]))) := same_new (sm.trans s45) nl
        generalize upd H5 l _ = H6 at *
        walk_at "ct"
        refine w_rI (mul_ok (by omega) (by omega) (by omega) (by omega)) ?_
        walk_at "ct"
        refine ⟨cell, _, rfl, by omega, by omega, fun n2 _ _ => ?_⟩
        walk_at "ct"
        refine ⟨v, p, rfl, hv6, fun H7 s7 => ?_⟩
        refine w_mod (by omega) fun x x0 x1 => ?_
        walk_at "ct"
        refine ⟨len2 rfl, fun u nu => ?_⟩
        have s8 : Same H7 (upd H7 u (.tup [.int x])) := same_upd nu
        have h8 : upd H7 u (.tup [.int x]) u = some (.tup [.int x]) := upd_same
        generalize upd H7 u _ = H8 at *
        have s68 := s7.trans s8
        refine w_catA (Same.tup s68 hS6) (.of h8) (by rw [List.length_map]; show xs.length + 1 ≤ 1000; omega) fun t2 H9 s9 ht2 => ?_
        walk_at "ct"
        have s69 := s68.trans s9
        refine ⟨_, t2, _, _, ws ++ [v], ps ++ [p], xs ++ [x], rfl, s6.trans s69, s69 _ _ hl6, dpAll_same s69 hd6, by rw [List.map_append]; exact ht2, fun p' hp' => ?_, ⟨by rw [List.length_append, List.length_append, hxl]; rfl, fun i p' x' hp' hx' => ?_⟩, by rw [List.length_append, hpl]; rfl, rs.1, by rw [stands_app]; exact rs.2⟩
        · rcases List.mem_append.mp hp' with hp' | hp'
          · exact hok p' hp'
          · rw [List.mem_singleton] at hp'
            rw [hp']
            exact ok
        · by_cases hi : i < ps.length
          · rw [List.getElem?_append_left (by omega)] at hx' hp'
            exact hso.2 i p' x' hp' hx'
          · have hi2 : i = ps.length := by
              have z := (List.getElem?_eq_some_iff.mp hx').1
              rw [List.length_append, hxl] at z
              have z2 : i < ps.length + 1 := z
              omega
            subst hi2
            rw [List.getElem?_append_right (by omega), Nat.sub_self] at hp'
            rw [List.getElem?_append_right (by omega), hxl, Nat.sub_self] at hx'
            cases Option.some.inj hp'
            cases Option.some.inj hx'
            exact ⟨x0, x1⟩
      · intro N hN
        walk_at "ct"
        refine ⟨v, p, rfl, hv, fun H4 s4 => ?_⟩
        walk_at "ct"
        refine w_ite (fun e => ?_) (fun e => ?_)
        · walk_at "ct"
          refine ⟨len2 rfl, fun c nc => ?_⟩
          walk_at "ct"
          exact hN _ _ ⟨_, .click, rfl, (s3.trans s4).trans (same_upd nc), click_dp (.of upd_same), trivial, hr1⟩
        · walk_at "ct"
          exact hN _ _ ⟨v, p, rfl, s3.trans s4, dp_same s4 hv, ok, by omega⟩
    · rintro σ H' ⟨rm, t, y7, y8, ws, ps, xs, rfl, sm, hl, hd, hS, hok, hso, hpl, hr1, hst⟩
      walk_at "ct"
      refine ⟨len2 rfl, fun g ng => ?_⟩
      have s9 : Same H' (upd H' g (.tup [.ref l, .ref t])) := same_upd ng
      exact q ps xs l t g ws _ (sm.trans s9) nl (s9 _ _ hl) (dpAll_same s9 hd) (Same.tup s9 hS) upd_same hok hso (by omega) (room_end (stands_pos ps hok) hr1 hst)
abbrev S__law_signs : Stmt := topS 44
theorem sc__law_signs : FnScope ["_law_cell", "_law_place", "_law_many", "_law_back", "_law_k"] ["_law_cell", "_law_place"] (defScope S__law_signs) := ⟨rfl, rfl, rfl, by decide +kernel, rfl, by decide +kernel, by decide +kernel⟩
def sp__law_signs (K : PySem.W.Frag) : Sp := fun vs H Q _ => ∃ (cell place : Int), vs = [.int cell, .int place] ∧ 0 ≤ place ∧ place ≤ 400 ∧ ∀ (ss : List Int) l H', Same H H' → H l = none → H' l = some (.lst (ss.map V.int)) → (∀ s ∈ ss, s = 0 ∨ Sign s) → ss.length ≤ 300 → Q (.ref l) H'
theorem ok__law_signs {f : Addr} {fd : FuncData} {f__law_mix : Addr} {fd__law_mix : FuncData} (F : Fun K "_law_signs" "_law_signs" S__law_signs f fd)
    (F__law_mix : Fun K "_law_mix" "_law_mix" S__law_mix f__law_mix fd__law_mix) (b__law_mix : Binds K fd__law_mix ["_law_cell", "_law_k"] []) (g__law_mix : mg "_law_mix" = some (.ref f__law_mix)) (G__law_mix : FnOk P w K mg base CX0 1 f__law_mix fd__law_mix ["_law_cell", "_law_k"] (sp__law_mix K)) (m_range : mg "range" = none) :
    FnOk P w K mg base CX0 2 f fd ["_law_cell", "_law_place"] (sp__law_signs K) := by
  refine F.ok sc__law_signs (fun vs H Q E h => ?_) (fun cdv A outer s H vs Q E hr h => ?_)
  ·
    obtain ⟨cell, place, rfl, _⟩ := h
    rfl
  ·
    obtain ⟨cell, place, rfl, hp0, hp1, q⟩ := h
    refine ⟨_, (pss_cons (ps_set (i := 2) sc__law_signs.nd rfl (.inl rfl) (pe_ix (r := rIxL K) ix_list (pe_lst (pa_cons (pe_op op_mod (pe_op op_fdivW (pe_call G__law_mix (hr.mono (by decide)) (by rfl) g__law_mix F__law_mix.kp b__law_mix .nil pass0 (pa_cons (pv 0) (pa_cons (pv 1) pa_nil))) pe_int) pe_int) (pa_cons (pe_op op_mod (pe_op op_fdivW (pe_call G__law_mix (hr.mono (by decide)) (by rfl) g__law_mix F__law_mix.kp b__law_mix .nil pass0 (pa_cons (pv 0) (pa_cons (pv 1) pa_nil))) pe_int) pe_int) pa_nil))) (pe_op op_mod (pe_call G__law_mix (hr.mono (by decide)) (by rfl) g__law_mix F__law_mix.kp b__law_mix .nil pass0 (pa_cons (pv 0) (pa_cons (pv 1) pa_nil))) pe_int) (fun _ _ => rfl)))
      (pss_cons (ps_set (i := 3) sc__law_signs.nd rfl (.inr rfl) (pe_lst (pa_cons pe_int (pa_cons pe_int (pa_cons pe_int (pa_cons pe_int (pa_cons (pe_un un_neg pe_int) (pa_cons pe_int pa_nil))))))))
      (pss_one (ps_ret (pe_lc (own := [("_law_k", 4)]) (g := gName 4)  rfl sc__law_signs.nd  (pi_range1 (by rfl) m_range (pa_cons (pv 2) pa_nil)) (blkOk_by (own := [("_law_k", 4)]) (N := ["_law_cell", "_law_place", "_law_many", "_law_back", "_law_k"]) (sc := defScope S__law_signs) (by decide +kernel)) (fun _ _ _ _ _ => pg_name (i := 4) sc__law_signs.nd rfl (Or.inl rfl)) (fun _ _ _ _ _ => pts_nil) (fun _ _ _ _ _ => (pe_ix (r := rIxL K) ix_list (pv 3) (pe_op op_mod (pe_op op_fdivW (pe_call G__law_mix (hr.mono (by decide)) (by rfl) g__law_mix F__law_mix.kp b__law_mix .nil pass0 (pa_cons (pv 0) (pa_cons (pe_op op_add (pe_op op_add (pv 1) pe_int) (pe_op op_mod (pv 4) pe_int)) pa_nil))) (pe_ix (r := rIxL K) ix_list (pe_lst (pa_cons pe_int (pa_cons pe_int pa_nil))) (pe_op op_fdivW (pv 4) pe_int) (fun _ _ => rfl))) pe_int) (fun _ _ => rfl)))))))), ?_⟩
    refine w_st (σ' := [some (.int cell), some (.int place), none, none, none]) rfl ?_
    walk_at "ct"
    refine ⟨cell, place, rfl, hp0, by omega, fun pick _ _ => ?_⟩
    walk_at "ct"
    refine w_div (div_ok (by decide) (by decide)) fun a1 => ?_
    walk_at "ct"
    refine w_mod (by decide) fun m1 m10 m11 => ?_
    walk_at "ct"
    refine ⟨cell, place, rfl, hp0, by omega, fun pick2 _ _ => ?_⟩
    walk_at "ct"
    refine w_div (div_ok (by decide) (by decide)) fun a2 => ?_
    walk_at "ct"
    refine w_mod (by decide) fun m2 m20 m21 => ?_
    walk_at "ct"
    refine ⟨len2 rfl, fun c1 n1 => ?_⟩
    have s1 : Same H (upd H c1 (.lst [.int m1, .int m2])) := same_upd n1
    have e1 : upd H c1 (.lst [.int m1, .int m2]) c1 = some (.lst [.int m1, .int m2]) := upd_same
    generalize upd H c1 _ = H1 at *
    walk_at "ct"
    refine ⟨cell, place, rfl, hp0, by omega, fun pick3 _ _ => ?_⟩
    walk_at "ct"
    refine w_mod (by decide) fun r2 r20 r21 => ?_
    obtain ⟨mn, mn0, mn1, hmn⟩ : ∃ mn : Int, 0 ≤ mn ∧ mn ≤ 40 ∧ atI [V.int m1, .int m2] r2 = some (.int mn) := by
      have hr : r2 = 0 ∨ r2 = 1 := by omega
      rcases hr with rfl | rfl
      · exact ⟨m1, by omega, by omega, rfl⟩
      · exact ⟨m2, by omega, by omega, rfl⟩
    refine w_ixL (.of e1) hmn ?_
    walk_at "ct"
    refine ⟨len2 rfl, fun c2 n2 => ?_⟩
    have s2 : Same H1 (upd H1 c2 (.lst [.int 1, .int 1, .int 1, .int 1, .int (-1), .int 0])) := same_upd n2
    have e2 : upd H1 c2 (.lst [.int 1, .int 1, .int 1, .int 1, .int (-1), .int 0]) c2 = some (.lst [.int 1, .int 1, .int 1, .int 1, .int (-1), .int 0]) := upd_same
    generalize upd H1 c2 _ = H2 at *
    walk_at "ct"
    refine w_RG1 (by omega) (by omega) ?_
    refine lb_range (fun D i H3 => Same H2 H3 ∧ ∃ ss : List Int, H3 D = some (.lst (ss.map V.int)) ∧ ss.length = i ∧ (∀ s ∈ ss, s = 0 ∨ Sign s)) (fun D hD => ⟨same_upd hD, [], upd_same, rfl, fun s hs => by cases hs⟩) ?_ ?_
    · rintro D hD i H3 hi ⟨s3, ss, h3, sl, hss⟩
      have hi4 : i < 40 := by omega
      rw [Int.zero_add] at *
      walk_at "ct"
      refine ⟨rfl, ?_⟩
      walk_at "ct"
      refine w_mod (by decide) fun k4 k40 k41 => ?_
      walk_at "ct"
      refine ⟨cell, _, rfl, by omega, by omega, fun nx _ _ => ?_⟩
      walk_at "ct"
      refine ⟨len2 rfl, fun c4 n4 => ?_⟩
      have s4 : Same H3 (upd H3 c4 (.lst [.int 1, .int 6])) := same_upd n4
      have e4 : upd H3 c4 (.lst [.int 1, .int 6]) c4 = some (.lst [.int 1, .int 6]) := upd_same
      generalize upd H3 c4 _ = H4 at *
      walk_at "ct"
      refine w_rI (div_ok (by decide) (by decide)) ?_
      obtain ⟨md, md0, md1, hmd⟩ : ∃ md : Int, 0 < md ∧ md ≤ 6 ∧ atI [V.int 1, .int 6] ((i : Int) / 20) = some (.int md) := by
        have hr : (i : Int) / 20 = 0 ∨ (i : Int) / 20 = 1 := by omega
        rcases hr with e | e <;> rw [e]
        · exact ⟨1, by decide, by decide, rfl⟩
        · exact ⟨6, by decide, by decide, rfl⟩
      refine w_ixL (.of e4) hmd ?_
      refine w_div (div_ok (by omega) (by omega)) fun a5 => ?_
      walk_at "ct"
      refine w_mod (by decide) fun r6 r60 r61 => ?_
      obtain ⟨sg, hsg, ha6⟩ : ∃ sg : Int, (sg = 0 ∨ Sign sg) ∧ atI [V.int 1, .int 1, .int 1, .int 1, .int (-1), .int 0] r6 = some (.int sg) := by
        have hr : r6 = 0 ∨ r6 = 1 ∨ r6 = 2 ∨ r6 = 3 ∨ r6 = 4 ∨ r6 = 5 := by omega
        rcases hr with rfl | rfl | rfl | rfl | rfl | rfl
        · exact ⟨1, .inr (.inl rfl), rfl⟩
        · exact ⟨1, .inr (.inl rfl), rfl⟩
        · exact ⟨1, .inr (.inl rfl), rfl⟩
        · exact ⟨1, .inr (.inl rfl), rfl⟩
        · exact ⟨-1, .inr (.inr rfl), rfl⟩
        · exact ⟨0, .inl rfl, rfl⟩
      refine w_ixL (.of ((s3.trans s4) _ _ e2)) ha6 ?_
      refine ⟨ss.map V.int, s4 _ _ h3, by rw [List.length_map]; exact small1000 (by omega), same_new (s3.trans s4) hD, ss ++ [sg], by rw [upd_same, List.map_append]; rfl, by rw [List.length_append, sl]; rfl, fun s hs => ?_⟩
      rcases List.mem_append.mp hs with hs | hs
      · exact hss s hs
      · rw [List.mem_singleton] at hs
        rw [hs]
        exact hsg
    · rintro D hD H3 ⟨s3, ss, h3, sl, hss⟩
      exact q ss D H3 ((s1.trans s2).trans s3) ((s1.trans s2).free hD) h3 hss (by omega)
abbrev S__law_row : Stmt := topS 45
theorem sc__law_row : FnScope ["_law_cell", "_law_place", "_law_many", "_law_row_here", "_law_k", "_law_pick", "_law_times"] ["_law_cell", "_law_place", "_law_many"] (defScope S__law_row) := ⟨rfl, rfl, rfl, by decide +kernel, rfl, by decide +kernel, by decide +kernel⟩
def sp__law_row (K : PySem.W.Frag) : Sp := fun vs H Q _ => ∃ (cell place : Int) (many : Nat), vs = [.int cell, .int place, .int many] ∧ 0 ≤ place ∧ place ≤ 400 ∧ 1 ≤ many ∧ many ≤ 1000 ∧
  ∀ (ds : List Deed) b ws H', Same H H' → H b = none → H' b = some (.lst ws) → DpAll K H' ws (ds.map Deed.data) → (∀ d ∈ ds, d.ok many ∧ d.t < 2 ^ 200) → ds.length ≤ 6 → Q (.ref b) H'
theorem ok__law_row {f : Addr} {fd : FuncData} {f__law_mix : Addr} {fd__law_mix : FuncData} (F : Fun K "_law_row" "_law_row" S__law_row f fd)
    (F__law_mix : Fun K "_law_mix" "_law_mix" S__law_mix f__law_mix fd__law_mix) (b__law_mix : Binds K fd__law_mix ["_law_cell", "_law_k"] []) (g__law_mix : mg "_law_mix" = some (.ref f__law_mix)) (G__law_mix : FnOk P w K mg base CX0 1 f__law_mix fd__law_mix ["_law_cell", "_law_k"] (sp__law_mix K)) (m_range : mg "range" = none) :
    FnOk P w K mg base CX0 2 f fd ["_law_cell", "_law_place", "_law_many"] (sp__law_row K) := by
  refine F.ok sc__law_row (fun vs H Q E h => ?_) (fun cdv A outer s H vs Q E hr h => ?_)
  ·
    obtain ⟨cell, place, many, rfl, _⟩ := h
    rfl
  ·
    obtain ⟨cell, place, many, rfl, hp0, hp1, hm0, hm1, q⟩ := h
    refine ⟨_, (pss_cons (ps_set (i := 3) sc__law_row.nd rfl (.inl rfl) (pe_lst pa_nil))
      (pss_cons (ps_for PassesOwn.never rfl (pi_range1 (by rfl) m_range (pa_cons (pe_op op_mod (pe_call G__law_mix (hr.mono (by decide)) (by rfl) g__law_mix F__law_mix.kp b__law_mix .nil pass0 (pa_cons (pv 0) (pa_cons (pv 1) pa_nil))) pe_int) pa_nil)) (pg_name (i := 4) sc__law_row.nd rfl (.inl rfl))
      (pss_cons (ps_set (i := 5) sc__law_row.nd rfl (.inl rfl) (pe_call G__law_mix (hr.mono (by decide)) (by rfl) g__law_mix F__law_mix.kp b__law_mix .nil pass0 (pa_cons (pv 0) (pa_cons (pe_op op_add (pe_op op_add (pv 1) pe_int) (pv 4)) pa_nil))))
      (pss_cons (ps_set (i := 6) sc__law_row.nd rfl (.inl rfl) (pe_ix (r := rIxL K) ix_list (pe_lst (pa_cons (pe_op op_mod (pe_op op_fdivW (pv 5) pe_int) pe_int) (pa_cons (pe_op op_mod (pe_op op_fdivW (pv 5) pe_int) pe_int) (pa_cons (pe_op op_add (pe_op op_mulW (pe_op op_fdivW (pv 5) pe_int) (pe_op op_powB pe_int pe_int)) (pv 5)) (pa_cons pe_int pa_nil))))) (pe_op op_mod (pe_op op_fdivW (pv 5) pe_int) pe_int) (fun _ _ => rfl)))
      (pss_one (ps_expr (pe_bm PySem.F.plainAttrs_list PySem.F.slot_list_append PySem.F.type_list_append mt_append (pv 3) (pa_cons (pe_tup (pa_cons (pe_op op_mod (pe_op op_mod (pe_op op_fdivW (pv 5) pe_int) pe_int) (pv 2)) (pa_cons (pe_ix (r := rIxL K) ix_list (pe_lst (pa_cons pe_int (pa_cons (pe_un un_neg pe_int) pa_nil))) (pe_op op_mod (pv 5) pe_int) (fun _ _ => rfl)) (pa_cons (pv 6) pa_nil)))) pa_nil)))))))
      (pss_one (ps_ret (pv 3))))), ?_⟩
    refine w_st (σ' := [some (.int cell), some (.int place), some (.int many), none, none, none, none]) rfl ?_
    walk_at "ct"
    refine ⟨len2 rfl, fun l nl => ?_⟩
    have s1 : Same H (upd H l (.lst [])) := same_upd nl
    have h1 : upd H l (.lst []) l = some (.lst []) := upd_same
    generalize upd H l _ = H1 at *
    walk_at "ct"
    refine ⟨cell, place, rfl, hp0, by omega, fun n0 _ _ => ?_⟩
    walk_at "ct"
    refine w_mod (by decide) fun r r0 r1 => ?_
    walk_at "ct"
    refine w_RG1 (by omega) (by omega) ?_
    refine fb_range (fun k σ H2 => ∃ (y4 y5 y6 : Option V) (ws : List V) (ds : List Deed), σ = [some (.int cell), some (.int place), some (.int many), some (.ref l), y4, y5, y6] ∧ Same H H2 ∧ H2 l = some (.lst ws) ∧ DpAll K H2 ws (ds.map Deed.data) ∧ (∀ d ∈ ds, d.ok many ∧ d.t < 2 ^ 200) ∧ ds.length = k)
      ⟨none, none, none, [], [], rfl, s1, h1, .nil, (fun d hd => by cases hd), rfl⟩ ?_ ?_
    · rintro k σ H2 hk ⟨y4, y5, y6, ws, ds, rfl, s2, hl, hd, hok, hdl⟩
      have hwl : ws.length = ds.length := by rw [dpAll_len hd, List.length_map]
      rw [Int.zero_add] at *
      walk_at "ct"
      refine ⟨cell, _, rfl, by omega, by omega, fun pk pk0 pk1 => ?_⟩
      walk_at "ct"
      refine w_rI (div_ok (by decide) (by decide)) ?_
      walk_at "ct"
      refine w_mod (by decide) fun m1 m10 m11 => ?_
      walk_at "ct"
      refine w_rI (div_ok (by decide) (by decide)) ?_
      walk_at "ct"
      refine w_mod (by decide) fun m2 m20 m21 => ?_
      walk_at "ct"
      refine w_rI (div_ok (by decide) (by decide)) ?_
      walk_at "ct"
      refine w_rIv (.int 1000000000000000000000000) ⟨by decide, by decide⟩ rfl ?_
      refine w_rI (mul_ok (by omega) (by omega) (by decide) (by decide)) ?_
      walk_at "ct"
      refine ⟨len2 rfl, fun c1 n1 => ?_⟩
      have s3 : Same H2 (upd H2 c1 (.lst [.int m1, .int m2, .int (pk / 64 * 1000000000000000000000000 + pk), .int 1])) := same_upd n1
      have e3 : upd H2 c1 (.lst [.int m1, .int m2, .int (pk / 64 * 1000000000000000000000000 + pk), .int 1]) c1 = some (.lst [.int m1, .int m2, .int (pk / 64 * 1000000000000000000000000 + pk), .int 1]) := upd_same
      generalize upd H2 c1 _ = H3 at *
      walk_at "ct"
      refine w_div (div_ok (by decide) (by decide)) fun a2 => ?_
      walk_at "ct"
      refine w_mod (by decide) fun r4 r40 r41 => ?_
      obtain ⟨tm, tm1, htm⟩ : ∃ tm : Nat, tm < 2 ^ 200 ∧ atI [V.int m1, .int m2, .int (pk / 64 * 1000000000000000000000000 + pk), .int 1] r4 = some (.int (tm : Int)) := by
        have hr : r4 = 0 ∨ r4 = 1 ∨ r4 = 2 ∨ r4 = 3 := by omega
        have tn : ∀ z : Int, 0 ≤ z → z < 2 ^ 200 → ∃ tm : Nat, tm < 2 ^ 200 ∧ (tm : Int) = z := fun z z0 z1 => ⟨z.toNat, by omega, by omega⟩
        rcases hr with rfl | rfl | rfl | rfl
        · obtain ⟨tm, h1, h2⟩ := tn m1 m10 (by omega)
          exact ⟨tm, h1, by rw [h2]; rfl⟩
        · obtain ⟨tm, h1, h2⟩ := tn m2 m20 (by omega)
          exact ⟨tm, h1, by rw [h2]; rfl⟩
        · obtain ⟨tm, h1, h2⟩ := tn (pk / 64 * 1000000000000000000000000 + pk) (by omega) (by omega)
          exact ⟨tm, h1, by rw [h2]; rfl⟩
        · exact ⟨1, by decide, rfl⟩
      refine w_ixL (.of e3) htm ?_
      walk_at "ct"
      have hl3 := s3 _ _ hl
      refine ⟨ty_list hl3, ?_⟩
      walk_at "ct"
      refine w_div (div_ok (by decide) (by decide)) fun a5 => ?_
      walk_at "ct"
      refine w_mod (by decide) fun r8 r80 r81 => ?_
      walk_at "ct"
      refine w_mod (by omega) fun ii ii0 ii1 => ?_
      walk_at "ct"
      refine ⟨len2 rfl, fun c2 n2 => ?_⟩
      have s4 : Same H3 (upd H3 c2 (.lst [.int 1, .int (-1)])) := same_upd n2
      have e4 : upd H3 c2 (.lst [.int 1, .int (-1)]) c2 = some (.lst [.int 1, .int (-1)]) := upd_same
      generalize upd H3 c2 _ = H4 at *
      walk_at "ct"
      refine w_mod (by decide) fun r2 r20 r21 => ?_
      obtain ⟨wy, hwy, haw⟩ : ∃ wy : Int, Sign wy ∧ atI [V.int 1, .int (-1)] r2 = some (.int wy) := by
        have hr : r2 = 0 ∨ r2 = 1 := by omega
        rcases hr with rfl | rfl
        · exact ⟨1, .inl rfl, rfl⟩
        · exact ⟨-1, .inr rfl, rfl⟩
      refine w_ixL (.of e4) haw ?_
      walk_at "ct"
      obtain ⟨jj, hjj⟩ : ∃ jj : Nat, (jj : Int) = ii := ⟨ii.toNat, by omega⟩
      subst hjj
      refine ⟨len2 rfl, fun c3 n3 => ?_⟩
      have s5 : Same H4 (upd H4 c3 (.tup [.int jj, .int wy, .int tm])) := same_upd n3
      have e5 : upd H4 c3 (.tup [.int jj, .int wy, .int tm]) c3 = some (.tup [.int jj, .int wy, .int tm]) := upd_same
      generalize upd H4 c3 _ = H5 at *
      have s25 := s3.trans (s4.trans s5)
      have hl5 := s25 _ _ hl
      walk_at "ct"
      refine w_append hl5 (small1000 (by omega)) ?_
      walk_at "ct"
      refine ⟨_, _, _, ws ++ [.ref c3], ds ++ [⟨jj, wy, tm⟩], rfl, same_new (s2.trans s25) nl, upd_same, ?_, fun d hd => ?_, by rw [List.length_append, hdl]; rfl⟩
      · rw [List.map_append]
        exact dpAll_app (deeds_upd hl5 ds (dpAll_same s25 hd)) (.cons (deed_dp (d := ⟨jj, wy, tm⟩) (sqT_upd (.of e5) hl5)) .nil)
      · rcases List.mem_append.mp hd with hd | hd
        · exact hok d hd
        · rw [List.mem_singleton] at hd
          rw [hd]
          exact ⟨⟨show jj < many by omega, hwy⟩, tm1⟩
    · rintro σ H2 ⟨y4, y5, y6, ws, ds, rfl, s2, hl, hd, hok, hdl⟩
      walk_at "ct"
      exact q ds l ws H2 s2 nl hl hd hok (by omega)
abbrev S__law_deeds : Stmt := topS 46
theorem sc__law_deeds : FnScope ["_law_one", "_law_here", "_law_other", "_law_there", "_law_row_here", "_law_total", "_law_i", "_law_way", "_law_times", "_law_shown"] ["_law_one", "_law_here", "_law_other", "_law_there", "_law_row_here"] (defScope S__law_deeds) := ⟨rfl, rfl, rfl, by decide +kernel, rfl, by decide +kernel, by decide +kernel⟩
def sp__law_deeds (K : PySem.W.Frag) : Sp := fun vs H Q _ => ∃ (a t b u c : Addr) (ps qs : List Part) (xs ys : List Int) (ds : List Deed), vs = [.ref a, .ref t, .ref b, .ref u, .ref c] ∧ TrainAt K H a ps ∧ TrainAt K H b qs ∧ StandL ps xs ∧ StandL qs ys ∧ 1 ≤ ps.length ∧ 1 ≤ qs.length ∧ ps.length + qs.length ≤ 900 ∧ SqT K H t (xs.map V.int) ∧ SqT K H u (ys.map V.int) ∧ RowAt K H c ds ∧ (∀ d ∈ ds, d.ok (ps.length + qs.length) ∧ d.t < 2 ^ 200) ∧ ds.length ≤ 900 ∧
  ∀ g e H', Same H H' → SqT K H' e ((rowL (ps ++ qs) ds (xs ++ ys, 0)).1.map V.int) → H' g = some (.tup [.ref e, .int (rowL (ps ++ qs) ds (xs ++ ys, 0)).2]) → Q (.ref g) H'
theorem ok__law_deeds {f : Addr} {fd : FuncData} {f_left : Addr} {fd_left : FuncData} (F : Fun K "_law_deeds" "_law_deeds" S__law_deeds f fd)
    (F_left : Fun K "left" "left" S_left f_left fd_left) (b_left : Binds K fd_left ["train", "stand", "row"] []) (g_left : mg "left" = some (.ref f_left)) (G_left : FnOk P w K mg base CX0 6 f_left fd_left ["train", "stand", "row"] (sp_left K)) (m_len : mg "len" = none) (m_abs : mg "abs" = none) (m_int : mg "int" = none) :
    FnOk P w K mg base CX0 7 f fd ["_law_one", "_law_here", "_law_other", "_law_there", "_law_row_here"] (sp__law_deeds K) := by
  refine F.ok sc__law_deeds (fun vs H Q E h => ?_) (fun cdv A outer s H vs Q E hr h => ?_)
  ·
    obtain ⟨a, t, b, u, c, ps, qs, xs, ys, ds, rfl, _⟩ := h
    rfl
  ·
    obtain ⟨a, t, b, u, c, ps, qs, xs, ys, ds, rfl, hP, hQ, hx, hy, lp, lq, l9, hS, hU, ⟨us, hus, hdu⟩, hds, hdl, q⟩ := h
    refine ⟨_, (pss_cons (ps_set (i := 5) sc__law_deeds.nd rfl (.inl rfl) pe_int)
      (pss_cons (ps_for PassesOwn.never rfl (pi_list (pv 4)) (pg_tup rfl (pgs_cons (pg_name (i := 6) sc__law_deeds.nd rfl (.inl rfl)) (pgs_cons (pg_name (i := 7) sc__law_deeds.nd rfl (.inl rfl)) (pgs_cons (pg_name (i := 8) sc__law_deeds.nd rfl (.inl rfl)) pgs_nil))))
      (pss_cons (ps_if (pt_cmpR op_lt (pv 6) (pe_callB call_len_seq (by rfl) m_len (by decide +kernel) (pa_cons (pv 0) pa_nil)) (nomark _)) (pss_cons (ps_asg (pe_call G_left (hr.mono (by decide)) (by rfl) g_left F_left.kp b_left .nil pass0 (pa_cons (pv 0) (pa_cons (pv 1) (pa_cons (pe_lst (pa_cons (pe_tup (pa_cons (pv 6) (pa_cons (pv 7) (pa_cons (pv 8) pa_nil)))) pa_nil)) pa_nil)))) (pg_tup rfl (pgs_cons (pg_name (i := 1) sc__law_deeds.nd rfl (.inl rfl)) (pgs_cons (pg_name (i := 8) sc__law_deeds.nd rfl (.inl rfl)) pgs_nil))))
      (pss_cons (ps_set (i := 7) sc__law_deeds.nd rfl (.inl rfl) (pe_ix (r := rIxL K) ix_list (pe_lst (pa_cons pe_int (pa_cons (pe_un un_neg pe_int) pa_nil))) (pe_callTy call_int1 (by rfl) m_int (by decide +kernel) (pa_cons (pe_cmpR op_lt (pv 8) pe_int (nomark _)) pa_nil)) (fun _ _ => rfl)))
      (pss_cons (ps_set (i := 8) sc__law_deeds.nd rfl (.inl rfl) (pe_callB call_abs (by rfl) m_abs (by decide +kernel) (pa_cons (pv 8) pa_nil)))
      (pss_one (ps_set (i := 6) sc__law_deeds.nd rfl (.inl rfl) (pe_callB call_len_seq (by rfl) m_len (by decide +kernel) (pa_cons (pv 0) pa_nil))))))) pss_nil)
      (pss_cons (ps_asg (pe_call G_left (hr.mono (by decide)) (by rfl) g_left F_left.kp b_left .nil pass0 (pa_cons (pv 2) (pa_cons (pv 3) (pa_cons (pe_lst (pa_cons (pe_tup (pa_cons (pe_op op_sub (pv 6) (pe_callB call_len_seq (by rfl) m_len (by decide +kernel) (pa_cons (pv 0) pa_nil))) (pa_cons (pv 7) (pa_cons (pv 8) pa_nil)))) pa_nil)) pa_nil)))) (pg_tup rfl (pgs_cons (pg_name (i := 3) sc__law_deeds.nd rfl (.inl rfl)) (pgs_cons (pg_name (i := 9) sc__law_deeds.nd rfl (.inl rfl)) pgs_nil))))
      (pss_one (ps_set (i := 5) sc__law_deeds.nd rfl (.inl rfl) (pe_op op_add (pv 5) (pv 9)))))))
      (pss_one (ps_ret (pe_tup (pa_cons (pe_op op_catT (pv 1) (pv 3)) (pa_cons (pv 5) pa_nil))))))), ?_⟩
    refine w_st (σ' := [some (.ref a), some (.ref t), some (.ref b), some (.ref u), some (.ref c), none, none, none, none, none]) rfl ?_
    have hul : us.length = ds.length := by rw [dpAll_len hdu, List.length_map]
    obtain ⟨wa, hwa, dwa⟩ := id hP
    have lwa : wa.length = ps.length := by rw [dpAll_len dwa, List.length_map]
    walk_at "ct"
    refine w_IL hus ?_
    refine fb_list us (fun k σ H1 => ∃ (t1 u1 : Addr) (xs1 ys1 : List Int) (tot : Int) (y6 y7 y8 y9 : Option V), σ = [some (.ref a), some (.ref t1), some (.ref b), some (.ref u1), some (.ref c), some (.int tot), y6, y7, y8, y9] ∧ Same H H1 ∧ SqT K H1 t1 (xs1.map V.int) ∧ SqT K H1 u1 (ys1.map V.int) ∧ StandL ps xs1 ∧ StandL qs ys1 ∧ rowL (ps ++ qs) (ds.take k) (xs ++ ys, 0) = (xs1 ++ ys1, tot))
      ⟨t, u, xs, ys, 0, none, none, none, none, rfl, Same.refl _, hS, hU, hx, hy, rfl⟩ ?_ ?_ ?_
    · rintro k σ H1 _ ⟨t1, u1, xs1, ys1, tot, y6, y7, y8, y9, rfl, s1, _⟩
      exact s1.seq hus
    · rintro k v σ H1 hxv ⟨t1, u1, xs1, ys1, tot, y6, y7, y8, y9, rfl, s1, hT1, hU1, hx1, hy1, hrow⟩
      have hk : k < us.length := (List.getElem?_eq_some_iff.mp hxv).1
      obtain ⟨d, hd⟩ : ∃ d, ds[k]? = some d := ⟨_, List.getElem?_eq_getElem (by omega)⟩
      obtain ⟨v', hv1, hd1⟩ := deed_get hdu hd
      cases Option.some.inj (hxv.symm.trans hv1)
      obtain ⟨dv, rfl, hdv⟩ := deed_inv hd1
      have dok := hds d (List.mem_of_getElem? hd)
      have htk : ds.take (k + 1) = ds.take k ++ [d] := by rw [List.take_add_one, hd]; rfl
      refine w_gtup (Same.tup s1 hdv) rfl ?_
      refine w_gcons ?_
      refine w_name rfl ?_
      refine w_gcons ?_
      refine w_name rfl ?_
      refine w_gcons ?_
      refine w_name rfl ?_
      refine w_gnil ?_
      -- what comes to the second train
      with_reducible refine w_join (fun σ H2 => ∃ (t2 : Addr) (xs2 : List Int) (j : Nat) (w2 : Int) (t2n : Nat), σ = [some (.ref a), some (.ref t2), some (.ref b), some (.ref u1), some (.ref c), some (.int tot), some (.int ((ps.length + j : Nat) : Int)), some (.int w2), some (.int (t2n : Int)), y9] ∧ Same H1 H2 ∧ SqT K H2 t2 (xs2.map V.int) ∧ StandL ps xs2 ∧ Sign w2 ∧ j < qs.length ∧ t2n < 2 ^ 200 ∧ deedL (ps ++ qs) (xs1 ++ ys1) d = (xs2 ++ (deedL qs ys1 ⟨j, w2, t2n⟩).1, (deedL qs ys1 ⟨j, w2, t2n⟩).2)) ?_ ?_
      · rintro σ H2 ⟨t2, xs2, j, w2, t2n, rfl, s2, hT2, hx2, hw2, hj, ht2, hde⟩
        have s12 := s1.trans s2
        walk_at "ct"
        refine ⟨a, wa, rfl, .inl (s12.seq hwa), ?_⟩
        walk_at "ct"
        rw [lwa, show (((ps.length + j : Nat) : Int) - (ps.length : Int)) = (j : Int) by omega]
        refine ⟨len2 rfl, fun c1 n1 => ?_⟩
        have s3 : Same H2 (upd H2 c1 (.tup [.int j, .int w2, .int t2n])) := same_upd n1
        have e3 : upd H2 c1 (.tup [.int j, .int w2, .int t2n]) c1 = some (.tup [.int j, .int w2, .int t2n]) := upd_same
        generalize upd H2 c1 _ = H3 at *
        walk_at "ct"
        refine ⟨len2 rfl, fun c2 n2 => ?_⟩
        have s4 : Same H3 (upd H3 c2 (.lst [.ref c1])) := same_upd n2
        have e4 : upd H3 c2 (.lst [.ref c1]) c2 = some (.lst [.ref c1]) := upd_same
        generalize upd H3 c2 _ = H4 at *
        have s24 := s3.trans s4
        walk_at "ct"
        refine ⟨b, u1, c2, qs, ys1, [⟨j, w2, t2n⟩], rfl, hQ.same (s12.trans s24), hy1, lq, by omega, Same.tup (s2.trans s24) hU1, ⟨_, .of e4, .cons (deed_dp (d := ⟨j, w2, t2n⟩) (.of (s4 _ _ e3))) .nil⟩, fun e he => ?_, fun g v H5 s5 _ _ hv hg => ?_⟩
        · rw [List.mem_singleton] at he
          rw [he]
          exact ⟨⟨hj, hw2⟩, ht2⟩
        refine w_gtup (.of hg) rfl ?_
        walk_at "ct"
        have hone : rowL qs [⟨j, w2, t2n⟩] (ys1, 0) = ((deedL qs ys1 ⟨j, w2, t2n⟩).1, 0 + (deedL qs ys1 ⟨j, w2, t2n⟩).2) := rfl
        rw [hone] at hv
        refine ⟨t2, v, xs2, (deedL qs ys1 ⟨j, w2, t2n⟩).1, _, _, _, _, _, rfl, s12.trans (s24.trans s5), Same.tup (s24.trans s5) hT2, .of hv, hx2, deedL_stand hy1 ⟨hj, hw2⟩, ?_⟩
        rw [htk, rowL_snoc, hrow, hde, hone, Int.zero_add]
      · intro N hN
        walk_at "ct"
        refine ⟨a, wa, rfl, .inl (s1.seq hwa), ?_⟩
        walk_at "ct"
        refine w_ite (fun e => ?_) (fun e => ?_)
        · have hdi : d.i < ps.length := by omega
          walk_at "ct"
          refine ⟨len2 rfl, fun c1 n1 => ?_⟩
          have s3 : Same H1 (upd H1 c1 (.tup [.int d.i, .int d.w, .int d.t])) := same_upd n1
          have e3 : upd H1 c1 (.tup [.int d.i, .int d.w, .int d.t]) c1 = some (.tup [.int d.i, .int d.w, .int d.t]) := upd_same
          generalize upd H1 c1 _ = H3 at *
          walk_at "ct"
          refine ⟨len2 rfl, fun c2 n2 => ?_⟩
          have s4 : Same H3 (upd H3 c2 (.lst [.ref c1])) := same_upd n2
          have e4 : upd H3 c2 (.lst [.ref c1]) c2 = some (.lst [.ref c1]) := upd_same
          generalize upd H3 c2 _ = H4 at *
          have s14 := s3.trans s4
          walk_at "ct"
          refine ⟨a, t1, c2, ps, xs1, [d], rfl, hP.same (s1.trans s14), hx1, lp, by omega, Same.tup s14 hT1, ⟨_, .of e4, .cons (deed_dp (d := d) (.of (s4 _ _ e3))) .nil⟩, fun e he => ?_, fun g v H5 s5 _ _ hv hg => ?_⟩
          · rw [List.mem_singleton] at he
            rw [he]
            exact ⟨⟨hdi, dok.1.2⟩, dok.2⟩
          refine w_gtup (.of hg) rfl ?_
          walk_at "ct"
          have hone : rowL ps [d] (xs1, 0) = ((deedL ps xs1 d).1, 0 + (deedL ps xs1 d).2) := rfl
          rw [hone, Int.zero_add] at *
          have hv : H5 v = some (.tup ((deedL ps xs1 d).1.map V.int)) := hv
          refine ⟨len2 rfl, fun c3 n3 => ?_⟩
          have s6 : Same H5 (upd H5 c3 (.lst [.int 1, .int (-1)])) := same_upd n3
          have e6 : upd H5 c3 (.lst [.int 1, .int (-1)]) c3 = some (.lst [.int 1, .int (-1)]) := upd_same
          generalize upd H5 c3 _ = H6 at *
          walk_at "ct"
          refine .inr ⟨_, rfl, ?_⟩
          obtain ⟨w2, hw2, haw⟩ : ∃ w2 : Int, (w2 = if (deedL ps xs1 d).2 < 0 then -1 else 1) ∧ atI [V.int 1, .int (-1)] (if decide ((deedL ps xs1 d).2 < 0) = true then 1 else 0) = some (.int w2) := by
            by_cases e2 : (deedL ps xs1 d).2 < 0
            · exact ⟨-1, by rw [if_pos e2], by rw [decide_eq_true e2]; rfl⟩
            · exact ⟨1, by rw [if_neg e2], by rw [decide_eq_false e2]; rfl⟩
          refine w_ixL (.of e6) haw ?_
          walk_at "ct"
          refine ⟨_, rfl, ?_⟩
          obtain ⟨t2n, ht2⟩ : ∃ t2n : Nat, (t2n : Int) = if (deedL ps xs1 d).2 < 0 then -(deedL ps xs1 d).2 else (deedL ps xs1 d).2 := ⟨(if (deedL ps xs1 d).2 < 0 then -(deedL ps xs1 d).2 else (deedL ps xs1 d).2).toNat, by split <;> omega⟩
          obtain ⟨hle, hde⟩ := deed_front (d := d) hx1 hy1 ⟨hdi, dok.1.2⟩ hw2 ht2
          rw [← ht2]
          walk_at "ct"
          have s16 := (s14.trans s5).trans s6
          refine ⟨a, wa, rfl, .inl ((s1.trans s16).seq hwa), ?_⟩
          walk_at "ct"
          rw [lwa]
          refine hN _ _ ⟨v, (deedL ps xs1 d).1, 0, w2, t2n, rfl, s16, .of (s6 _ _ hv), deedL_stand hx1 ⟨hdi, dok.1.2⟩, ?_, by omega, Nat.lt_of_le_of_lt hle dok.2, hde⟩
          rw [hw2]
          split
          · exact .inr rfl
          · exact .inl rfl
        · walk_at "ct"
          obtain ⟨j, hj⟩ : ∃ j, d.i = ps.length + j := ⟨d.i - ps.length, by omega⟩
          refine hN _ _ ⟨t1, xs1, j, d.w, d.t, (by rw [← hj]; rfl), Same.refl _, hT1, hx1, dok.1.2, by have := dok.1.1; omega, dok.2, deed_behind hx1.len hj⟩
    · rintro σ H1 ⟨t1, u1, xs1, ys1, tot, y6, y7, y8, y9, rfl, s1, hT1, hU1, hx1, hy1, hrow⟩
      rw [hul, List.take_length] at hrow
      walk_at "ct"
      have hxl := hx1.len
      have hyl := hy1.len
      refine ⟨t1, u1, _, _, rfl, rfl, hT1, hU1, ?_, ?_, ?_, ?_⟩
      · intro z
        rw [List.map_eq_nil_iff] at z
        rw [z] at hxl
        have : 0 = ps.length := hxl
        omega
      · rw [List.length_map, List.length_map]
        exact Nat.le_of_lt (small1000 (by omega))
      · intro z
        rw [List.map_eq_nil_iff] at z
        rw [z] at hyl
        have : 0 = qs.length := hyl
        omega
      intro _ g ng
      have s2 : Same H1 (upd H1 g (.tup (xs1.map V.int ++ ys1.map V.int))) := same_upd ng
      have e2 : upd H1 g (.tup (xs1.map V.int ++ ys1.map V.int)) g = some (.tup (xs1.map V.int ++ ys1.map V.int)) := upd_same
      generalize upd H1 g _ = H2 at *
      walk_at "ct"
      refine ⟨len2 rfl, fun p np => ?_⟩
      have s3 := same_upd (o := .tup [.ref g, .int tot]) np
      refine q p g _ ((s1.trans s2).trans s3) ?_ ?_
      · rw [hrow, List.map_append]
        exact .of (s3 _ _ e2)
      · rw [hrow]
        exact upd_same
abbrev S__law_two : Stmt := topS 47
theorem sc__law_two : FnScope ["_law_one", "_law_here", "_law_other", "_law_there", "_law_signs_here", "_law_stand", "_law_shown", "_law_behind", "_law_told", "_law_found"] ["_law_one", "_law_here", "_law_other", "_law_there", "_law_signs_here"] (defScope S__law_two) := ⟨rfl, rfl, rfl, by decide +kernel, rfl, by decide +kernel, by decide +kernel⟩
def sp__law_two (K : PySem.W.Frag) (T : List Addr) : Sp := fun vs H Q _ => ∃ (a t b u c : Addr) (ps qs : List Part) (xs ys ss : List Int) (wa wb : List V), vs = [.ref a, .ref t, .ref b, .ref u, .ref c] ∧ H a = some (.lst wa) ∧ H b = some (.lst wb) ∧ DpAll K H wa (ps.map Part.data) ∧ DpAll K H wb (qs.map Part.data) ∧ (∀ p ∈ ps, p.ok) ∧ (∀ p ∈ qs, p.ok) ∧ 1 ≤ ps.length ∧ 1 ≤ qs.length ∧ ps.length + qs.length ≤ 500 ∧ SqT K H t (xs.map V.int) ∧ SqT K H u (ys.map V.int) ∧ StandOk ps xs ∧ StandOk qs ys ∧ SqL K H c (ss.map V.int) ∧ (∀ s ∈ ss, s = 0 ∨ Sign s) ∧ ss.length ≤ 1000 ∧ Tb T H ∧
  ∀ H', Same H H' → Q (.bl true) H'
theorem ok__law_two {f : Addr} {fd : FuncData} {f_parted : Addr} {fd_parted : FuncData} {f_together : Addr} {fd_together : FuncData} {f_joined : Addr} {fd_joined : FuncData} {f_fed : Addr} {fd_fed : FuncData} {T : List Addr} (F : Fun K "_law_two" "_law_two" S__law_two f fd)
    (F_parted : Fun K "parted" "parted" S_parted f_parted fd_parted) (b_parted : Binds K fd_parted ["one", "other", "stand"] []) (g_parted : mg "parted" = some (.ref f_parted)) (G_parted : FnOk P w K mg base CX0 6 f_parted fd_parted ["one", "other", "stand"] (sp_parted K))
    (F_together : Fun K "together" "together" S_together f_together fd_together) (b_together : Binds K fd_together ["one", "here", "other", "there"] []) (g_together : mg "together" = some (.ref f_together)) (G_together : FnOk P w K mg base CX0 6 f_together fd_together ["one", "here", "other", "there"] (sp_together K))
    (F_joined : Fun K "joined" "joined" S_joined f_joined fd_joined) (b_joined : Binds K fd_joined ["one", "other"] []) (g_joined : mg "joined" = some (.ref f_joined)) (G_joined : FnOk P w K mg base CX0 5 f_joined fd_joined ["one", "other"] (sp_joined K))
    (F_fed : Fun K "fed" "fed" S_fed f_fed fd_fed) (b_fed : Binds K fd_fed ["train", "stand", "signs"] []) (g_fed : mg "fed" = some (.ref f_fed)) (G_fed : FnOk P w K mg base CX0 7 f_fed fd_fed ["train", "stand", "signs"] (sp_fed K T)) :
    FnOk P w K mg base CX0 8 f fd ["_law_one", "_law_here", "_law_other", "_law_there", "_law_signs_here"] (sp__law_two K T) := by
  refine F.ok sc__law_two (fun vs H Q E h => ?_) (fun cdv A outer s H vs Q E hr h => ?_)
  ·
    obtain ⟨a, t, b, u, c, ps, qs, xs, ys, ss, wa, wb, rfl, _⟩ := h
    rfl
  ·
    obtain ⟨a, t, b, u, c, ps, qs, xs, ys, ss, wa, wb, rfl, ha, hb, da, db, oa, ob, la, lb, l8, hx, hy, sx, sy, hc, hss, hsl, hTb, q⟩ := h
    refine ⟨_, (pss_cons (ps_asg (pe_call G_fed (hr.mono (by decide)) (by rfl) g_fed F_fed.kp b_fed .nil pass0 (pa_cons (pv 0) (pa_cons (pv 1) (pa_cons (pv 4) pa_nil)))) (pg_tup rfl (pgs_cons (pg_name (i := 5) sc__law_two.nd rfl (.inl rfl)) (pgs_cons (pg_name (i := 6) sc__law_two.nd rfl (.inl rfl)) pgs_nil))))
      (pss_cons (ps_asg (pe_call G_fed (hr.mono (by decide)) (by rfl) g_fed F_fed.kp b_fed .nil pass0 (pa_cons (pv 2) (pa_cons (pv 3) (pa_cons (pv 6) pa_nil)))) (pg_tup rfl (pgs_cons (pg_name (i := 7) sc__law_two.nd rfl (.inl rfl)) (pgs_cons (pg_name (i := 8) sc__law_two.nd rfl (.inl rfl)) pgs_nil))))
      (pss_cons (ps_set (i := 9) sc__law_two.nd rfl (.inl rfl) (pe_call G_fed (hr.mono (by decide)) (by rfl) g_fed F_fed.kp b_fed .nil pass0 (pa_cons (pe_call G_joined (hr.mono (by decide)) (by rfl) g_joined F_joined.kp b_joined .nil pass0 (pa_cons (pv 0) (pa_cons (pv 2) pa_nil))) (pa_cons (pe_call G_together (hr.mono (by decide)) (by rfl) g_together F_together.kp b_together .nil pass0 (pa_cons (pv 0) (pa_cons (pv 1) (pa_cons (pv 2) (pa_cons (pv 3) pa_nil))))) (pa_cons (pv 4) pa_nil)))))
      (pss_one (ps_ret (pe_and (pe_cmpR (r := rEqD K) (op_eqD hr.units) (pv 9) (pe_tup (pa_cons (pe_op op_catT (pv 5) (pv 7)) (pa_cons (pv 8) pa_nil))) (nomark _)) (pe_one (pe_cmpR (r := rEqD K) (op_eqD hr.units) (pe_call G_parted (hr.mono (by decide)) (by rfl) g_parted F_parted.kp b_parted .nil pass0 (pa_cons (pv 0) (pa_cons (pv 2) (pa_cons (pe_ix (r := rIxT K) ix_tup (pv 9) pe_int (fun _ _ => rfl)) pa_nil)))) (pe_tup (pa_cons (pv 5) (pa_cons (pv 7) pa_nil))) (nomark _))))))))), ?_⟩
    refine w_st (σ' := [some (.ref a), some (.ref t), some (.ref b), some (.ref u), some (.ref c), none, none, none, none, none]) rfl ?_
    have hxl := sx.1
    have hyl := sy.1
    walk_at "ct"
    refine ⟨a, t, c, ps, xs, ss, rfl, ⟨wa, .of ha, da⟩, oa, la, by omega, hx, sx, hc, hss, hsl, hTb, fun l1 u1 g1 H1 s1 nl1 hl1 hu1 hg1 => ?_⟩
    refine w_gtup (.of hg1) rfl ?_
    walk_at "ct"
    refine ⟨b, u, l1, qs, ys, (fedS ps xs ss).2, rfl, ⟨wb, .of (s1 _ _ hb), dpAll_same s1 db⟩, ob, lb, by omega, Same.tup s1 hy, sy, .of hl1, fedS_sg hss, by rw [fedS_len]; exact hsl, hTb.same s1, fun l2 u2 g2 H2 s2 nl2 hl2 hu2 hg2 => ?_⟩
    refine w_gtup (.of hg2) rfl ?_
    have s12 := s1.trans s2
    walk_at "ct"
    refine ⟨a, b, ps, qs, wa, wb, rfl, s12 _ _ ha, s12 _ _ hb, dpAll_same s12 da, dpAll_same s12 db, oa, ob, la, lb, by omega, fun j H3 s3 nj hj => ?_⟩
    have s13 := s12.trans s3
    walk_at "ct"
    refine ⟨a, t, b, u, ps, qs, xs, ys, rfl, ⟨wa, .of (s13 _ _ ha), dpAll_same s13 da⟩, ⟨wb, .of (s13 _ _ hb), dpAll_same s13 db⟩, oa, ob, la, lb, by omega, Same.tup s13 hx, Same.tup s13 hy, sx, sy, fun g H4 s4 ng hg => ?_⟩
    have s14 := s13.trans s4
    have sxy : StandOk (ps ++ qs) (xs ++ ys) := (standL_app (standL_of oa sx) (standL_of ob sy)).ok
    have oab : ∀ p ∈ ps ++ qs, p.ok := fun p hp => by
      rcases List.mem_append.mp hp with hp | hp
      · exact oa p hp
      · exact ob p hp
    walk_at "ct"
    refine ⟨j, g, c, ps ++ qs, xs ++ ys, ss, rfl, ⟨_, .of (s4 _ _ hj), by rw [List.map_append]; exact dpAll_app (dpAll_same s14 da) (dpAll_same s14 db)⟩, oab, by rw [List.length_append]; omega, by rw [List.length_append]; omega, .of hg, sxy, s14.seq hc, hss, hsl, hTb.same s14, fun l3 u3 g3 H5 s5 nl3 hl3 hu3 hg3 => ?_⟩
    rw [fed_app hxl hyl] at hl3 hu3
    have hl3 : H5 l3 = some (.lst ((fedS qs ys (fedS ps xs ss).2).2.map V.int)) := hl3
    have hu3 : SqT K H5 u3 (((fedS ps xs ss).1 ++ (fedS qs ys (fedS ps xs ss).2).1).map V.int) := hu3
    have f1 : (fedS ps xs ss).1.length = ps.length := by rw [fedS_len1, hxl]
    have f2 : (fedS qs ys (fedS ps xs ss).2).1.length = qs.length := by rw [fedS_len1, hyl]
    have st1 : StandL ps (fedS ps xs ss).1 := fedS_stand la (standL_of oa sx) hss
    have st2 : StandL qs (fedS qs ys (fedS ps xs ss).2).1 := fedS_stand lb (standL_of ob sy) (fedS_sg hss)
    generalize (fedS qs ys (fedS ps xs ss).2).1 = ys2 at *
    generalize (fedS qs ys (fedS ps xs ss).2).2 = sh at *
    generalize (fedS ps xs ss).1 = xs2 at *
    have s15 := s14.trans s5
    have s25 := s3.trans (s4.trans s5)
    have hu1' := Same.tup (s2.trans s25) hu1
    have hu2' := Same.tup s25 hu2
    walk_at "ct"
    refine ⟨u1, u2, _, _, rfl, rfl, hu1', hu2', ?_, ?_, ?_, ?_⟩
    · intro z
      rw [List.map_eq_nil_iff] at z
      rw [z] at f1
      have : 0 = ps.length := f1
      omega
    · rw [List.length_map, List.length_map]
      exact Nat.le_of_lt (small1000 (by omega))
    · intro z
      rw [List.map_eq_nil_iff] at z
      rw [z] at f2
      have : 0 = qs.length := f2
      omega
    intro _ c1 m1
    have s6 : Same H5 (upd H5 c1 (.tup (xs2.map V.int ++ ys2.map V.int))) := same_upd m1
    have e6 : upd H5 c1 (.tup (xs2.map V.int ++ ys2.map V.int)) c1 = some (.tup (xs2.map V.int ++ ys2.map V.int)) := upd_same
    generalize upd H5 c1 _ = H6 at *
    rw [← List.map_append] at e6
    walk_at "ct"
    refine ⟨len2 rfl, fun c2 m2 => ?_⟩
    have s7 : Same H6 (upd H6 c2 (.tup [.ref c1, .ref l2])) := same_upd m2
    have e7 : upd H6 c2 (.tup [.ref c1, .ref l2]) c2 = some (.tup [.ref c1, .ref l2]) := upd_same
    generalize upd H6 c2 _ = H7 at *
    have s57 := s6.trans s7
    have lay1 : (PyData.tuple [.tuple ((xs2 ++ ys2).map PyData.int), .list (sh.map PyData.int)]).canLay0 = true ∧ (PyData.tuple [.tuple ((xs2 ++ ys2).map PyData.int), .list (sh.map PyData.int)]).depth ≤ 2 := lay_tup (n := 1) fun d hd => by
      rcases List.mem_cons.mp hd with rfl | hd
      · exact lay_tup (lay_ints _ 0)
      rcases List.mem_cons.mp hd with rfl | hd
      · exact lay_lst (lay_ints _ 0)
      · cases hd
    refine ⟨_, _, .tup (.of (s57 _ _ hg3)) (.cons (.tup (Same.tup s57 hu3) (dpAll_ints _)) (.cons (.lst (.of (s57 _ _ hl3)) (dpAll_ints _)) .nil)), .tup (.of e7) (.cons (.tup (.of (s7 _ _ e6)) (dpAll_ints _)) (.cons (.lst (.of ((s25.trans s57) _ _ hl2)) (dpAll_ints _)) .nil)), shaped_of lay1 (by decide), shaped_of lay1 (by decide), ?_⟩
    rw [SeqAt.eqv_refl _ lay1.1]
    walk_at "ct"
    refine w_ixT (.of (s57 _ _ hg3)) at0 ?_
    walk_at "ct"
    have s17 := s15.trans s57
    refine ⟨a, b, u3, ps, qs, wa, wb, xs2 ++ ys2, rfl, s17 _ _ ha, s17 _ _ hb, dpAll_same s17 da, dpAll_same s17 db, oa, ob, la, lb, by omega, Same.tup s57 hu3, (standL_app st1 st2).ok, fun p1 p2 pg H8 s8 hp1 hp2 hpg => ?_⟩
    rw [← f1, List.take_left] at hp1
    rw [← f1, List.drop_left] at hp2
    walk_at "ct"
    refine ⟨len2 rfl, fun c3 m3 => ?_⟩
    have s9 : Same H8 (upd H8 c3 (.tup [.ref u1, .ref u2])) := same_upd m3
    have e9 : upd H8 c3 (.tup [.ref u1, .ref u2]) c3 = some (.tup [.ref u1, .ref u2]) := upd_same
    generalize upd H8 c3 _ = H9 at *
    have s59 := (s57.trans s8).trans s9
    have lay2 : (PyData.tuple [.tuple (xs2.map PyData.int), .tuple (ys2.map PyData.int)]).canLay0 = true ∧ (PyData.tuple [.tuple (xs2.map PyData.int), .tuple (ys2.map PyData.int)]).depth ≤ 2 := lay_tup (n := 1) fun d hd => by
      rcases List.mem_cons.mp hd with rfl | hd
      · exact lay_tup (lay_ints _ 0)
      rcases List.mem_cons.mp hd with rfl | hd
      · exact lay_tup (lay_ints _ 0)
      · cases hd
    refine ⟨_, _, .tup (.of (s9 _ _ hpg)) (.cons (.tup (.of (s9 _ _ hp1)) (dpAll_ints _)) (.cons (.tup (.of (s9 _ _ hp2)) (dpAll_ints _)) .nil)), .tup (.of e9) (.cons (.tup (Same.tup s59 hu1') (dpAll_ints _)) (.cons (.tup (Same.tup s59 hu2') (dpAll_ints _)) .nil)), shaped_of lay2 (by decide), shaped_of lay2 (by decide), ?_⟩
    rw [SeqAt.eqv_refl _ lay2.1]
    exact q _ (s15.trans s59)
abbrev S__law_cut : Stmt := topS 48
theorem sc__law_cut : FnScope ["_law_script", "_law_most", "_law_cell"] ["_law_script"] (defScope S__law_cut) := ⟨rfl, rfl, rfl, by decide +kernel, rfl, by decide +kernel, by decide +kernel⟩
def sp__law_cut (K : PySem.W.Frag) : Sp := fun vs H Q _ => ∃ (a : Addr) (ns : List Int), vs = [.ref a] ∧ SqL K H a (ns.map V.int) ∧ ns.length ≤ 1000 ∧ ∀ (ms : List Int) D H', Same H H' → H D = none → ms.length = ns.length → H' D = some (.lst (ms.map V.int)) → Q (.ref D) H'
theorem ok__law_cut {f : Addr} {fd : FuncData} (F : Fun K "_law_cut" "_law_cut" S__law_cut f fd) (m_int : mg "int" = none) :
    FnOk P w K mg base CX0 1 f fd ["_law_script"] (sp__law_cut K) := by
  refine F.ok sc__law_cut (fun vs H Q E h => ?_) (fun cdv A outer s H vs Q E hr h => ?_)
  ·
    obtain ⟨a, ns, rfl, _⟩ := h
    rfl
  ·
    obtain ⟨a, ns, rfl, hS, hlen, q⟩ := h
    refine ⟨_, (pss_cons (ps_set (i := 1) sc__law_cut.nd rfl (.inr rfl) (pe_op op_powB (pe_op op_powB pe_int pe_int) pe_int))
      (pss_one (ps_ret (pe_lc (own := [("_law_cell", 2)]) (g := gName 2)  rfl sc__law_cut.nd  (pi_list (pv 0)) (blkOk_by (own := [("_law_cell", 2)]) (N := ["_law_script", "_law_most", "_law_cell"]) (sc := defScope S__law_cut) (by decide +kernel)) (fun _ _ _ _ _ => pg_name (i := 2) sc__law_cut.nd rfl (Or.inl rfl)) (fun _ _ _ _ _ => pts_nil) (fun _ _ _ _ _ => (pe_ix (r := rIxL K) ix_list (pe_lst (pa_cons (pv 2) (pa_cons (pe_op op_add (pv 1) (pe_op op_mod (pv 2) (pv 1))) pa_nil))) (pe_callTy call_int1 (by rfl) m_int (by decide +kernel) (pa_cons (pe_cmpR op_ge (pv 2) (pv 1) (nomark _)) pa_nil)) (fun _ _ => rfl))))))), ?_⟩
    refine w_st (σ' := [some (.ref a), none, none]) rfl ?_
    walk_at "ct"
    refine w_rI ⟨by decide, by decide⟩ ?_
    walk_at "ct"
    refine w_rI ⟨by decide, by decide +kernel⟩ ?_
    obtain ⟨M, hM, M0⟩ : ∃ M : Int, ((10 : Int) ^ (60 : Int).toNat) ^ (60 : Int).toNat = M ∧ 0 < M := ⟨_, rfl, by decide +kernel⟩
    rw [hM]
    walk_at "ct"
    refine w_IL hS ?_
    refine lb_list (ns.map V.int) (fun D i H1 => Same H H1 ∧ ∃ ms : List Int, ms.length = i ∧ H1 D = some (.lst (ms.map V.int))) (fun D hD => ⟨same_upd hD, [], rfl, upd_same⟩) (fun D hD i H1 _ h => h.1.seq hS) ?_ ?_
    · rintro D hD i x H1 hx ⟨sm, ms, ml, hm⟩
      have hi : i < ns.length := by
        have z := (List.getElem?_eq_some_iff.mp hx).1
        rw [List.length_map] at z
        exact z
      obtain ⟨c, rfl⟩ : ∃ c : Int, x = .int c := by
        obtain ⟨k, _, rfl⟩ := List.mem_map.mp (List.mem_of_getElem? hx)
        exact ⟨k, rfl⟩
      walk_at "ct"
      refine ⟨rfl, ?_⟩
      walk_at "ct"
      refine w_rI M0 ?_
      walk_at "ct"
      refine ⟨len2 rfl, fun p np => ?_⟩
      walk_at "ct"
      refine .inr ⟨_, rfl, ?_⟩
      have fin : ∀ z : Int, ∃ acc, (upd H1 p (.lst [.int c, .int (M + c % M)])) D = some (.lst acc) ∧ acc.length < sizeLine ∧ (Same H (upd (upd H1 p (.lst [.int c, .int (M + c % M)])) D (.lst (acc ++ [.int z]))) ∧ ∃ ms : List Int, ms.length = i + 1 ∧ (upd (upd H1 p (.lst [.int c, .int (M + c % M)])) D (.lst (acc ++ [.int z]))) D = some (.lst (ms.map V.int))) := fun z => by
        refine ⟨ms.map V.int, ?_, ?_, same_new (same_new sm (sm.free np)) hD, ms ++ [z], ?_, ?_⟩
        · rw [upd_ne (ne_of_none hm np)]
          exact hm
        · rw [List.length_map]
          exact small1000 (by omega)
        · rw [List.length_append, ml]
          rfl
        · rw [upd_same, List.map_append]
          rfl
      by_cases e : M ≤ c
      · rw [decide_eq_true e]
        refine w_ixL (.of upd_same) (v := .int (M + c % M)) rfl ?_
        exact fin _
      · rw [decide_eq_false e]
        refine w_ixL (.of upd_same) (v := .int c) rfl ?_
        exact fin _
    · rintro D hD H1 ⟨sm, ms, ml, hm⟩
      exact q ms D H1 sm hD (by rw [ml, List.length_map]) hm
abbrev S_law : Stmt := topS 49
theorem sc_law : FnScope ["_law_script", "_law_cell", "_law_one", "_law_here", "_law_other", "_law_there", "_law_last", "_law_where", "_law_signs_here", "_law_both", "_law_stand", "_law_row_here"] ["_law_script"] (defScope S_law) := ⟨rfl, rfl, rfl, by decide +kernel, rfl, by decide +kernel, by decide +kernel⟩
def sp_law (K : PySem.W.Frag) (T : List Addr) : Sp := fun vs H Q _ => ∃ (a : Addr) (ns : List Int), vs = [.ref a] ∧ SqL K H a (ns.map V.int) ∧ ns.length ≤ 63 ∧ Tb T H ∧ ∀ H', Same H H' → Q (.bl true) H'
theorem ok_law {f : Addr} {fd : FuncData} {f_left : Addr} {fd_left : FuncData} {f__law_deeds : Addr} {fd__law_deeds : FuncData} {f__law_row : Addr} {fd__law_row : FuncData} {f_joined : Addr} {fd_joined : FuncData} {f_together : Addr} {fd_together : FuncData} {f__law_two : Addr} {fd__law_two : FuncData} {f__law_signs : Addr} {fd__law_signs : FuncData} {f__law_mix : Addr} {fd__law_mix : FuncData} {f__law_train : Addr} {fd__law_train : FuncData} {f__law_cut : Addr} {fd__law_cut : FuncData} {T : List Addr} (F : Fun K "law" "law" S_law f fd)
    (F_left : Fun K "left" "left" S_left f_left fd_left) (b_left : Binds K fd_left ["train", "stand", "row"] []) (g_left : mg "left" = some (.ref f_left)) (G_left : FnOk P w K mg base CX0 6 f_left fd_left ["train", "stand", "row"] (sp_left K))
    (F__law_deeds : Fun K "_law_deeds" "_law_deeds" S__law_deeds f__law_deeds fd__law_deeds) (b__law_deeds : Binds K fd__law_deeds ["_law_one", "_law_here", "_law_other", "_law_there", "_law_row_here"] []) (g__law_deeds : mg "_law_deeds" = some (.ref f__law_deeds)) (G__law_deeds : FnOk P w K mg base CX0 7 f__law_deeds fd__law_deeds ["_law_one", "_law_here", "_law_other", "_law_there", "_law_row_here"] (sp__law_deeds K))
    (F__law_row : Fun K "_law_row" "_law_row" S__law_row f__law_row fd__law_row) (b__law_row : Binds K fd__law_row ["_law_cell", "_law_place", "_law_many"] []) (g__law_row : mg "_law_row" = some (.ref f__law_row)) (G__law_row : FnOk P w K mg base CX0 2 f__law_row fd__law_row ["_law_cell", "_law_place", "_law_many"] (sp__law_row K))
    (F_joined : Fun K "joined" "joined" S_joined f_joined fd_joined) (b_joined : Binds K fd_joined ["one", "other"] []) (g_joined : mg "joined" = some (.ref f_joined)) (G_joined : FnOk P w K mg base CX0 5 f_joined fd_joined ["one", "other"] (sp_joined K))
    (F_together : Fun K "together" "together" S_together f_together fd_together) (b_together : Binds K fd_together ["one", "here", "other", "there"] []) (g_together : mg "together" = some (.ref f_together)) (G_together : FnOk P w K mg base CX0 6 f_together fd_together ["one", "here", "other", "there"] (sp_together K))
    (F__law_two : Fun K "_law_two" "_law_two" S__law_two f__law_two fd__law_two) (b__law_two : Binds K fd__law_two ["_law_one", "_law_here", "_law_other", "_law_there", "_law_signs_here"] []) (g__law_two : mg "_law_two" = some (.ref f__law_two)) (G__law_two : FnOk P w K mg base CX0 8 f__law_two fd__law_two ["_law_one", "_law_here", "_law_other", "_law_there", "_law_signs_here"] (sp__law_two K T))
    (F__law_signs : Fun K "_law_signs" "_law_signs" S__law_signs f__law_signs fd__law_signs) (b__law_signs : Binds K fd__law_signs ["_law_cell", "_law_place"] []) (g__law_signs : mg "_law_signs" = some (.ref f__law_signs)) (G__law_signs : FnOk P w K mg base CX0 2 f__law_signs fd__law_signs ["_law_cell", "_law_place"] (sp__law_signs K))
    (F__law_mix : Fun K "_law_mix" "_law_mix" S__law_mix f__law_mix fd__law_mix) (b__law_mix : Binds K fd__law_mix ["_law_cell", "_law_k"] []) (g__law_mix : mg "_law_mix" = some (.ref f__law_mix)) (G__law_mix : FnOk P w K mg base CX0 1 f__law_mix fd__law_mix ["_law_cell", "_law_k"] (sp__law_mix K))
    (F__law_train : Fun K "_law_train" "_law_train" S__law_train f__law_train fd__law_train) (b__law_train : Binds K fd__law_train ["_law_cell", "_law_place", "_law_many", "_law_most", "_law_room"] []) (g__law_train : mg "_law_train" = some (.ref f__law_train)) (G__law_train : FnOk P w K mg base CX0 3 f__law_train fd__law_train ["_law_cell", "_law_place", "_law_many", "_law_most", "_law_room"] (sp__law_train K))
    (F__law_cut : Fun K "_law_cut" "_law_cut" S__law_cut f__law_cut fd__law_cut) (b__law_cut : Binds K fd__law_cut ["_law_script"] []) (g__law_cut : mg "_law_cut" = some (.ref f__law_cut)) (G__law_cut : FnOk P w K mg base CX0 1 f__law_cut fd__law_cut ["_law_script"] (sp__law_cut K)) (m_len : mg "len" = none) :
    FnOk P w K mg base CX0 9 f fd ["_law_script"] (sp_law K T) := by
  refine F.ok sc_law (fun vs H Q E h => ?_) (fun cdv A outer s H vs Q E hr h => ?_)
  ·
    obtain ⟨a, ns, rfl, _⟩ := h
    rfl
  ·
    obtain ⟨a, ns, rfl, hS, hlen, hTb, q⟩ := h
    refine ⟨_, (pss_cons (ps_set (i := 0) sc_law.nd rfl (.inl rfl) (pe_call G__law_cut (hr.mono (by decide)) (by rfl) g__law_cut F__law_cut.kp b__law_cut .nil pass0 (pa_cons (pv 0) pa_nil)))
      (pss_cons (ps_for PassesOwn.never rfl (pi_list (pe_op op_cat (pe_slice (r := rSlL K) sl_list (pv 0) po_none (po_some pe_int)) (pe_lst (pa_cons pe_int pa_nil)))) (pg_name (i := 1) sc_law.nd rfl (.inl rfl))
      (pss_cons (ps_asg (pe_call G__law_train (hr.mono (by decide)) (by rfl) g__law_train F__law_train.kp b__law_train .nil pass0 (pa_cons (pv 1) (pa_cons pe_int (pa_cons (pe_op op_add pe_int (pe_op op_mod (pe_call G__law_mix (hr.mono (by decide)) (by rfl) g__law_mix F__law_mix.kp b__law_mix .nil pass0 (pa_cons (pv 1) (pa_cons pe_int pa_nil))) pe_int)) (pa_cons pe_int (pa_cons pe_int pa_nil)))))) (pg_tup rfl (pgs_cons (pg_name (i := 2) sc_law.nd rfl (.inl rfl)) (pgs_cons (pg_name (i := 3) sc_law.nd rfl (.inl rfl)) pgs_nil))))
      (pss_cons (ps_asg (pe_call G__law_train (hr.mono (by decide)) (by rfl) g__law_train F__law_train.kp b__law_train .nil pass0 (pa_cons (pv 1) (pa_cons pe_int (pa_cons (pe_op op_add pe_int (pe_op op_mod (pe_call G__law_mix (hr.mono (by decide)) (by rfl) g__law_mix F__law_mix.kp b__law_mix .nil pass0 (pa_cons (pv 1) (pa_cons pe_int pa_nil))) pe_int)) (pa_cons pe_int (pa_cons pe_int pa_nil)))))) (pg_tup rfl (pgs_cons (pg_name (i := 4) sc_law.nd rfl (.inl rfl)) (pgs_cons (pg_name (i := 5) sc_law.nd rfl (.inl rfl)) pgs_nil))))
      (pss_cons (ps_asg (pe_call G__law_train (hr.mono (by decide)) (by rfl) g__law_train F__law_train.kp b__law_train .nil pass0 (pa_cons (pv 1) (pa_cons pe_int (pa_cons (pe_op op_add pe_int (pe_op op_mod (pe_call G__law_mix (hr.mono (by decide)) (by rfl) g__law_mix F__law_mix.kp b__law_mix .nil pass0 (pa_cons (pv 1) (pa_cons pe_int pa_nil))) pe_int)) (pa_cons pe_int (pa_cons pe_int pa_nil)))))) (pg_tup rfl (pgs_cons (pg_name (i := 6) sc_law.nd rfl (.inl rfl)) (pgs_cons (pg_name (i := 7) sc_law.nd rfl (.inl rfl)) pgs_nil))))
      (pss_cons (ps_set (i := 8) sc_law.nd rfl (.inl rfl) (pe_call G__law_signs (hr.mono (by decide)) (by rfl) g__law_signs F__law_signs.kp b__law_signs .nil pass0 (pa_cons (pv 1) (pa_cons pe_int pa_nil))))
      (pss_cons (ps_set (i := 9) sc_law.nd rfl (.inl rfl) (pe_call G_joined (hr.mono (by decide)) (by rfl) g_joined F_joined.kp b_joined .nil pass0 (pa_cons (pv 2) (pa_cons (pv 4) pa_nil))))
      (pss_cons (ps_set (i := 10) sc_law.nd rfl (.inl rfl) (pe_call G_together (hr.mono (by decide)) (by rfl) g_together F_together.kp b_together .nil pass0 (pa_cons (pv 2) (pa_cons (pv 3) (pa_cons (pv 4) (pa_cons (pv 5) pa_nil))))))
      (pss_cons (ps_if (PW.pt (pw_or (pt_not (pt_val (pe_call G__law_two (hr.mono (by decide)) (by rfl) g__law_two F__law_two.kp b__law_two .nil pass0 (pa_cons (pv 2) (pa_cons (pv 3) (pa_cons (pv 4) (pa_cons (pv 5) (pa_cons (pv 8) pa_nil)))))))) (pw_or1 (pt_not (pt_val (pe_call G__law_two (hr.mono (by decide)) (by rfl) g__law_two F__law_two.kp b__law_two .nil pass0 (pa_cons (pv 9) (pa_cons (pv 10) (pa_cons (pv 6) (pa_cons (pv 7) (pa_cons (pv 8) pa_nil))))))))))) (pss_one (ps_ret pe_bl)) pss_nil)
      (pss_cons (ps_if (pt_not (pt_val (pe_call G__law_two (hr.mono (by decide)) (by rfl) g__law_two F__law_two.kp b__law_two .nil pass0 (pa_cons (pv 2) (pa_cons (pv 3) (pa_cons (pe_call G_joined (hr.mono (by decide)) (by rfl) g_joined F_joined.kp b_joined .nil pass0 (pa_cons (pv 4) (pa_cons (pv 6) pa_nil))) (pa_cons (pe_call G_together (hr.mono (by decide)) (by rfl) g_together F_together.kp b_together .nil pass0 (pa_cons (pv 4) (pa_cons (pv 5) (pa_cons (pv 6) (pa_cons (pv 7) pa_nil))))) (pa_cons (pv 8) pa_nil)))))))) (pss_one (ps_ret pe_bl)) pss_nil)
      (pss_cons (ps_if (pt_cmpR (r := rNeD K) (op_neD hr.units) (pe_call G_joined (hr.mono (by decide)) (by rfl) g_joined F_joined.kp b_joined .nil pass0 (pa_cons (pv 9) (pa_cons (pv 6) pa_nil))) (pe_call G_joined (hr.mono (by decide)) (by rfl) g_joined F_joined.kp b_joined .nil pass0 (pa_cons (pv 2) (pa_cons (pe_call G_joined (hr.mono (by decide)) (by rfl) g_joined F_joined.kp b_joined .nil pass0 (pa_cons (pv 4) (pa_cons (pv 6) pa_nil))) pa_nil))) (nomark _)) (pss_one (ps_ret pe_bl)) pss_nil)
      (pss_cons (ps_set (i := 11) sc_law.nd rfl (.inl rfl) (pe_call G__law_row (hr.mono (by decide)) (by rfl) g__law_row F__law_row.kp b__law_row .nil pass0 (pa_cons (pv 1) (pa_cons pe_int (pa_cons (pe_callB call_len_seq (by rfl) m_len (by decide +kernel) (pa_cons (pv 9) pa_nil)) pa_nil)))))
      (pss_one (ps_if (pt_cmpR (r := rNeD K) (op_neD hr.units) (pe_call G_left (hr.mono (by decide)) (by rfl) g_left F_left.kp b_left .nil pass0 (pa_cons (pv 9) (pa_cons (pv 10) (pa_cons (pv 11) pa_nil)))) (pe_call G__law_deeds (hr.mono (by decide)) (by rfl) g__law_deeds F__law_deeds.kp b__law_deeds .nil pass0 (pa_cons (pv 2) (pa_cons (pv 3) (pa_cons (pv 4) (pa_cons (pv 5) (pa_cons (pv 11) pa_nil)))))) (nomark _)) (pss_one (ps_ret pe_bl)) pss_nil)))))))))))))
      (pss_one (ps_ret pe_bl)))), ?_⟩
    refine w_st (σ' := [some (.ref a), none, none, none, none, none, none, none, none, none, none, none]) rfl ?_
    walk_at "ct"
    refine ⟨a, ns, rfl, hS, by omega, fun ms D H1 s1 nD ml hD => ?_⟩
    walk_at "ct"
    refine w_slL (.of hD) fun p np => ?_
    walk_at "ct"
    refine ⟨len2 rfl, fun p2 np2 => ?_⟩
    obtain ⟨cs, hcs, cl⟩ : ∃ cs : List Int, cutV (ms.map V.int) none (some 8) = cs.map V.int ∧ cs.length ≤ 63 := by
      refine ⟨_, cutV_map ms none (some 8), ?_⟩
      have := cutV_length (ms.map V.int) none (some 8)
      rw [cutV_map, List.length_map, List.length_map] at this
      omega
    rw [hcs] at np2 ⊢
    refine ⟨p, p2, _, _, rfl, rfl, by rw [upd_ne (ne_of_none upd_same np2)]; exact upd_same, upd_same, ?_, fun p3 np3 => ?_⟩
    · rw [List.length_map]
      exact Nat.le_trans (show cs.length + 1 ≤ 64 by omega) (by decide)
    walk_at "ct"
    have hx : (cs.map V.int ++ [V.int 0]) = (cs ++ [0]).map V.int := by rw [List.map_append]; rfl
    rw [hx] at *
    refine w_IL (.of upd_same) ?_
    have hL : SqL K (upd (upd (upd H1 p (.lst (cs.map V.int))) p2 (.lst [.int 0])) p3 (.lst ((cs ++ [0]).map V.int))) p3 ((cs ++ [0]).map V.int) := .of upd_same
    have sHH : Same H (upd (upd (upd H1 p (.lst (cs.map V.int))) p2 (.lst [.int 0])) p3 (.lst ((cs ++ [0]).map V.int))) := ((s1.trans (same_upd np)).trans (same_upd np2)).trans (same_upd np3)
    generalize upd (upd (upd H1 p _) p2 _) p3 _ = HH at *
    refine fb_list ((cs ++ [0]).map V.int) (fun n σ H' => ∃ y1 y2 y3 y4 y5 y6 y7 y8 y9 y10 y11, σ = [some (.ref D), y1, y2, y3, y4, y5, y6, y7, y8, y9, y10, y11] ∧ Same HH H') ⟨none, none, none, none, none, none, none, none, none, none, none, rfl, Same.refl _⟩ ?_ ?_ ?_
    · rintro n σ H' hn ⟨y1, y2, y3, y4, y5, y6, y7, y8, y9, y10, y11, rfl, sm⟩
      exact sm.seq hL
    · rintro n x σ H' hx ⟨y1, y2, y3, y4, y5, y6, y7, y8, y9, y10, y11, rfl, sm⟩
      obtain ⟨c, rfl⟩ : ∃ c : Int, x = .int c := by
        obtain ⟨k, _, rfl⟩ := List.mem_map.mp (List.mem_of_getElem? hx)
        exact ⟨k, rfl⟩
      walk_at "ct"
      refine ⟨c, 20, rfl, by decide, by decide, fun n1 _ _ => ?_⟩
      walk_at "ct"
      refine w_mod (by decide) fun r1 r10 r11 => ?_
      walk_at "ct"
      refine ⟨c, 0, _, 8, 500, rfl, by decide, by decide, by omega, by omega, by decide, by decide, by decide, fun ps xs ta tx g1 wa H2 s2 na ha da hxs hg1 oa sx la _ => ?_⟩
      refine w_gtup (.of hg1) rfl ?_
      walk_at "ct"
      refine ⟨c, 21, rfl, by decide, by decide, fun n2 _ _ => ?_⟩
      walk_at "ct"
      refine w_mod (by decide) fun r2 r20 r21 => ?_
      walk_at "ct"
      refine ⟨c, 6, _, 8, 500, rfl, by decide, by decide, by omega, by omega, by decide, by decide, by decide, fun qs ys tb ty g2 wb H3 s3 nb hb db hys hg2 ob sy lb _ => ?_⟩
      refine w_gtup (.of hg2) rfl ?_
      walk_at "ct"
      refine ⟨c, 22, rfl, by decide, by decide, fun n3 _ _ => ?_⟩
      walk_at "ct"
      refine w_mod (by decide) fun r3 r30 r31 => ?_
      walk_at "ct"
      refine ⟨c, 12, _, 8, 500, rfl, by decide, by decide, by omega, by omega, by decide, by decide, by decide, fun rs zs tc tz g3 wc H4 s4 nc hc dc hzs hg3 oc sz lc _ => ?_⟩
      refine w_gtup (.of hg3) rfl ?_
      walk_at "ct"
      refine ⟨c, 30, rfl, by decide, by decide, fun ss l H5 s5 nl hl hss hsl => ?_⟩
      have s25 := s3.trans (s4.trans s5)
      have s35 := s4.trans s5
      have ha := s25 _ _ ha
      have da := dpAll_same s25 da
      have hxs := Same.tup s25 hxs
      have hb := s35 _ _ hb
      have db := dpAll_same s35 db
      have hys := Same.tup s35 hys
      have hc := s5 _ _ hc
      have dc := dpAll_same s5 dc
      have hzs := Same.tup s5 hzs
      have hTb5 : Tb T H5 := hTb.same ((sHH.trans sm).trans (s2.trans s25))
      have sH5 : Same HH H5 := sm.trans (s2.trans s25)
      clear hTb s2 s3 s4 s5 s25 s35 hg1 hg2 hg3
      walk_at "ct"
      have oab : ∀ p ∈ ps ++ qs, p.ok := fun p hp => by
        rcases List.mem_append.mp hp with hp | hp
        · exact oa p hp
        · exact ob p hp
      have obc : ∀ p ∈ qs ++ rs, p.ok := fun p hp => by
        rcases List.mem_append.mp hp with hp | hp
        · exact ob p hp
        · exact oc p hp
      have lax := standL_of oa sx
      have lby := standL_of ob sy
      have lcz := standL_of oc sz
      refine ⟨ta, tb, ps, qs, wa, wb, rfl, ha, hb, da, db, oa, ob, by omega, by omega, by omega, fun jb H6 s6 njb hjb => ?_⟩
      have djb : DpAll K H6 (wa ++ wb) ((ps ++ qs).map Part.data) := by
        rw [List.map_append]
        exact dpAll_app (dpAll_same s6 da) (dpAll_same s6 db)
      walk_at "ct"
      refine ⟨ta, tx, tb, ty, ps, qs, xs, ys, rfl, ⟨wa, .of (s6 _ _ ha), dpAll_same s6 da⟩, ⟨wb, .of (s6 _ _ hb), dpAll_same s6 db⟩, oa, ob, by omega, by omega, by omega, Same.tup s6 hxs, Same.tup s6 hys, sx, sy, fun tg H7 s7 ntg htg => ?_⟩
      have s57 := s6.trans s7
      have hjb := s7 _ _ hjb
      have djb := dpAll_same s7 djb
      have ha := s57 _ _ ha
      have da := dpAll_same s57 da
      have hxs := Same.tup s57 hxs
      have hb := s57 _ _ hb
      have db := dpAll_same s57 db
      have hys := Same.tup s57 hys
      have hc := s57 _ _ hc
      have dc := dpAll_same s57 dc
      have hzs := Same.tup s57 hzs
      have hl := s57 _ _ hl
      have hTb7 := hTb5.same s57
      have sH7 := sH5.trans s57
      clear hTb5 s6 s7 s57 sH5
      walk_at "ct"
      refine ⟨ta, tx, tb, ty, l, ps, qs, xs, ys, ss, wa, wb, rfl, ha, hb, da, db, oa, ob, by omega, by omega, by omega, hxs, hys, sx, sy, .of hl, hss, by omega, hTb7, fun H8 s8 => ?_⟩
      walk_at "ct"
      have lab : (ps ++ qs).length = ps.length + qs.length := List.length_append
      have lbc : (qs ++ rs).length = qs.length + rs.length := List.length_append
      refine ⟨jb, tg, tc, tz, l, ps ++ qs, rs, xs ++ ys, zs, ss, wa ++ wb, wc, rfl, s8 _ _ hjb, s8 _ _ hc, dpAll_same s8 djb, dpAll_same s8 dc, oab, oc, by omega, by omega, by omega, .of (s8 _ _ htg), Same.tup s8 hzs, (standL_app lax lby).ok, sz, .of (s8 _ _ hl), hss, by omega, hTb7.same s8, fun H9 s9 => ?_⟩
      walk_at "ct"
      have s79 := s8.trans s9
      refine ⟨tb, tc, qs, rs, wb, wc, rfl, s79 _ _ hb, s79 _ _ hc, dpAll_same s79 db, dpAll_same s79 dc, ob, oc, by omega, by omega, by omega, fun jc H10 s10 njc hjc => ?_⟩
      have s7a := s79.trans s10
      walk_at "ct"
      refine ⟨tb, ty, tc, tz, qs, rs, ys, zs, rfl, ⟨wb, .of (s7a _ _ hb), dpAll_same s7a db⟩, ⟨wc, .of (s7a _ _ hc), dpAll_same s7a dc⟩, ob, oc, by omega, by omega, by omega, Same.tup s7a hys, Same.tup s7a hzs, sy, sz, fun th H11 s11 nth hth => ?_⟩
      have s7b := s7a.trans s11
      walk_at "ct"
      refine ⟨ta, tx, jc, th, l, ps, qs ++ rs, xs, ys ++ zs, ss, wa, wb ++ wc, rfl, s7b _ _ ha, s11 _ _ hjc, dpAll_same s7b da, by rw [List.map_append]; exact dpAll_app (dpAll_same s7b db) (dpAll_same s7b dc), oa, obc, by omega, by omega, by omega, Same.tup s7b hxs, .of hth, sx, (standL_app lby lcz).ok, .of (s7b _ _ hl), hss, by omega, hTb7.same s7b, fun H12 s12 => ?_⟩
      have s7c := s7b.trans s12
      walk_at "ct"
      refine ⟨jb, tc, ps ++ qs, rs, wa ++ wb, wc, rfl, s7c _ _ hjb, s7c _ _ hc, dpAll_same s7c djb, dpAll_same s7c dc, oab, oc, by omega, by omega, by omega, fun k1 H13 s13 nk1 hk1 => ?_⟩
      have s7d := s7c.trans s13
      walk_at "ct"
      refine ⟨tb, tc, qs, rs, wb, wc, rfl, s7d _ _ hb, s7d _ _ hc, dpAll_same s7d db, dpAll_same s7d dc, ob, oc, by omega, by omega, by omega, fun k2 H14 s14 nk2 hk2 => ?_⟩
      have s7e := s7d.trans s14
      walk_at "ct"
      refine ⟨ta, k2, ps, qs ++ rs, wa, wb ++ wc, rfl, s7e _ _ ha, hk2, dpAll_same s7e da, by rw [List.map_append]; exact dpAll_app (dpAll_same s7e db) (dpAll_same s7e dc), oa, obc, by omega, by omega, by omega, fun k3 H15 s15 nk3 hk3 => ?_⟩
      have s7f := s7e.trans s15
      refine w_neSame (.list ((ps ++ qs ++ rs).map Part.data)) (.lst (.of ((s14.trans s15) _ _ hk1)) (by rw [List.map_append]; exact dpAll_app (dpAll_same s7f djb) (dpAll_same s7f dc))) (.lst (.of hk3) (by rw [List.append_assoc, List.map_append, List.map_append]; exact dpAll_app (dpAll_same s7f da) (dpAll_app (dpAll_same s7f db) (dpAll_same s7f dc)))) (lay_train _) (by decide) ?_
      walk_at "ct"
      refine ⟨jb, _, rfl, .inl (.of (s7f _ _ hjb)), ?_⟩
      have lw : (wa ++ wb).length = ps.length + qs.length := by rw [dpAll_len djb, List.length_map, lab]
      rw [lw]
      walk_at "ct"
      refine ⟨c, 60, ps.length + qs.length, rfl, by decide, by decide, by omega, by omega, fun ds b ws H16 s16 nb hbw hdd hdok hdl => ?_⟩
      have s7g := s7f.trans s16
      walk_at "ct"
      refine ⟨jb, tg, b, ps ++ qs, xs ++ ys, ds, rfl, ⟨_, .of (s7g _ _ hjb), dpAll_same s7g djb⟩, standL_app lax lby, by omega, by omega, .of (s7g _ _ htg), ⟨ws, .of hbw, hdd⟩, by rw [lab]; exact hdok, fun g4 u4 H17 s17 _ _ hu4 hg4 => ?_⟩
      have s7h := s7g.trans s17
      walk_at "ct"
      refine ⟨ta, tx, tb, ty, b, ps, qs, xs, ys, ds, rfl, ⟨wa, .of (s7h _ _ ha), dpAll_same s7h da⟩, ⟨wb, .of (s7h _ _ hb), dpAll_same s7h db⟩, lax, lby, by omega, by omega, by omega, Same.tup s7h hxs, Same.tup s7h hys, ⟨ws, .of (s17 _ _ hbw), dpAll_same s17 hdd⟩, hdok, by omega, fun g5 u5 H18 s18 hu5 hg5 => ?_⟩
      refine w_neSame (.tuple [.tuple ((rowL (ps ++ qs) ds (xs ++ ys, 0)).1.map PyData.int), .int (rowL (ps ++ qs) ds (xs ++ ys, 0)).2]) (told_dp (.of (s18 _ _ hg4)) (.of (s18 _ _ hu4))) (told_dp (.of hg5) hu5) (lay_told _ _) (by decide) ?_
      walk_at "ct"
      exact ⟨_, _, _, _, _, _, _, _, _, _, _, rfl, sH7.trans (s7h.trans s18)⟩
    · rintro σ H' ⟨y1, y2, y3, y4, y5, y6, y7, y8, y9, y10, y11, rfl, sm⟩
      walk_at "ct"
      exact q H' (sHH.trans sm)
end
theorem all_mk {l : PySem.W.OpenLaw} {w : World} {K : PySem.W.Frag} {h : Heap} {mg : Str → Option Value} {fa : Addr} (X : K.In h) (G : h.Ns mainGlobals mg) (hfa : mg "law" = some (.ref fa))
    {f_is_whole : Addr} {od0 an0 : Option Addr} {sl0 : Array (Option Value)} {oc0 kV0 dc0 pm0 cd0 ct0 : Value}
    (a0 : PySem.W.nsIn K mainGlobals "is_whole" = some (some (.ref f_is_whole))) (l0 : K.lookup f_is_whole = some ⟨oc0, od0, .func (PySem.W.fnOf "is_whole" "is_whole" (defArgs S_is_whole) (defBody S_is_whole) (defScope S_is_whole) .none kV0 dc0 pm0 an0 cd0 ct0), sl0⟩) (c0 : PySem.W.codeIn K cd0 "is_whole" = true) (k0 : PySem.W.keepIn K (.ref f_is_whole) = true)
    {f_are_marks : Addr} {od1 an1 : Option Addr} {sl1 : Array (Option Value)} {oc1 kV1 dc1 pm1 cd1 ct1 : Value}
    (a1 : PySem.W.nsIn K mainGlobals "are_marks" = some (some (.ref f_are_marks))) (l1 : K.lookup f_are_marks = some ⟨oc1, od1, .func (PySem.W.fnOf "are_marks" "are_marks" (defArgs S_are_marks) (defBody S_are_marks) (defScope S_are_marks) .none kV1 dc1 pm1 an1 cd1 ct1), sl1⟩) (c1 : PySem.W.codeIn K cd1 "are_marks" = true) (k1 : PySem.W.keepIn K (.ref f_are_marks) = true)
    {f_is_part : Addr} {od2 an2 : Option Addr} {sl2 : Array (Option Value)} {oc2 kV2 dc2 pm2 cd2 ct2 : Value}
    (a2 : PySem.W.nsIn K mainGlobals "is_part" = some (some (.ref f_is_part))) (l2 : K.lookup f_is_part = some ⟨oc2, od2, .func (PySem.W.fnOf "is_part" "is_part" (defArgs S_is_part) (defBody S_is_part) (defScope S_is_part) .none kV2 dc2 pm2 an2 cd2 ct2), sl2⟩) (c2 : PySem.W.codeIn K cd2 "is_part" = true) (k2 : PySem.W.keepIn K (.ref f_is_part) = true)
    {f_check_train : Addr} {od3 an3 : Option Addr} {sl3 : Array (Option Value)} {oc3 kV3 dc3 pm3 cd3 ct3 : Value}
    (a3 : PySem.W.nsIn K mainGlobals "check_train" = some (some (.ref f_check_train))) (l3 : K.lookup f_check_train = some ⟨oc3, od3, .func (PySem.W.fnOf "check_train" "check_train" (defArgs S_check_train) (defBody S_check_train) (defScope S_check_train) .none kV3 dc3 pm3 an3 cd3 ct3), sl3⟩) (c3 : PySem.W.codeIn K cd3 "check_train" = true) (k3 : PySem.W.keepIn K (.ref f_check_train) = true)
    {f_place_count : Addr} {od4 an4 : Option Addr} {sl4 : Array (Option Value)} {oc4 kV4 dc4 pm4 cd4 ct4 : Value}
    (a4 : PySem.W.nsIn K mainGlobals "place_count" = some (some (.ref f_place_count))) (l4 : K.lookup f_place_count = some ⟨oc4, od4, .func (PySem.W.fnOf "place_count" "place_count" (defArgs S_place_count) (defBody S_place_count) (defScope S_place_count) .none kV4 dc4 pm4 an4 cd4 ct4), sl4⟩) (c4 : PySem.W.codeIn K cd4 "place_count" = true) (k4 : PySem.W.keepIn K (.ref f_place_count) = true)
    {f_is_stand : Addr} {od5 an5 : Option Addr} {sl5 : Array (Option Value)} {oc5 kV5 dc5 pm5 cd5 ct5 : Value}
    (a5 : PySem.W.nsIn K mainGlobals "is_stand" = some (some (.ref f_is_stand))) (l5 : K.lookup f_is_stand = some ⟨oc5, od5, .func (PySem.W.fnOf "is_stand" "is_stand" (defArgs S_is_stand) (defBody S_is_stand) (defScope S_is_stand) .none kV5 dc5 pm5 an5 cd5 ct5), sl5⟩) (c5 : PySem.W.codeIn K cd5 "is_stand" = true) (k5 : PySem.W.keepIn K (.ref f_is_stand) = true)
    {f_check_stand : Addr} {od6 an6 : Option Addr} {sl6 : Array (Option Value)} {oc6 kV6 dc6 pm6 cd6 ct6 : Value}
    (a6 : PySem.W.nsIn K mainGlobals "check_stand" = some (some (.ref f_check_stand))) (l6 : K.lookup f_check_stand = some ⟨oc6, od6, .func (PySem.W.fnOf "check_stand" "check_stand" (defArgs S_check_stand) (defBody S_check_stand) (defScope S_check_stand) .none kV6 dc6 pm6 an6 cd6 ct6), sl6⟩) (c6 : PySem.W.codeIn K cd6 "check_stand" = true) (k6 : PySem.W.keepIn K (.ref f_check_stand) = true)
    {f_is_way : Addr} {od7 an7 : Option Addr} {sl7 : Array (Option Value)} {oc7 kV7 dc7 pm7 cd7 ct7 : Value}
    (a7 : PySem.W.nsIn K mainGlobals "is_way" = some (some (.ref f_is_way))) (l7 : K.lookup f_is_way = some ⟨oc7, od7, .func (PySem.W.fnOf "is_way" "is_way" (defArgs S_is_way) (defBody S_is_way) (defScope S_is_way) .none kV7 dc7 pm7 an7 cd7 ct7), sl7⟩) (c7 : PySem.W.codeIn K cd7 "is_way" = true) (k7 : PySem.W.keepIn K (.ref f_is_way) = true)
    {f_wheel_pushed : Addr} {od8 an8 : Option Addr} {sl8 : Array (Option Value)} {oc8 kV8 dc8 pm8 cd8 ct8 : Value}
    (a8 : PySem.W.nsIn K mainGlobals "wheel_pushed" = some (some (.ref f_wheel_pushed))) (l8 : K.lookup f_wheel_pushed = some ⟨oc8, od8, .func (PySem.W.fnOf "wheel_pushed" "wheel_pushed" (defArgs S_wheel_pushed) (defBody S_wheel_pushed) (defScope S_wheel_pushed) .none kV8 dc8 pm8 an8 cd8 ct8), sl8⟩) (c8 : PySem.W.codeIn K cd8 "wheel_pushed" = true) (k8 : PySem.W.keepIn K (.ref f_wheel_pushed) = true)
    {f_rocker_pushed : Addr} {od9 an9 : Option Addr} {sl9 : Array (Option Value)} {oc9 kV9 dc9 pm9 cd9 ct9 : Value}
    (a9 : PySem.W.nsIn K mainGlobals "rocker_pushed" = some (some (.ref f_rocker_pushed))) (l9 : K.lookup f_rocker_pushed = some ⟨oc9, od9, .func (PySem.W.fnOf "rocker_pushed" "rocker_pushed" (defArgs S_rocker_pushed) (defBody S_rocker_pushed) (defScope S_rocker_pushed) .none kV9 dc9 pm9 an9 cd9 ct9), sl9⟩) (c9 : PySem.W.codeIn K cd9 "rocker_pushed" = true) (k9 : PySem.W.keepIn K (.ref f_rocker_pushed) = true)
    {f_spring_pushed : Addr} {od10 an10 : Option Addr} {sl10 : Array (Option Value)} {oc10 kV10 dc10 pm10 cd10 ct10 : Value}
    (a10 : PySem.W.nsIn K mainGlobals "spring_pushed" = some (some (.ref f_spring_pushed))) (l10 : K.lookup f_spring_pushed = some ⟨oc10, od10, .func (PySem.W.fnOf "spring_pushed" "spring_pushed" (defArgs S_spring_pushed) (defBody S_spring_pushed) (defScope S_spring_pushed) .none kV10 dc10 pm10 an10 cd10 ct10), sl10⟩) (c10 : PySem.W.codeIn K cd10 "spring_pushed" = true) (k10 : PySem.W.keepIn K (.ref f_spring_pushed) = true)
    {f_part_pushed : Addr} {od11 an11 : Option Addr} {sl11 : Array (Option Value)} {oc11 kV11 dc11 pm11 cd11 ct11 : Value}
    (a11 : PySem.W.nsIn K mainGlobals "part_pushed" = some (some (.ref f_part_pushed))) (l11 : K.lookup f_part_pushed = some ⟨oc11, od11, .func (PySem.W.fnOf "part_pushed" "part_pushed" (defArgs S_part_pushed) (defBody S_part_pushed) (defScope S_part_pushed) .none kV11 dc11 pm11 an11 cd11 ct11), sl11⟩) (c11 : PySem.W.codeIn K cd11 "part_pushed" = true) (k11 : PySem.W.keepIn K (.ref f_part_pushed) = true)
    {f_pushed : Addr} {od12 an12 : Option Addr} {sl12 : Array (Option Value)} {oc12 kV12 dc12 pm12 cd12 ct12 : Value}
    (a12 : PySem.W.nsIn K mainGlobals "pushed" = some (some (.ref f_pushed))) (l12 : K.lookup f_pushed = some ⟨oc12, od12, .func (PySem.W.fnOf "pushed" "pushed" (defArgs S_pushed) (defBody S_pushed) (defScope S_pushed) .none kV12 dc12 pm12 an12 cd12 ct12), sl12⟩) (c12 : PySem.W.codeIn K cd12 "pushed" = true) (k12 : PySem.W.keepIn K (.ref f_pushed) = true)
    {f_is_deed : Addr} {od13 an13 : Option Addr} {sl13 : Array (Option Value)} {oc13 kV13 dc13 pm13 cd13 ct13 : Value}
    (a13 : PySem.W.nsIn K mainGlobals "is_deed" = some (some (.ref f_is_deed))) (l13 : K.lookup f_is_deed = some ⟨oc13, od13, .func (PySem.W.fnOf "is_deed" "is_deed" (defArgs S_is_deed) (defBody S_is_deed) (defScope S_is_deed) .none kV13 dc13 pm13 an13 cd13 ct13), sl13⟩) (c13 : PySem.W.codeIn K cd13 "is_deed" = true) (k13 : PySem.W.keepIn K (.ref f_is_deed) = true)
    {f_check_row : Addr} {od14 an14 : Option Addr} {sl14 : Array (Option Value)} {oc14 kV14 dc14 pm14 cd14 ct14 : Value}
    (a14 : PySem.W.nsIn K mainGlobals "check_row" = some (some (.ref f_check_row))) (l14 : K.lookup f_check_row = some ⟨oc14, od14, .func (PySem.W.fnOf "check_row" "check_row" (defArgs S_check_row) (defBody S_check_row) (defScope S_check_row) .none kV14 dc14 pm14 an14 cd14 ct14), sl14⟩) (c14 : PySem.W.codeIn K cd14 "check_row" = true) (k14 : PySem.W.keepIn K (.ref f_check_row) = true)
    {f_marks_up_to : Addr} {od15 an15 : Option Addr} {sl15 : Array (Option Value)} {oc15 kV15 dc15 pm15 cd15 ct15 : Value}
    (a15 : PySem.W.nsIn K mainGlobals "marks_up_to" = some (some (.ref f_marks_up_to))) (l15 : K.lookup f_marks_up_to = some ⟨oc15, od15, .func (PySem.W.fnOf "marks_up_to" "marks_up_to" (defArgs S_marks_up_to) (defBody S_marks_up_to) (defScope S_marks_up_to) .none kV15 dc15 pm15 an15 cd15 ct15), sl15⟩) (c15 : PySem.W.codeIn K cd15 "marks_up_to" = true) (k15 : PySem.W.keepIn K (.ref f_marks_up_to) = true)
    {f_marks_ahead : Addr} {od16 an16 : Option Addr} {sl16 : Array (Option Value)} {oc16 kV16 dc16 pm16 cd16 ct16 : Value}
    (a16 : PySem.W.nsIn K mainGlobals "marks_ahead" = some (some (.ref f_marks_ahead))) (l16 : K.lookup f_marks_ahead = some ⟨oc16, od16, .func (PySem.W.fnOf "marks_ahead" "marks_ahead" (defArgs S_marks_ahead) (defBody S_marks_ahead) (defScope S_marks_ahead) .none kV16 dc16 pm16 an16 cd16 ct16), sl16⟩) (c16 : PySem.W.codeIn K cd16 "marks_ahead" = true) (k16 : PySem.W.keepIn K (.ref f_marks_ahead) = true)
    {f_wheel_turned : Addr} {od17 an17 : Option Addr} {sl17 : Array (Option Value)} {oc17 kV17 dc17 pm17 cd17 ct17 : Value}
    (a17 : PySem.W.nsIn K mainGlobals "wheel_turned" = some (some (.ref f_wheel_turned))) (l17 : K.lookup f_wheel_turned = some ⟨oc17, od17, .func (PySem.W.fnOf "wheel_turned" "wheel_turned" (defArgs S_wheel_turned) (defBody S_wheel_turned) (defScope S_wheel_turned) .none kV17 dc17 pm17 an17 cd17 ct17), sl17⟩) (c17 : PySem.W.codeIn K cd17 "wheel_turned" = true) (k17 : PySem.W.keepIn K (.ref f_wheel_turned) = true)
    {f_rocker_turned : Addr} {od18 an18 : Option Addr} {sl18 : Array (Option Value)} {oc18 kV18 dc18 pm18 cd18 ct18 : Value}
    (a18 : PySem.W.nsIn K mainGlobals "rocker_turned" = some (some (.ref f_rocker_turned))) (l18 : K.lookup f_rocker_turned = some ⟨oc18, od18, .func (PySem.W.fnOf "rocker_turned" "rocker_turned" (defArgs S_rocker_turned) (defBody S_rocker_turned) (defScope S_rocker_turned) .none kV18 dc18 pm18 an18 cd18 ct18), sl18⟩) (c18 : PySem.W.codeIn K cd18 "rocker_turned" = true) (k18 : PySem.W.keepIn K (.ref f_rocker_turned) = true)
    {f_spring_turned : Addr} {od19 an19 : Option Addr} {sl19 : Array (Option Value)} {oc19 kV19 dc19 pm19 cd19 ct19 : Value}
    (a19 : PySem.W.nsIn K mainGlobals "spring_turned" = some (some (.ref f_spring_turned))) (l19 : K.lookup f_spring_turned = some ⟨oc19, od19, .func (PySem.W.fnOf "spring_turned" "spring_turned" (defArgs S_spring_turned) (defBody S_spring_turned) (defScope S_spring_turned) .none kV19 dc19 pm19 an19 cd19 ct19), sl19⟩) (c19 : PySem.W.codeIn K cd19 "spring_turned" = true) (k19 : PySem.W.keepIn K (.ref f_spring_turned) = true)
    {f_part_turned : Addr} {od20 an20 : Option Addr} {sl20 : Array (Option Value)} {oc20 kV20 dc20 pm20 cd20 ct20 : Value}
    (a20 : PySem.W.nsIn K mainGlobals "part_turned" = some (some (.ref f_part_turned))) (l20 : K.lookup f_part_turned = some ⟨oc20, od20, .func (PySem.W.fnOf "part_turned" "part_turned" (defArgs S_part_turned) (defBody S_part_turned) (defScope S_part_turned) .none kV20 dc20 pm20 an20 cd20 ct20), sl20⟩) (c20 : PySem.W.codeIn K cd20 "part_turned" = true) (k20 : PySem.W.keepIn K (.ref f_part_turned) = true)
    {f_row_left : Addr} {od21 an21 : Option Addr} {sl21 : Array (Option Value)} {oc21 kV21 dc21 pm21 cd21 ct21 : Value}
    (a21 : PySem.W.nsIn K mainGlobals "row_left" = some (some (.ref f_row_left))) (l21 : K.lookup f_row_left = some ⟨oc21, od21, .func (PySem.W.fnOf "row_left" "row_left" (defArgs S_row_left) (defBody S_row_left) (defScope S_row_left) .none kV21 dc21 pm21 an21 cd21 ct21), sl21⟩) (c21 : PySem.W.codeIn K cd21 "row_left" = true) (k21 : PySem.W.keepIn K (.ref f_row_left) = true)
    {f_left : Addr} {od22 an22 : Option Addr} {sl22 : Array (Option Value)} {oc22 kV22 dc22 pm22 cd22 ct22 : Value}
    (a22 : PySem.W.nsIn K mainGlobals "left" = some (some (.ref f_left))) (l22 : K.lookup f_left = some ⟨oc22, od22, .func (PySem.W.fnOf "left" "left" (defArgs S_left) (defBody S_left) (defScope S_left) .none kV22 dc22 pm22 an22 cd22 ct22), sl22⟩) (c22 : PySem.W.codeIn K cd22 "left" = true) (k22 : PySem.W.keepIn K (.ref f_left) = true)
    {f_joined : Addr} {od23 an23 : Option Addr} {sl23 : Array (Option Value)} {oc23 kV23 dc23 pm23 cd23 ct23 : Value}
    (a23 : PySem.W.nsIn K mainGlobals "joined" = some (some (.ref f_joined))) (l23 : K.lookup f_joined = some ⟨oc23, od23, .func (PySem.W.fnOf "joined" "joined" (defArgs S_joined) (defBody S_joined) (defScope S_joined) .none kV23 dc23 pm23 an23 cd23 ct23), sl23⟩) (c23 : PySem.W.codeIn K cd23 "joined" = true) (k23 : PySem.W.keepIn K (.ref f_joined) = true)
    {f_together : Addr} {od24 an24 : Option Addr} {sl24 : Array (Option Value)} {oc24 kV24 dc24 pm24 cd24 ct24 : Value}
    (a24 : PySem.W.nsIn K mainGlobals "together" = some (some (.ref f_together))) (l24 : K.lookup f_together = some ⟨oc24, od24, .func (PySem.W.fnOf "together" "together" (defArgs S_together) (defBody S_together) (defScope S_together) .none kV24 dc24 pm24 an24 cd24 ct24), sl24⟩) (c24 : PySem.W.codeIn K cd24 "together" = true) (k24 : PySem.W.keepIn K (.ref f_together) = true)
    {f_parted : Addr} {od25 an25 : Option Addr} {sl25 : Array (Option Value)} {oc25 kV25 dc25 pm25 cd25 ct25 : Value}
    (a25 : PySem.W.nsIn K mainGlobals "parted" = some (some (.ref f_parted))) (l25 : K.lookup f_parted = some ⟨oc25, od25, .func (PySem.W.fnOf "parted" "parted" (defArgs S_parted) (defBody S_parted) (defScope S_parted) .none kV25 dc25 pm25 an25 cd25 ct25), sl25⟩) (c25 : PySem.W.codeIn K cd25 "parted" = true) (k25 : PySem.W.keepIn K (.ref f_parted) = true)
    {f_is_sign : Addr} {od26 an26 : Option Addr} {sl26 : Array (Option Value)} {oc26 kV26 dc26 pm26 cd26 ct26 : Value}
    (a26 : PySem.W.nsIn K mainGlobals "is_sign" = some (some (.ref f_is_sign))) (l26 : K.lookup f_is_sign = some ⟨oc26, od26, .func (PySem.W.fnOf "is_sign" "is_sign" (defArgs S_is_sign) (defBody S_is_sign) (defScope S_is_sign) .none kV26 dc26 pm26 an26 cd26 ct26), sl26⟩) (c26 : PySem.W.codeIn K cd26 "is_sign" = true) (k26 : PySem.W.keepIn K (.ref f_is_sign) = true)
    {f_fed : Addr} {od27 an27 : Option Addr} {sl27 : Array (Option Value)} {oc27 kV27 dc27 pm27 cd27 ct27 : Value}
    (a27 : PySem.W.nsIn K mainGlobals "fed" = some (some (.ref f_fed))) (l27 : K.lookup f_fed = some ⟨oc27, od27, .func (PySem.W.fnOf "fed" "fed" (defArgs S_fed) (defBody S_fed) (defScope S_fed) .none kV27 dc27 pm27 an27 cd27 ct27), sl27⟩) (c27 : PySem.W.codeIn K cd27 "fed" = true) (k27 : PySem.W.keepIn K (.ref f_fed) = true)
    {f__law_mix : Addr} {od28 an28 : Option Addr} {sl28 : Array (Option Value)} {oc28 kV28 dc28 pm28 cd28 ct28 : Value}
    (a28 : PySem.W.nsIn K mainGlobals "_law_mix" = some (some (.ref f__law_mix))) (l28 : K.lookup f__law_mix = some ⟨oc28, od28, .func (PySem.W.fnOf "_law_mix" "_law_mix" (defArgs S__law_mix) (defBody S__law_mix) (defScope S__law_mix) .none kV28 dc28 pm28 an28 cd28 ct28), sl28⟩) (c28 : PySem.W.codeIn K cd28 "_law_mix" = true) (k28 : PySem.W.keepIn K (.ref f__law_mix) = true)
    {f__law_digit : Addr} {od29 an29 : Option Addr} {sl29 : Array (Option Value)} {oc29 kV29 dc29 pm29 cd29 ct29 : Value}
    (a29 : PySem.W.nsIn K mainGlobals "_law_digit" = some (some (.ref f__law_digit))) (l29 : K.lookup f__law_digit = some ⟨oc29, od29, .func (PySem.W.fnOf "_law_digit" "_law_digit" (defArgs S__law_digit) (defBody S__law_digit) (defScope S__law_digit) .none kV29 dc29 pm29 an29 cd29 ct29), sl29⟩) (c29 : PySem.W.codeIn K cd29 "_law_digit" = true) (k29 : PySem.W.keepIn K (.ref f__law_digit) = true)
    {f__law_places : Addr} {od30 an30 : Option Addr} {sl30 : Array (Option Value)} {oc30 kV30 dc30 pm30 cd30 ct30 : Value}
    (a30 : PySem.W.nsIn K mainGlobals "_law_places" = some (some (.ref f__law_places))) (l30 : K.lookup f__law_places = some ⟨oc30, od30, .func (PySem.W.fnOf "_law_places" "_law_places" (defArgs S__law_places) (defBody S__law_places) (defScope S__law_places) .none kV30 dc30 pm30 an30 cd30 ct30), sl30⟩) (c30 : PySem.W.codeIn K cd30 "_law_places" = true) (k30 : PySem.W.keepIn K (.ref f__law_places) = true)
    {f__law_part : Addr} {od31 an31 : Option Addr} {sl31 : Array (Option Value)} {oc31 kV31 dc31 pm31 cd31 ct31 : Value}
    (a31 : PySem.W.nsIn K mainGlobals "_law_part" = some (some (.ref f__law_part))) (l31 : K.lookup f__law_part = some ⟨oc31, od31, .func (PySem.W.fnOf "_law_part" "_law_part" (defArgs S__law_part) (defBody S__law_part) (defScope S__law_part) .none kV31 dc31 pm31 an31 cd31 ct31), sl31⟩) (c31 : PySem.W.codeIn K cd31 "_law_part" = true) (k31 : PySem.W.keepIn K (.ref f__law_part) = true)
    {f__law_train : Addr} {od32 an32 : Option Addr} {sl32 : Array (Option Value)} {oc32 kV32 dc32 pm32 cd32 ct32 : Value}
    (a32 : PySem.W.nsIn K mainGlobals "_law_train" = some (some (.ref f__law_train))) (l32 : K.lookup f__law_train = some ⟨oc32, od32, .func (PySem.W.fnOf "_law_train" "_law_train" (defArgs S__law_train) (defBody S__law_train) (defScope S__law_train) .none kV32 dc32 pm32 an32 cd32 ct32), sl32⟩) (c32 : PySem.W.codeIn K cd32 "_law_train" = true) (k32 : PySem.W.keepIn K (.ref f__law_train) = true)
    {f__law_signs : Addr} {od33 an33 : Option Addr} {sl33 : Array (Option Value)} {oc33 kV33 dc33 pm33 cd33 ct33 : Value}
    (a33 : PySem.W.nsIn K mainGlobals "_law_signs" = some (some (.ref f__law_signs))) (l33 : K.lookup f__law_signs = some ⟨oc33, od33, .func (PySem.W.fnOf "_law_signs" "_law_signs" (defArgs S__law_signs) (defBody S__law_signs) (defScope S__law_signs) .none kV33 dc33 pm33 an33 cd33 ct33), sl33⟩) (c33 : PySem.W.codeIn K cd33 "_law_signs" = true) (k33 : PySem.W.keepIn K (.ref f__law_signs) = true)
    {f__law_row : Addr} {od34 an34 : Option Addr} {sl34 : Array (Option Value)} {oc34 kV34 dc34 pm34 cd34 ct34 : Value}
    (a34 : PySem.W.nsIn K mainGlobals "_law_row" = some (some (.ref f__law_row))) (l34 : K.lookup f__law_row = some ⟨oc34, od34, .func (PySem.W.fnOf "_law_row" "_law_row" (defArgs S__law_row) (defBody S__law_row) (defScope S__law_row) .none kV34 dc34 pm34 an34 cd34 ct34), sl34⟩) (c34 : PySem.W.codeIn K cd34 "_law_row" = true) (k34 : PySem.W.keepIn K (.ref f__law_row) = true)
    {f__law_deeds : Addr} {od35 an35 : Option Addr} {sl35 : Array (Option Value)} {oc35 kV35 dc35 pm35 cd35 ct35 : Value}
    (a35 : PySem.W.nsIn K mainGlobals "_law_deeds" = some (some (.ref f__law_deeds))) (l35 : K.lookup f__law_deeds = some ⟨oc35, od35, .func (PySem.W.fnOf "_law_deeds" "_law_deeds" (defArgs S__law_deeds) (defBody S__law_deeds) (defScope S__law_deeds) .none kV35 dc35 pm35 an35 cd35 ct35), sl35⟩) (c35 : PySem.W.codeIn K cd35 "_law_deeds" = true) (k35 : PySem.W.keepIn K (.ref f__law_deeds) = true)
    {f__law_two : Addr} {od36 an36 : Option Addr} {sl36 : Array (Option Value)} {oc36 kV36 dc36 pm36 cd36 ct36 : Value}
    (a36 : PySem.W.nsIn K mainGlobals "_law_two" = some (some (.ref f__law_two))) (l36 : K.lookup f__law_two = some ⟨oc36, od36, .func (PySem.W.fnOf "_law_two" "_law_two" (defArgs S__law_two) (defBody S__law_two) (defScope S__law_two) .none kV36 dc36 pm36 an36 cd36 ct36), sl36⟩) (c36 : PySem.W.codeIn K cd36 "_law_two" = true) (k36 : PySem.W.keepIn K (.ref f__law_two) = true)
    {f__law_cut : Addr} {od37 an37 : Option Addr} {sl37 : Array (Option Value)} {oc37 kV37 dc37 pm37 cd37 ct37 : Value}
    (a37 : PySem.W.nsIn K mainGlobals "_law_cut" = some (some (.ref f__law_cut))) (l37 : K.lookup f__law_cut = some ⟨oc37, od37, .func (PySem.W.fnOf "_law_cut" "_law_cut" (defArgs S__law_cut) (defBody S__law_cut) (defScope S__law_cut) .none kV37 dc37 pm37 an37 cd37 ct37), sl37⟩) (c37 : PySem.W.codeIn K cd37 "_law_cut" = true) (k37 : PySem.W.keepIn K (.ref f__law_cut) = true)
    {f_law : Addr} {od38 an38 : Option Addr} {sl38 : Array (Option Value)} {oc38 kV38 dc38 pm38 cd38 ct38 : Value}
    (a38 : PySem.W.nsIn K mainGlobals "law" = some (some (.ref f_law))) (l38 : K.lookup f_law = some ⟨oc38, od38, .func (PySem.W.fnOf "law" "law" (defArgs S_law) (defBody S_law) (defScope S_law) .none kV38 dc38 pm38 an38 cd38 ct38), sl38⟩) (c38 : PySem.W.codeIn K cd38 "law" = true) (k38 : PySem.W.keepIn K (.ref f_law) = true)
    (z0 : PySem.W.nsIn K mainGlobals "isinstance" = some none)
    (z1 : PySem.W.nsIn K mainGlobals "int" = some none)
    (z2 : PySem.W.nsIn K mainGlobals "bool" = some none)
    (z3 : PySem.W.nsIn K mainGlobals "tuple" = some none)
    (z4 : PySem.W.nsIn K mainGlobals "len" = some none)
    (z5 : PySem.W.nsIn K mainGlobals "list" = some none)
    (z6 : PySem.W.nsIn K mainGlobals "zip" = some none)
    (z7 : PySem.W.nsIn K mainGlobals "max" = some none)
    (z8 : PySem.W.nsIn K mainGlobals "range" = some none)
    (z9 : PySem.W.nsIn K mainGlobals "abs" = some none)
    (z10 : PySem.W.nsIn K mainGlobals "all" = some none)
    (tb_fed : tabOkB K cd27 = true)
    : LawAtX l w K 63 "_law_script" mg fa ["fed"] := by
  have e := hfa.symm.trans (PySem.W.mg_of X G a38)
  cases e
  have F_is_whole := fun_mk (st := S_is_whole) l0 c0 k0
  have F_are_marks := fun_mk (st := S_are_marks) l1 c1 k1
  have F_is_part := fun_mk (st := S_is_part) l2 c2 k2
  have F_check_train := fun_mk (st := S_check_train) l3 c3 k3
  have F_place_count := fun_mk (st := S_place_count) l4 c4 k4
  have F_is_stand := fun_mk (st := S_is_stand) l5 c5 k5
  have F_check_stand := fun_mk (st := S_check_stand) l6 c6 k6
  have F_is_way := fun_mk (st := S_is_way) l7 c7 k7
  have F_wheel_pushed := fun_mk (st := S_wheel_pushed) l8 c8 k8
  have F_rocker_pushed := fun_mk (st := S_rocker_pushed) l9 c9 k9
  have F_spring_pushed := fun_mk (st := S_spring_pushed) l10 c10 k10
  have F_part_pushed := fun_mk (st := S_part_pushed) l11 c11 k11
  have F_pushed := fun_mk (st := S_pushed) l12 c12 k12
  have F_is_deed := fun_mk (st := S_is_deed) l13 c13 k13
  have F_check_row := fun_mk (st := S_check_row) l14 c14 k14
  have F_marks_up_to := fun_mk (st := S_marks_up_to) l15 c15 k15
  have F_marks_ahead := fun_mk (st := S_marks_ahead) l16 c16 k16
  have F_wheel_turned := fun_mk (st := S_wheel_turned) l17 c17 k17
  have F_rocker_turned := fun_mk (st := S_rocker_turned) l18 c18 k18
  have F_spring_turned := fun_mk (st := S_spring_turned) l19 c19 k19
  have F_part_turned := fun_mk (st := S_part_turned) l20 c20 k20
  have F_row_left := fun_mk (st := S_row_left) l21 c21 k21
  have F_left := fun_mk (st := S_left) l22 c22 k22
  have F_joined := fun_mk (st := S_joined) l23 c23 k23
  have F_together := fun_mk (st := S_together) l24 c24 k24
  have F_parted := fun_mk (st := S_parted) l25 c25 k25
  have F_is_sign := fun_mk (st := S_is_sign) l26 c26 k26
  have F_fed := fun_mk (st := S_fed) l27 c27 k27
  have F__law_mix := fun_mk (st := S__law_mix) l28 c28 k28
  have F__law_digit := fun_mk (st := S__law_digit) l29 c29 k29
  have F__law_places := fun_mk (st := S__law_places) l30 c30 k30
  have F__law_part := fun_mk (st := S__law_part) l31 c31 k31
  have F__law_train := fun_mk (st := S__law_train) l32 c32 k32
  have F__law_signs := fun_mk (st := S__law_signs) l33 c33 k33
  have F__law_row := fun_mk (st := S__law_row) l34 c34 k34
  have F__law_deeds := fun_mk (st := S__law_deeds) l35 c35 k35
  have F__law_two := fun_mk (st := S__law_two) l36 c36 k36
  have F__law_cut := fun_mk (st := S__law_cut) l37 c37 k37
  have F_law := fun_mk (st := S_law) l38 c38 k38
  have m_isinstance := PySem.W.mg_none_of X G z0
  have m_int := PySem.W.mg_none_of X G z1
  have m_bool := PySem.W.mg_none_of X G z2
  have m_tuple := PySem.W.mg_none_of X G z3
  have m_len := PySem.W.mg_none_of X G z4
  have m_list := PySem.W.mg_none_of X G z5
  have m_zip := PySem.W.mg_none_of X G z6
  have m_max := PySem.W.mg_none_of X G z7
  have m_range := PySem.W.mg_none_of X G z8
  have m_abs := PySem.W.mg_none_of X G z9
  have m_all := PySem.W.mg_none_of X G z10
  have b_is_whole := F_is_whole.binds (ps := ["thing"]) fun _ _ _ _ _ _ us hl => match us, hl with | [_], _ => rfl
  have g_is_whole := PySem.W.mg_of X G a0
  have b_are_marks := F_are_marks.binds (ps := ["thing", "teeth"]) fun _ _ _ _ _ _ us hl => match us, hl with | [_, _], _ => rfl
  have g_are_marks := PySem.W.mg_of X G a1
  have b_is_part := F_is_part.binds (ps := ["thing"]) fun _ _ _ _ _ _ us hl => match us, hl with | [_], _ => rfl
  have g_is_part := PySem.W.mg_of X G a2
  have b_check_train := F_check_train.binds (ps := ["train"]) fun _ _ _ _ _ _ us hl => match us, hl with | [_], _ => rfl
  have g_check_train := PySem.W.mg_of X G a3
  have b_place_count := F_place_count.binds (ps := ["part"]) fun _ _ _ _ _ _ us hl => match us, hl with | [_], _ => rfl
  have g_place_count := PySem.W.mg_of X G a4
  have b_is_stand := F_is_stand.binds (ps := ["train", "thing"]) fun _ _ _ _ _ _ us hl => match us, hl with | [_, _], _ => rfl
  have g_is_stand := PySem.W.mg_of X G a5
  have b_check_stand := F_check_stand.binds (ps := ["train", "stand"]) fun _ _ _ _ _ _ us hl => match us, hl with | [_, _], _ => rfl
  have g_check_stand := PySem.W.mg_of X G a6
  have b_is_way := F_is_way.binds (ps := ["thing"]) fun _ _ _ _ _ _ us hl => match us, hl with | [_], _ => rfl
  have g_is_way := PySem.W.mg_of X G a7
  have b_wheel_pushed := F_wheel_pushed.binds (ps := ["part", "place", "way"]) fun _ _ _ _ _ _ us hl => match us, hl with | [_, _, _], _ => rfl
  have g_wheel_pushed := PySem.W.mg_of X G a8
  have b_rocker_pushed := F_rocker_pushed.binds (ps := ["place", "way"]) fun _ _ _ _ _ _ us hl => match us, hl with | [_, _], _ => rfl
  have g_rocker_pushed := PySem.W.mg_of X G a9
  have b_spring_pushed := F_spring_pushed.binds (ps := ["part", "place", "way"]) fun _ _ _ _ _ _ us hl => match us, hl with | [_, _, _], _ => rfl
  have g_spring_pushed := PySem.W.mg_of X G a10
  have b_part_pushed := F_part_pushed.binds (ps := ["part", "place", "way"]) fun _ _ _ _ _ _ us hl => match us, hl with | [_, _, _], _ => rfl
  have g_part_pushed := PySem.W.mg_of X G a11
  have b_pushed := F_pushed.binds (ps := ["train", "stand", "i", "way"]) fun _ _ _ _ _ _ us hl => match us, hl with | [_, _, _, _], _ => rfl
  have g_pushed := PySem.W.mg_of X G a12
  have b_is_deed := F_is_deed.binds (ps := ["thing", "parts"]) fun _ _ _ _ _ _ us hl => match us, hl with | [_, _], _ => rfl
  have g_is_deed := PySem.W.mg_of X G a13
  have b_check_row := F_check_row.binds (ps := ["train", "row"]) fun _ _ _ _ _ _ us hl => match us, hl with | [_, _], _ => rfl
  have g_check_row := PySem.W.mg_of X G a14
  have b_marks_up_to := F_marks_up_to.binds (ps := ["marks", "place"]) fun _ _ _ _ _ _ us hl => match us, hl with | [_, _], _ => rfl
  have g_marks_up_to := PySem.W.mg_of X G a15
  have b_marks_ahead := F_marks_ahead.binds (ps := ["part", "tooth"]) fun _ _ _ _ _ _ us hl => match us, hl with | [_, _], _ => rfl
  have g_marks_ahead := PySem.W.mg_of X G a16
  have b_wheel_turned := F_wheel_turned.binds (ps := ["part", "place", "way", "times"]) fun _ _ _ _ _ _ us hl => match us, hl with | [_, _, _, _], _ => rfl
  have g_wheel_turned := PySem.W.mg_of X G a17
  have b_rocker_turned := F_rocker_turned.binds (ps := ["place", "way", "times"]) fun _ _ _ _ _ _ us hl => match us, hl with | [_, _, _], _ => rfl
  have g_rocker_turned := PySem.W.mg_of X G a18
  have b_spring_turned := F_spring_turned.binds (ps := ["part", "place", "way", "times"]) fun _ _ _ _ _ _ us hl => match us, hl with | [_, _, _, _], _ => rfl
  have g_spring_turned := PySem.W.mg_of X G a19
  have b_part_turned := F_part_turned.binds (ps := ["part", "place", "way", "times"]) fun _ _ _ _ _ _ us hl => match us, hl with | [_, _, _, _], _ => rfl
  have g_part_turned := PySem.W.mg_of X G a20
  have b_row_left := F_row_left.binds (ps := ["train", "stand", "row"]) fun _ _ _ _ _ _ us hl => match us, hl with | [_, _, _], _ => rfl
  have g_row_left := PySem.W.mg_of X G a21
  have b_left := F_left.binds (ps := ["train", "stand", "row"]) fun _ _ _ _ _ _ us hl => match us, hl with | [_, _, _], _ => rfl
  have g_left := PySem.W.mg_of X G a22
  have b_joined := F_joined.binds (ps := ["one", "other"]) fun _ _ _ _ _ _ us hl => match us, hl with | [_, _], _ => rfl
  have g_joined := PySem.W.mg_of X G a23
  have b_together := F_together.binds (ps := ["one", "here", "other", "there"]) fun _ _ _ _ _ _ us hl => match us, hl with | [_, _, _, _], _ => rfl
  have g_together := PySem.W.mg_of X G a24
  have b_parted := F_parted.binds (ps := ["one", "other", "stand"]) fun _ _ _ _ _ _ us hl => match us, hl with | [_, _, _], _ => rfl
  have g_parted := PySem.W.mg_of X G a25
  have b_is_sign := F_is_sign.binds (ps := ["thing"]) fun _ _ _ _ _ _ us hl => match us, hl with | [_], _ => rfl
  have g_is_sign := PySem.W.mg_of X G a26
  have b_fed := F_fed.binds (ps := ["train", "stand", "signs"]) fun _ _ _ _ _ _ us hl => match us, hl with | [_, _, _], _ => rfl
  have g_fed := PySem.W.mg_of X G a27
  have b__law_mix := F__law_mix.binds (ps := ["_law_cell", "_law_k"]) fun _ _ _ _ _ _ us hl => match us, hl with | [_, _], _ => rfl
  have g__law_mix := PySem.W.mg_of X G a28
  have b__law_digit := F__law_digit.binds (ps := ["_law_number", "_law_by", "_law_k"]) fun _ _ _ _ _ _ us hl => match us, hl with | [_, _, _], _ => rfl
  have g__law_digit := PySem.W.mg_of X G a29
  have b__law_places := F__law_places.binds (ps := ["_law_part_here"]) fun _ _ _ _ _ _ us hl => match us, hl with | [_], _ => rfl
  have g__law_places := PySem.W.mg_of X G a30
  have b__law_part := F__law_part.binds (ps := ["_law_pick", "_law_most"]) fun _ _ _ _ _ _ us hl => match us, hl with | [_, _], _ => rfl
  have g__law_part := PySem.W.mg_of X G a31
  have b__law_train := F__law_train.binds (ps := ["_law_cell", "_law_place", "_law_many", "_law_most", "_law_room"]) fun _ _ _ _ _ _ us hl => match us, hl with | [_, _, _, _, _], _ => rfl
  have g__law_train := PySem.W.mg_of X G a32
  have b__law_signs := F__law_signs.binds (ps := ["_law_cell", "_law_place"]) fun _ _ _ _ _ _ us hl => match us, hl with | [_, _], _ => rfl
  have g__law_signs := PySem.W.mg_of X G a33
  have b__law_row := F__law_row.binds (ps := ["_law_cell", "_law_place", "_law_many"]) fun _ _ _ _ _ _ us hl => match us, hl with | [_, _, _], _ => rfl
  have g__law_row := PySem.W.mg_of X G a34
  have b__law_deeds := F__law_deeds.binds (ps := ["_law_one", "_law_here", "_law_other", "_law_there", "_law_row_here"]) fun _ _ _ _ _ _ us hl => match us, hl with | [_, _, _, _, _], _ => rfl
  have g__law_deeds := PySem.W.mg_of X G a35
  have b__law_two := F__law_two.binds (ps := ["_law_one", "_law_here", "_law_other", "_law_there", "_law_signs_here"]) fun _ _ _ _ _ _ us hl => match us, hl with | [_, _, _, _, _], _ => rfl
  have g__law_two := PySem.W.mg_of X G a36
  have b__law_cut := F__law_cut.binds (ps := ["_law_script"]) fun _ _ _ _ _ _ us hl => match us, hl with | [_], _ => rfl
  have g__law_cut := PySem.W.mg_of X G a37
  refine ⟨PySem.W.fnOf "law" "law" (defArgs S_law) (defBody S_law) (defScope S_law) .none kV38 dc38 pm38 an38 cd38 ct38, [("fed", cd27)], sp_law K [tabOf K cd27], fun p hp => ?_, fun s v => .of_eq rfl, fun H a ns hlen hT hS => ?_, fun base _ _ hTB => ?_⟩
  · rcases List.mem_cons.mp hp with rfl | hp
    · exact ⟨by simp, f_fed, _, _, _, _, g_fed, l27, rfl, tb_fed⟩
    cases hp
  · exact ⟨a, ns, rfl, hS, hlen, fun P hP => (by
      obtain ⟨p, hp, rfl⟩ := List.mem_map.mp (show P ∈ ([("fed", cd27)] : List (Str × Value)).map (fun p => tabOf K p.2) from hP)
      exact hT p hp), fun H2 s2 => ⟨rfl, s2⟩⟩
  have G_is_whole : FnOk l.prog w K mg base CX0 1 _ _ ["thing"] (sp_is_whole K) := ok_is_whole F_is_whole  m_isinstance m_int m_bool  
  have G_are_marks : FnOk l.prog w K mg base CX0 2 _ _ ["thing", "teeth"] (sp_are_marks K) := ok_are_marks F_are_marks F_is_whole b_is_whole g_is_whole G_is_whole m_isinstance m_tuple  
  have G_is_part : FnOk l.prog w K mg base CX0 3 _ _ ["thing"] (sp_is_part K) := ok_is_part F_is_part F_is_whole b_is_whole g_is_whole G_is_whole F_are_marks b_are_marks g_are_marks G_are_marks m_isinstance m_tuple m_len  
  have G_check_train : FnOk l.prog w K mg base CX0 4 _ _ ["train"] (sp_check_train K) := ok_check_train F_check_train F_is_part b_is_part g_is_part G_is_part m_isinstance m_list m_len  
  have G_place_count : FnOk l.prog w K mg base CX0 1 _ _ ["part"] (sp_place_count K) := ok_place_count F_place_count    
  have G_is_stand : FnOk l.prog w K mg base CX0 2 _ _ ["train", "thing"] (sp_is_stand K) := ok_is_stand F_is_stand F_place_count b_place_count g_place_count G_place_count F_is_whole b_is_whole g_is_whole G_is_whole m_zip m_isinstance m_tuple m_len  
  have G_check_stand : FnOk l.prog w K mg base CX0 5 _ _ ["train", "stand"] (sp_check_stand K) := ok_check_stand F_check_stand F_is_stand b_is_stand g_is_stand G_is_stand F_check_train b_check_train g_check_train G_check_train   
  have G_is_way : FnOk l.prog w K mg base CX0 2 _ _ ["thing"] (sp_is_way K) := ok_is_way F_is_way F_is_whole b_is_whole g_is_whole G_is_whole   
  have G_wheel_pushed : FnOk l.prog w K mg base CX0 1 _ _ ["part", "place", "way"] (sp_wheel_pushed K) := ok_wheel_pushed F_wheel_pushed    
  have G_rocker_pushed : FnOk l.prog w K mg base CX0 1 _ _ ["place", "way"] (sp_rocker_pushed K) := ok_rocker_pushed F_rocker_pushed    
  have G_spring_pushed : FnOk l.prog w K mg base CX0 1 _ _ ["part", "place", "way"] (sp_spring_pushed K) := ok_spring_pushed F_spring_pushed  m_max  
  have G_part_pushed : FnOk l.prog w K mg base CX0 2 _ _ ["part", "place", "way"] (sp_part_pushed K) := ok_part_pushed F_part_pushed F_spring_pushed b_spring_pushed g_spring_pushed G_spring_pushed F_rocker_pushed b_rocker_pushed g_rocker_pushed G_rocker_pushed F_wheel_pushed b_wheel_pushed g_wheel_pushed G_wheel_pushed   
  have G_pushed : FnOk l.prog w K mg base CX0 3 _ _ ["train", "stand", "i", "way"] (sp_pushed K) := ok_pushed F_pushed F_part_pushed b_part_pushed g_part_pushed G_part_pushed m_list m_range m_len m_tuple  
  have G_is_deed : FnOk l.prog w K mg base CX0 3 _ _ ["thing", "parts"] (sp_is_deed K) := ok_is_deed F_is_deed F_is_whole b_is_whole g_is_whole G_is_whole F_is_way b_is_way g_is_way G_is_way m_isinstance m_tuple m_len  
  have G_check_row : FnOk l.prog w K mg base CX0 4 _ _ ["train", "row"] (sp_check_row K) := ok_check_row F_check_row F_is_deed b_is_deed g_is_deed G_is_deed m_isinstance m_list m_len  
  have G_marks_up_to : FnOk l.prog w K mg base CX0 1 _ _ ["marks", "place"] (sp_marks_up_to K) := ok_marks_up_to F_marks_up_to  m_len  
  have G_marks_ahead : FnOk l.prog w K mg base CX0 2 _ _ ["part", "tooth"] (sp_marks_ahead K) := ok_marks_ahead F_marks_ahead F_marks_up_to b_marks_up_to g_marks_up_to G_marks_up_to m_len  
  have G_wheel_turned : FnOk l.prog w K mg base CX0 3 _ _ ["part", "place", "way", "times"] (sp_wheel_turned K) := ok_wheel_turned F_wheel_turned F_marks_ahead b_marks_ahead g_marks_ahead G_marks_ahead m_abs  
  have G_rocker_turned : FnOk l.prog w K mg base CX0 1 _ _ ["place", "way", "times"] (sp_rocker_turned K) := ok_rocker_turned F_rocker_turned    
  have G_spring_turned : FnOk l.prog w K mg base CX0 1 _ _ ["part", "place", "way", "times"] (sp_spring_turned K) := ok_spring_turned F_spring_turned  m_max  
  have G_part_turned : FnOk l.prog w K mg base CX0 4 _ _ ["part", "place", "way", "times"] (sp_part_turned K) := ok_part_turned F_part_turned F_spring_turned b_spring_turned g_spring_turned G_spring_turned F_rocker_turned b_rocker_turned g_rocker_turned G_rocker_turned F_wheel_turned b_wheel_turned g_wheel_turned G_wheel_turned   
  have G_row_left : FnOk l.prog w K mg base CX0 5 _ _ ["train", "stand", "row"] (sp_row_left K) := ok_row_left F_row_left F_part_turned b_part_turned g_part_turned G_part_turned m_list m_range m_tuple m_len  
  have G_left : FnOk l.prog w K mg base CX0 6 _ _ ["train", "stand", "row"] (sp_left K) := ok_left F_left F_row_left b_row_left g_row_left G_row_left F_check_row b_check_row g_check_row G_check_row F_check_stand b_check_stand g_check_stand G_check_stand   
  have G_joined : FnOk l.prog w K mg base CX0 5 _ _ ["one", "other"] (sp_joined K) := ok_joined F_joined F_check_train b_check_train g_check_train G_check_train   
  have G_together : FnOk l.prog w K mg base CX0 6 _ _ ["one", "here", "other", "there"] (sp_together K) := ok_together F_together F_check_stand b_check_stand g_check_stand G_check_stand   
  have G_parted : FnOk l.prog w K mg base CX0 6 _ _ ["one", "other", "stand"] (sp_parted K) := ok_parted F_parted F_joined b_joined g_joined G_joined F_check_stand b_check_stand g_check_stand G_check_stand m_len  
  have G_is_sign : FnOk l.prog w K mg base CX0 2 _ _ ["thing"] (sp_is_sign K) := ok_is_sign F_is_sign F_is_whole b_is_whole g_is_whole G_is_whole   
  have G_fed : FnOk l.prog w K mg base CX0 7 _ _ ["train", "stand", "signs"] (sp_fed K [tabOf K cd27]) := ok_fed F_fed F_pushed b_pushed g_pushed G_pushed F_is_sign b_is_sign g_is_sign G_is_sign F_check_stand b_check_stand g_check_stand G_check_stand m_isinstance m_list m_all   (hTB ("fed", cd27) (by simp)) (by obtain ⟨_, _, _, _, h, _⟩ := tab_inv tb_fed; exact h) (by simp)
  have G__law_mix : FnOk l.prog w K mg base CX0 1 _ _ ["_law_cell", "_law_k"] (sp__law_mix K) := ok__law_mix F__law_mix  m_range  
  have G__law_digit : FnOk l.prog w K mg base CX0 1 _ _ ["_law_number", "_law_by", "_law_k"] (sp__law_digit K) := ok__law_digit F__law_digit  m_range  
  have G__law_places : FnOk l.prog w K mg base CX0 1 _ _ ["_law_part_here"] (sp__law_places K) := ok__law_places F__law_places  m_int  
  have G__law_part : FnOk l.prog w K mg base CX0 2 _ _ ["_law_pick", "_law_most"] (sp__law_part K) := ok__law_part F__law_part F__law_digit b__law_digit g__law_digit G__law_digit m_tuple m_range  
  have G__law_train : FnOk l.prog w K mg base CX0 3 _ _ ["_law_cell", "_law_place", "_law_many", "_law_most", "_law_room"] (sp__law_train K) := ok__law_train F__law_train F__law_mix b__law_mix g__law_mix G__law_mix F__law_places b__law_places g__law_places G__law_places F__law_part b__law_part g__law_part G__law_part m_range  
  have G__law_signs : FnOk l.prog w K mg base CX0 2 _ _ ["_law_cell", "_law_place"] (sp__law_signs K) := ok__law_signs F__law_signs F__law_mix b__law_mix g__law_mix G__law_mix m_range  
  have G__law_row : FnOk l.prog w K mg base CX0 2 _ _ ["_law_cell", "_law_place", "_law_many"] (sp__law_row K) := ok__law_row F__law_row F__law_mix b__law_mix g__law_mix G__law_mix m_range  
  have G__law_deeds : FnOk l.prog w K mg base CX0 7 _ _ ["_law_one", "_law_here", "_law_other", "_law_there", "_law_row_here"] (sp__law_deeds K) := ok__law_deeds F__law_deeds F_left b_left g_left G_left m_len m_abs m_int  
  have G__law_two : FnOk l.prog w K mg base CX0 8 _ _ ["_law_one", "_law_here", "_law_other", "_law_there", "_law_signs_here"] (sp__law_two K [tabOf K cd27]) := ok__law_two F__law_two F_parted b_parted g_parted G_parted F_together b_together g_together G_together F_joined b_joined g_joined G_joined F_fed b_fed g_fed G_fed   
  have G__law_cut : FnOk l.prog w K mg base CX0 1 _ _ ["_law_script"] (sp__law_cut K) := ok__law_cut F__law_cut  m_int  
  exact RunOk.of (k := 9) ⟨rfl, by decide, by decide⟩ (ok_law F_law F_left b_left g_left G_left F__law_deeds b__law_deeds g__law_deeds G__law_deeds F__law_row b__law_row g__law_row G__law_row F_joined b_joined g_joined G_joined F_together b_together g_together G_together F__law_two b__law_two g__law_two G__law_two F__law_signs b__law_signs g__law_signs G__law_signs F__law_mix b__law_mix g__law_mix G__law_mix F__law_train b__law_train g__law_train G__law_train F__law_cut b__law_cut g__law_cut G__law_cut m_len  )
end My
open PySem PySem.W PyProof.Rows
set_option maxHeartbeats 0 in
theorem PySem.Challenge.cw_clicktrain_k83_whole_joined_trains_show_holds : PySem.Challenge.rw_clicktrain_k83_whole_joined_trains_show.Holds := by
  w_on; o_law; k_head; (case hw => w_witness2)
  k_fill
  refine Ct.walk_ofX (l := PySem.Challenge.rw_clicktrain_k83_whole_joined_trains_show) (n := 63) (x := "_law_script") (defs := ["fed"]) rfl (by decide) rfl (by decide +kernel) (fun w h Y => PySem.W.kIn_of Y) ?F
  case F =>
    intro w mg fa h KX G hmg
    refine' My.all_mk KX G hmg ?a0 ?l0 ?c0 ?k0 ?a1 ?l1 ?c1 ?k1 ?a2 ?l2 ?c2 ?k2 ?a3 ?l3 ?c3 ?k3 ?a4 ?l4 ?c4 ?k4 ?a5 ?l5 ?c5 ?k5 ?a6 ?l6 ?c6 ?k6 ?a7 ?l7 ?c7 ?k7 ?a8 ?l8 ?c8 ?k8 ?a9 ?l9 ?c9 ?k9 ?a10 ?l10 ?c10 ?k10 ?a11 ?l11 ?c11 ?k11 ?a12 ?l12 ?c12 ?k12 ?a13 ?l13 ?c13 ?k13 ?a14 ?l14 ?c14 ?k14 ?a15 ?l15 ?c15 ?k15 ?a16 ?l16 ?c16 ?k16 ?a17 ?l17 ?c17 ?k17 ?a18 ?l18 ?c18 ?k18 ?a19 ?l19 ?c19 ?k19 ?a20 ?l20 ?c20 ?k20 ?a21 ?l21 ?c21 ?k21 ?a22 ?l22 ?c22 ?k22 ?a23 ?l23 ?c23 ?k23 ?a24 ?l24 ?c24 ?k24 ?a25 ?l25 ?c25 ?k25 ?a26 ?l26 ?c26 ?k26 ?a27 ?l27 ?c27 ?k27 ?a28 ?l28 ?c28 ?k28 ?a29 ?l29 ?c29 ?k29 ?a30 ?l30 ?c30 ?k30 ?a31 ?l31 ?c31 ?k31 ?a32 ?l32 ?c32 ?k32 ?a33 ?l33 ?c33 ?k33 ?a34 ?l34 ?c34 ?k34 ?a35 ?l35 ?c35 ?k35 ?a36 ?l36 ?c36 ?k36 ?a37 ?l37 ?c37 ?k37 ?a38 ?l38 ?c38 ?k38 ?z0 ?z1 ?z2 ?z3 ?z4 ?z5 ?z6 ?z7 ?z8 ?z9 ?z10 ?tb_fed
    (case a0 => k_is)
    (case l0 => k_is)
    (case c0 => k_is)
    (case k0 => k_is)
    (case a1 => k_is)
    (case l1 => k_is)
    (case c1 => k_is)
    (case k1 => k_is)
    (case a2 => k_is)
    (case l2 => k_is)
    (case c2 => k_is)
    (case k2 => k_is)
    (case a3 => k_is)
    (case l3 => k_is)
    (case c3 => k_is)
    (case k3 => k_is)
    (case a4 => k_is)
    (case l4 => k_is)
    (case c4 => k_is)
    (case k4 => k_is)
    (case a5 => k_is)
    (case l5 => k_is)
    (case c5 => k_is)
    (case k5 => k_is)
    (case a6 => k_is)
    (case l6 => k_is)
    (case c6 => k_is)
    (case k6 => k_is)
    (case a7 => k_is)
    (case l7 => k_is)
    (case c7 => k_is)
    (case k7 => k_is)
    (case a8 => k_is)
    (case l8 => k_is)
    (case c8 => k_is)
    (case k8 => k_is)
    (case a9 => k_is)
    (case l9 => k_is)
    (case c9 => k_is)
    (case k9 => k_is)
    (case a10 => k_is)
    (case l10 => k_is)
    (case c10 => k_is)
    (case k10 => k_is)
    (case a11 => k_is)
    (case l11 => k_is)
    (case c11 => k_is)
    (case k11 => k_is)
    (case a12 => k_is)
    (case l12 => k_is)
    (case c12 => k_is)
    (case k12 => k_is)
    (case a13 => k_is)
    (case l13 => k_is)
    (case c13 => k_is)
    (case k13 => k_is)
    (case a14 => k_is)
    (case l14 => k_is)
    (case c14 => k_is)
    (case k14 => k_is)
    (case a15 => k_is)
    (case l15 => k_is)
    (case c15 => k_is)
    (case k15 => k_is)
    (case a16 => k_is)
    (case l16 => k_is)
    (case c16 => k_is)
    (case k16 => k_is)
    (case a17 => k_is)
    (case l17 => k_is)
    (case c17 => k_is)
    (case k17 => k_is)
    (case a18 => k_is)
    (case l18 => k_is)
    (case c18 => k_is)
    (case k18 => k_is)
    (case a19 => k_is)
    (case l19 => k_is)
    (case c19 => k_is)
    (case k19 => k_is)
    (case a20 => k_is)
    (case l20 => k_is)
    (case c20 => k_is)
    (case k20 => k_is)
    (case a21 => k_is)
    (case l21 => k_is)
    (case c21 => k_is)
    (case k21 => k_is)
    (case a22 => k_is)
    (case l22 => k_is)
    (case c22 => k_is)
    (case k22 => k_is)
    (case a23 => k_is)
    (case l23 => k_is)
    (case c23 => k_is)
    (case k23 => k_is)
    (case a24 => k_is)
    (case l24 => k_is)
    (case c24 => k_is)
    (case k24 => k_is)
    (case a25 => k_is)
    (case l25 => k_is)
    (case c25 => k_is)
    (case k25 => k_is)
    (case a26 => k_is)
    (case l26 => k_is)
    (case c26 => k_is)
    (case k26 => k_is)
    (case a27 => k_is)
    (case l27 => k_is)
    (case c27 => k_is)
    (case k27 => k_is)
    (case a28 => k_is)
    (case l28 => k_is)
    (case c28 => k_is)
    (case k28 => k_is)
    (case a29 => k_is)
    (case l29 => k_is)
    (case c29 => k_is)
    (case k29 => k_is)
    (case a30 => k_is)
    (case l30 => k_is)
    (case c30 => k_is)
    (case k30 => k_is)
    (case a31 => k_is)
    (case l31 => k_is)
    (case c31 => k_is)
    (case k31 => k_is)
    (case a32 => k_is)
    (case l32 => k_is)
    (case c32 => k_is)
    (case k32 => k_is)
    (case a33 => k_is)
    (case l33 => k_is)
    (case c33 => k_is)
    (case k33 => k_is)
    (case a34 => k_is)
    (case l34 => k_is)
    (case c34 => k_is)
    (case k34 => k_is)
    (case a35 => k_is)
    (case l35 => k_is)
    (case c35 => k_is)
    (case k35 => k_is)
    (case a36 => k_is)
    (case l36 => k_is)
    (case c36 => k_is)
    (case k36 => k_is)
    (case a37 => k_is)
    (case l37 => k_is)
    (case c37 => k_is)
    (case k37 => k_is)
    (case a38 => k_is)
    (case l38 => k_is)
    (case c38 => k_is)
    (case k38 => k_is)
    (case z0 => k_is)
    (case z1 => k_is)
    (case z2 => k_is)
    (case z3 => k_is)
    (case z4 => k_is)
    (case z5 => k_is)
    (case z6 => k_is)
    (case z7 => k_is)
    (case z8 => k_is)
    (case z9 => k_is)
    (case z10 => k_is)
    (case tb_fed => first | kernel_rfl | rfl)
