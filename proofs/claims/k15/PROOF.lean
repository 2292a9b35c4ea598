import PyProof.Rows.All
import Wide.All
import OpenK.AllK
import Wide.FinOn
import HandS.ForMost
import HandS.Wide
import HandS.IsInst
import HandS.Walk
import HandS.Star
import HandS.TupAny
import HandS.Style
import HandS.Deep
import KE.GoesNew
import KE.SortData
import HandS.TupMul
import KE.KDictKeyed
import KE.KeyNested
import KE.KDictCopyH
import HandS.DictTup
import HandS.DictComp
import HandS.Rev
import PySem.Challenge.RW_clicktrain_k15_whole_rows_put_together
set_option Elab.async false
set_option linter.all false
set_option maxRecDepth 100000
set_option maxHeartbeats 4000000
namespace Ct
open PySem PySem.Spec PyProof.Rows L2
/-! walking a reading, construct by construct -/
section
variable {K : PySem.W.Frag} {H : Hp} {σ : L2.St} {D : Ends} {Q : VK} {QB : Bool → Hp → Prop} {QA : List V → Hp → Prop} {QS : L2.St → Hp → Prop}
theorem w_seq {t u : TS} (h : t { D with nx := u D } σ H) : tSeq t u D σ H := h
theorem w_join {t u : TS} (J : L2.St → Hp → Prop) (h1 : ∀ σ' H', J σ' H' → u D σ' H') (h2 : ∀ N : L2.St → Hp → Prop, (∀ σ' H', J σ' H' → N σ' H') → t { D with nx := N } σ H) : tSeq t u D σ H := h2 (u D) h1
theorem w_asg {te : TE} {g : TG} (h : te σ H fun x H1 => g x σ H1 D.nx) : tAsg te g D σ H := h
theorem w_ret {te : TE} (h : te σ H D.rt) : tRet te D σ H := h
theorem w_ifS {c : TT} {t u : TS} (h : c σ H fun b H1 => if b = true then t D σ H1 else u D σ H1) : tIfS c t u D σ H := h
theorem w_drop {te : TE} (h : te σ H fun _ H1 => D.nx σ H1) : tDrop te D σ H := h
theorem w_next (h : D.nx σ H) : tNext D σ H := h
theorem w_var {i : Nat} {v : V} (e : σ[i]? = some (some v)) (h : Q v H) : tVar i σ H Q := ⟨v, e, h⟩
theorem w_c {v : V} (h : Q v H) : tC v σ H Q := h
theorem w_op {r : R2} {ta tb : TE} (h : ta σ H fun x H1 => tb σ H1 fun y H2 => r x y H2 Q) : tOp r ta tb σ H Q := h
theorem w_chain {r r' : R2} {ta tb tc : TE} (h : ta σ H fun x H1 => tb σ H1 fun y H2 => r x y H2 fun z H3 => ∃ k, z = .bl k ∧ (if k = true then tc σ H3 fun w' H4 => r' y w' H4 Q else Q (.bl false) H3)) : tChain r r' ta tb tc σ H Q := h
theorem w_un {r : V → Hp → VK → Prop} {ta : TE} (h : ta σ H fun x H1 => r x H1 Q) : tUn r ta σ H Q := h
theorem w_test {t : TE} (h : t σ H fun x H' => ∃ k, x = .bl k ∧ QB k H') : tTest t σ H QB := h
theorem w_B {t : TE} (h : t σ H fun x H' => ∃ k, x = .bl k ∧ QB k H') : tB t σ H QB := h
theorem w_and {t u : TT} (h : t σ H fun c H1 => if c = true then u σ H1 QB else QB false H1) : tAnd t u σ H QB := h
theorem w_or {t u : TT} (h : t σ H fun c H1 => if c = true then QB true H1 else u σ H1 QB) : tOr t u σ H QB := h
theorem w_not {t : TT} (h : t σ H fun c H1 => QB (!c) H1) : tNot t σ H QB := h
theorem w_if {t : TT} {ta tb : TE} (h : t σ H fun c H1 => if c = true then ta σ H1 Q else tb σ H1 Q) : tIf t ta tb σ H Q := h
theorem w_nil (h : QA [] H) : tNil σ H QA := h
theorem w_cons {ta : TE} {tr : TA} (h : ta σ H fun x H1 => tr σ H1 fun xs H2 => QA (x :: xs) H2) : tCons ta tr σ H QA := h
theorem w_cb {r : List V → Hp → VK → Prop} {t : TA} (h : t σ H fun vs H1 => r vs H1 Q) : tCB r t σ H Q := h
theorem w_call {sp : Sp} {dvs : List V} {E : XK} {t : TA} (h : t σ H fun vs H1 => sp (vs ++ dvs) H1 Q E) : tCall sp dvs E t σ H Q := h
theorem w_name {i : Nat} {v : V} {σ' : L2.St} (e : σ.set i (some v) = σ') (h : QS σ' H) : gName i v σ H QS := by
  unfold gName
  rw [e]
  exact h
theorem w_rI {C : Int → Int → Prop} {g : Int → Int → V} {i j : Int} (c : C i j) (h : Q (g i j) H) : rI C g (.int i) (.int j) H Q := ⟨i, j, rfl, rfl, c, h⟩
theorem w_rI0 {g : Int → Int → V} {i j : Int} (h : Q (g i j) H) : rI0 g (.int i) (.int j) H Q := ⟨i, j, rfl, rfl, h⟩
theorem w_rU {g : Int → V} {i : Int} (h : Q (g i) H) : rU g (.int i) H Q := ⟨i, rfl, h⟩
theorem w_rEqI {i j : Int} (h : Q (.bl (decide (i = j))) H) : rEq (.int i) (.int j) H Q := by
  refine ⟨rfl, ?_⟩
  rw [show decide (V.int i = V.int j) = decide (i = j) from by
    by_cases e : i = j
    · subst e
      rw [decide_eq_true rfl, decide_eq_true rfl]
    · rw [decide_eq_false e, decide_eq_false fun z => e (V.int.inj z)]]
  exact h
theorem w_rNeI {i j : Int} (h : Q (.bl (!decide (i = j))) H) : rNe (.int i) (.int j) H Q := by
  refine ⟨rfl, ?_⟩
  rw [show decide (V.int i = V.int j) = decide (i = j) from by
    by_cases e : i = j
    · subst e
      rw [decide_eq_true rfl, decide_eq_true rfl]
    · rw [decide_eq_false e, decide_eq_false fun z => e (V.int.inj z)]]
  exact h
theorem w_rEqS {x y : Str} {b : Bool} (e : decide (V.str x = V.str y) = b) (h : Q (.bl b) H) : rEq (.str x) (.str y) H Q := by
  refine ⟨rfl, ?_⟩
  rw [e]
  exact h
theorem w_bl {b : Bool} {QP : Bool → Prop} (h : QP b) : ∃ k, V.bl b = .bl k ∧ QP k := ⟨b, rfl, h⟩
theorem w_in {i : Int} {QP : Int → Prop} (h : QP i) : ∃ k, V.int i = .int k ∧ QP k := ⟨i, rfl, h⟩
theorem w_ixT {p : Addr} {xs : List V} {i : Int} {v : V} (h : SqT K H p xs) (e : atI xs i = some v) (q : Q v H) : rIxT K (.ref p) (.int i) H Q := ⟨p, xs, i, v, rfl, rfl, h, e, q⟩
theorem w_ixL {p : Addr} {xs : List V} {i : Int} {v : V} (h : SqL K H p xs) (e : atI xs i = some v) (q : Q v H) : rIxL K (.ref p) (.int i) H Q := ⟨p, xs, i, v, rfl, rfl, h, e, q⟩
theorem w_tup {t : TA} (h : t σ H fun xs H1 => xs.length ≤ sizeLine ∧ ∀ p, H1 p = none → Q (.ref p) (upd H1 p (.tup xs))) : tTup t σ H Q := h
theorem w_lst {t : TA} (h : t σ H fun xs H1 => xs.length ≤ sizeLine ∧ ∀ p, H1 p = none → Q (.ref p) (upd H1 p (.lst xs))) : tLst t σ H Q := h
theorem w_bm {T : String} {r : V → List V → Hp → VK → Prop} {to : TE} {t : TA} (h : to σ H fun x H1 => tyV K T x H1 ∧ t σ H1 fun xs H2 => r x xs H2 Q) : tBM K T r to t σ H Q := h
theorem w_inT {p : Addr} {x : Int} {ns : List Int} (h : SqT K H p (ns.map V.int)) (q : Q (.bl (decide (x ∈ ns))) H) : rIn K false (.int x) (.ref p) H Q := by
  refine ⟨p, ns.map V.int, rfl, .inr h, rfl, ?_, ?_⟩
  · rw [List.all_map]
    exact List.all_eq_true.mpr fun _ _ => rfl
  · rw [if_neg Bool.false_ne_true]
    rw [show inV (.int x) (ns.map V.int) = decide (x ∈ ns) from by
      unfold inV
      rw [List.any_map]
      by_cases e : x ∈ ns
      · rw [decide_eq_true e, List.any_eq_true]
        exact ⟨x, e, by show (x == x) = true; exact beq_self_eq_true x⟩
      · rw [decide_eq_false e, List.any_eq_false]
        intro y hy
        show ¬ (y == x) = true
        intro z
        have : y = x := eq_of_beq z
        subst this
        exact e hy]
    exact q
theorem w_break (h : D.bk σ H) : tBreak D σ H := h
theorem w_cont (h : D.ct σ H) : tCont D σ H := h
theorem w_nT {A B : Prop} (h : B) : if (!true) = true then A else B := h
theorem w_nF {A B : Prop} (h : A) : if (!false) = true then A else B := h
theorem w_ite {c A B : Prop} [Decidable c] (h1 : c → A) (h2 : ¬ c → B) : if (decide c) = true then A else B := by
  by_cases h : c
  · rw [if_pos (decide_eq_true h)]
    exact h1 h
  · rw [if_neg (by rw [decide_eq_false h]; exact Bool.false_ne_true)]
    exact h2 h
theorem w_iteN {c A B : Prop} [Decidable c] (h1 : ¬ c → A) (h2 : c → B) : if (!decide c) = true then A else B := by
  by_cases h : c
  · rw [decide_eq_true h]
    exact iteF (h2 h)
  · rw [decide_eq_false h]
    exact iteT (h1 h)
theorem w_st {t : TS} {σ' : L2.St} (e : σ = σ') (h : t D σ' H) : t D σ H := by
  rw [e]
  exact h
end
/-! heaps -/
theorem same_new {H0 H : Hp} {p : Addr} {o : HO} (s : Same H0 H) (h : H0 p = none) : Same H0 (upd H p o) := fun b x e => by
  rw [upd_ne (ne_of_none e h)]
  exact s b x e
theorem same_upd {H : Hp} {p : Addr} {o : HO} (h : H p = none) : Same H (upd H p o) := same_new (Same.refl H) h
theorem Same.tup {K : PySem.W.Frag} {H H' : Hp} {a : Addr} {xs : List V} (e : Same H H') (h : SqT K H a xs) : SqT K H' a xs := by
  rcases h with (h | ⟨o, h⟩) | h
  · exact .inl (.inl (e _ _ h))
  · exact .inl (.inr ⟨o, e _ _ h⟩)
  · exact .inr h
theorem Same.new {H H' : Hp} {p : Addr} (s : Same H H') (h : H' p = none) : H p = none := s.free h
mutual
theorem dp_same {K : PySem.W.Frag} {H H' : Hp} (e : Same H H') : ∀ {v : V} {d : PyData}, Dp K H v d → Dp K H' v d
  | _, _, .non => .non
  | _, _, .bl b => .bl b
  | _, _, .int i => .int i
  | _, _, .str x => .str x
  | _, _, .lst h t => .lst (e.seq h) (dpAll_same e t)
  | _, _, .tup h t => .tup (Same.tup e h) (dpAll_same e t)
theorem dpAll_same {K : PySem.W.Frag} {H H' : Hp} (e : Same H H') : ∀ {vs : List V} {ds : List PyData}, DpAll K H vs ds → DpAll K H' vs ds
  | _, _, .nil => .nil
  | _, _, .cons h t => .cons (dp_same e h) (dpAll_same e t)
end
theorem dpAll_len {K : PySem.W.Frag} {H : Hp} : ∀ {vs : List V} {ds : List PyData}, DpAll K H vs ds → vs.length = ds.length
  | _, _, .nil => rfl
  | _, _, .cons _ t => by rw [List.length_cons, List.length_cons, dpAll_len t]
theorem dpAll_get {K : PySem.W.Frag} {H : Hp} : ∀ {vs : List V} {ds : List PyData} {i : Nat} {d : PyData}, DpAll K H vs ds → ds[i]? = some d → ∃ v, vs[i]? = some v ∧ Dp K H v d
  | _, _, _, _, .nil, e => by simp at e
  | _, _, 0, _, .cons h _, e => by
    cases (Option.some.inj e)
    exact ⟨_, rfl, h⟩
  | _, _, i + 1, _, .cons _ t, e => dpAll_get (i := i) t e
theorem dpAll_ints {K : PySem.W.Frag} {H : Hp} : ∀ (ns : List Int), DpAll K H (ns.map V.int) (ns.map PyData.int)
  | [] => .nil
  | n :: r => .cons (.int n) (dpAll_ints r)
theorem dpAll_ints_inv {K : PySem.W.Frag} {H : Hp} : ∀ {vs : List V} (ns : List Int), DpAll K H vs (ns.map PyData.int) → vs = ns.map V.int
  | _, [], .nil => rfl
  | _, n :: r, .cons (.int _) t => by rw [dpAll_ints_inv r t, List.map_cons]
theorem dpAll_app {K : PySem.W.Frag} {H : Hp} : ∀ {vs ws : List V} {ds es : List PyData}, DpAll K H vs ds → DpAll K H ws es → DpAll K H (vs ++ ws) (ds ++ es)
  | _, _, _, _, .nil, h => h
  | _, _, _, _, .cons a t, h => .cons a (dpAll_app t h)
theorem ix_at {n j : Nat} {k : Int} (e : k = (j : Int)) (h : j < n) : ixN n k = some j := by
  subst e
  unfold ixN
  rw [if_pos (Int.natCast_nonneg j), if_pos (by omega)]
  rfl
theorem cutV_map (ms : List Int) (lo hi : Option Int) : cutV (ms.map V.int) lo hi = ((ms.drop (HT.sIx ms.length 0 lo)).take (HT.sIx ms.length ms.length hi - HT.sIx ms.length 0 lo)).map V.int := by
  unfold cutV
  rw [List.length_map, List.map_take, List.map_drop]
theorem at0 {x : V} {r : List V} : atI (x :: r) 0 = some x := atI_nat (xs := x :: r) (j := 0) rfl
theorem at1 {x y : V} {r : List V} : atI (x :: y :: r) 1 = some y := atI_nat (xs := x :: y :: r) (j := 1) rfl
theorem at2 {x y z : V} {r : List V} : atI (x :: y :: z :: r) 2 = some z := atI_nat (xs := x :: y :: z :: r) (j := 2) rfl
theorem len2 {n : Nat} (h : Nat.ble n sizeLine = true) : n ≤ sizeLine := Nat.le_of_ble_eq_true h
/-! sizes of numbers -/
theorem div_ok {i j : Int} (h : 0 < j) (h2 : j < 2 ^ 250) : CDivW i j := wide_div (b := 250) h (by omega) (by decide) (by decide)
theorem mul_ok {i j : Int} (h1 : -(2 ^ 250) < i) (h2 : i < 2 ^ 250) (h3 : -(2 ^ 250) < j) (h4 : j < 2 ^ 250) : CMulW i j := wide_mul (a := 250) (b := 250) (by omega) (by omega) (by decide) (by decide) (by decide)
/-- a power whose bits are few -/
def CPowB (i j : Int) : Prop := 0 ≤ j ∧ (Builtin.Int.intBits i : Int) * j ≤ 2 ^ 27
theorem op_powB {X : Cx} : OpR X (binaryOp .Pow) (rI CPowB fun i j => .int (i ^ j.toNat)) := opI fun _ _ _ _ _ _ _ hc q => pow_int hc.1 hc.2 q
/-! loops, targets, stores -/
section
variable {K : PySem.W.Frag} {H : Hp} {σ : L2.St} {D : Ends} {Q : VK} {QA : List V → Hp → Prop} {QS : L2.St → Hp → Prop} {R : It → Hp → Prop}
def FB (J : It) (g : TG) (tb : TS) (D : Ends) (σ : L2.St) (H : Hp) : Prop := tFor (fun _ H R => R J H) g tb D σ H
theorem w_for {wi : TI} {g : TG} {tb : TS} (h : wi σ H fun J H1 => FB J g tb D σ H1) : tFor wi g tb D σ H := h
def RG1 (vs : List V) (H : Hp) (R : It → Hp → Prop) : Prop := iRng1 (fun _ H Q => Q vs H) [] H R
def RG2 (vs : List V) (H : Hp) (R : It → Hp → Prop) : Prop := iRng2 (fun _ H Q => Q vs H) [] H R
theorem w_rng1 {ta : TA} (h : ta σ H fun vs H1 => RG1 vs H1 R) : iRng1 ta σ H R := h
theorem w_rng2 {ta : TA} (h : ta σ H fun vs H1 => RG2 vs H1 R) : iRng2 ta σ H R := h
theorem w_RG1 {j : Int} (h1 : -(2 ^ 62) ≤ j) (h2 : j < 2 ^ 62) (h : R (Itr 0 j.toNat) H) : RG1 [.int j] H R := ⟨j, rfl, h1, h2, h⟩
theorem w_RG2 {i j : Int} (h1 : -(2 ^ 62) ≤ i) (h2 : i < 2 ^ 62) (h3 : -(2 ^ 62) ≤ j) (h4 : j < 2 ^ 62) (h : R (Itr i (j - i).toNat) H) : RG2 [.int i, .int j] H R := ⟨i, j, rfl, ⟨h1, h2, h3, h4⟩, h⟩
def IL (K : PySem.W.Frag) (v : V) (H : Hp) (R : It → Hp → Prop) : Prop := iList K (tC v) [] H R
def IT (K : PySem.W.Frag) (v : V) (H : Hp) (R : It → Hp → Prop) : Prop := iTup K (tC v) [] H R
theorem w_ilist {tl : TE} (h : tl σ H fun v H1 => IL K v H1 R) : iList K tl σ H R := h
theorem w_itup {tl : TE} (h : tl σ H fun v H1 => IT K v H1 R) : iTup K tl σ H R := h
theorem w_IL {a : Addr} {xs : List V} (h : SqL K H a xs) (q : R (Itl K a) H) : IL K (.ref a) H R := ⟨a, rfl, ⟨xs, h⟩, q⟩
theorem w_IT {a : Addr} {xs : List V} (h : SqT K H a xs) (q : R (Itt K a) H) : IT K (.ref a) H R := ⟨a, rfl, ⟨xs, h⟩, q⟩
theorem fb_range {lo : Int} {n : Nat} {g : TG} {tb : TS} (Pv : Nat → L2.St → Hp → Prop) (h0 : Pv 0 σ H)
    (hs : ∀ i σ H, i < n → Pv i σ H → g (.int (lo + i)) σ H fun σ2 H2 => tb { D with nx := Pv (i + 1), ct := Pv (i + 1), bk := D.nx } σ2 H2) (hd : ∀ σ H, Pv n σ H → D.nx σ H) : FB (Itr lo n) g tb D σ H := for_range Pv h0 hs hd
theorem fb_list {a : Addr} (xs : List V) {g : TG} {tb : TS} (Pv : Nat → L2.St → Hp → Prop) (h0 : Pv 0 σ H) (hl : ∀ i σ H, i ≤ xs.length → Pv i σ H → SqL K H a xs)
    (hs : ∀ i x σ H, xs[i]? = some x → Pv i σ H → g x σ H fun σ2 H2 => tb { D with nx := Pv (i + 1), ct := Pv (i + 1), bk := D.nx } σ2 H2) (hd : ∀ σ H, Pv xs.length σ H → D.nx σ H) : FB (Itl K a) g tb D σ H := for_list Pv h0 hl hs hd
theorem fb_tup {a : Addr} (xs : List V) {g : TG} {tb : TS} (Pv : Nat → L2.St → Hp → Prop) (h0 : Pv 0 σ H) (hl : ∀ i σ H, i ≤ xs.length → Pv i σ H → SqT K H a xs)
    (hs : ∀ i x σ H, xs[i]? = some x → Pv i σ H → g x σ H fun σ2 H2 => tb { D with nx := Pv (i + 1), ct := Pv (i + 1), bk := D.nx } σ2 H2) (hd : ∀ σ H, Pv xs.length σ H → D.nx σ H) : FB (Itt K a) g tb D σ H := for_tup Pv h0 hl hs hd
def LB (J : It) (g : TG) (tt : TT) (te : TE) (vs : List Nat) (σ : L2.St) (H : Hp) (Q : VK) : Prop := tLc (fun _ H R => R J H) g tt te vs σ H Q
theorem w_lc {wi : TI} {g : TG} {tt : TT} {te : TE} {vs : List Nat} (h : wi σ H fun J H1 => LB J g tt te vs σ H1 Q) : tLc wi g tt te vs σ H Q := h
theorem lb_range {lo : Int} {n : Nat} {g : TG} {tt : TT} {te : TE} {vs : List Nat} (Pv : Addr → Nat → Hp → Prop) (h0 : ∀ D, H D = none → Pv D 0 (upd H D (.lst [])))
    (hs : ∀ D, H D = none → ∀ i H1, i < n → Pv D i H1 → g (.int (lo + i)) (wipe σ vs) H1 fun σ2 H2 => wipe σ2 vs = wipe σ vs ∧ tt σ2 H2 fun b H3 =>
      if b = true then te σ2 H3 fun y H4 => ∃ acc, H4 D = some (.lst acc) ∧ acc.length < sizeLine ∧ Pv D (i + 1) (upd H4 D (.lst (acc ++ [y]))) else Pv D (i + 1) H3) (hd : ∀ D, H D = none → ∀ H1, Pv D n H1 → Q (.ref D) H1) : LB (Itr lo n) g tt te vs σ H Q :=
  fun D hD => lc_range (Pv D) (h0 D hD) (hs D hD) (hd D hD)
theorem lb_list {a : Addr} (xs : List V) {g : TG} {tt : TT} {te : TE} {vs : List Nat} (Pv : Addr → Nat → Hp → Prop) (h0 : ∀ D, H D = none → Pv D 0 (upd H D (.lst []))) (hl : ∀ D, H D = none → ∀ i H1, i ≤ xs.length → Pv D i H1 → SqL K H1 a xs)
    (hs : ∀ D, H D = none → ∀ i x H1, xs[i]? = some x → Pv D i H1 → g x (wipe σ vs) H1 fun σ2 H2 => wipe σ2 vs = wipe σ vs ∧ tt σ2 H2 fun b H3 =>
      if b = true then te σ2 H3 fun y H4 => ∃ acc, H4 D = some (.lst acc) ∧ acc.length < sizeLine ∧ Pv D (i + 1) (upd H4 D (.lst (acc ++ [y]))) else Pv D (i + 1) H3) (hd : ∀ D, H D = none → ∀ H1, Pv D xs.length H1 → Q (.ref D) H1) : LB (Itl K a) g tt te vs σ H Q :=
  fun D hD => lc_list (Pv D) (h0 D hD) (hl D hD) (hs D hD) (hd D hD)
def IE (K : PySem.W.Frag) (vs : List V) (H : Hp) (R : It → Hp → Prop) : Prop := iEnum K (fun _ H Q => Q vs H) [] H R
theorem w_enum {ta : TA} (h : ta σ H fun vs H1 => IE K vs H1 R) : iEnum K ta σ H R := h
theorem w_IE {a : Addr} {xs : List V} (h : SqL K H a xs) (q : R (Ite K a) H) : IE K [.ref a] H R := ⟨a, xs, rfl, h, q⟩
theorem lb_enum {a : Addr} (xs : List V) {g : TG} {tt : TT} {te : TE} {vs : List Nat} (Pv : Addr → Nat → Hp → Prop) (h0 : ∀ D, H D = none → Pv D 0 (upd H D (.lst []))) (hl : ∀ D, H D = none → ∀ i H1, i ≤ xs.length → Pv D i H1 → SqL K H1 a xs)
    (hs : ∀ D, H D = none → ∀ i v T H1, xs[i]? = some v → Pv D i H1 → H1 T = none → g (.ref T) (wipe σ vs) (upd H1 T (.tup [.int (i : Nat), v])) fun σ2 H2 => wipe σ2 vs = wipe σ vs ∧ tt σ2 H2 fun b H3 =>
      if b = true then te σ2 H3 fun y H4 => ∃ acc, H4 D = some (.lst acc) ∧ acc.length < sizeLine ∧ Pv D (i + 1) (upd H4 D (.lst (acc ++ [y]))) else Pv D (i + 1) H3) (hd : ∀ D, H D = none → ∀ H1, Pv D xs.length H1 → Q (.ref D) H1) : LB (Ite K a) g tt te vs σ H Q :=
  fun D hD => lc_it (walk_enum (xs := xs)) (Pv D) (h0 D hD) (hl D hD) (fun i x H1 H2 _ p y => by
    obtain ⟨T, u, v, rfl, hT, rfl, e1, e2⟩ := y
    cases Option.some.inj e1
    exact hs D hD i v T H1 e2 p hT) (hd D hD)
theorem w_yes {QB : Bool → Hp → Prop} (h : QB true H) : tYes σ H QB := h
theorem w_gtup {n : Nat} {t : TGs} {a : Addr} {xs : List V} (h : SqT K H a xs) (e : xs.length = n) (q : t xs σ H QS) : gTup K n t (.ref a) σ H QS := ⟨a, xs, rfl, h, e, q⟩
theorem w_gcons {t : TG} {u : TGs} {v : V} {r : List V} (h : t v σ H fun σ' H' => u r σ' H' QS) : gCons t u (v :: r) σ H QS := ⟨v, r, rfl, h⟩
theorem w_gnil (h : QS σ H) : gNil [] σ H QS := ⟨rfl, h⟩
theorem w_gsub {to ti : TE} {t : TSet} {v : V} (h : to σ H fun o H1 => ti σ H1 fun i H2 => t o i v H2 fun H3 => QS σ H3) : gSub to ti t v σ H QS := h
theorem w_setL {p : Addr} {xs : List V} {k : Int} {j : Nat} {v : V} {QH : Hp → Prop} (h : H p = some (.lst xs)) (e : ixN xs.length k = some j) (q : QH (upd H p (.lst (xs.set j v)))) : rSetL (.ref p) (.int k) v H QH := ⟨p, xs, k, j, rfl, rfl, h, e, q⟩
theorem w_aug {i : Nat} {te : TE} {ti : TIp} {x : V} (e : σ[i]? = some (some x)) (h : te σ H fun y H1 => ti x y H1 fun z H2 => D.nx (σ.set i (some z)) H2) : tAug i te ti D σ H := ⟨x, e, h⟩
theorem w_ipI {f : Int → Int → Int} {i j : Int} (h : Q (.int (f i j)) H) : ipI f (.int i) (.int j) H Q := ⟨i, j, rfl, rfl, h⟩
theorem w_append {l : Addr} {xs : List V} {y : V} (h : H l = some (.lst xs)) (hl : xs.length < sizeLine) (q : Q .non (upd H l (.lst (xs ++ [y])))) : rAppend (.ref l) [y] H Q := ⟨l, xs, y, rfl, rfl, h, hl, q⟩
theorem ty_list {l : Addr} {xs : List V} (h : H l = some (.lst xs)) : tyV K "list" (.ref l) H := .inl ⟨rfl, _, .inl (.inl h)⟩
theorem w_mod {i j : Int} (h : 0 < j) (q : ∀ r, 0 ≤ r → r < j → Q (.int r) H) : rI (fun _ j => 0 < j) (fun i j => .int (i % j)) (.int i) (.int j) H Q :=
  ⟨i, j, rfl, rfl, h, q _ (Int.emod_nonneg _ (by omega)) (Int.emod_lt_of_pos _ h)⟩
theorem w_div {i j : Int} (h : CDivW i j) (q : ∀ r, Q (.int r) H) : rI CDivW (fun i j => .int (i / j)) (.int i) (.int j) H Q := ⟨i, j, rfl, rfl, h, q _⟩
theorem w_rIv {C : Int → Int → Prop} {g : Int → Int → V} {i j : Int} (v : V) (c : C i j) (e : g i j = v) (h : Q v H) : rI C g (.int i) (.int j) H Q := ⟨i, j, rfl, rfl, c, by rw [e]; exact h⟩
theorem w_isi {x : V} {n : String} {t : Value} {b : Bool} (ty : TyX K H x t) (k : PySem.W.kitOne K t (.type n) = some b) (q : Q (.bl b) H) : rIsi K [x, .ty n] H Q := ⟨x, .ty n, t, .type n, b, rfl, .ty n, ty, k, q⟩
theorem w_andV {ta tb : TE} (h : ta σ H fun x H1 => ∃ c, x = .bl c ∧ if c = true then tb σ H1 Q else Q (.bl false) H1) : tAndV ta tb σ H Q := h
theorem w_orV {ta tb : TE} (h : ta σ H fun x H1 => ∃ c, x = .bl c ∧ if c = true then Q (.bl true) H1 else tb σ H1 Q) : tOrV ta tb σ H Q := h
theorem w_notV {ta : TE} (h : ta σ H fun x H1 => ∃ c, x = .bl c ∧ Q (.bl (!c)) H1) : tNotV ta σ H Q := h
theorem w_slL {a : Addr} {xs : List V} {lo hi : Option Int} (h : SqL K H a xs) (q : ∀ p, H p = none → Q (.ref p) (upd H p (.lst (cutV xs lo hi)))) : rSlL K (.ref a) lo hi H Q := ⟨a, xs, rfl, h, q⟩
theorem w_sl {r : V → Option Int → Option Int → Hp → VK → Prop} {te : TE} {tl th : TO} (h : te σ H fun x H1 => tl σ H1 fun l H2 => th σ H2 fun u H3 => r x l u H3 Q) : tSl r te tl th σ H Q := h
theorem w_nopart {QO : Option Int → Hp → Prop} (h : QO none H) : tNoPart σ H QO := h
theorem w_part {QO : Option Int → Hp → Prop} {t : TE} (h : t σ H fun x H1 => ∃ i, x = .int i ∧ QO (some i) H1) : tPart t σ H QO := h
end
end Ct

namespace Ct
open PySem PySem.Spec PyProof.Rows L2
/-! parts, stands, what a push does -/
inductive Part where
  | wheel (z : Int) (ms : List Int) | click | rocker | spring (k : Int)
def Part.data : Part → PyData
  | .wheel z ms => .tuple [.str "wheel", .int z, .tuple (ms.map PyData.int)]
  | .click => .tuple [.str "click"]
  | .rocker => .tuple [.str "rocker"]
  | .spring k => .tuple [.str "spring", .int k]
def Part.places : Part → Int
  | .wheel z _ => z
  | .click => 1
  | .rocker => 2
  | .spring k => k
def Rise (z : Int) (ms : List Int) : Prop := ms.Pairwise (· < ·) ∧ ∀ m ∈ ms, 0 ≤ m ∧ m < z
def Part.ok : Part → Prop
  | .wheel z ms => 1 ≤ z ∧ z < 2 ^ 200 ∧ Rise z ms ∧ ms.length ≤ 1000
  | .click => True
  | .rocker => True
  | .spring k => 1 ≤ k ∧ k < 2 ^ 200
theorem Part.ok.pos {p : Part} (h : p.ok) : 1 ≤ p.places ∧ p.places < 2 ^ 200 := by
  cases p with
  | wheel z ms => exact ⟨h.1, h.2.1⟩
  | click => exact ⟨by decide, by decide⟩
  | rocker => exact ⟨by decide, by decide⟩
  | spring k => exact h
/-- the new place and what is given -/
def pp : Part → Int → Int → Int × Int
  | .wheel z ms, x, w => ((x + w) % z, if (if w = 1 then (x + w) % z else x) ∈ ms then w else 0)
  | .click, _, w => (0, if w = 1 then 1 else 0)
  | .rocker, x, w => (if w = 1 then 1 else 0, if w = 1 ∧ x = 0 then 1 else 0)
  | .spring k, x, w => if w = 1 then (if x = k - 1 then (0, 1) else (x + 1, 0)) else (if x - 1 > 0 then x - 1 else 0, 0)
def stands : List Part → Int
  | [] => 1
  | p :: r => p.places * stands r
def Sign (w : Int) : Prop := w = 1 ∨ w = -1
theorem pp_sign (p : Part) (x w : Int) (h : Sign w) : (pp p x w).2 = 0 ∨ Sign (pp p x w).2 := by
  cases p with
  | wheel z ms =>
    by_cases e : (if w = 1 then (x + w) % z else x) ∈ ms
    · rw [show (pp (.wheel z ms) x w).2 = w from if_pos e]
      exact .inr h
    · exact .inl (if_neg e)
  | click =>
    show (if w = 1 then (1 : Int) else 0) = 0 ∨ Sign (if w = 1 then (1 : Int) else 0)
    split
    · exact .inr (.inl rfl)
    · exact .inl rfl
  | rocker =>
    show (if w = 1 ∧ x = 0 then (1 : Int) else 0) = 0 ∨ Sign (if w = 1 ∧ x = 0 then (1 : Int) else 0)
    split
    · exact .inr (.inl rfl)
    · exact .inl rfl
  | spring k =>
    show (if w = 1 then (if x = k - 1 then ((0 : Int), (1 : Int)) else (x + 1, 0)) else (if x - 1 > 0 then x - 1 else 0, 0)).2 = 0 ∨ Sign (if w = 1 then (if x = k - 1 then ((0 : Int), (1 : Int)) else (x + 1, 0)) else (if x - 1 > 0 then x - 1 else 0, 0)).2
    split
    · split
      · exact .inr (.inl rfl)
      · exact .inl rfl
    · exact .inl rfl
/-- one part's turn in a push that goes along a train -/
def stp (ps : List Part) (s : List Int × Int) (n : Nat) : List Int × Int :=
  if s.2 = 0 then s else match ps[n]?, s.1[n]? with
    | some p, some x => (s.1.set n (pp p x s.2).1, (pp p x s.2).2)
    | _, _ => s
def runN (ps : List Part) (i : Nat) (s : List Int × Int) : Nat → List Int × Int
  | 0 => s
  | n + 1 => stp ps (runN ps i s n) (i + n)
theorem stp_zero {ps : List Part} {s : List Int × Int} {n : Nat} (h : s.2 = 0) : stp ps s n = s := by
  unfold stp
  rw [if_pos h]
theorem stp_at {ps : List Part} {s : List Int × Int} {n : Nat} {p : Part} {x : Int} (h : s.2 ≠ 0) (hp : ps[n]? = some p) (hx : s.1[n]? = some x) : stp ps s n = (s.1.set n (pp p x s.2).1, (pp p x s.2).2) := by
  unfold stp
  rw [if_neg h, hp, hx]
theorem runN_zero {ps : List Part} {i : Nat} {s : List Int × Int} {n : Nat} (h : (runN ps i s n).2 = 0) : ∀ m, runN ps i s (n + m) = runN ps i s n
  | 0 => rfl
  | m + 1 => by
    show stp ps (runN ps i s (n + m)) _ = _
    rw [runN_zero h m]
    exact stp_zero h
theorem stp_len (ps : List Part) (s : List Int × Int) (n : Nat) : (stp ps s n).1.length = s.1.length := by
  unfold stp
  split
  · rfl
  · split
    · show (s.1.set n _).length = _
      rw [List.length_set]
    · rfl
theorem runN_len (ps : List Part) (i : Nat) (s : List Int × Int) : ∀ n, (runN ps i s n).1.length = s.1.length
  | 0 => rfl
  | n + 1 => by
    show (stp ps _ _).1.length = _
    rw [stp_len, runN_len ps i s n]
theorem stp_other {ps : List Part} {s : List Int × Int} {n m : Nat} (h : n ≠ m) : (stp ps s n).1[m]? = s.1[m]? := by
  unfold stp
  split
  · rfl
  · split
    · show (s.1.set n _)[m]? = _
      rw [List.getElem?_set_ne h]
    · rfl
/-- parts not come to yet stand as they stood -/
theorem runN_ahead (ps : List Part) (i : Nat) (s : List Int × Int) : ∀ n m, i + n ≤ m → (runN ps i s n).1[m]? = s.1[m]?
  | 0, _, _ => rfl
  | n + 1, m, h => by
    show (stp ps _ _).1[m]? = _
    rw [stp_other (by omega), runN_ahead ps i s n m (by omega)]
theorem runN_sign (ps : List Part) (i : Nat) (s : List Int × Int) (h : Sign s.2) : ∀ n, (runN ps i s n).2 = 0 ∨ Sign (runN ps i s n).2
  | 0 => .inr h
  | n + 1 => by
    show (stp ps _ _).2 = 0 ∨ Sign (stp ps _ _).2
    rcases runN_sign ps i s h n with e | e
    · rw [stp_zero e]
      exact .inl e
    · unfold stp
      split
      · rename_i z
        exact .inl z
      · split
        · exact pp_sign _ _ _ e
        · exact .inr e
def StandOk (ps : List Part) (xs : List Int) : Prop := xs.length = ps.length ∧ ∀ (i : Nat) (p : Part) (x : Int), ps[i]? = some p → xs[i]? = some x → 0 ≤ x ∧ x < p.places
def run (ps : List Part) (xs : List Int) (i : Nat) (w : Int) : List Int × Int := runN ps i (xs, w) (ps.length - i)
/-! what stands for a part -/
section
variable {K : PySem.W.Frag} {H : Hp}
theorem tup_inv {v : V} {ds : List PyData} (h : Dp K H v (.tuple ds)) : ∃ a vs, v = .ref a ∧ SqT K H a vs ∧ DpAll K H vs ds := by
  cases h with
  | tup h t => exact ⟨_, _, rfl, h, t⟩
theorem lst_inv {v : V} {ds : List PyData} (h : Dp K H v (.list ds)) : ∃ a vs, v = .ref a ∧ SqL K H a vs ∧ DpAll K H vs ds := by
  cases h with
  | lst h t => exact ⟨_, _, rfl, h, t⟩
theorem wheel_inv {v : V} {z : Int} {ms : List Int} (h : Dp K H v (Part.wheel z ms).data) : ∃ a b, v = .ref a ∧ SqT K H a [.str "wheel", .int z, .ref b] ∧ SqT K H b (ms.map V.int) := by
  obtain ⟨a, vs, rfl, hs, ht⟩ := tup_inv h
  cases ht with
  | cons h1 t1 => cases h1; cases t1 with
    | cons h2 t2 => cases h2; cases t2 with
      | cons h3 t3 =>
        cases t3
        obtain ⟨b, ws, rfl, hb, hw⟩ := tup_inv h3
        cases dpAll_ints_inv ms hw
        exact ⟨a, b, rfl, hs, hb⟩
theorem spring_inv {v : V} {k : Int} (h : Dp K H v (Part.spring k).data) : ∃ a, v = .ref a ∧ SqT K H a [.str "spring", .int k] := by
  obtain ⟨a, vs, rfl, hs, ht⟩ := tup_inv h
  cases ht with
  | cons h1 t1 => cases h1; cases t1 with
    | cons h2 t2 => cases h2; cases t2; exact ⟨a, rfl, hs⟩
theorem click_inv {v : V} (h : Dp K H v Part.click.data) : ∃ a, v = .ref a ∧ SqT K H a [.str "click"] := by
  obtain ⟨a, vs, rfl, hs, ht⟩ := tup_inv h
  cases ht with
  | cons h1 t1 => cases h1; cases t1; exact ⟨a, rfl, hs⟩
theorem rocker_inv {v : V} (h : Dp K H v Part.rocker.data) : ∃ a, v = .ref a ∧ SqT K H a [.str "rocker"] := by
  obtain ⟨a, vs, rfl, hs, ht⟩ := tup_inv h
  cases ht with
  | cons h1 t1 => cases h1; cases t1; exact ⟨a, rfl, hs⟩
theorem wheel_dp {a b : Addr} {z : Int} {ms : List Int} (h : SqT K H a [.str "wheel", .int z, .ref b]) (hb : SqT K H b (ms.map V.int)) : Dp K H (.ref a) (Part.wheel z ms).data :=
  .tup h (.cons (.str _) (.cons (.int _) (.cons (.tup hb (dpAll_ints ms)) .nil)))
theorem spring_dp {a : Addr} {k : Int} (h : SqT K H a [.str "spring", .int k]) : Dp K H (.ref a) (Part.spring k).data := .tup h (.cons (.str _) (.cons (.int _) .nil))
theorem click_dp {a : Addr} (h : SqT K H a [.str "click"]) : Dp K H (.ref a) Part.click.data := .tup h (.cons (.str _) .nil)
theorem rocker_dp {a : Addr} (h : SqT K H a [.str "rocker"]) : Dp K H (.ref a) Part.rocker.data := .tup h (.cons (.str _) .nil)
/-- a train at a: its parts -/
def TrainAt (K : PySem.W.Frag) (H : Hp) (a : Addr) (ps : List Part) : Prop := ∃ vs, SqL K H a vs ∧ DpAll K H vs (ps.map Part.data)
theorem TrainAt.same {H' : Hp} {a : Addr} {ps : List Part} (e : Same H H') (h : TrainAt K H a ps) : TrainAt K H' a ps := by
  obtain ⟨vs, h1, h2⟩ := h
  exact ⟨vs, e.seq h1, dpAll_same e h2⟩
theorem TrainAt.at {a : Addr} {ps : List Part} {vs : List V} (h2 : DpAll K H vs (ps.map Part.data)) {i : Nat} {p : Part} (e : ps[i]? = some p) : ∃ v, vs[i]? = some v ∧ Dp K H v p.data :=
  dpAll_get h2 (by rw [List.getElem?_map, e]; rfl)
end
/-- a list that is changed leaves the parts as they are -/
theorem sqT_upd {K : PySem.W.Frag} {H : Hp} {a l : Addr} {xs ws : List V} {o : HO} (h : SqT K H a xs) (hl : H l = some (.lst ws)) : SqT K (upd H l o) a xs := by
  rcases h with (h | ⟨u, h⟩) | h
  · exact .inl (.inl (by rw [upd_ne (ne_of h hl (by intro z; cases z))]; exact h))
  · exact .inl (.inr ⟨u, by rw [upd_ne (ne_of h hl (by intro z; cases z))]; exact h⟩)
  · exact .inr h
theorem part_upd {K : PySem.W.Frag} {H : Hp} {l : Addr} {ws : List V} {o : HO} {v : V} {p : Part} (h : Dp K H v p.data) (hl : H l = some (.lst ws)) : Dp K (upd H l o) v p.data := by
  cases p with
  | wheel z ms =>
    obtain ⟨a, b, rfl, ha, hb⟩ := wheel_inv h
    exact wheel_dp (sqT_upd ha hl) (sqT_upd hb hl)
  | click =>
    obtain ⟨a, rfl, ha⟩ := click_inv h
    exact click_dp (sqT_upd ha hl)
  | rocker =>
    obtain ⟨a, rfl, ha⟩ := rocker_inv h
    exact rocker_dp (sqT_upd ha hl)
  | spring k =>
    obtain ⟨a, rfl, ha⟩ := spring_inv h
    exact spring_dp (sqT_upd ha hl)
theorem parts_upd {K : PySem.W.Frag} {H : Hp} {l : Addr} {ws : List V} {o : HO} (hl : H l = some (.lst ws)) : ∀ {vs : List V} (ps : List Part), DpAll K H vs (ps.map Part.data) → DpAll K (upd H l o) vs (ps.map Part.data)
  | _, [], .nil => .nil
  | _, p :: r, .cons h t => .cons (part_upd h hl) (parts_upd hl r t)
theorem stands_app : ∀ (ps : List Part) (p : Part), stands (ps ++ [p]) = stands ps * p.places
  | [], p => by
    show p.places * 1 = 1 * p.places
    rw [Int.mul_one, Int.one_mul]
  | a :: r, p => by
    show a.places * stands (r ++ [p]) = a.places * stands r * p.places
    rw [stands_app r p, Int.mul_assoc]
theorem stands_pos : ∀ (ps : List Part), (∀ p ∈ ps, p.ok) → 1 ≤ stands ps
  | [], _ => Int.le_refl _
  | a :: r, h => by
    have h1 := (h a List.mem_cons_self).pos.1
    have h2 := stands_pos r fun p hp => h p (List.mem_cons_of_mem _ hp)
    show 1 ≤ a.places * stands r
    have := Int.mul_le_mul h1 h2 (by decide) (by omega)
    omega
theorem room_step {s pl room most : Int} (hs : 1 ≤ s) (h1 : 1 ≤ pl) (h2 : pl ≤ room) (h : s * room ≤ most) : 1 ≤ room / pl ∧ s * pl * (room / pl) ≤ most := by
  refine ⟨Int.le_ediv_of_mul_le (by omega) (by omega), ?_⟩
  rw [Int.mul_assoc]
  exact Int.le_trans (Int.mul_le_mul_of_nonneg_left (Int.mul_ediv_self_le (by omega)) (by omega)) h
theorem room_end {s room most : Int} (hs : 1 ≤ s) (h1 : 1 ≤ room) (h : s * room ≤ most) : s ≤ most := by
  have := Int.mul_le_mul_of_nonneg_left h1 (show 0 ≤ s by omega)
  omega
/-! data that can be laid -/
theorem canLay_ints : ∀ ns : List Int, PyData.canLayAll0 (ns.map PyData.int) = true
  | [] => rfl
  | n :: r => by
    rw [List.map_cons, PyData.canLayAll0, canLay_ints r]
    rfl
theorem lay_all {n : Nat} : ∀ ds : List PyData, (∀ d ∈ ds, d.canLay0 = true ∧ d.depth ≤ n) → PyData.canLayAll0 ds = true ∧ PyData.depthAll ds ≤ n
  | [], _ => ⟨rfl, Nat.zero_le _⟩
  | d :: r, h => by
    have h1 := h d List.mem_cons_self
    have h2 := lay_all r fun e he => h e (List.mem_cons_of_mem _ he)
    rw [PyData.canLayAll0, PyData.depthAll, h1.1, h2.1]
    exact ⟨rfl, Nat.max_le.mpr ⟨h1.2, h2.2⟩⟩
theorem lay_tup {n : Nat} {ds : List PyData} (h : ∀ d ∈ ds, d.canLay0 = true ∧ d.depth ≤ n) : (PyData.tuple ds).canLay0 = true ∧ (PyData.tuple ds).depth ≤ n + 1 := by
  obtain ⟨h1, h2⟩ := lay_all ds h
  rw [PyData.canLay0, PyData.depth]
  exact ⟨h1, by omega⟩
theorem lay_lst {n : Nat} {ds : List PyData} (h : ∀ d ∈ ds, d.canLay0 = true ∧ d.depth ≤ n) : (PyData.list ds).canLay0 = true ∧ (PyData.list ds).depth ≤ n + 1 := by
  obtain ⟨h1, h2⟩ := lay_all ds h
  rw [PyData.canLay0, PyData.depth]
  exact ⟨h1, by omega⟩
theorem lay_int (n : Nat) (i : Int) : (PyData.int i).canLay0 = true ∧ (PyData.int i).depth ≤ n := ⟨rfl, Nat.zero_le _⟩
theorem lay_str (n : Nat) (x : Str) (h : (PyData.str x).canLay0 = true := by decide +kernel) : (PyData.str x).canLay0 = true ∧ (PyData.str x).depth ≤ n := ⟨h, Nat.zero_le _⟩
theorem lay_ints (ns : List Int) (n : Nat) : ∀ d ∈ ns.map PyData.int, d.canLay0 = true ∧ d.depth ≤ n := fun d hd => by
  obtain ⟨i, _, rfl⟩ := List.mem_map.mp hd
  exact lay_int n i
theorem lay_mono {d : PyData} {n m : Nat} (h : d.canLay0 = true ∧ d.depth ≤ n) (e : n ≤ m) : d.canLay0 = true ∧ d.depth ≤ m := ⟨h.1, Nat.le_trans h.2 e⟩
theorem lay_part (p : Part) : p.data.canLay0 = true ∧ p.data.depth ≤ 2 := by
  cases p with
  | wheel z ms =>
    refine lay_tup (n := 1) fun d hd => ?_
    rcases List.mem_cons.mp hd with rfl | hd
    · exact lay_str _ _
    rcases List.mem_cons.mp hd with rfl | hd
    · exact lay_int _ _
    rcases List.mem_cons.mp hd with rfl | hd
    · exact lay_tup (lay_ints ms 0)
    · cases hd
  | click => exact lay_mono (lay_tup (n := 0) fun d hd => by
      rcases List.mem_cons.mp hd with rfl | hd
      · exact lay_str _ _
      · cases hd) (by decide)
  | rocker => exact lay_mono (lay_tup (n := 0) fun d hd => by
      rcases List.mem_cons.mp hd with rfl | hd
      · exact lay_str _ _
      · cases hd) (by decide)
  | spring k => exact lay_mono (lay_tup (n := 0) fun d hd => by
      rcases List.mem_cons.mp hd with rfl | hd
      · exact lay_str _ _
      rcases List.mem_cons.mp hd with rfl | hd
      · exact lay_int _ _
      · cases hd) (by decide)
theorem lay_train (ps : List Part) : (PyData.list (ps.map Part.data)).canLay0 = true ∧ (PyData.list (ps.map Part.data)).depth ≤ 3 := lay_lst fun d hd => by
  obtain ⟨p, _, rfl⟩ := List.mem_map.mp hd
  exact lay_part p
theorem shaped_of {d : PyData} {n : Nat} (h : d.canLay0 = true ∧ d.depth ≤ n) (e : n ≤ 64) : SeqAt.shaped d = true := by
  unfold SeqAt.shaped
  rw [h.1, decide_eq_true (Nat.le_trans h.2 e)]
  rfl
theorem lay_told (xs : List Int) (y : Int) : (PyData.tuple [.tuple (xs.map PyData.int), .int y]).canLay0 = true ∧ (PyData.tuple [.tuple (xs.map PyData.int), .int y]).depth ≤ 2 := lay_tup (n := 1) fun d hd => by
  rcases List.mem_cons.mp hd with rfl | hd
  · exact lay_tup (lay_ints xs 0)
  rcases List.mem_cons.mp hd with rfl | hd
  · exact lay_int _ _
  · cases hd
theorem w_neSame {K : PySem.W.Frag} {H : Hp} {Q : VK} {x y : V} (d : PyData) {n : Nat} (hx : Dp K H x d) (hy : Dp K H y d) (h : d.canLay0 = true ∧ d.depth ≤ n) (e : n ≤ 64) (q : Q (.bl false) H) : rNeD K x y H Q :=
  ⟨d, d, hx, hy, shaped_of h e, shaped_of h e, by rw [SeqAt.eqv_refl d h.1]; exact q⟩
theorem tyx_T {K : PySem.W.Frag} {H : Hp} {a : Addr} {xs : List V} (h : SqT K H a xs) : TyX K H (.ref a) (.type "tuple") := by
  rcases h with (h | ⟨o, h⟩) | ⟨o, its, n, hk, hc, _⟩
  · exact .base (.tup h)
  · exact .fTuple h
  · exact .kTuple hk hc
theorem tyx_L {K : PySem.W.Frag} {H : Hp} {a : Addr} {xs : List V} (h : SqL K H a xs) : TyX K H (.ref a) (.type "list") := by
  rcases h with (h | ⟨o, h⟩) | ⟨o, its, n, hk, hc, _⟩
  · exact .base (.lst h)
  · exact .base (.frz h)
  · exact .kList hk hc
end Ct

namespace Ct
open PySem PySem.Spec PyProof.Rows L2
/-! zip of a list and a tuple: the list first -/
def ItM (K : PySem.W.Frag) (a b : Addr) : It where
  go := fun i H => ∃ (xs ys : List V) (x y : V), SqL K H a xs ∧ SqT K H b ys ∧ xs[i]? = some x ∧ ys[i]? = some y
  yld := fun i H v H' => ∃ T x y, v = .ref T ∧ H T = none ∧ H' = upd H T (.tup [x, y]) ∧ (∀ xs, SqL K H a xs → xs[i]? = some x) ∧ ∀ ys, SqT K H b ys → ys[i]? = some y
  stop := fun i H => ∃ xs ys : List V, SqL K H a xs ∧ SqT K H b ys ∧ min xs.length ys.length = i
abbrev ZSt (a b z TI TO i1 i2 : Addr) (i : Nat) (h : Heap) : Prop :=
  IsZip h z TI TO .none ∧ IsTupOf2 h TI (.ref i1) (.ref i2) ∧ (∃ a1 a2, IsTupOf2 h TO a1 a2) ∧ h.IsListIter i1 a i ∧ h.IsTupleIter i2 b i
theorem turnM {P : Program} {w : World} {K : PySem.W.Frag} {es : List Expr} {kk : Nat} {tp : Pos} {a b N : Nat} (ha : a < N) (hb : b < N) :
    Turn P w K (.Tuple es kk tp) (ItM K a b) [N + 4, N + 2, N + 3, N, N + 1] (N + 4) (ZSt a b (N + 4) (N + 2) (N + 3) N (N + 1)) := by
  have five : ∀ {c : Nat}, c ∈ [N + 4, N + 2, N + 3, N, N + 1] → N ≤ c := fun {c} hc => by
    simp only [List.mem_cons, List.not_mem_nil, or_false] at hc
    omega
  have sep : ZipSep2 (N + 4) (N + 2) (N + 3) N (N + 1) [N, a] [N + 1, b] := zip_sep2 (fun c hc => by rw [List.mem_singleton] at hc; rw [hc]; exact ha) fun c hc => by rw [List.mem_singleton] at hc; rw [hc]; exact hb
  have wrfp : ∀ {c : Nat}, c ∉ [N + 4, N + 2, N + 3, N, N + 1] → c ∉ [N + 4, N + 3, N, N + 1] := fun {c} hc hm => hc (by
    simp only [List.mem_cons, List.not_mem_nil, or_false] at hm ⊢
    omega)
  refine ⟨List.mem_cons_self, fun i h st c hc => ?_, fun i h h' st k => ?_, ?_, ?_, fun A i s Q E st h => wpAny_pyIter_zip st.1 h⟩
  · obtain ⟨s1, s2, ⟨u, v, s3⟩, ⟨o1, g1, _, d1⟩, ⟨o2, g2, _, d2⟩⟩ := st
    simp only [List.mem_cons, List.not_mem_nil, or_false] at hc
    rcases hc with e | e | e | e | e <;> subst e
    · exact ⟨_, s1, fun v q => nomatch q⟩
    · exact ⟨_, s2, fun v q => nomatch q⟩
    · exact ⟨_, s3, fun v q => nomatch q⟩
    · exact ⟨o1, g1, fun v q => by rw [d1] at q; cases q⟩
    · exact ⟨o2, g2, fun v q => by rw [d2] at q; cases q⟩
  · obtain ⟨s1, s2, ⟨u, v, s3⟩, s4, s5⟩ := st
    exact ⟨k _ (by simp) _ s1, k _ (by simp) _ s2, ⟨u, v, k _ (by simp) _ s3⟩, s4.at fun o q => k N (by simp) o q, s5.at fun o q => k (N + 1) (by simp) o q⟩
  · intro X eP ew eK calm i pins s σ H E I hf st hg
    subst eP ew eK
    obtain ⟨xs, ys, x, y, lx, ty, gx, gy⟩ := hg
    obtain ⟨us, rx, px, _⟩ := I.list lx
    obtain ⟨vs, ry, py, _⟩ := I.tuple ty
    obtain ⟨s1, s2, s3, s4, s5⟩ := st
    have hh : X.A.in1.handled = none := I.ok.hd calm
    have G := GoesN.zip2 (elts := es) (x1 := kk) (pos := tp) sep (Draws.list (prog := X.prog) (w := X.w) hh N a (Nat.ne_of_lt ha) us.toArray) (Draws.tuple (prog := X.prog) (w := X.w) hh (N + 1) b (Nat.ne_of_lt (Nat.lt_succ_of_lt hb)) vs.toArray)
    have lu := rx.length
    have lv := ry.length
    have ix : i < xs.length := (List.getElem?_eq_some_iff.mp gx).1
    have iy : i < ys.length := (List.getElem?_eq_some_iff.mp gy).1
    refine G.goes i s _ E (by rw [List.size_toArray, List.size_toArray]; omega) ⟨s1, s2, s3, ⟨s4, px.isList⟩, ⟨s5, py⟩⟩ fun v h' tk hY st' hk _ => ?_
    obtain ⟨T, u1, u2, rfl, hT, q1, q2, hTu⟩ := hY
    obtain ⟨w1, e1, r1⟩ := rx.get gx
    obtain ⟨w2, e2, r2⟩ := ry.get gy
    have f1 : w1 = u1 := Option.some.inj (e1.symm.trans (by simpa using q1))
    have f2 : w2 = u2 := Option.some.inj (e2.symm.trans (by simpa using q2))
    subst f1 f2
    have new : ObjOk X.prog X.w (upd H T (.tup [x, y])) h' T (.tup [x, y]) := ⟨len2 rfl, [w1, w2], .cons r1 (.cons r2 .nil), hTu⟩
    refine ⟨.ref T, _, I.turnedNew (t' := tk) (fun c o hc e => hk c o (wrfp hc) e) hf hT new, rfl, ⟨T, x, y, rfl, I.hok.fresh hT, rfl, fun l hl => by rw [I.list_inj hl lx]; exact gx, fun l hl => by rw [I.tuple_inj hl ty]; exact gy⟩, ⟨st'.1, st'.2.1, st'.2.2.1, st'.2.2.2.1.1, st'.2.2.2.2.1⟩, fun c hc => ?_⟩
    obtain ⟨o, g, _⟩ : ∃ o, s.heap.get? c = some o ∧ True := by
      obtain ⟨u, v, s3⟩ := s3
      obtain ⟨o1, g1, _⟩ := s4
      obtain ⟨o2, g2, _⟩ := s5
      simp only [List.mem_cons, List.not_mem_nil, or_false] at hc
      rcases hc with e | e | e | e | e <;> subst e
      · exact ⟨_, s1, trivial⟩
      · exact ⟨_, s2, trivial⟩
      · exact ⟨_, s3, trivial⟩
      · exact ⟨_, g1, trivial⟩
      · exact ⟨_, g2, trivial⟩
    rw [upd_ne (Nat.ne_of_lt (Nat.lt_of_lt_of_le (Heap.lt_size g) hT))]
    exact (hf c hc).1
  · intro X eP ew eK calm i pins s σ H E I hf st hg
    subst eP ew eK
    obtain ⟨xs, ys, lx, ty, hm⟩ := hg
    obtain ⟨us, rx, px, _⟩ := I.list lx
    obtain ⟨vs, ry, py, _⟩ := I.tuple ty
    obtain ⟨s1, s2, s3, s4, s5⟩ := st
    have hh : X.A.in1.handled = none := I.ok.hd calm
    have G := GoesN.zip2 (elts := es) (x1 := kk) (pos := tp) sep (Draws.list (prog := X.prog) (w := X.w) hh N a (Nat.ne_of_lt ha) us.toArray) (Draws.tuple (prog := X.prog) (w := X.w) hh (N + 1) b (Nat.ne_of_lt (Nat.lt_succ_of_lt hb)) vs.toArray)
    have lu := rx.length
    have lv := ry.length
    have hn : min us.toArray.size vs.toArray.size = i := by rw [List.size_toArray, List.size_toArray]; omega
    rw [hn] at G
    exact G.stops s _ E ⟨s1, s2, s3, ⟨s4, px.isList⟩, ⟨s5, py⟩⟩ fun h' tk hk _ => I.turnedL (t' := tk) (fun c o hc e => hk c o (wrfp hc) e) hf
def iM (K : PySem.W.Frag) (ta : TA) : TI := fun σ H R => ta σ H fun vs H1 => ∃ a b xs ys, vs = [.ref a, .ref b] ∧ SqL K H1 a xs ∧ SqT K H1 b ys ∧ R (ItM K a b) H1
theorem pi_zipM {X : Cx} {e e2 : Expr} {ta : TA} {p pos tp : Pos} {es : List Expr} {kk : Nat} (gl : Gl X "zip") (mz : X.mg "zip" = none) (pa : PA X [e, e2] ta)
    (se : starEach [e, e2] X.env = (false, eval e X.env) :: starEach [e2] X.env := by rfl) (bk : (backTo pos (starEach [e2] X.env)).any (·.1) = false := by rfl) : PI X (.Tuple es kk tp) (.Call (.Name "zip" p) [e, e2] [] pos) (iM X.K ta) := by
  refine ⟨fun pins s σ H R I h => Call_ (ld_blt I gl mz boot_zip (callWith_type1 (thn (pa.run pos pins s σ H _ I h) fun us s1 ⟨vs, H1, I1, r1, q1⟩ => ?_) se bk))⟩
  obtain ⟨a, b, xs, ys, rfl, lx, ty, q⟩ := q1
  cases r1 with
  | cons ra rr => cases rr with
    | cons rb rn =>
      cases rn
      cases ra
      cases rb
      obtain ⟨us, rx, px, _⟩ := I1.list lx
      obtain ⟨vs, ry, py, _⟩ := I1.tuple ty
      obtain ⟨ob, gb, _⟩ := id py
      refine zip_begins2 (begins_list a us.toArray) (begins_tuple b vs.toArray) px.isList py fun h' z1 z2 z3 g1 g2 _ hk => wpAny_pyIter_zip z1 ?_
      have I2 : Inv X pins σ H1 { s1 with heap := h' } := I1.kept (t' := s1.toks) hk
      refine ⟨_, _, _, _, H1, rfl, I2, turnM px.lt (Heap.lt_size gb), ⟨z1, z2, ⟨_, _, z3⟩, ⟨_, g1, rfl, rfl⟩, ⟨_, g2, rfl, rfl⟩⟩, fun c hc => ?_, q⟩
      have hle : s1.heap.objs.size ≤ c := by
        simp only [List.mem_cons, List.not_mem_nil, or_false] at hc
        rcases hc with e | e | e | e | e <;> subst e <;> first | exact Nat.le_add_right _ _ | exact Nat.le_refl _
      exact I1.fpOk hle (I1.hok.fresh hle)
section
variable {K : PySem.W.Frag} {H : Hp} {σ : L2.St} {D : Ends} {R : It → Hp → Prop}
def IM (K : PySem.W.Frag) (vs : List V) (H : Hp) (R : It → Hp → Prop) : Prop := iM K (fun _ H Q => Q vs H) [] H R
theorem w_im {ta : TA} (h : ta σ H fun vs H1 => IM K vs H1 R) : iM K ta σ H R := h
theorem w_IM {a b : Addr} {xs ys : List V} (h1 : SqL K H a xs) (h2 : SqT K H b ys) (q : R (ItM K a b) H) : IM K [.ref a, .ref b] H R := ⟨a, b, xs, ys, rfl, h1, h2, q⟩
theorem fb_zipM {a b : Addr} (xs ys : List V) (hl : xs.length = ys.length) {g : TG} {tb : TS} (Pv : Nat → L2.St → Hp → Prop) (h0 : Pv 0 σ H) (hq : ∀ i σ H, i ≤ xs.length → Pv i σ H → SqL K H a xs ∧ SqT K H b ys)
    (hs : ∀ i x y T σ H, xs[i]? = some x → ys[i]? = some y → Pv i σ H → H T = none → g (.ref T) σ (upd H T (.tup [x, y])) fun σ2 H2 => tb { D with nx := Pv (i + 1), ct := Pv (i + 1), bk := D.nx } σ2 H2) (hd : ∀ σ H, Pv xs.length σ H → D.nx σ H) : FB (ItM K a b) g tb D σ H := by
  refine ⟨fun i m σ H => m = xs.length - i ∧ i ≤ xs.length ∧ Pv i σ H, ⟨xs.length, rfl, Nat.zero_le _, h0⟩, ?_⟩
  rintro i m σ H ⟨rfl, hi, p⟩
  obtain ⟨q1, q2⟩ := hq i σ H hi p
  by_cases hlt : i < xs.length
  · refine .inr ⟨⟨xs, ys, _, _, q1, q2, List.getElem?_eq_getElem hlt, List.getElem?_eq_getElem (hl ▸ hlt)⟩, Pv (i + 1), fun σ' H' p' => ⟨xs.length - (i + 1), by omega, rfl, hlt, p'⟩, fun v H' y => ?_⟩
    obtain ⟨T, x1, x2, rfl, hT, rfl, f1, f2⟩ := y
    exact hs i x1 x2 T σ H (f1 _ q1) (f2 _ q2) p hT
  · exact .inl ⟨⟨xs, ys, q1, q2, by omega⟩, hd σ H (by rw [show xs.length = i by omega]; exact p)⟩
end
end Ct

namespace Ct
open PySem PySem.Spec PyProof.Rows L2
/-! pushes of one deed, reckoned at once -/
def cnt (ms : List Int) (r : Int) : Int := ((ms.filter fun m => decide (m ≤ r)).length : Int)
theorem cnt_nil (r : Int) : cnt [] r = 0 := rfl
theorem cnt_cons (m : Int) (ms : List Int) (r : Int) : cnt (m :: ms) r = (if m ≤ r then 1 else 0) + cnt ms r := by
  unfold cnt
  rw [List.filter_cons]
  by_cases h : m ≤ r
  · rw [if_pos h, if_pos (decide_eq_true h), List.length_cons]
    omega
  · rw [if_neg h, if_neg (by rw [decide_eq_false h]; exact Bool.false_ne_true)]
    omega
theorem cnt_all : ∀ {ms : List Int} {r : Int}, (∀ m ∈ ms, m ≤ r) → cnt ms r = ms.length
  | [], _, _ => rfl
  | m :: ms, r, h => by
    rw [cnt_cons, if_pos (h m List.mem_cons_self), cnt_all fun x hx => h x (List.mem_cons_of_mem _ hx), List.length_cons]
    omega
theorem cnt_zero : ∀ {ms : List Int} {r : Int}, (∀ m ∈ ms, r < m) → cnt ms r = 0
  | [], _, _ => rfl
  | m :: ms, r, h => by
    have h1 := h m List.mem_cons_self
    rw [cnt_cons, if_neg (by omega), cnt_zero fun x hx => h x (List.mem_cons_of_mem _ hx)]
    rfl
theorem cnt_split : ∀ (ms : List Int) (k : Nat) (r : Int), k ≤ ms.length → (∀ (j : Nat) (m : Int), j < k → ms[j]? = some m → m ≤ r) → (∀ (j : Nat) (m : Int), k ≤ j → ms[j]? = some m → r < m) → cnt ms r = k
  | ms, 0, r, _, _, h => cnt_zero fun m hm => by
    obtain ⟨j, hj, e⟩ := List.mem_iff_getElem.mp hm
    exact h j m (Nat.zero_le _) (by rw [List.getElem?_eq_getElem hj, e])
  | [], k + 1, r, hk, _, _ => absurd hk (by simp)
  | m :: ms, k + 1, r, hk, h1, h2 => by
    rw [cnt_cons, if_pos (h1 0 m (Nat.succ_pos k) rfl), cnt_split ms k r (by rw [List.length_cons] at hk; omega) (fun j x hj hx => h1 (j + 1) x (by omega) hx) fun j x hj hx => h2 (j + 1) x (by omega) hx]
    omega
theorem cnt_step : ∀ {ms : List Int} (r : Int), ms.Pairwise (· < ·) → cnt ms r = cnt ms (r - 1) + (if r ∈ ms then 1 else 0)
  | [], _, _ => rfl
  | m :: ms, r, h => by
    obtain ⟨h1, h2⟩ := List.pairwise_cons.mp h
    have ih := cnt_step r h2
    rw [cnt_cons, cnt_cons, ih]
    by_cases e : r = m
    · subst e
      have hn : r ∉ ms := fun z => by
        have := h1 r z
        omega
      rw [if_neg hn, if_pos List.mem_cons_self, if_pos (Int.le_refl _), if_neg (by omega)]
      omega
    · have hm : (r ∈ m :: ms) ↔ r ∈ ms := ⟨fun z => (List.mem_cons.mp z).resolve_left e, fun z => List.mem_cons_of_mem _ z⟩
      by_cases hr : r ∈ ms
      · rw [if_pos hr, if_pos (hm.mpr hr)]
        by_cases h3 : m ≤ r
        · rw [if_pos h3, if_pos (by omega)]
          omega
        · rw [if_neg h3, if_neg (by omega)]
          omega
      · rw [if_neg hr, if_neg (fun z => hr (hm.mp z))]
        by_cases h3 : m ≤ r
        · rw [if_pos h3, if_pos (by omega)]
          omega
        · rw [if_neg h3, if_neg (by omega)]
          omega
/-- marks up to a tooth, over all turns -/
def mah (z : Int) (ms : List Int) (y : Int) : Int := y / z * (ms.length : Int) + cnt ms (y % z)
theorem mah_step {z : Int} {ms : List Int} (hz : 1 ≤ z) (rs : Rise z ms) (y : Int) : mah z ms y = mah z ms (y - 1) + (if y % z ∈ ms then 1 else 0) := by
  unfold mah
  have e := Int.emod_add_mul_ediv y z
  have r0 := Int.emod_nonneg y (show z ≠ 0 by omega)
  have r1 := Int.emod_lt_of_pos y (show 0 < z by omega)
  by_cases h : y % z = 0
  · obtain ⟨e1, e2⟩ := (Int.ediv_emod_unique (a := y - 1) (b := z) (r := z - 1) (q := y / z - 1) (by omega)).mpr ⟨by rw [Int.mul_sub]; omega, by omega, by omega⟩
    rw [e1, e2, h, cnt_all (ms := ms) (r := z - 1) (fun m hm => by have := (rs.2 m hm).2; omega), cnt_step 0 rs.1, cnt_zero (ms := ms) (r := 0 - 1) (fun m hm => by have := (rs.2 m hm).1; omega), Int.sub_mul]
    omega
  · obtain ⟨e1, e2⟩ := (Int.ediv_emod_unique (a := y - 1) (b := z) (r := y % z - 1) (q := y / z) (by omega)).mpr ⟨by omega, by omega, by omega⟩
    rw [e1, e2, cnt_step (y % z) rs.1]
    omega
theorem mah_up {z : Int} {ms : List Int} (hz : 1 ≤ z) (rs : Rise z ms) (y : Int) : ∀ t : Nat, mah z ms y ≤ mah z ms (y + t)
  | 0 => by rw [show y + ((0 : Nat) : Int) = y by omega]; exact Int.le_refl _
  | t + 1 => by
    have h := mah_step hz rs (y + ((t + 1 : Nat) : Int))
    rw [show y + ((t + 1 : Nat) : Int) - 1 = y + t by omega] at h
    have ih := mah_up hz rs y t
    rw [h]
    split <;> omega
/-- so many pushes one way at a part: its place, and how many it gives -/
def pt (p : Part) (x w t : Int) : Int × Int := match p with
  | .wheel z ms => ((x + w * t) % z, if mah z ms (x + w * t) - mah z ms x < 0 then -(mah z ms (x + w * t) - mah z ms x) else mah z ms (x + w * t) - mah z ms x)
  | .click => (x, if w = 1 then t else 0)
  | .rocker => if t = 0 then (x, 0) else if w = -1 then (0, 0) else (1, 1 - x)
  | .spring k => if w = -1 then (if x - t > 0 then x - t else 0, 0) else ((x + t) % k, (x + t) / k)
theorem pt_zero {p : Part} {x w : Int} (ok : p.ok) (h0 : 0 ≤ x) (h1 : x < p.places) : pt p x w 0 = (x, 0) := by
  cases p with
  | wheel z ms =>
    have h2 : x < z := h1
    simp only [pt, Int.mul_zero, Int.add_zero, Int.emod_eq_of_lt h0 h2, Int.sub_self]
    rfl
  | click =>
    simp only [pt]
    split <;> rfl
  | rocker => rfl
  | spring k =>
    have h2 : x < k := h1
    simp only [pt]
    split
    · rw [show (if x - 0 > 0 then x - 0 else 0) = x by split <;> omega]
    · rw [Int.add_zero, Int.emod_eq_of_lt h0 h2, Int.ediv_eq_zero_of_lt h0 h2]
theorem pp_way (p : Part) (x w : Int) (h : Sign w) : (pp p x w).2 = 0 ∨ (pp p x w).2 = w := by
  cases p with
  | wheel z ms =>
    by_cases e : (if w = 1 then (x + w) % z else x) ∈ ms
    · exact .inr (if_pos e)
    · exact .inl (if_neg e)
  | click =>
    by_cases e : w = 1
    · exact .inr (by simp only [pp, if_pos e]; exact e.symm)
    · exact .inl (if_neg e)
  | rocker =>
    by_cases e : w = 1 ∧ x = 0
    · exact .inr (by simp only [pp, if_pos e]; exact e.1.symm)
    · exact .inl (if_neg e)
  | spring k =>
    by_cases e : w = 1
    · by_cases e2 : x = k - 1
      · exact .inr (by simp only [pp, if_pos e, if_pos e2]; exact e.symm)
      · exact .inl (by simp only [pp, if_pos e, if_neg e2])
    · exact .inl (by simp only [pp, if_neg e])
theorem neg_abs {d : Int} (h : 0 ≤ d) : (if d < 0 then -d else d) = d := if_neg (by omega)
theorem abs_neg {d : Int} (h : d ≤ 0) : (if d < 0 then -d else d) = -d := by
  split <;> omega
/-- one push more -/
theorem pt_step {p : Part} {x w : Int} (ok : p.ok) (h0 : 0 ≤ x) (h1 : x < p.places) (hw : Sign w) (t : Nat) :
    pt p x w ((t + 1 : Nat) : Int) = ((pp p (pt p x w t).1 w).1, (pt p x w t).2 + if (pp p (pt p x w t).1 w).2 = 0 then 0 else 1) := by
  cases p with
  | wheel z ms =>
    have hz : 1 ≤ z := ok.1
    have rs : Rise z ms := ok.2.2.1
    rcases hw with rfl | rfl
    · have u1 := mah_up hz rs x t
      have u2 := mah_up hz rs x (t + 1)
      have st := mah_step hz rs (x + ((t + 1 : Nat) : Int))
      rw [show x + ((t + 1 : Nat) : Int) - 1 = x + t by omega] at st
      simp only [pt, pp, Int.one_mul, if_true]
      rw [neg_abs (by omega), neg_abs (by omega)]
      have em : ((x + (t : Int)) % z + 1) % z = (x + ((t + 1 : Nat) : Int)) % z := by
        rw [Int.emod_add_emod]
        congr 1
        omega
      rw [em]
      by_cases hm : (x + ((t + 1 : Nat) : Int)) % z ∈ ms
      · rw [if_pos hm] at st ⊢
        rw [if_neg (by decide)]
        exact Prod.ext rfl (by show mah z ms _ - mah z ms x = mah z ms _ - mah z ms x + 1; omega)
      · rw [if_neg hm] at st ⊢
        rw [if_pos rfl]
        exact Prod.ext rfl (by show mah z ms _ - mah z ms x = mah z ms _ - mah z ms x + 0; omega)
    · have v1 := mah_up hz rs (x - t) t
      have v2 := mah_up hz rs (x - ((t + 1 : Nat) : Int)) (t + 1)
      have st := mah_step hz rs (x - t)
      rw [show x - t + t = x by omega] at v1
      rw [show x - ((t + 1 : Nat) : Int) + ((t + 1 : Nat) : Int) = x by omega] at v2
      simp only [pt, pp, show ∀ y : Int, x + -1 * y = x - y from fun y => by omega, if_neg (show ¬ (-1 : Int) = 1 by decide)]
      rw [abs_neg (by omega), abs_neg (by omega)]
      have em : ((x - (t : Int)) % z + -1) % z = (x - ((t + 1 : Nat) : Int)) % z := by
        rw [Int.emod_add_emod]
        congr 1
        omega
      rw [em]
      rw [show x - (t : Int) - 1 = x - ((t + 1 : Nat) : Int) by omega] at st
      by_cases hm : (x - (t : Int)) % z ∈ ms
      · rw [if_pos hm] at st ⊢
        rw [if_neg (by decide)]
        exact Prod.ext rfl (by show -(mah z ms _ - mah z ms x) = -(mah z ms _ - mah z ms x) + 1; omega)
      · rw [if_neg hm] at st ⊢
        rw [if_pos rfl]
        exact Prod.ext rfl (by show -(mah z ms _ - mah z ms x) = -(mah z ms _ - mah z ms x) + 0; omega)
  | click =>
    have h2 : x < 1 := h1
    have ex : x = 0 := by omega
    subst ex
    rcases hw with rfl | rfl
    · simp only [pt, pp, if_true]
      rw [if_neg (by decide)]
      exact Prod.ext rfl (by show ((t + 1 : Nat) : Int) = (t : Int) + 1; omega)
    · rfl
  | rocker =>
    have h2 : x < 2 := h1
    rcases hw with rfl | rfl
    · simp only [pt, pp, if_neg (show ¬ ((t + 1 : Nat) : Int) = 0 by omega), if_neg (show ¬ (1 : Int) = -1 by decide), if_true]
      by_cases ht : (t : Int) = 0
      · rw [if_pos ht]
        by_cases hx : x = 0
        · subst hx
          rfl
        · have hx1 : x = 1 := by omega
          subst hx1
          rfl
      · rw [if_neg ht]
        simp
    · simp only [pt, pp, if_neg (show ¬ ((t + 1 : Nat) : Int) = 0 by omega), if_true]
      by_cases ht : (t : Int) = 0
      · rw [if_pos ht]
        rfl
      · rw [if_neg ht]
        rfl
  | spring k =>
    have h2 : x < k := h1
    have hk : 1 ≤ k := ok.1
    rcases hw with rfl | rfl
    · simp only [pt, pp, if_neg (show ¬ (1 : Int) = -1 by decide), if_true]
      have e := Int.emod_add_mul_ediv (x + t) k
      have r0 := Int.emod_nonneg (x + t) (show k ≠ 0 by omega)
      have r1 := Int.emod_lt_of_pos (x + t) (show 0 < k by omega)
      by_cases hx : (x + (t : Int)) % k = k - 1
      · obtain ⟨e1, e2⟩ := (Int.ediv_emod_unique (a := x + ((t + 1 : Nat) : Int)) (b := k) (r := 0) (q := (x + t) / k + 1) (by omega)).mpr ⟨by rw [Int.mul_add]; omega, by omega, by omega⟩
        rw [if_pos hx, e1, e2]
        rfl
      · obtain ⟨e1, e2⟩ := (Int.ediv_emod_unique (a := x + ((t + 1 : Nat) : Int)) (b := k) (r := (x + t) % k + 1) (q := (x + t) / k) (by omega)).mpr ⟨by omega, by omega, by omega⟩
        rw [if_neg hx, e1, e2]
        exact Prod.ext rfl (by show (x + (t : Int)) / k = (x + (t : Int)) / k + 0; omega)
    · simp only [pt, pp, if_true, if_neg (show ¬ (-1 : Int) = 1 by decide)]
      refine Prod.ext ?_ rfl
      show (if x - ((t + 1 : Nat) : Int) > 0 then x - ((t + 1 : Nat) : Int) else 0) = (if (if x - (t : Int) > 0 then x - (t : Int) else 0) - 1 > 0 then (if x - (t : Int) > 0 then x - (t : Int) else 0) - 1 else 0)
      by_cases hx : x - (t : Int) > 0
      · rw [if_pos hx]
        split <;> split <;> omega
      · rw [if_neg hx]
        split <;> split <;> omega
theorem pt_nn {p : Part} {x w : Int} (ok : p.ok) (h0 : 0 ≤ x) (h1 : x < p.places) (hw : Sign w) : ∀ t : Nat, 0 ≤ (pt p x w t).2
  | 0 => by
    show 0 ≤ (pt p x w 0).2
    rw [pt_zero ok h0 h1]
    exact Int.le_refl _
  | t + 1 => by
    rw [pt_step ok h0 h1 hw t]
    have := pt_nn ok h0 h1 hw t
    show 0 ≤ (pt p x w t).2 + _
    split <;> omega
theorem pt_le {p : Part} {x w : Int} (ok : p.ok) (h0 : 0 ≤ x) (h1 : x < p.places) (hw : Sign w) : ∀ t : Nat, (pt p x w t).2 ≤ t
  | 0 => by
    show (pt p x w 0).2 ≤ 0
    rw [pt_zero ok h0 h1]
    exact Int.le_refl _
  | t + 1 => by
    rw [pt_step ok h0 h1 hw t]
    have := pt_le ok h0 h1 hw t
    show (pt p x w t).2 + _ ≤ _
    split <;> omega
theorem pp_place {p : Part} {x w : Int} (ok : p.ok) (h0 : 0 ≤ x) (h1 : x < p.places) (hw : Sign w) : 0 ≤ (pp p x w).1 ∧ (pp p x w).1 < p.places := by
  cases p with
  | wheel z ms =>
    have hz : 1 ≤ z := ok.1
    exact ⟨Int.emod_nonneg _ (by omega), Int.emod_lt_of_pos _ (by omega)⟩
  | click => exact ⟨Int.le_refl _, show (0 : Int) < 1 by decide⟩
  | rocker =>
    rcases hw with rfl | rfl
    · exact ⟨show (0 : Int) ≤ 1 by decide, show (1 : Int) < 2 by decide⟩
    · exact ⟨show (0 : Int) ≤ 0 by decide, show (0 : Int) < 2 by decide⟩
  | spring k =>
    have h2 : x < k := h1
    rcases hw with rfl | rfl
    · simp only [pp, if_true]
      by_cases e : x = k - 1
      · rw [if_pos e]
        exact ⟨Int.le_refl _, show (0 : Int) < k by omega⟩
      · rw [if_neg e]
        exact ⟨show 0 ≤ x + 1 by omega, show x + 1 < k by omega⟩
    · simp only [pp, if_neg (show ¬ (-1 : Int) = 1 by decide)]
      refine ⟨?_, ?_⟩
      · show 0 ≤ (if x - 1 > 0 then x - 1 else 0)
        split <;> omega
      · show (if x - 1 > 0 then x - 1 else 0) < k
        split <;> omega
theorem pt_place {p : Part} {x w : Int} (ok : p.ok) (h0 : 0 ≤ x) (h1 : x < p.places) (hw : Sign w) : ∀ t : Nat, 0 ≤ (pt p x w t).1 ∧ (pt p x w t).1 < p.places
  | 0 => by
    show 0 ≤ (pt p x w 0).1 ∧ (pt p x w 0).1 < p.places
    rw [pt_zero ok h0 h1]
    exact ⟨h0, h1⟩
  | t + 1 => by
    rw [pt_step ok h0 h1 hw t]
    obtain ⟨a, b⟩ := pt_place ok h0 h1 hw t
    exact pp_place ok a b hw
/-! along a train -/
def gen (f : Part → Int → Int → Int × Int) : List Part → List Int → Int → List Int × Int
  | p :: ps, x :: xs, a => ((f p x a).1 :: (gen f ps xs (f p x a).2).1, (gen f ps xs (f p x a).2).2)
  | _, xs, a => (xs, a)
def stF (f : Part → Int → Int → Int × Int) (ps : List Part) (s : List Int × Int) (n : Nat) : List Int × Int := match ps[n]?, s.1[n]? with
  | some p, some x => (s.1.set n (f p x s.2).1, (f p x s.2).2)
  | _, _ => s
def rnF (f : Part → Int → Int → Int × Int) (ps : List Part) (i : Nat) (s : List Int × Int) : Nat → List Int × Int
  | 0 => s
  | n + 1 => stF f ps (rnF f ps i s n) (i + n)
theorem stF_at {f : Part → Int → Int → Int × Int} {ps : List Part} {s : List Int × Int} {n : Nat} {p : Part} {x : Int} (hp : ps[n]? = some p) (hx : s.1[n]? = some x) : stF f ps s n = (s.1.set n (f p x s.2).1, (f p x s.2).2) := by
  unfold stF
  rw [hp, hx]
theorem rnF_first (f : Part → Int → Int → Int × Int) (ps : List Part) (i : Nat) (s : List Int × Int) : ∀ n, rnF f ps i s (n + 1) = rnF f ps (i + 1) (stF f ps s i) n
  | 0 => rfl
  | n + 1 => by
    show stF f ps (rnF f ps i s (n + 1)) (i + (n + 1)) = stF f ps (rnF f ps (i + 1) (stF f ps s i) n) (i + 1 + n)
    rw [rnF_first f ps i s n, show i + (n + 1) = i + 1 + n by omega]
theorem rnF_len (f : Part → Int → Int → Int × Int) (ps : List Part) (i : Nat) (s : List Int × Int) : ∀ n, (rnF f ps i s n).1.length = s.1.length
  | 0 => rfl
  | n + 1 => by
    show (stF f ps _ _).1.length = _
    rw [← rnF_len f ps i s n]
    unfold stF
    split
    · show (List.set _ _ _).length = _
      rw [List.length_set]
    · rfl
theorem rnF_ahead (f : Part → Int → Int → Int × Int) (ps : List Part) (i : Nat) (s : List Int × Int) : ∀ n m, i + n ≤ m → (rnF f ps i s n).1[m]? = s.1[m]?
  | 0, _, _ => rfl
  | n + 1, m, h => by
    rw [← rnF_ahead f ps i s n m (by omega)]
    show (stF f ps _ _).1[m]? = _
    unfold stF
    split
    · show (List.set _ _ _)[m]? = _
      rw [List.getElem?_set_ne (by omega)]
    · rfl
/-- places one by one, by number, or by going down the train -/
theorem rnF_gen (f : Part → Int → Int → Int × Int) (ps : List Part) : ∀ (n i : Nat) (xs : List Int) (a : Int), xs.length = ps.length → i + n = ps.length →
    rnF f ps i (xs, a) n = (xs.take i ++ (gen f (ps.drop i) (xs.drop i) a).1, (gen f (ps.drop i) (xs.drop i) a).2)
  | 0, i, xs, a, hl, hn => by
    have e1 : ps.drop i = [] := List.drop_of_length_le (by omega)
    have e2 : xs.drop i = [] := List.drop_of_length_le (by omega)
    rw [e1, e2]
    show (xs, a) = (xs.take i ++ [], a)
    rw [List.append_nil, List.take_of_length_le (by omega)]
  | n + 1, i, xs, a, hl, hn => by
    have hi : i < ps.length := by omega
    have hx : i < xs.length := by omega
    rw [rnF_first, stF_at (List.getElem?_eq_getElem hi) (List.getElem?_eq_getElem hx), rnF_gen f ps n (i + 1) _ _ (by rw [List.length_set]; exact hl) (by omega)]
    rw [List.drop_eq_getElem_cons hi, List.drop_eq_getElem_cons hx]
    show (List.take (i + 1) (xs.set i _) ++ (gen f _ (List.drop (i + 1) (xs.set i _)) _).1, _) = (xs.take i ++ ((f ps[i] xs[i] a).1 :: (gen f (ps.drop (i + 1)) (xs.drop (i + 1)) (f ps[i] xs[i] a).2).1), (gen f (ps.drop (i + 1)) (xs.drop (i + 1)) (f ps[i] xs[i] a).2).2)
    rw [List.drop_set_of_lt (by omega), show List.take (i + 1) (xs.set i (f ps[i] xs[i] a).1) = xs.take i ++ [(f ps[i] xs[i] a).1] by
      rw [List.take_set, List.take_add_one, List.getElem?_eq_getElem hx, List.set_append_right _ _ (by rw [List.length_take]; omega), List.length_take, show i - min i xs.length = 0 by omega]
      rfl, List.append_assoc]
    rfl
/-- a push that may be none -/
def ppz (p : Part) (x g : Int) : Int × Int := if g = 0 then (x, 0) else pp p x g
theorem stp_stF (ps : List Part) (s : List Int × Int) (n : Nat) : stp ps s n = stF ppz ps s n := by
  unfold stp stF
  split
  · rename_i h
    cases e1 : ps[n]? with
    | none => rfl
    | some p =>
      cases e2 : s.1[n]? with
      | none => rfl
      | some x =>
        obtain ⟨hn, hx⟩ := List.getElem?_eq_some_iff.mp e2
        show s = (s.1.set n (ppz p x s.2).1, (ppz p x s.2).2)
        unfold ppz
        rw [if_pos h]
        show s = (s.1.set n x, 0)
        rw [← hx, List.set_getElem_self, ← h]
  · rename_i h
    cases e1 : ps[n]? with
    | none => rfl
    | some p =>
      cases e2 : s.1[n]? with
      | none => rfl
      | some x =>
        show _ = (s.1.set n (ppz p x s.2).1, (ppz p x s.2).2)
        unfold ppz
        rw [if_neg h]
theorem runN_rnF (ps : List Part) (i : Nat) (s : List Int × Int) : ∀ n, runN ps i s n = rnF ppz ps i s n
  | 0 => rfl
  | n + 1 => by
    show stp ps _ _ = stF ppz ps _ _
    rw [stp_stF, runN_rnF ps i s n]
theorem run_gen {ps : List Part} {xs : List Int} {i : Nat} {w : Int} (hl : xs.length = ps.length) (hi : i ≤ ps.length) : Ct.run ps xs i w = (xs.take i ++ (gen ppz (ps.drop i) (xs.drop i) w).1, (gen ppz (ps.drop i) (xs.drop i) w).2) := by
  unfold Ct.run
  rw [runN_rnF, rnF_gen ppz ps _ _ _ _ hl (by omega)]
/-- pushes one by one -/
def itP (ps : List Part) (w : Int) : Nat → List Int → List Int × Int
  | 0, xs => (xs, 0)
  | t + 1, xs => ((gen ppz ps (itP ps w t xs).1 w).1, (itP ps w t xs).2 + (gen ppz ps (itP ps w t xs).1 w).2)
def ptw (w : Int) (p : Part) (x t : Int) : Int × Int := pt p x w t
theorem gen_ppz_zero : ∀ (ps : List Part) (xs : List Int), gen ppz ps xs 0 = (xs, 0)
  | [], _ => rfl
  | _ :: _, [] => rfl
  | p :: ps, x :: xs => by
    show ((ppz p x 0).1 :: (gen ppz ps xs (ppz p x 0).2).1, (gen ppz ps xs (ppz p x 0).2).2) = _
    rw [show ppz p x 0 = (x, 0) from rfl, gen_ppz_zero ps xs]
def StandL : List Part → List Int → Prop
  | [], [] => True
  | p :: ps, x :: xs => p.ok ∧ 0 ≤ x ∧ x < p.places ∧ StandL ps xs
  | _, _ => False
theorem itP_cons {p : Part} {x : Int} (ps : List Part) (xs : List Int) {w : Int} (ok : p.ok) (h0 : 0 ≤ x) (h1 : x < p.places) (hw : Sign w) : ∀ t : Nat,
    itP (p :: ps) w t (x :: xs) = ((pt p x w t).1 :: (itP ps w (pt p x w t).2.toNat xs).1, (itP ps w (pt p x w t).2.toNat xs).2)
  | 0 => by
    show (x :: xs, (0 : Int)) = ((pt p x w 0).1 :: (itP ps w (pt p x w 0).2.toNat xs).1, (itP ps w (pt p x w 0).2.toNat xs).2)
    rw [pt_zero ok h0 h1]
    rfl
  | t + 1 => by
    have w0 : w ≠ 0 := by rcases hw with rfl | rfl <;> decide
    have nn := pt_nn ok h0 h1 hw t
    show ((gen ppz (p :: ps) (itP (p :: ps) w t (x :: xs)).1 w).1, (itP (p :: ps) w t (x :: xs)).2 + (gen ppz (p :: ps) (itP (p :: ps) w t (x :: xs)).1 w).2) = _
    rw [itP_cons ps xs ok h0 h1 hw t, pt_step ok h0 h1 hw t]
    generalize hy : (pt p x w t).1 = y
    generalize hn : (pt p x w t).2 = n at nn
    show ((ppz p y w).1 :: (gen ppz ps (itP ps w n.toNat xs).1 (ppz p y w).2).1, (itP ps w n.toNat xs).2 + (gen ppz ps (itP ps w n.toNat xs).1 (ppz p y w).2).2) = _
    rw [show ppz p y w = pp p y w from if_neg w0]
    rcases pp_way p y w hw with e | e
    · rw [e, gen_ppz_zero, if_pos rfl]
      show ((pp p y w).1 :: (itP ps w n.toNat xs).1, (itP ps w n.toNat xs).2 + 0) = ((pp p y w).1 :: (itP ps w (n + 0).toNat xs).1, (itP ps w (n + 0).toNat xs).2)
      rw [Int.add_zero, Int.add_zero]
    · rw [e, if_neg w0]
      show ((pp p y w).1 :: (gen ppz ps (itP ps w n.toNat xs).1 w).1, (itP ps w n.toNat xs).2 + (gen ppz ps (itP ps w n.toNat xs).1 w).2) = ((pp p y w).1 :: (itP ps w (n + 1).toNat xs).1, (itP ps w (n + 1).toNat xs).2)
      rw [show (n + 1).toNat = n.toNat + 1 by omega]
      rfl
theorem itP_nil (w : Int) : ∀ (t : Nat), itP [] w t [] = ([], w * t)
  | 0 => by
    show (([] : List Int), (0 : Int)) = ([], w * ((0 : Nat) : Int))
    rw [show ((0 : Nat) : Int) = 0 from rfl, Int.mul_zero]
  | t + 1 => by
    show ((gen ppz [] (itP [] w t []).1 w).1, (itP [] w t []).2 + (gen ppz [] (itP [] w t []).1 w).2) = _
    rw [itP_nil w t]
    refine Prod.ext rfl ?_
    show w * t + w = w * ((t + 1 : Nat) : Int)
    rw [show ((t + 1 : Nat) : Int) = (t : Int) + 1 by omega, Int.mul_add, Int.mul_one]
/-- THE promise: reckoned at once is as pushed one by one -/
theorem itP_gen {w : Int} (hw : Sign w) : ∀ (ps : List Part) (xs : List Int) (t : Nat), StandL ps xs → itP ps w t xs = ((gen (ptw w) ps xs t).1, w * (gen (ptw w) ps xs t).2)
  | [], [], t, _ => itP_nil w t
  | p :: ps, x :: xs, t, ⟨ok, h0, h1, h⟩ => by
    rw [itP_cons ps xs ok h0 h1 hw t, itP_gen hw ps xs _ h]
    have nn := pt_nn ok h0 h1 hw t
    show _ = ((pt p x w t).1 :: (gen (ptw w) ps xs (pt p x w t).2).1, w * (gen (ptw w) ps xs (pt p x w t).2).2)
    rw [show (((pt p x w t).2.toNat : Nat) : Int) = (pt p x w t).2 by omega]
theorem gen_stand {w : Int} (hw : Sign w) : ∀ (ps : List Part) (xs : List Int) (t : Int), 0 ≤ t → StandL ps xs → StandL ps (gen (ptw w) ps xs t).1 ∧ 0 ≤ (gen (ptw w) ps xs t).2
  | [], [], t, ht, _ => ⟨trivial, ht⟩
  | p :: ps, x :: xs, t, ht, ⟨ok, h0, h1, h⟩ => by
    have e : ((t.toNat : Nat) : Int) = t := by omega
    have a := pt_place ok h0 h1 hw t.toNat
    have n := pt_nn ok h0 h1 hw t.toNat
    rw [e] at a n
    have ih := gen_stand hw ps xs (pt p x w t).2 n h
    exact ⟨⟨ok, a.1, a.2, ih.1⟩, ih.2⟩
theorem stand_drop : ∀ {ps : List Part} {xs : List Int} (i : Nat), StandL ps xs → StandL (ps.drop i) (xs.drop i)
  | [], [], i, _ => by rw [List.drop_nil, List.drop_nil]; trivial
  | p :: ps, x :: xs, 0, h => h
  | p :: ps, x :: xs, i + 1, ⟨_, _, _, h⟩ => stand_drop (ps := ps) (xs := xs) i h
theorem stand_join : ∀ {ps : List Part} {xs ys : List Int} (i : Nat), StandL ps xs → StandL (ps.drop i) ys → StandL ps (xs.take i ++ ys)
  | ps, xs, ys, 0, _, h => h
  | [], [], ys, i + 1, _, h => by
    rw [List.drop_nil] at h
    exact h
  | p :: ps, x :: xs, ys, i + 1, ⟨a, b, c, d⟩, h => ⟨a, b, c, stand_join (ps := ps) (xs := xs) i d h⟩
theorem StandL.len : ∀ {ps : List Part} {xs : List Int}, StandL ps xs → xs.length = ps.length
  | [], [], _ => rfl
  | p :: ps, x :: xs, ⟨_, _, _, h⟩ => by rw [List.length_cons, List.length_cons, StandL.len (ps := ps) (xs := xs) h]
theorem StandL.okp : ∀ {ps : List Part} {xs : List Int}, StandL ps xs → ∀ p ∈ ps, p.ok
  | [], [], _, p, hp => by cases hp
  | a :: ps, x :: xs, ⟨h, _, _, hr⟩, p, hp => by
    rcases List.mem_cons.mp hp with rfl | hp
    · exact h
    · exact StandL.okp (ps := ps) (xs := xs) hr p hp
theorem standL_of : ∀ {ps : List Part} {xs : List Int}, (∀ p ∈ ps, p.ok) → StandOk ps xs → StandL ps xs
  | [], [], _, _ => trivial
  | [], _ :: _, _, h => by have := h.1; simp at this
  | _ :: _, [], _, h => by have := h.1; simp at this
  | p :: ps, x :: xs, hp, h => by
    have a := h.2 0 p x rfl rfl
    exact ⟨hp p List.mem_cons_self, a.1, a.2, standL_of (fun q hq => hp q (List.mem_cons_of_mem _ hq)) ⟨by have := h.1; rw [List.length_cons, List.length_cons] at this; omega, fun i q y hq hy => h.2 (i + 1) q y hq hy⟩⟩
theorem StandL.ok : ∀ {ps : List Part} {xs : List Int}, StandL ps xs → StandOk ps xs
  | [], [], _ => ⟨rfl, fun i p x h _ => by simp at h⟩
  | p :: ps, x :: xs, ⟨_, a, b, h⟩ => by
    have ih := StandL.ok (ps := ps) (xs := xs) h
    refine ⟨by rw [List.length_cons, List.length_cons, ih.1], fun i q y hq hy => ?_⟩
    cases i with
    | zero =>
      cases Option.some.inj hq
      cases Option.some.inj hy
      exact ⟨a, b⟩
    | succ i => exact ih.2 i q y hq hy
/-! rows -/
structure Deed where
  i : Nat
  w : Int
  t : Nat
def Deed.ok (d : Deed) (n : Nat) : Prop := d.i < n ∧ Sign d.w
def Deed.data (d : Deed) : PyData := .tuple [.int d.i, .int d.w, .int d.t]
/-- one deed, at once -/
def deedL (ps : List Part) (xs : List Int) (d : Deed) : List Int × Int := (xs.take d.i ++ (gen (ptw d.w) (ps.drop d.i) (xs.drop d.i) d.t).1, d.w * (gen (ptw d.w) (ps.drop d.i) (xs.drop d.i) d.t).2)
def rowL (ps : List Part) : List Deed → List Int × Int → List Int × Int
  | [], s => s
  | d :: ds, s => rowL ps ds ((deedL ps s.1 d).1, s.2 + (deedL ps s.1 d).2)
theorem rowL_app (ps : List Part) : ∀ (ds es : List Deed) (s : List Int × Int), rowL ps (ds ++ es) s = rowL ps es (rowL ps ds s)
  | [], _, _ => rfl
  | d :: ds, es, s => rowL_app ps ds es _
theorem deedL_stand {ps : List Part} {xs : List Int} {d : Deed} (h : StandL ps xs) (hd : d.ok ps.length) : StandL ps (deedL ps xs d).1 :=
  stand_join d.i h (gen_stand hd.2 _ _ d.t (by omega) (stand_drop d.i h)).1
theorem rowL_stand {ps : List Part} : ∀ {ds : List Deed} {s : List Int × Int}, StandL ps s.1 → (∀ d ∈ ds, d.ok ps.length) → StandL ps (rowL ps ds s).1
  | [], _, h, _ => h
  | d :: ds, s, h, hd => rowL_stand (ds := ds) (deedL_stand h (hd d List.mem_cons_self)) fun e he => hd e (List.mem_cons_of_mem _ he)
/-- a deed, push by push: each push goes along the train from part i -/
def pushes (ps : List Part) (i : Nat) (w : Int) : Nat → List Int × Int → List Int × Int
  | 0, s => s
  | t + 1, s => ((Ct.run ps (pushes ps i w t s).1 i w).1, (pushes ps i w t s).2 + (Ct.run ps (pushes ps i w t s).1 i w).2)
theorem pushes_itP {ps : List Part} {xs : List Int} {i : Nat} {w : Int} (hl : xs.length = ps.length) (hi : i ≤ ps.length) (a : Int) : ∀ t, pushes ps i w t (xs, a) = (xs.take i ++ (itP (ps.drop i) w t (xs.drop i)).1, a + (itP (ps.drop i) w t (xs.drop i)).2) ∧ (itP (ps.drop i) w t (xs.drop i)).1.length = ps.length - i
  | 0 => by
    refine ⟨Prod.ext ?_ ?_, ?_⟩
    · show xs = xs.take i ++ xs.drop i
      rw [List.take_append_drop]
    · show a = a + 0
      omega
    · show (xs.drop i).length = _
      rw [List.length_drop, hl]
  | t + 1 => by
    obtain ⟨ih, il⟩ := pushes_itP hl hi a t
    have tl : (xs.take i).length = i := by rw [List.length_take]; omega
    have gl : ∀ (qs : List Part) (ys : List Int) (g : Int), (gen ppz qs ys g).1.length = ys.length := fun qs => by
      induction qs with
      | nil => intro ys g; rfl
      | cons q qs ih =>
        intro ys g
        cases ys with
        | nil => rfl
        | cons y ys =>
          show ((ppz q y g).1 :: (gen ppz qs ys (ppz q y g).2).1).length = _
          rw [List.length_cons, List.length_cons, ih]
    refine ⟨?_, ?_⟩
    · show ((Ct.run ps (pushes ps i w t (xs, a)).1 i w).1, (pushes ps i w t (xs, a)).2 + (Ct.run ps (pushes ps i w t (xs, a)).1 i w).2) = _
      rw [ih]
      rw [run_gen (by show (xs.take i ++ _).length = _; rw [List.length_append, tl, il]; omega) hi]
      show (List.take i (xs.take i ++ _) ++ (gen ppz (ps.drop i) (List.drop i (xs.take i ++ _)) w).1, a + _ + (gen ppz (ps.drop i) (List.drop i (xs.take i ++ _)) w).2) = _
      rw [List.take_left' tl, List.drop_left' tl]
      refine Prod.ext rfl ?_
      show a + (itP (ps.drop i) w t (xs.drop i)).2 + (gen ppz (ps.drop i) (itP (ps.drop i) w t (xs.drop i)).1 w).2 = a + ((itP (ps.drop i) w t (xs.drop i)).2 + (gen ppz (ps.drop i) (itP (ps.drop i) w t (xs.drop i)).1 w).2)
      omega
    · show (gen ppz (ps.drop i) (itP (ps.drop i) w t (xs.drop i)).1 w).1.length = _
      rw [gl, il]
theorem pushes_deed {ps : List Part} {xs : List Int} {d : Deed} (h : StandL ps xs) (hd : d.ok ps.length) (a : Int) : pushes ps d.i d.w d.t (xs, a) = ((deedL ps xs d).1, a + (deedL ps xs d).2) := by
  rw [(pushes_itP h.len (Nat.le_of_lt hd.1) a d.t).1, itP_gen hd.2 _ _ _ (stand_drop d.i h)]
  rfl
theorem pushes_stand {ps : List Part} {xs : List Int} {i : Nat} {w : Int} (h : StandL ps xs) (hi : i < ps.length) (hw : Sign w) (a : Int) (t : Nat) : StandL ps (pushes ps i w t (xs, a)).1 := by
  have := deedL_stand (d := ⟨i, w, t⟩) h ⟨hi, hw⟩
  rw [pushes_deed (d := ⟨i, w, t⟩) h ⟨hi, hw⟩ a]
  exact this
section
variable {K : PySem.W.Frag} {H : Hp}
theorem deed_inv {v : V} {d : Deed} (h : Dp K H v d.data) : ∃ a, v = .ref a ∧ SqT K H a [.int d.i, .int d.w, .int d.t] := by
  obtain ⟨a, vs, rfl, hs, ht⟩ := tup_inv h
  cases ht with
  | cons h1 t1 => cases h1; cases t1 with
    | cons h2 t2 => cases h2; cases t2 with
      | cons h3 t3 => cases h3; cases t3; exact ⟨a, rfl, hs⟩
theorem deed_dp {a : Addr} {d : Deed} (h : SqT K H a [.int d.i, .int d.w, .int d.t]) : Dp K H (.ref a) d.data := .tup h (.cons (.int _) (.cons (.int _) (.cons (.int _) .nil)))
theorem deeds_upd {l : Addr} {ws : List V} {o : HO} (hl : H l = some (.lst ws)) : ∀ {vs : List V} (ds : List Deed), DpAll K H vs (ds.map Deed.data) → DpAll K (upd H l o) vs (ds.map Deed.data)
  | _, [], .nil => .nil
  | _, d :: r, .cons h t => by
    obtain ⟨a, rfl, ha⟩ := deed_inv h
    exact .cons (deed_dp (sqT_upd ha hl)) (deeds_upd hl r t)
def RowAt (K : PySem.W.Frag) (H : Hp) (a : Addr) (ds : List Deed) : Prop := ∃ vs, SqL K H a vs ∧ DpAll K H vs (ds.map Deed.data)
theorem RowAt.same {H' : Hp} {a : Addr} {ds : List Deed} (e : Same H H') (h : RowAt K H a ds) : RowAt K H' a ds := by
  obtain ⟨vs, h1, h2⟩ := h
  exact ⟨vs, e.seq h1, dpAll_same e h2⟩
theorem deed_get {ds : List Deed} {vs : List V} (h2 : DpAll K H vs (ds.map Deed.data)) {i : Nat} {d : Deed} (e : ds[i]? = some d) : ∃ v, vs[i]? = some v ∧ Dp K H v d.data :=
  dpAll_get h2 (by rw [List.getElem?_map, e]; rfl)
end
theorem lay_deed (d : Deed) : d.data.canLay0 = true ∧ d.data.depth ≤ 1 := lay_tup (n := 0) (lay_ints [(d.i : Int), d.w, (d.t : Int)] 0)
theorem lay_row (ds : List Deed) : (PyData.list (ds.map Deed.data)).canLay0 = true ∧ (PyData.list (ds.map Deed.data)).depth ≤ 2 := lay_lst fun d hd => by
  obtain ⟨e, _, rfl⟩ := List.mem_map.mp hd
  exact lay_deed e
/-! what the checks look at -/
def isW : PyData → Bool
  | .int _ => true
  | _ => false
def risesD (last z : Int) : List PyData → Bool
  | [] => true
  | .int m :: r => if m ≤ last ∨ z ≤ m then false else risesD m z r
  | _ :: _ => false
def areM (d : PyData) (z : Int) : Bool := match d with
  | .tuple ds => risesD (-1) z ds
  | _ => false
def wheelT : List PyData → Bool
  | [.int z, m] => decide (1 ≤ z) && areM m z
  | _ => false
def springT : List PyData → Bool
  | [.int k] => decide (1 ≤ k)
  | _ => false
def isP : PyData → Bool
  | .tuple (h :: t) =>
    if PyData.eqv h (.str "wheel") = true then wheelT t
    else if PyData.eqv h (.str "spring") = true then springT t
    else PyData.eqv (.tuple (h :: t)) (.tuple [.str "click"]) || PyData.eqv (.tuple (h :: t)) (.tuple [.str "rocker"])
  | _ => false
theorem rises_of : ∀ {ms : List Int} {last z : Int}, ms.Pairwise (· < ·) → (∀ m ∈ ms, last < m ∧ m < z) → risesD last z (ms.map PyData.int) = true
  | [], _, _, _, _ => rfl
  | m :: ms, last, z, h, hm => by
    obtain ⟨h1, h2⟩ := List.pairwise_cons.mp h
    have hm1 := hm m List.mem_cons_self
    show (if m ≤ last ∨ z ≤ m then false else risesD m z (ms.map PyData.int)) = true
    rw [if_neg (by omega)]
    exact rises_of h2 fun x hx => ⟨h1 x hx, (hm x (List.mem_cons_of_mem _ hx)).2⟩
theorem isP_of {p : Part} (ok : p.ok) : isP p.data = true := by
  cases p with
  | wheel z ms =>
    simp only [isP, Part.data, wheelT, areM]
    rw [if_pos (by decide +kernel), decide_eq_true ok.1, rises_of ok.2.2.1.1 fun m hm => ?_]
    · rfl
    · have := ok.2.2.1.2 m hm
      omega
  | click => decide +kernel
  | rocker => decide +kernel
  | spring k =>
    simp only [isP, Part.data, springT]
    rw [if_neg (by decide +kernel), if_pos (by decide +kernel)]
    exact decide_eq_true ok.1
def isD (d : PyData) (n : Int) : Bool := match d with
  | .tuple [.int i, .int w, .int t] => decide (0 ≤ i) && decide (i < n) && (decide (w = 1) || decide (w = -1)) && decide (0 ≤ t)
  | _ => false
theorem dpAll_drop {K : PySem.W.Frag} {H : Hp} : ∀ {vs : List V} {ds : List PyData} (k : Nat), DpAll K H vs ds → DpAll K H (vs.drop k) (ds.drop k)
  | _, _, 0, h => h
  | _, _, _ + 1, .nil => .nil
  | _, _, k + 1, .cons _ t => dpAll_drop k t
theorem dpAll_take {K : PySem.W.Frag} {H : Hp} : ∀ {vs : List V} {ds : List PyData} (k : Nat), DpAll K H vs ds → DpAll K H (vs.take k) (ds.take k)
  | _, _, 0, _ => .nil
  | _, _, _ + 1, .nil => .nil
  | _, _, k + 1, .cons h t => .cons h (dpAll_take k t)
theorem dpAll_cut {K : PySem.W.Frag} {H : Hp} {vs : List V} {ds : List Deed} (lo hi : Option Int) (h : DpAll K H vs (ds.map Deed.data)) : ∃ es : List Deed, DpAll K H (cutV vs lo hi) (es.map Deed.data) ∧ ∀ d ∈ es, d ∈ ds := by
  refine ⟨(ds.drop (HT.sIx vs.length 0 lo)).take (HT.sIx vs.length vs.length hi - HT.sIx vs.length 0 lo), ?_, fun d hd => List.mem_of_mem_drop (List.mem_of_mem_take hd)⟩
  rw [List.map_take, List.map_drop]
  exact dpAll_take _ (dpAll_drop _ h)
/-! how often each mark is met -/
def wsum (z : Int) : List Int → Int → Int
  | [], _ => 0
  | m :: r, y => (y - m) / z + wsum z r y
theorem wsum_app (z y : Int) : ∀ (ms : List Int) (m : Int), wsum z (ms ++ [m]) y = wsum z ms y + (y - m) / z
  | [], m => by
    show (y - m) / z + 0 = 0 + (y - m) / z
    omega
  | a :: r, m => by
    show (y - a) / z + wsum z (r ++ [m]) y = (y - a) / z + wsum z r y + (y - m) / z
    rw [wsum_app z y r m]
    omega
theorem wsum_mah {z : Int} (hz : 1 ≤ z) (y : Int) : ∀ {ms : List Int}, (∀ m ∈ ms, 0 ≤ m ∧ m < z) → wsum z ms y = mah z ms y - ms.length
  | [], _ => by
    show (0 : Int) = y / z * ((0 : Nat) : Int) + 0 - ((0 : Nat) : Int)
    rw [show ((0 : Nat) : Int) = 0 from rfl, Int.mul_zero]
    rfl
  | m :: r, h => by
    have hm := h m List.mem_cons_self
    have ih := wsum_mah hz y (ms := r) fun x hx => h x (List.mem_cons_of_mem _ hx)
    have e := Int.emod_add_mul_ediv y z
    have r0 := Int.emod_nonneg y (show z ≠ 0 by omega)
    have r1 := Int.emod_lt_of_pos y (show 0 < z by omega)
    show (y - m) / z + wsum z r y = _
    rw [ih]
    unfold mah
    rw [cnt_cons, List.length_cons, show ((r.length + 1 : Nat) : Int) = (r.length : Int) + 1 by omega, Int.mul_add, Int.mul_one]
    by_cases hmr : m ≤ y % z
    · obtain ⟨e1, _⟩ := (Int.ediv_emod_unique (a := y - m) (b := z) (r := y % z - m) (q := y / z) (by omega)).mpr ⟨by omega, by omega, by omega⟩
      rw [e1, if_pos hmr]
      omega
    · obtain ⟨e1, _⟩ := (Int.ediv_emod_unique (a := y - m) (b := z) (r := y % z - m + z) (q := y / z - 1) (by omega)).mpr ⟨by rw [Int.mul_sub]; omega, by omega, by omega⟩
      rw [e1, if_neg hmr]
      omega
theorem wsum_up {z : Int} {ms : List Int} {x : Int} (ok : (Part.wheel z ms).ok) (t : Nat) : wsum z ms (x + t) - wsum z ms x = (pt (.wheel z ms) x 1 t).2 := by
  have rs : Rise z ms := ok.2.2.1
  have u := mah_up ok.1 rs x t
  rw [wsum_mah ok.1 _ rs.2, wsum_mah ok.1 _ rs.2]
  simp only [pt, Int.one_mul]
  rw [neg_abs (by omega)]
  omega
theorem wsum_down {z : Int} {ms : List Int} {x : Int} (ok : (Part.wheel z ms).ok) (t : Nat) : wsum z ms x - wsum z ms (x - t) = (pt (.wheel z ms) x (-1) t).2 := by
  have rs : Rise z ms := ok.2.2.1
  have u := mah_up ok.1 rs (x - t) t
  rw [show x - (t : Int) + t = x by omega] at u
  rw [wsum_mah ok.1 _ rs.2, wsum_mah ok.1 _ rs.2]
  simp only [pt, show x + -1 * (t : Int) = x - t by omega]
  rw [abs_neg (by omega)]
  omega
/-! a deed in two -/
theorem pushes_add (ps : List Part) (i : Nat) (w : Int) (a : Nat) (s : List Int × Int) : ∀ b, pushes ps i w (a + b) s = pushes ps i w b (pushes ps i w a s)
  | 0 => rfl
  | b + 1 => by
    show ((Ct.run ps (pushes ps i w (a + b) s).1 i w).1, (pushes ps i w (a + b) s).2 + (Ct.run ps (pushes ps i w (a + b) s).1 i w).2) = _
    rw [pushes_add ps i w a s b]
    rfl
theorem rowL_one {ps : List Part} {s : List Int × Int} {d : Deed} (h : StandL ps s.1) (hd : d.ok ps.length) : rowL ps [d] s = pushes ps d.i d.w d.t s := (pushes_deed h hd s.2).symm
def halves : List Deed → List Deed
  | [] => []
  | d :: r => ⟨d.i, d.w, d.t / 2⟩ :: ⟨d.i, d.w, d.t - d.t / 2⟩ :: halves r
theorem halves_app : ∀ (ds es : List Deed), halves (ds ++ es) = halves ds ++ halves es
  | [], _ => rfl
  | d :: r, es => by
    show _ :: _ :: halves (r ++ es) = _ :: _ :: (halves r ++ halves es)
    rw [halves_app r es]
theorem halves_ok {n : Nat} {b : Nat} : ∀ {ds : List Deed}, (∀ d ∈ ds, d.ok n ∧ d.t < b) → ∀ d ∈ halves ds, d.ok n ∧ d.t < b
  | [], _, d, hd => by cases hd
  | e :: r, h, d, hd => by
    have he := h e List.mem_cons_self
    rcases List.mem_cons.mp hd with rfl | hd
    · exact ⟨he.1, Nat.lt_of_le_of_lt (Nat.div_le_self _ _) he.2⟩
    rcases List.mem_cons.mp hd with rfl | hd
    · exact ⟨he.1, Nat.lt_of_le_of_lt (Nat.sub_le _ _) he.2⟩
    · exact halves_ok (fun d hd => h d (List.mem_cons_of_mem _ hd)) d hd
theorem rowL_halves {ps : List Part} : ∀ {ds : List Deed} {s : List Int × Int}, StandL ps s.1 → (∀ d ∈ ds, d.ok ps.length) → rowL ps (halves ds) s = rowL ps ds s
  | [], _, _, _ => rfl
  | d :: r, s, h, hd => by
    have hd0 := hd d List.mem_cons_self
    have k1 : Deed.ok ⟨d.i, d.w, d.t / 2⟩ ps.length := hd0
    have k2 : Deed.ok ⟨d.i, d.w, d.t - d.t / 2⟩ ps.length := hd0
    show rowL ps ([⟨d.i, d.w, d.t / 2⟩] ++ ([⟨d.i, d.w, d.t - d.t / 2⟩] ++ halves r)) s = rowL ps ([d] ++ r) s
    have h1 : StandL ps (rowL ps [⟨d.i, d.w, d.t / 2⟩] s).1 := rowL_stand h fun e he => by rw [List.mem_singleton] at he; rw [he]; exact k1
    have h2 : StandL ps (rowL ps [⟨d.i, d.w, d.t - d.t / 2⟩] (rowL ps [⟨d.i, d.w, d.t / 2⟩] s)).1 := rowL_stand h1 fun e he => by rw [List.mem_singleton] at he; rw [he]; exact k2
    rw [rowL_app, rowL_app, rowL_app, rowL_halves h2 fun e he => hd e (List.mem_cons_of_mem _ he)]
    rw [rowL_one h1 k2, rowL_one h k1, rowL_one h hd0, ← pushes_add, show d.t / 2 + (d.t - d.t / 2) = d.t by omega]
theorem run_deed {ps : List Part} {xs : List Int} {i : Nat} {w : Int} (h : StandL ps xs) (hi : i < ps.length) (hw : Sign w) : deedL ps xs ⟨i, w, 1⟩ = Ct.run ps xs i w := by
  have e : ((Ct.run ps xs i w).1, 0 + (Ct.run ps xs i w).2) = ((deedL ps xs ⟨i, w, 1⟩).1, 0 + (deedL ps xs ⟨i, w, 1⟩).2) := pushes_deed (d := ⟨i, w, 1⟩) h ⟨hi, hw⟩ 0
  obtain ⟨e1, e2⟩ := Prod.mk.inj e
  exact Prod.ext e1.symm (by omega)
theorem rowL_snoc (ps : List Part) (ds : List Deed) (d : Deed) (s : List Int × Int) : rowL ps (ds ++ [d]) s = ((deedL ps (rowL ps ds s).1 d).1, (rowL ps ds s).2 + (deedL ps (rowL ps ds s).1 d).2) := rowL_app ps ds [d] s
theorem told_dp {K : PySem.W.Frag} {H : Hp} {q u : Addr} {xs : List Int} {y : Int} (h : SqT K H q [.ref u, .int y]) (hu : SqT K H u (xs.map V.int)) : Dp K H (.ref q) (.tuple [.tuple (xs.map PyData.int), .int y]) :=
  .tup h (.cons (.tup hu (dpAll_ints xs)) (.cons (.int y) .nil))
end Ct

namespace Ct
open PySem PySem.Spec PyProof.Rows L2
/-! all stands of a train -/
theorem ip_mul {X : Cx} : PIp X .Mult (rI CMul fun i j => .int (i * j)) := iop_mul
def rowS (s : List Int) (k : Nat) : List (List Int) := (List.range k).map fun (x : Nat) => s ++ [(x : Int)]
def grow (ss : List (List Int)) (p : Part) : List (List Int) := ss.flatMap fun s => rowS s p.places.toNat
def allS (ps : List Part) : List (List Int) := ps.foldl grow [[]]
def tupD (s : List Int) : PyData := .tuple (s.map PyData.int)
theorem rowS_len (s : List Int) (k : Nat) : (rowS s k).length = k := by
  unfold rowS
  rw [List.length_map, List.length_range]
theorem rowS_succ (s : List Int) (k : Nat) : rowS s (k + 1) = rowS s k ++ [s ++ [(k : Int)]] := by
  unfold rowS
  rw [List.range_succ, List.map_append]
  rfl
theorem flat_len (k : Nat) : ∀ ss : List (List Int), (ss.flatMap fun s => rowS s k).length = ss.length * k
  | [] => by simp
  | s :: r => by
    rw [List.flatMap_cons, List.length_append, rowS_len, flat_len k r, List.length_cons, Nat.add_mul, Nat.one_mul]
    omega
theorem allS_snoc (ps : List Part) (p : Part) : allS (ps ++ [p]) = grow (allS ps) p := by
  unfold allS
  rw [List.foldl_append]
  rfl
theorem allS_take {ps : List Part} {n : Nat} {p : Part} (h : ps[n]? = some p) : allS (ps.take (n + 1)) = grow (allS (ps.take n)) p := by
  rw [List.take_add_one, h]
  exact allS_snoc _ _
theorem stands_take {ps : List Part} {n : Nat} {p : Part} (h : ps[n]? = some p) : stands (ps.take (n + 1)) = stands (ps.take n) * p.places := by
  rw [List.take_add_one, h]
  exact stands_app _ _
theorem allS_len {ps : List Part} (hok : ∀ p ∈ ps, p.ok) : ∀ n, n ≤ ps.length → ((allS (ps.take n)).length : Int) = stands (ps.take n)
  | 0, _ => rfl
  | n + 1, hn => by
    obtain ⟨p, hp⟩ : ∃ p, ps[n]? = some p := ⟨_, List.getElem?_eq_getElem (by omega)⟩
    have po := (hok p (List.mem_of_getElem? hp)).pos.1
    rw [allS_take hp, stands_take hp, ← allS_len hok n (by omega)]
    unfold grow
    rw [flat_len, Int.natCast_mul, Int.toNat_of_nonneg (by omega)]
theorem stands_le {ps : List Part} (hok : ∀ p ∈ ps, p.ok) : ∀ n, n ≤ ps.length → stands (ps.take (ps.length - n)) ≤ stands ps
  | 0, _ => by
    rw [Nat.sub_zero, List.take_length]
    exact Int.le_refl _
  | n + 1, hn => by
    have ih := stands_le hok n (by omega)
    obtain ⟨p, hp⟩ : ∃ p, ps[ps.length - (n + 1)]? = some p := ⟨_, List.getElem?_eq_getElem (by omega)⟩
    have po := (hok p (List.mem_of_getElem? hp)).pos.1
    have e := stands_take hp
    rw [show ps.length - (n + 1) + 1 = ps.length - n by omega] at e
    have sp := stands_pos (ps.take (ps.length - (n + 1))) fun q hq => hok q (List.mem_of_mem_take hq)
    rw [e] at ih
    have := Int.mul_le_mul_of_nonneg_left po (show 0 ≤ stands (ps.take (ps.length - (n + 1))) by omega)
    omega
theorem stands_le' {ps : List Part} (hok : ∀ p ∈ ps, p.ok) {n : Nat} (hn : n ≤ ps.length) : stands (ps.take n) ≤ stands ps := by
  have := stands_le hok (ps.length - n) (by omega)
  rw [show ps.length - (ps.length - n) = n by omega] at this
  exact this
theorem place_le {ps : List Part} (hok : ∀ p ∈ ps, p.ok) {n : Nat} {p : Part} (hp : ps[n]? = some p) : p.places ≤ stands ps := by
  have hn : n < ps.length := (List.getElem?_eq_some_iff.mp hp).1
  have po := (hok p (List.mem_of_getElem? hp)).pos.1
  have h3 := stands_le' hok (n := n + 1) hn
  have sp := stands_pos (ps.take n) fun q hq => hok q (List.mem_of_mem_take hq)
  rw [stands_take hp] at h3
  have := Int.mul_le_mul_of_nonneg_right sp (show 0 ≤ p.places by omega)
  omega
theorem fold_each {k : Nat} : ∀ (ps : List Part) (ss : List (List Int)), (∀ s ∈ ss, s.length = k) → ∀ s ∈ ps.foldl grow ss, s.length = k + ps.length
  | [], ss, h, s, hs => h s hs
  | p :: ps, ss, h, s, hs => by
    have := fold_each (k := k + 1) ps (grow ss p) (fun t ht => by
      obtain ⟨u, hu, hr⟩ := List.mem_flatMap.mp ht
      obtain ⟨x, _, rfl⟩ := List.mem_map.mp hr
      rw [List.length_append, h u hu]
      rfl) s hs
    rw [List.length_cons]
    omega
theorem allS_each (ps : List Part) (s : List Int) (h : s ∈ allS ps) : s.length = ps.length := by
  have := fold_each (k := 0) ps [[]] (fun t ht => by rw [List.mem_singleton] at ht; rw [ht]; rfl) s h
  omega
theorem grow_le {ps : List Part} (hok : ∀ p ∈ ps, p.ok) {n : Nat} {p : Part} (hp : ps[n]? = some p) {i : Nat} : (((allS (ps.take n)).take i).flatMap fun s => rowS s p.places.toNat).length ≤ (stands ps).toNat := by
  have hn : n < ps.length := (List.getElem?_eq_some_iff.mp hp).1
  have h1 : (((allS (ps.take n)).take i).flatMap fun s => rowS s p.places.toNat).length ≤ (grow (allS (ps.take n)) p).length := by
    unfold grow
    rw [flat_len, flat_len, List.length_take]
    exact Nat.mul_le_mul_right _ (Nat.min_le_right _ _)
  rw [← allS_take hp] at h1
  have h2 := allS_len hok (n + 1) hn
  have h3 := stands_le' hok (n := n + 1) hn
  omega
section
variable {K : PySem.W.Frag} {H : Hp}
theorem tupD_inv {v : V} {s : List Int} (h : Dp K H v (tupD s)) : ∃ a, v = .ref a ∧ SqT K H a (s.map V.int) := by
  obtain ⟨a, vs, rfl, hs, ht⟩ := tup_inv h
  cases dpAll_ints_inv s ht
  exact ⟨a, rfl, hs⟩
theorem tupD_dp {a : Addr} {s : List Int} (h : SqT K H a (s.map V.int)) : Dp K H (.ref a) (tupD s) := .tup h (dpAll_ints s)
theorem tups_upd {l : Addr} {ws : List V} {o : HO} (hl : H l = some (.lst ws)) : ∀ {vs : List V} (ss : List (List Int)), DpAll K H vs (ss.map tupD) → DpAll K (upd H l o) vs (ss.map tupD)
  | _, [], .nil => .nil
  | _, s :: r, .cons h t => by
    obtain ⟨a, rfl, ha⟩ := tupD_inv h
    exact .cons (tupD_dp (sqT_upd ha hl)) (tups_upd hl r t)
theorem tup_get {ss : List (List Int)} {vs : List V} (h2 : DpAll K H vs (ss.map tupD)) {i : Nat} {s : List Int} (e : ss[i]? = some s) : ∃ a, vs[i]? = some (.ref a) ∧ SqT K H a (s.map V.int) := by
  obtain ⟨v, hv, hd⟩ := dpAll_get h2 (d := tupD s) (by rw [List.getElem?_map, e]; rfl)
  obtain ⟨a, rfl, ha⟩ := tupD_inv hd
  exact ⟨a, hv, ha⟩
end
theorem lay_tupD (s : List Int) : (tupD s).canLay0 = true ∧ (tupD s).depth ≤ 1 := lay_tup (lay_ints s 0)
theorem lay_tups (ss : List (List Int)) : (PyData.list (ss.map tupD)).canLay0 = true ∧ (PyData.list (ss.map tupD)).depth ≤ 2 := lay_lst fun d hd => by
  obtain ⟨s, _, rfl⟩ := List.mem_map.mp hd
  exact lay_tupD s
theorem stands_rev : ∀ ps : List Part, stands ps.reverse = stands ps
  | [] => rfl
  | p :: r => by
    rw [List.reverse_cons, stands_app, stands_rev r]
    exact Int.mul_comm _ _
theorem dpAll_rev {K : PySem.W.Frag} {H : Hp} : ∀ {vs : List V} {ds : List PyData}, DpAll K H vs ds → DpAll K H vs.reverse ds.reverse
  | _, _, .nil => .nil
  | _, _, .cons h t => by
    rw [List.reverse_cons, List.reverse_cons]
    exact dpAll_app (dpAll_rev t) (.cons h .nil)
/-! two fors in one list -/
section
variable {K : PySem.W.Frag} {H : Hp} {σ : L2.St} {Q : VK}
def LB2 (J : It) (g : TG) (tt : TT) (wi1 : TI) (g1 : TG) (tt1 : TT) (te : TE) (vs vs1 : List Nat) (σ : L2.St) (H : Hp) (Q : VK) : Prop := tLc2 (fun _ H R => R J H) g tt wi1 g1 tt1 te vs vs1 σ H Q
theorem w_lc2 {wi wi1 : TI} {g g1 : TG} {tt tt1 : TT} {te : TE} {vs vs1 : List Nat} (h : wi σ H fun J H1 => LB2 J g tt wi1 g1 tt1 te vs vs1 σ H1 Q) : tLc2 wi g tt wi1 g1 tt1 te vs vs1 σ H Q := h
/-- the inner loop, from which Nx is reached -/
def IB (J : It) (g : TG) (tt : TT) (te : TE) (vs : List Nat) (D : Addr) (σ : L2.St) (H : Hp) (Nx : Hp → Prop) : Prop :=
  ∃ U : Nat → Nat → Hp → Prop, (∃ m, U 0 m H) ∧
    ∀ j k H, U j k H → (J.stop j H ∧ Nx H) ∨
      (J.go j H ∧ ∃ Z : Hp → Prop, (∀ H', Z H' → ∃ k', k' < k ∧ U (j + 1) k' H') ∧
        ∀ x H', J.yld j H x H' →
          g x (wipe σ vs) H' fun σ3 H5 => wipe σ3 vs = wipe σ vs ∧ tt σ3 H5 fun b H6 =>
            if b = true then te σ3 H6 fun y H7 => ∃ acc, H7 D = some (.lst acc) ∧ acc.length < sizeLine ∧ Z (upd H7 D (.lst (acc ++ [y]))) else Z H6)
theorem ib_range {lo : Int} {n : Nat} {g : TG} {tt : TT} {te : TE} {vs : List Nat} {D : Addr} {Nx : Hp → Prop} (Pi : Nat → Hp → Prop) (h0 : Pi 0 H)
    (hs : ∀ j H, j < n → Pi j H → g (.int (lo + j)) (wipe σ vs) H fun σ3 H5 => wipe σ3 vs = wipe σ vs ∧ tt σ3 H5 fun b H6 =>
      if b = true then te σ3 H6 fun y H7 => ∃ acc, H7 D = some (.lst acc) ∧ acc.length < sizeLine ∧ Pi (j + 1) (upd H7 D (.lst (acc ++ [y]))) else Pi (j + 1) H6) (hd : ∀ H, Pi n H → Nx H) : IB (Itr lo n) g tt te vs D σ H Nx := by
  refine ⟨fun j k H => k = n - j ∧ j ≤ n ∧ Pi j H, ⟨n, rfl, Nat.zero_le _, h0⟩, ?_⟩
  rintro j k H ⟨rfl, hj, p⟩
  by_cases hlt : j < n
  · refine .inr ⟨hlt, Pi (j + 1), fun H' p' => ⟨n - (j + 1), by omega, rfl, hlt, p'⟩, fun x H' y => ?_⟩
    obtain ⟨e1, e2⟩ := y
    subst e1 e2
    exact hs j _ hlt p
  · have e : j = n := by omega
    subst e
    exact .inl ⟨Nat.le_refl _, hd H p⟩
theorem lb2_list {a : Addr} (xs : List V) {wi1 : TI} {g g1 : TG} {tt tt1 : TT} {te : TE} {vs vs1 : List Nat} (Pv : Addr → Nat → Hp → Prop) (h0 : ∀ D, H D = none → Pv D 0 (upd H D (.lst []))) (hl : ∀ D, H D = none → ∀ i H1, i ≤ xs.length → Pv D i H1 → SqL K H1 a xs)
    (hs : ∀ D, H D = none → ∀ i x H1, xs[i]? = some x → Pv D i H1 → g x (wipe σ vs) H1 fun σ2 H2 => wipe σ2 vs = wipe σ vs ∧ tt σ2 H2 fun b H3 =>
      if b = true then wi1 σ2 H3 fun J1 H4 => IB J1 g1 tt1 te vs1 D σ2 H4 (Pv D (i + 1)) else Pv D (i + 1) H3) (hd : ∀ D, H D = none → ∀ H1, Pv D xs.length H1 → Q (.ref D) H1) : LB2 (Itl K a) g tt wi1 g1 tt1 te vs vs1 σ H Q := by
  intro D hD
  refine ⟨fun i m H1 => m = xs.length - i ∧ i ≤ xs.length ∧ Pv D i H1, ⟨xs.length, rfl, Nat.zero_le _, h0 D hD⟩, ?_⟩
  rintro i m H1 ⟨rfl, hi, p⟩
  have q := hl D hD i H1 hi p
  by_cases hlt : i < xs.length
  · refine .inr ⟨⟨xs, _, q, List.getElem?_eq_getElem hlt⟩, Pv D (i + 1), fun H' p' => ⟨xs.length - (i + 1), by omega, rfl, hlt, p'⟩, fun x H' y => ?_⟩
    obtain ⟨e, y⟩ := y
    subst e
    exact hs D hD i x _ (y xs q) p
  · have e : i = xs.length := by omega
    subst e
    exact .inl ⟨⟨xs, q, Nat.le_refl _⟩, hd D hD H1 p⟩
theorem w_star {te : TE} {t : TA} {QA : List V → Hp → Prop} (h : te σ H fun x H1 => ∃ p xs, x = V.ref p ∧ (SqT K H1 p xs ∨ SqL K H1 p xs) ∧ t σ H1 fun ys H2 => QA (xs ++ ys) H2) : StX.tStar K te t σ H QA := h
theorem lb_tup {a : Addr} (xs : List V) {g : TG} {tt : TT} {te : TE} {vs : List Nat} (Pv : Addr → Nat → Hp → Prop) (h0 : ∀ D, H D = none → Pv D 0 (upd H D (.lst []))) (hl : ∀ D, H D = none → ∀ i H1, i ≤ xs.length → Pv D i H1 → SqT K H1 a xs)
    (hs : ∀ D, H D = none → ∀ i x H1, xs[i]? = some x → Pv D i H1 → g x (wipe σ vs) H1 fun σ2 H2 => wipe σ2 vs = wipe σ vs ∧ tt σ2 H2 fun b H3 =>
      if b = true then te σ2 H3 fun y H4 => ∃ acc, H4 D = some (.lst acc) ∧ acc.length < sizeLine ∧ Pv D (i + 1) (upd H4 D (.lst (acc ++ [y]))) else Pv D (i + 1) H3) (hd : ∀ D, H D = none → ∀ H1, Pv D xs.length H1 → Q (.ref D) H1) : LB (Itt K a) g tt te vs σ H Q :=
  fun D hD => lc_tup (Pv D) (h0 D hD) (hl D hD) (hs D hD) (hd D hD)
theorem w_revL {te : TE} (h : te σ H fun x H1 => ∃ a xs, x = .ref a ∧ SqL K H1 a xs ∧ ∀ p, H1 p = none → Q (.ref p) (upd H1 p (.lst xs.reverse))) : tRevL K te σ H Q := h
end
end Ct
namespace Ct
open PySem PySem.Spec PyProof.Rows L2
theorem w_catA {K : PySem.W.Frag} {H : Hp} {Q : VK} {a b : Addr} {xs ys : List V} (ha : SqT K H a xs) (hb : SqT K H b ys) (l : xs.length + ys.length ≤ 1000) (q : ∀ u H', Same H H' → SqT K H' u (xs ++ ys) → Q (.ref u) H') : rCatA K (.ref a) (.ref b) H Q := by
  refine ⟨a, b, xs, ys, rfl, rfl, ha, hb, Nat.le_of_lt (small1000 l), fun hx => ?_, fun _ hy => ?_, fun _ _ p np => ?_⟩
  · refine q b H (Same.refl H) ?_
    rw [hx, List.nil_append]
    exact hb
  · refine q a H (Same.refl H) ?_
    rw [hy, List.append_nil]
    exact ha
  · exact q p _ (same_upd np) (.of upd_same)
end Ct
namespace Ct
open PySem PySem.Spec PyProof.Rows L2
theorem standL_app : ∀ {ps qs : List Part} {xs ys : List Int}, StandL ps xs → StandL qs ys → StandL (ps ++ qs) (xs ++ ys)
  | [], _, [], _, _, h => h
  | _ :: _, _, _ :: _, _, ⟨a, b, c, d⟩, h => ⟨a, b, c, standL_app d h⟩
end Ct
namespace Ct
open PySem PySem.Spec PyProof.Rows L2
/-! signs fed to a train -/
def isSg : PyData → Bool
  | .int i => decide (i ∈ [(1 : Int), -1, 0])
  | _ => false
theorem isSg_of {s : Int} (h : s = 0 ∨ Sign s) : isSg (.int s) = true := by
  rcases h with h | h | h <;> rw [h] <;> decide
theorem run_zero (ps : List Part) (xs : List Int) (i : Nat) : Ct.run ps xs i 0 = (xs, 0) := by
  unfold Ct.run
  have z := runN_zero (ps := ps) (i := i) (s := (xs, 0)) (n := 0) rfl (ps.length - i)
  rw [Nat.zero_add] at z
  exact z
theorem run_stand {ps : List Part} {xs : List Int} {i : Nat} {w : Int} (h : StandL ps xs) (hi : i < ps.length) (hw : w = 0 ∨ Sign w) : StandL ps (Ct.run ps xs i w).1 := by
  rcases hw with e | e
  · rw [e, run_zero]
    exact h
  · rw [← run_deed h hi e]
    exact deedL_stand h ⟨hi, e⟩
def fedS (ps : List Part) : List Int → List Int → List Int × List Int
  | xs, [] => (xs, [])
  | xs, s :: r => ((fedS ps (Ct.run ps xs 0 s).1 r).1, (Ct.run ps xs 0 s).2 :: (fedS ps (Ct.run ps xs 0 s).1 r).2)
theorem fedS_snoc (ps : List Part) (s : Int) : ∀ (ss : List Int) (xs : List Int), fedS ps xs (ss ++ [s]) = ((Ct.run ps (fedS ps xs ss).1 0 s).1, (fedS ps xs ss).2 ++ [(Ct.run ps (fedS ps xs ss).1 0 s).2])
  | [], xs => rfl
  | a :: r, xs => by
    rw [List.cons_append, fedS, fedS_snoc ps s r, fedS]
    rfl
theorem fedS_take {ps : List Part} {ss : List Int} {k : Nat} {s : Int} (xs : List Int) (h : ss[k]? = some s) : fedS ps xs (ss.take (k + 1)) = ((Ct.run ps (fedS ps xs (ss.take k)).1 0 s).1, (fedS ps xs (ss.take k)).2 ++ [(Ct.run ps (fedS ps xs (ss.take k)).1 0 s).2]) := by
  rw [← fedS_snoc, List.take_add_one, h]
  rfl
theorem fedS_stand {ps : List Part} (h1 : 1 ≤ ps.length) : ∀ {ss : List Int} {xs : List Int}, StandL ps xs → (∀ s ∈ ss, s = 0 ∨ Sign s) → StandL ps (fedS ps xs ss).1
  | [], _, h, _ => h
  | s :: r, _, h, hs => fedS_stand (ss := r) h1 (run_stand h h1 (hs s List.mem_cons_self)) fun t ht => hs t (List.mem_cons_of_mem s ht)
theorem fedS_len (ps : List Part) : ∀ (ss : List Int) (xs : List Int), (fedS ps xs ss).2.length = ss.length
  | [], _ => rfl
  | s :: r, xs => by
    rw [fedS, List.length_cons, List.length_cons, fedS_len ps r]
end Ct
namespace Ct
open PySem PySem.Spec PyProof.Rows L2
theorem fold_mem : ∀ (ps : List Part) (ss : List (List Int)) (xs : List Int), (∀ p ∈ ps, p.ok) → (xs ∈ ps.foldl grow ss ↔ ∃ s ∈ ss, ∃ ys, xs = s ++ ys ∧ StandL ps ys)
  | [], ss, xs, _ => by
    constructor
    · intro h
      exact ⟨xs, h, [], (List.append_nil xs).symm, trivial⟩
    · rintro ⟨s, hs, ys, rfl, hy⟩
      cases ys with
      | nil => rw [List.append_nil]; exact hs
      | cons _ _ => exact nomatch hy
  | p :: ps, ss, xs, ok => by
    have po := (ok p List.mem_cons_self).pos.1
    rw [List.foldl_cons, fold_mem ps (grow ss p) xs fun q hq => ok q (List.mem_cons_of_mem _ hq)]
    constructor
    · rintro ⟨s', hs', ys, rfl, hy⟩
      obtain ⟨s, hs, hin⟩ := List.mem_flatMap.mp hs'
      obtain ⟨k, hk, rfl⟩ := List.mem_map.mp hin
      rw [List.mem_range] at hk
      exact ⟨s, hs, (k : Int) :: ys, by rw [List.append_assoc]; rfl, ok p List.mem_cons_self, by omega, by omega, hy⟩
    · rintro ⟨s, hs, ys, rfl, hy⟩
      cases ys with
      | nil => exact nomatch hy
      | cons y ys =>
        obtain ⟨_, y0, y1, hy⟩ := hy
        refine ⟨s ++ [y], List.mem_flatMap.mpr ⟨s, hs, List.mem_map.mpr ⟨y.toNat, List.mem_range.mpr (by omega), by rw [Int.toNat_of_nonneg y0]⟩⟩, ys, by rw [List.append_assoc]; rfl, hy⟩
theorem allS_mem {ps : List Part} (ok : ∀ p ∈ ps, p.ok) (xs : List Int) : xs ∈ allS ps ↔ StandL ps xs := by
  rw [allS, fold_mem ps [[]] xs ok]
  constructor
  · rintro ⟨s, hs, ys, rfl, hy⟩
    rw [List.mem_singleton] at hs
    rw [hs]
    exact hy
  · intro h
    exact ⟨[], List.mem_singleton.mpr rfl, xs, rfl, h⟩
/-! one-way trains -/
def gvb : Part → Bool
  | .wheel _ ms => decide (0 < ms.length)
  | _ => false
theorem pp_back {p : Part} {x w : Int} (hw : Sign w) (h : (pp p x w).2 = -1) : w = -1 ∧ gvb p = true := by
  have e := pp_way p x w hw
  rw [h] at e
  have hw1 : w = -1 := by
    rcases e with e | e
    · exact absurd e (by decide)
    · exact e.symm
  refine ⟨hw1, ?_⟩
  subst hw1
  cases p with
  | wheel z ms =>
    have h : (if (if (-1 : Int) = 1 then (x + -1) % z else x) ∈ ms then (-1 : Int) else 0) = -1 := h
    by_cases e2 : (if (-1 : Int) = 1 then (x + -1) % z else x) ∈ ms
    · exact decide_eq_true (List.length_pos_of_mem e2)
    · rw [if_neg e2] at h
      exact absurd h (by decide)
  | click => exact absurd (show (if (-1 : Int) = 1 then (1 : Int) else 0) = -1 from h) (by decide)
  | rocker =>
    have h : (if (-1 : Int) = 1 ∧ x = 0 then (1 : Int) else 0) = -1 := h
    rw [if_neg (by intro z; exact absurd z.1 (by decide))] at h
    exact absurd h (by decide)
  | spring k => exact absurd (show (0 : Int) = -1 from h) (by decide)
/-- what is shown below nought comes through all parts -/
theorem gen_back : ∀ {ps : List Part} {xs : List Int} {w : Int}, w = 0 ∨ Sign w → xs.length = ps.length → (gen ppz ps xs w).2 = -1 → w = -1 ∧ ps.all gvb = true
  | [], [], w, _, _, h => ⟨h, rfl⟩
  | p :: ps, x :: xs, w, hw, hl, h => by
    have hl' : xs.length = ps.length := Nat.succ.inj hl
    have h' : (gen ppz ps xs (ppz p x w).2).2 = -1 := h
    have hz : (ppz p x w).2 = 0 ∨ Sign (ppz p x w).2 := by
      unfold ppz
      split
      · exact .inl rfl
      · rename_i e
        exact pp_sign p x w (hw.resolve_left e)
    obtain ⟨h1, h2⟩ := gen_back hz hl' h'
    have e : w ≠ 0 := fun z => by
      rw [show ppz p x w = (x, 0) from if_pos z] at h1
      exact absurd (show (0 : Int) = -1 from h1) (by decide)
    unfold ppz at h1
    rw [if_neg e] at h1
    obtain ⟨h3, h4⟩ := pp_back (hw.resolve_left e) h1
    exact ⟨h3, by rw [List.all_cons, h4, h2]; rfl⟩
/-- a stand at which each wheel stands at a mark -/
def atMarks : List Part → List Int
  | [] => []
  | .wheel _ (m :: _) :: r => m :: atMarks r
  | _ :: r => 0 :: atMarks r
theorem marks_back : ∀ {ps : List Part}, (∀ p ∈ ps, p.ok) → ps.all gvb = true → StandL ps (atMarks ps) ∧ (gen ppz ps (atMarks ps) (-1)).2 = -1
  | [], _, _ => ⟨trivial, rfl⟩
  | .wheel z (m :: ms) :: r, ok, h => by
    rw [List.all_cons, Bool.and_eq_true] at h
    have o := ok _ List.mem_cons_self
    obtain ⟨h1, h2⟩ := marks_back (fun p hp => ok p (List.mem_cons_of_mem _ hp)) h.2
    have hm := o.2.2.1.2 m List.mem_cons_self
    refine ⟨⟨o, hm.1, hm.2, h1⟩, ?_⟩
    show (gen ppz r (atMarks r) (ppz (.wheel z (m :: ms)) m (-1)).2).2 = -1
    rw [show (ppz (.wheel z (m :: ms)) m (-1)).2 = -1 from if_pos List.mem_cons_self]
    exact h2
  | .wheel z [] :: r, _, h => by
    rw [List.all_cons, Bool.and_eq_true] at h
    exact absurd (show false = true from h.1) (by decide)
  | .click :: r, _, h => by
    rw [List.all_cons, Bool.and_eq_true] at h
    exact absurd h.1 (by decide)
  | .rocker :: r, _, h => by
    rw [List.all_cons, Bool.and_eq_true] at h
    exact absurd h.1 (by decide)
  | .spring k :: r, _, h => by
    rw [List.all_cons, Bool.and_eq_true] at h
    exact absurd (show false = true from h.1) (by decide)
theorem run_back {ps : List Part} {xs : List Int} {w : Int} (hl : xs.length = ps.length) (hw : Sign w) (h : (Ct.run ps xs 0 w).2 = -1) : w = -1 ∧ ps.all gvb = true := by
  rw [run_gen hl (Nat.zero_le _)] at h
  exact gen_back (.inr hw) hl h
theorem run_marks {ps : List Part} (ok : ∀ p ∈ ps, p.ok) (h : ps.all gvb = true) : StandL ps (atMarks ps) ∧ (Ct.run ps (atMarks ps) 0 (-1)).2 = -1 := by
  obtain ⟨h1, h2⟩ := marks_back ok h
  refine ⟨h1, ?_⟩
  rw [run_gen h1.len (Nat.zero_le _)]
  exact h2
/-! worn teeth -/
def offMark (ms : List Int) (m : Int) : List Int := ms.filter fun k => !decide (k = m)
def wornP (ps : List Part) : Option (Nat × Int) → List Part
  | none => ps
  | some (i, m) => match ps[i]? with
    | some (.wheel z ms) => ps.set i (.wheel z (offMark ms m))
    | _ => ps
theorem offMark_ok {z : Int} {ms : List Int} {m : Int} (h : (Part.wheel z ms).ok) : (Part.wheel z (offMark ms m)).ok :=
  ⟨h.1, h.2.1, ⟨h.2.2.1.1.filter _, fun k hk => h.2.2.1.2 k (List.mem_filter.mp hk).1⟩, Nat.le_trans (List.length_filter_le _ _) h.2.2.2⟩
theorem wornP_ok {ps : List Part} (h : ∀ p ∈ ps, p.ok) (w : Option (Nat × Int)) : ∀ p ∈ wornP ps w, p.ok := by
  unfold wornP
  split
  · exact h
  · split
    · rename_i i m z ms e
      intro p hp
      rcases List.mem_or_eq_of_mem_set hp with hp | hp
      · exact h p hp
      · rw [hp]
        exact offMark_ok (h _ (List.mem_of_getElem? e))
    · exact h
theorem wornP_len (ps : List Part) (w : Option (Nat × Int)) : (wornP ps w).length = ps.length := by
  unfold wornP
  split
  · rfl
  · split
    · rw [List.length_set]
    · rfl
/-- a wear as it is handed in -/
def WearAt (K : PySem.W.Frag) (H : Hp) (v : V) : Option (Nat × Int) → Prop
  | none => v = .non
  | some (i, m) => ∃ g, v = .ref g ∧ SqT K H g [.int i, .int m]
end Ct
namespace Ct
open PySem PySem.Spec PyProof.Rows L2
theorem dpAll_set {K : PySem.W.Frag} {H : Hp} : ∀ {vs : List V} {ds : List PyData} {i : Nat} {v : V} {d : PyData}, DpAll K H vs ds → Dp K H v d → DpAll K H (vs.set i v) (ds.set i d)
  | _, _, _, _, _, .nil, _ => .nil
  | _, _, 0, _, _, .cons _ t, h => .cons h t
  | _, _, _ + 1, _, _, .cons a t, h => .cons a (dpAll_set t h)
theorem WearAt.same {K : PySem.W.Frag} {H H' : Hp} {v : V} {w : Option (Nat × Int)} (s : Same H H') (h : WearAt K H v w) : WearAt K H' v w := by
  cases w with
  | none => exact h
  | some im =>
    obtain ⟨g, e, hg⟩ := h
    exact ⟨g, e, Same.tup s hg⟩
end Ct
namespace Ct
open PySem PySem.Spec PyProof.Rows L2
/-! trains behind one another -/
theorem gen_app (f : Part → Int → Int → Int × Int) (qs : List Part) (ys : List Int) : ∀ (ps : List Part) (xs : List Int) (a : Int), xs.length = ps.length →
    gen f (ps ++ qs) (xs ++ ys) a = ((gen f ps xs a).1 ++ (gen f qs ys (gen f ps xs a).2).1, (gen f qs ys (gen f ps xs a).2).2)
  | [], [], _, _ => rfl
  | p :: ps, x :: xs, a, h => by
    have ih := gen_app f qs ys ps xs (f p x a).2 (Nat.succ.inj h)
    show ((f p x a).1 :: (gen f (ps ++ qs) (xs ++ ys) (f p x a).2).1, (gen f (ps ++ qs) (xs ++ ys) (f p x a).2).2) = _
    rw [ih]
    rfl
theorem run0 {ps : List Part} {xs : List Int} (w : Int) (hx : xs.length = ps.length) : Ct.run ps xs 0 w = gen ppz ps xs w := by
  rw [run_gen hx (Nat.zero_le _)]
  rfl
theorem run_len (ps : List Part) (xs : List Int) (w : Int) : (Ct.run ps xs 0 w).1.length = xs.length := runN_len ps 0 (xs, w) _
theorem run_app {ps qs : List Part} {xs ys : List Int} (w : Int) (hx : xs.length = ps.length) (hy : ys.length = qs.length) :
    Ct.run (ps ++ qs) (xs ++ ys) 0 w = ((Ct.run ps xs 0 w).1 ++ (Ct.run qs ys 0 (Ct.run ps xs 0 w).2).1, (Ct.run qs ys 0 (Ct.run ps xs 0 w).2).2) := by
  rw [run0 w (by rw [List.length_append, List.length_append, hx, hy]), gen_app ppz qs ys ps xs w hx, run0 w hx, run0 _ hy]
theorem run_sg {ps : List Part} {xs : List Int} {w : Int} (hw : w = 0 ∨ Sign w) : (Ct.run ps xs 0 w).2 = 0 ∨ Sign (Ct.run ps xs 0 w).2 := by
  rcases hw with e | e
  · rw [e, run_zero]
    exact .inl rfl
  · exact runN_sign ps 0 (xs, w) e _
theorem fedS_sg {ps : List Part} : ∀ {ss : List Int} {xs : List Int}, (∀ s ∈ ss, s = 0 ∨ Sign s) → ∀ s ∈ (fedS ps xs ss).2, s = 0 ∨ Sign s
  | [], _, _, _, h => by cases h
  | s :: r, xs, hs, t, h => by
    rcases List.mem_cons.mp h with h | h
    · rw [h]
      exact run_sg (hs s List.mem_cons_self)
    · exact fedS_sg (ss := r) (fun u hu => hs u (List.mem_cons_of_mem s hu)) t h
theorem fedS_len1 (ps : List Part) : ∀ (ss : List Int) (xs : List Int), (fedS ps xs ss).1.length = xs.length
  | [], _ => rfl
  | s :: r, xs => by rw [fedS, fedS_len1 ps r, run_len]
theorem fed_app {ps qs : List Part} : ∀ {ss : List Int} {xs ys : List Int}, xs.length = ps.length → ys.length = qs.length →
    fedS (ps ++ qs) (xs ++ ys) ss = ((fedS ps xs ss).1 ++ (fedS qs ys (fedS ps xs ss).2).1, (fedS qs ys (fedS ps xs ss).2).2)
  | [], _, _, _, _ => rfl
  | s :: r, xs, ys, hx, hy => by
    have ih := fed_app (ss := r) (xs := (Ct.run ps xs 0 s).1) (ys := (Ct.run qs ys 0 (Ct.run ps xs 0 s).2).1) (by rw [run_len, hx]) (by rw [run_len, hy])
    rw [fedS, run_app s hx hy, fedS]
    show ((fedS (ps ++ qs) ((Ct.run ps xs 0 s).1 ++ (Ct.run qs ys 0 (Ct.run ps xs 0 s).2).1) r).1, (Ct.run qs ys 0 (Ct.run ps xs 0 s).2).2 :: (fedS (ps ++ qs) ((Ct.run ps xs 0 s).1 ++ (Ct.run qs ys 0 (Ct.run ps xs 0 s).2).1) r).2) = _
    rw [ih]
    rfl
theorem gen_nought {w : Int} : ∀ {ps : List Part} {xs : List Int}, StandL ps xs → gen (ptw w) ps xs 0 = (xs, 0)
  | [], [], _ => rfl
  | p :: ps, x :: xs, h => by
    obtain ⟨ok, x0, x1, hr⟩ := h
    show ((ptw w p x 0).1 :: (gen (ptw w) ps xs (ptw w p x 0).2).1, (gen (ptw w) ps xs (ptw w p x 0).2).2) = _
    rw [show ptw w p x 0 = (x, 0) from pt_zero ok x0 x1, gen_nought hr]
theorem gen_upto {w : Int} (hw : Sign w) : ∀ {ps : List Part} {xs : List Int} {t : Int}, 0 ≤ t → StandL ps xs → 0 ≤ (gen (ptw w) ps xs t).2 ∧ (gen (ptw w) ps xs t).2 ≤ t
  | [], [], t, h, _ => ⟨h, Int.le_refl _⟩
  | p :: ps, x :: xs, t, h, hs => by
    obtain ⟨ok, x0, x1, hr⟩ := hs
    have e : ((t.toNat : Nat) : Int) = t := Int.toNat_of_nonneg h
    have h1 := pt_nn ok x0 x1 hw t.toNat
    have h2 := pt_le ok x0 x1 hw t.toNat
    rw [e] at h1 h2
    have ih := gen_upto (ps := ps) (xs := xs) (t := (ptw w p x t).2) hw h1 hr
    exact ⟨ih.1, Int.le_trans ih.2 h2⟩
/-- a deed at a part of the first train: what it gives comes to the second one -/
theorem deed_front {ps qs : List Part} {xs ys : List Int} {d : Deed} (hx : StandL ps xs) (hy : StandL qs ys) (hd : d.ok ps.length) {w' : Int} {t' : Nat} (hw' : w' = if (deedL ps xs d).2 < 0 then -1 else 1) (ht' : (t' : Int) = if (deedL ps xs d).2 < 0 then -(deedL ps xs d).2 else (deedL ps xs d).2) :
    t' ≤ d.t ∧ deedL (ps ++ qs) (xs ++ ys) d = ((deedL ps xs d).1 ++ (deedL qs ys ⟨0, w', t'⟩).1, (deedL qs ys ⟨0, w', t'⟩).2) := by
  have hl := hx.len
  have e1 : (xs ++ ys).take d.i = xs.take d.i := List.take_append_of_le_length (by have := hd.1; omega)
  have e2 : (xs ++ ys).drop d.i = xs.drop d.i ++ ys := List.drop_append_of_le_length (by have := hd.1; omega)
  have e3 : (ps ++ qs).drop d.i = ps.drop d.i ++ qs := List.drop_append_of_le_length (by have := hd.1; omega)
  have hg := gen_upto (t := (d.t : Int)) hd.2 (by omega) (stand_drop d.i hx)
  have ga := gen_app (ptw d.w) qs ys (ps.drop d.i) (xs.drop d.i) d.t (by rw [List.length_drop, List.length_drop, hl])
  unfold deedL at hw' ht' ⊢
  rw [e1, e2, e3, ga]
  generalize gen (ptw d.w) (ps.drop d.i) (xs.drop d.i) d.t = r at *
  have hw' : w' = if d.w * r.2 < 0 then -1 else 1 := hw'
  have ht' : (t' : Int) = if d.w * r.2 < 0 then -(d.w * r.2) else d.w * r.2 := ht'
  have et : (t' : Int) = r.2 := by
    rcases hd.2 with e | e <;> rw [e] at ht' <;> split at ht' <;> omega
  refine ⟨by omega, ?_⟩
  show (xs.take d.i ++ (r.1 ++ (gen (ptw d.w) qs ys r.2).1), d.w * (gen (ptw d.w) qs ys r.2).2) = ((xs.take d.i ++ r.1) ++ ([] ++ (gen (ptw w') qs ys (t' : Int)).1), w' * (gen (ptw w') qs ys (t' : Int)).2)
  rw [et, List.nil_append, List.append_assoc]
  by_cases h0 : r.2 = 0
  · rw [h0, gen_nought hy, gen_nought hy, Int.mul_zero, Int.mul_zero]
  · have ew : w' = d.w := by
      rcases hd.2 with e | e <;> rw [e] at hw' ⊢ <;> rw [hw'] <;> split <;> omega
    rw [ew]
theorem deed_behind {ps qs : List Part} {xs ys : List Int} {d : Deed} {j : Nat} (hx : xs.length = ps.length) (hi : d.i = ps.length + j) : deedL (ps ++ qs) (xs ++ ys) d = (xs ++ (deedL qs ys ⟨j, d.w, d.t⟩).1, (deedL qs ys ⟨j, d.w, d.t⟩).2) := by
  unfold deedL
  rw [hi]
  have e1 : (xs ++ ys).take (ps.length + j) = xs ++ ys.take j := by rw [← hx, List.take_length_add_append]
  have e2 : (xs ++ ys).drop (ps.length + j) = ys.drop j := by rw [← hx, List.drop_length_add_append]
  have e3 : (ps ++ qs).drop (ps.length + j) = qs.drop j := by rw [List.drop_length_add_append]
  rw [e1, e2, e3, List.append_assoc]
end Ct

namespace Ct
open PySem PySem.Spec PyProof.Rows L2
/-! a row done often -/
def itR (ps : List Part) (ds : List Deed) : Nat → List Int → List Int × Int
  | 0, xs => (xs, 0)
  | n + 1, xs => ((rowL ps ds ((itR ps ds n xs).1, 0)).1, (itR ps ds n xs).2 + (rowL ps ds ((itR ps ds n xs).1, 0)).2)
theorem itR_stand {ps : List Part} {ds : List Deed} {xs : List Int} (h : StandL ps xs) (hd : ∀ d ∈ ds, d.ok ps.length) : ∀ n, StandL ps (itR ps ds n xs).1
  | 0 => h
  | n + 1 => rowL_stand (s := ((itR ps ds n xs).1, 0)) (itR_stand h hd n) hd
theorem itR_round {ps : List Part} {ds : List Deed} {xs : List Int} {j k : Nat} (e : (itR ps ds j xs).1 = (itR ps ds k xs).1) : ∀ m, (itR ps ds (k + m) xs).1 = (itR ps ds (j + m) xs).1 ∧ (itR ps ds (k + m) xs).2 - (itR ps ds (j + m) xs).2 = (itR ps ds k xs).2 - (itR ps ds j xs).2
  | 0 => ⟨e.symm, rfl⟩
  | m + 1 => by
    obtain ⟨h1, h2⟩ := itR_round e m
    show (rowL ps ds ((itR ps ds (k + m) xs).1, 0)).1 = (rowL ps ds ((itR ps ds (j + m) xs).1, 0)).1 ∧ (itR ps ds (k + m) xs).2 + (rowL ps ds ((itR ps ds (k + m) xs).1, 0)).2 - ((itR ps ds (j + m) xs).2 + (rowL ps ds ((itR ps ds (j + m) xs).1, 0)).2) = _
    rw [h1]
    exact ⟨rfl, by omega⟩
theorem itR_rounds {ps : List Part} {ds : List Deed} {xs : List Int} {j k : Nat} (hjk : j ≤ k) (e : (itR ps ds j xs).1 = (itR ps ds k xs).1) (m : Nat) : ∀ r : Nat, itR ps ds (j + m + r * (k - j)) xs = ((itR ps ds (j + m) xs).1, (itR ps ds (j + m) xs).2 + (r : Int) * ((itR ps ds k xs).2 - (itR ps ds j xs).2))
  | 0 => by
    rw [Nat.zero_mul, Nat.add_zero, show ((0 : Nat) : Int) = 0 from rfl, Int.zero_mul, Int.add_zero]
  | r + 1 => by
    have ih := itR_rounds hjk e m r
    have hr := itR_round e (m + r * (k - j))
    rw [← Nat.add_assoc j m, ih] at hr
    rw [show j + m + (r + 1) * (k - j) = k + (m + r * (k - j)) by rw [Nat.add_mul, Nat.one_mul]; omega]
    refine Prod.ext hr.1 ?_
    have h2 : (itR ps ds (k + (m + r * (k - j))) xs).2 - ((itR ps ds (j + m) xs).2 + (r : Int) * ((itR ps ds k xs).2 - (itR ps ds j xs).2)) = (itR ps ds k xs).2 - (itR ps ds j xs).2 := hr.2
    show (itR ps ds (k + (m + r * (k - j))) xs).2 = (itR ps ds (j + m) xs).2 + ((r + 1 : Nat) : Int) * ((itR ps ds k xs).2 - (itR ps ds j xs).2)
    rw [show ((r + 1 : Nat) : Int) = (r : Int) + 1 by omega, Int.add_mul, Int.one_mul]
    omega
/-- the way round, reckoned -/
theorem itR_at {ps : List Part} {ds : List Deed} {xs : List Int} {j k n : Nat} (hjk : j < k) (hn : j ≤ n) (e : (itR ps ds j xs).1 = (itR ps ds k xs).1) :
    itR ps ds n xs = ((itR ps ds (j + (n - j) % (k - j)) xs).1, (itR ps ds (j + (n - j) % (k - j)) xs).2 + (((n - j) / (k - j) : Nat) : Int) * ((itR ps ds k xs).2 - (itR ps ds j xs).2)) := by
  have h := itR_rounds (Nat.le_of_lt hjk) e ((n - j) % (k - j)) ((n - j) / (k - j))
  rw [show j + (n - j) % (k - j) + (n - j) / (k - j) * (k - j) = n by
    have := Nat.mod_add_div (n - j) (k - j)
    rw [Nat.mul_comm (k - j)] at this
    omega] at h
  exact h
/-! no more unlike stands than there are -/
theorem filt_len {N : Nat} : ∀ {l : List Nat}, l.Nodup → (∀ x ∈ l, x < N + 1) → l.length ≤ (l.filter fun x => decide (x < N)).length + 1
  | [], _, _ => Nat.zero_le _
  | a :: r, hn, h => by
    obtain ⟨h1, h2⟩ := List.nodup_cons.mp hn
    by_cases ha : a < N
    · rw [List.filter_cons, if_pos (decide_eq_true ha), List.length_cons, List.length_cons]
      have := filt_len h2 fun x hx => h x (List.mem_cons_of_mem _ hx)
      omega
    · have ea : a = N := by
        have := h a List.mem_cons_self
        omega
      have : (r.filter fun x => decide (x < N)) = r := List.filter_eq_self.mpr fun x hx => decide_eq_true (by
        have h3 := h x (List.mem_cons_of_mem _ hx)
        have h4 : x ≠ N := fun z => h1 (by rw [ea, ← z]; exact hx)
        omega)
      rw [List.filter_cons, if_neg (by rw [decide_eq_false ha]; exact Bool.false_ne_true), this, List.length_cons]
      omega
theorem holes : ∀ (N : Nat) (l : List Nat), l.Nodup → (∀ x ∈ l, x < N) → l.length ≤ N
  | 0, [], _, _ => Nat.le_refl _
  | 0, a :: _, _, h => absurd (h a List.mem_cons_self) (Nat.not_lt_zero a)
  | N + 1, l, hn, h => by
    have h1 := filt_len hn h
    have h2 := holes N (l.filter fun x => decide (x < N)) (hn.filter _) fun x hx => of_decide_eq_true (List.mem_filter.mp hx).2
    omega
def code : List Part → List Int → Nat
  | _ :: ps, x :: xs => x.toNat * (stands ps).toNat + code ps xs
  | _, _ => 0
theorem code_lt : ∀ {ps : List Part} {xs : List Int}, StandL ps xs → code ps xs < (stands ps).toNat
  | [], [], _ => by decide
  | p :: ps, x :: xs, ⟨ok, h0, h1, h⟩ => by
    have ih := code_lt (ps := ps) (xs := xs) h
    have po := ok.pos.1
    show x.toNat * (stands ps).toNat + code ps xs < (p.places * stands ps).toNat
    have sp : 1 ≤ stands ps := stands_pos ps h.okp
    have e : (p.places * stands ps).toNat = p.places.toNat * (stands ps).toNat := by
      rw [Int.toNat_mul (by omega) (by omega)]
    rw [e]
    have hx : x.toNat + 1 ≤ p.places.toNat := by omega
    have := Nat.mul_le_mul_right (stands ps).toNat hx
    rw [Nat.add_mul, Nat.one_mul] at this
    omega
theorem code_inj : ∀ {ps : List Part} {xs ys : List Int}, StandL ps xs → StandL ps ys → code ps xs = code ps ys → xs = ys
  | [], [], [], _, _, _ => rfl
  | p :: ps, x :: xs, y :: ys, ⟨_, a0, _, ha⟩, ⟨_, b0, _, hb⟩, e => by
    have la := code_lt ha
    have lb := code_lt hb
    have e2 : x.toNat * (stands ps).toNat + code ps xs = y.toNat * (stands ps).toNat + code ps ys := e
    generalize (stands ps).toNat = N at *
    have d1 : (x.toNat * N + code ps xs) / N = x.toNat := by
      rw [Nat.mul_comm, Nat.mul_add_div (by omega), Nat.div_eq_of_lt la, Nat.add_zero]
    have d2 : (y.toNat * N + code ps ys) / N = y.toNat := by
      rw [Nat.mul_comm, Nat.mul_add_div (by omega), Nat.div_eq_of_lt lb, Nat.add_zero]
    rw [e2, d2] at d1
    have ex : x = y := by omega
    subst ex
    rw [code_inj ha hb (by omega)]
theorem few_stands {ps : List Part} {ds : List Deed} {xs : List Int} (h : StandL ps xs) (hd : ∀ d ∈ ds, d.ok ps.length) {k : Nat} (dist : ∀ i j, i < j → j < k → (itR ps ds i xs).1 ≠ (itR ps ds j xs).1) : k ≤ (stands ps).toNat := by
  have := holes (stands ps).toNat ((List.range k).map fun i => code ps (itR ps ds i xs).1) ?_ ?_
  · rw [List.length_map, List.length_range] at this
    exact this
  · rw [List.nodup_iff_pairwise_ne, List.pairwise_map]
    refine List.Pairwise.imp_of_mem (fun {a b} ha hb hab => ?_) (List.pairwise_lt_range (n := k))
    rw [List.mem_range] at ha hb
    exact fun z => dist a b hab hb (code_inj (itR_stand h hd a) (itR_stand h hd b) z)
  · intro x hx
    obtain ⟨i, _, rfl⟩ := List.mem_map.mp hx
    exact code_lt (itR_stand h hd i)
/-! how great a sum may be -/
theorem gen_le {w : Int} (hw : Sign w) : ∀ (ps : List Part) (xs : List Int) (t : Int), 0 ≤ t → StandL ps xs → (gen (ptw w) ps xs t).2 ≤ t
  | [], [], t, _, _ => Int.le_refl _
  | p :: ps, x :: xs, t, ht, ⟨ok, h0, h1, h⟩ => by
    have e : ((t.toNat : Nat) : Int) = t := by omega
    have a := pt_le ok h0 h1 hw t.toNat
    have n := pt_nn ok h0 h1 hw t.toNat
    rw [e] at a n
    exact Int.le_trans (gen_le hw ps xs (pt p x w t).2 n h) a
theorem deedL_sum {ps : List Part} {xs : List Int} {d : Deed} (h : StandL ps xs) (hd : d.ok ps.length) : -(d.t : Int) ≤ (deedL ps xs d).2 ∧ (deedL ps xs d).2 ≤ d.t := by
  have g1 := (gen_stand hd.2 _ _ (d.t : Int) (by omega) (stand_drop d.i h)).2
  have g2 := gen_le hd.2 _ _ (d.t : Int) (by omega) (stand_drop d.i h)
  show -(d.t : Int) ≤ d.w * (gen (ptw d.w) (ps.drop d.i) (xs.drop d.i) d.t).2 ∧ d.w * (gen (ptw d.w) (ps.drop d.i) (xs.drop d.i) d.t).2 ≤ d.t
  generalize (gen (ptw d.w) (ps.drop d.i) (xs.drop d.i) d.t).2 = g at *
  rcases hd.2 with e | e
  · rw [e, Int.one_mul]
    exact ⟨by omega, g2⟩
  · rw [e]
    exact ⟨by omega, by omega⟩
theorem rowL_sum {ps : List Part} : ∀ {ds : List Deed} {s : List Int × Int}, StandL ps s.1 → (∀ d ∈ ds, d.ok ps.length ∧ d.t < 2 ^ 200) → s.2 - ds.length * 2 ^ 200 ≤ (rowL ps ds s).2 ∧ (rowL ps ds s).2 ≤ s.2 + ds.length * 2 ^ 200
  | [], s, _, _ => by
    show s.2 - ((0 : Nat) : Int) * 2 ^ 200 ≤ s.2 ∧ s.2 ≤ s.2 + ((0 : Nat) : Int) * 2 ^ 200
    rw [show ((0 : Nat) : Int) = 0 from rfl, Int.zero_mul]
    omega
  | d :: ds, s, h, hd => by
    have d0 := hd d List.mem_cons_self
    have a := deedL_sum h d0.1
    have ih := rowL_sum (ds := ds) (s := ((deedL ps s.1 d).1, s.2 + (deedL ps s.1 d).2)) (deedL_stand h d0.1) fun e he => hd e (List.mem_cons_of_mem _ he)
    have i1 : s.2 + (deedL ps s.1 d).2 - (ds.length : Int) * 2 ^ 200 ≤ (rowL ps (d :: ds) s).2 := ih.1
    have i2 : (rowL ps (d :: ds) s).2 ≤ s.2 + (deedL ps s.1 d).2 + (ds.length : Int) * 2 ^ 200 := ih.2
    have dt := d0.2
    rw [List.length_cons, show ((ds.length + 1 : Nat) : Int) = (ds.length : Int) + 1 by omega, Int.add_mul, Int.one_mul]
    omega
theorem itR_sum {ps : List Part} {ds : List Deed} {xs : List Int} (h : StandL ps xs) (hd : ∀ d ∈ ds, d.ok ps.length ∧ d.t < 2 ^ 200) (hl : ds.length ≤ 1000) : ∀ n : Nat, -(n : Int) * 2 ^ 210 ≤ (itR ps ds n xs).2 ∧ (itR ps ds n xs).2 ≤ (n : Int) * 2 ^ 210
  | 0 => by
    show -((0 : Nat) : Int) * 2 ^ 210 ≤ 0 ∧ (0 : Int) ≤ ((0 : Nat) : Int) * 2 ^ 210
    decide
  | n + 1 => by
    have ih := itR_sum h hd hl n
    have r := rowL_sum (s := ((itR ps ds n xs).1, 0)) (itR_stand h (fun d hm => (hd d hm).1) n) hd
    have r1 : (0 : Int) - ds.length * 2 ^ 200 ≤ (rowL ps ds ((itR ps ds n xs).1, 0)).2 := r.1
    have r2 : (rowL ps ds ((itR ps ds n xs).1, 0)).2 ≤ 0 + ds.length * 2 ^ 200 := r.2
    show -((n + 1 : Nat) : Int) * 2 ^ 210 ≤ (itR ps ds n xs).2 + (rowL ps ds ((itR ps ds n xs).1, 0)).2 ∧ (itR ps ds n xs).2 + (rowL ps ds ((itR ps ds n xs).1, 0)).2 ≤ ((n + 1 : Nat) : Int) * 2 ^ 210
    rw [show ((n + 1 : Nat) : Int) = (n : Int) + 1 by omega]
    omega
theorem inl_inj : ∀ {xs ys : List Int}, xs.map (Sum.inl : Int → Key) = ys.map Sum.inl → xs = ys
  | [], [], _ => rfl
  | [], _ :: _, h => nomatch h
  | _ :: _, [], h => nomatch h
  | x :: xs, y :: ys, h => by
    injection h with h1 h2
    injection h1 with h3
    rw [h3, inl_inj h2]
theorem key_map (xs : List Int) : (xs.map (Sum.inl : Int → Key)).map kV = xs.map V.int := by
  rw [List.map_map]
  rfl
theorem units65 {k : Nat} {A : Around} (r : Room k A) : A.units + 65 < cLine := by
  have := r.un
  omega
theorem eqv_ints : ∀ (xs ys : List Int), PyData.eqvAll (xs.map PyData.int) (ys.map PyData.int) = decide (xs = ys)
  | [], [] => rfl
  | [], _ :: _ => rfl
  | _ :: _, [] => rfl
  | x :: xs, y :: ys => by
    rw [List.map_cons, List.map_cons, PyData.eqvAll, eqv_ints xs ys, PyData.eqv]
    by_cases e : x = y
    · subst e
      by_cases e2 : xs = ys
      · subst e2
        simp
      · rw [decide_eq_false e2, decide_eq_false (fun z => e2 (List.cons.inj z).2), Bool.and_false]
    · rw [decide_eq_false (fun z => e (List.cons.inj z).1), show (x == y) = false from beq_eq_false_iff_ne.mpr e, Bool.false_and]
theorem eqv_tupD (xs ys : List Int) : PyData.eqv (tupD xs) (tupD ys) = decide (xs = ys) := by
  unfold tupD
  rw [PyData.eqv]
  exact eqv_ints xs ys
theorem itR_one {ps : List Part} {xs : List Int} {i : Nat} {w : Int} (h : StandL ps xs) (hi : i < ps.length) (hw : Sign w) : ∀ n, itR ps [⟨i, w, 1⟩] n xs = pushes ps i w n (xs, 0)
  | 0 => rfl
  | n + 1 => by
    have ih := itR_one h hi hw n
    have hs : StandL ps (pushes ps i w n (xs, 0)).1 := pushes_stand h hi hw 0 n
    have e : rowL ps [⟨i, w, 1⟩] ((pushes ps i w n (xs, 0)).1, 0) = pushes ps i w 1 ((pushes ps i w n (xs, 0)).1, 0) := rowL_one (s := ((pushes ps i w n (xs, 0)).1, 0)) (d := ⟨i, w, 1⟩) hs ⟨hi, hw⟩
    show ((rowL ps [⟨i, w, 1⟩] ((itR ps [⟨i, w, 1⟩] n xs).1, 0)).1, (itR ps [⟨i, w, 1⟩] n xs).2 + (rowL ps [⟨i, w, 1⟩] ((itR ps [⟨i, w, 1⟩] n xs).1, 0)).2) = _
    rw [ih, e]
    refine Prod.ext rfl ?_
    show (pushes ps i w n (xs, 0)).2 + (0 + (Ct.run ps (pushes ps i w n (xs, 0)).1 i w).2) = (pushes ps i w n (xs, 0)).2 + (Ct.run ps (pushes ps i w n (xs, 0)).1 i w).2
    omega
theorem itR_deed {ps : List Part} {xs : List Int} {i : Nat} {w : Int} (h : StandL ps xs) (hi : i < ps.length) (hw : Sign w) (n : Nat) : itR ps [⟨i, w, 1⟩] n xs = rowL ps [⟨i, w, n⟩] (xs, 0) := by
  rw [itR_one h hi hw n, rowL_one (s := (xs, 0)) (d := ⟨i, w, n⟩) h ⟨hi, hw⟩]
theorem itR_add {ps : List Part} {ds : List Deed} (a : Nat) (xs : List Int) : ∀ b, itR ps ds (a + b) xs = ((itR ps ds b (itR ps ds a xs).1).1, (itR ps ds a xs).2 + (itR ps ds b (itR ps ds a xs).1).2)
  | 0 => Prod.ext rfl (Int.add_zero _).symm
  | b + 1 => by
    have ih := itR_add (ps := ps) (ds := ds) a xs b
    show ((rowL ps ds ((itR ps ds (a + b) xs).1, 0)).1, (itR ps ds (a + b) xs).2 + (rowL ps ds ((itR ps ds (a + b) xs).1, 0)).2) = _
    rw [ih]
    refine Prod.ext rfl ?_
    show (itR ps ds a xs).2 + (itR ps ds b (itR ps ds a xs).1).2 + _ = (itR ps ds a xs).2 + ((itR ps ds b (itR ps ds a xs).1).2 + _)
    rw [Int.add_assoc]
section
variable {K : PySem.W.Frag} {H : Hp} {σ : L2.St} {Q : VK} {D : Ends}
theorem w_dnewT (h : ∀ p, H p = none → Q (.ref p) (upd H p (.dT []))) : tDNewT σ H Q := h
theorem w_dnotin {ty td : TE} (h : ty σ H fun y H1 => td σ H1 fun x H2 => ∃ a o, x = .ref a ∧ DGet H2 a y o ∧ Q (.bl (!o.isSome)) H2) : tDNotIn ty td σ H Q := h
theorem w_dget {td ty : TE} (h : td σ H fun x H1 => ty σ H1 fun y H2 => ∃ a v, x = .ref a ∧ DGet H2 a y (some v) ∧ Q v H2) : tDGet td ty σ H Q := h
theorem w_dput {td ty tv : TE} (h : tv σ H fun v H1 => td σ H1 fun x H2 => ty σ H2 fun y H3 => ∃ a H4, x = .ref a ∧ DPut H3 a y v H4 ∧ D.nx σ H4) : sDPut td ty tv D σ H := h
end
end Ct

/-! what stays but for one object -/
namespace Ct
open PySem PySem.Spec PyProof.Rows L2
/-- all that was tracked stays, but for what lies at k -/
def But (k : Addr) (H H' : Hp) : Prop := ∀ a o, a ≠ k → H a = some o → H' a = some o
theorem but_same {k : Addr} {H H' : Hp} (s : Same H H') : But k H H' := fun a o _ h => s a o h
theorem But.refl {k : Addr} {H : Hp} : But k H H := fun _ _ _ h => h
theorem But.trans {k : Addr} {H H1 H2 : Hp} (a : But k H H1) (b : But k H1 H2) : But k H H2 := fun c o n h => b c o n (a c o n h)
theorem but_upd {k : Addr} {H : Hp} {o : HO} : But k H (upd H k o) := fun c u n h => by rw [upd_ne n]; exact h
theorem But.same {k : Addr} {H H1 H2 : Hp} (hk : H k = none) (s : Same H H1) (b : But k H1 H2) : Same H H2 := fun c o h => b c o (fun e => by rw [e, hk] at h; cases h) (s c o h)
def Ext (H : Hp) (k : Addr) : Prop := ∃ f, H k = some (.ext f)
theorem but_tup {K : PySem.W.Frag} {k a : Addr} {H H' : Hp} {xs : List V} (x : Ext H k) (e : But k H H') (h : SqT K H a xs) : SqT K H' a xs := by
  obtain ⟨f, x⟩ := x
  rcases h with (h | ⟨o, h⟩) | h
  · exact .inl (.inl (e _ _ (fun z => by rw [z, x] at h; cases h) h))
  · exact .inl (.inr ⟨o, e _ _ (fun z => by rw [z, x] at h; cases h) h⟩)
  · exact .inr h
theorem but_seq {K : PySem.W.Frag} {k a : Addr} {H H' : Hp} {xs : List V} (x : Ext H k) (e : But k H H') (h : SqL K H a xs) : SqL K H' a xs := by
  obtain ⟨f, x⟩ := x
  rcases h with (h | ⟨o, h⟩) | h
  · exact .inl (.inl (e _ _ (fun z => by rw [z, x] at h; cases h) h))
  · exact .inl (.inr ⟨o, e _ _ (fun z => by rw [z, x] at h; cases h) h⟩)
  · exact .inr h
mutual
theorem dp_but {K : PySem.W.Frag} {H H' : Hp} {k : Addr} (x : Ext H k) (e : But k H H') : ∀ {v : V} {d : PyData}, Dp K H v d → Dp K H' v d
  | _, _, .non => .non
  | _, _, .bl b => .bl b
  | _, _, .int i => .int i
  | _, _, .str x => .str x
  | _, _, .lst h t => .lst (but_seq x e h) (dpAll_but x e t)
  | _, _, .tup h t => .tup (but_tup x e h) (dpAll_but x e t)
theorem dpAll_but {K : PySem.W.Frag} {H H' : Hp} {k : Addr} (x : Ext H k) (e : But k H H') : ∀ {vs : List V} {ds : List PyData}, DpAll K H vs ds → DpAll K H' vs ds
  | _, _, .nil => .nil
  | _, _, .cons h t => .cons (dp_but x e h) (dpAll_but x e t)
end
theorem TrainAt.but {K : PySem.W.Frag} {H H' : Hp} {k a : Addr} {ps : List Part} (x : Ext H k) (e : But k H H') : TrainAt K H a ps → TrainAt K H' a ps
  | ⟨vs, h1, h2⟩ => ⟨vs, but_seq x e h1, dpAll_but x e h2⟩
end Ct

/-! dicts with tuple keys: list(d), max(d.values()), dict comprehensions -/
namespace Ct
open PySem PySem.Spec PyProof.Rows L2
theorem kt_at {H : Hp} : ∀ {kvs : List (List Key × V)} {ys : List (List Key × Addr × Value)}, KT H kvs ys → ∀ {i : Nat} {k : List Key} {v : V}, kvs[i]? = some (k, v) → ∃ b u, ys[i]? = some (k, b, u) ∧ H b = some (.tup (k.map kV)) ∧ RelV v u
  | _, _, .nil, i, _, _, e => by simp at e
  | _, _, .cons (a := p) (b := y) h t, 0, k, v, e => by
    obtain ⟨k', b, u⟩ := y
    cases Option.some.inj e
    obtain ⟨h1, h2, h3⟩ := h
    cases h1
    exact ⟨b, u, rfl, h2, h3⟩
  | _, _, .cons _ t, i + 1, k, v, e => kt_at t (i := i) e
/-- what stands in the heap for such a dict -/
theorem dt_raw {P : Program} {w : World} {H : Hp} {h : Heap} {a : Addr} {kvs : List (List Key × V)} (ok : HOk P w H h) (e : H a = some (.dT kvs)) :
    (a == sysModules) = false ∧ kvs.length ≤ sizeLine ∧ ∃ (es : Array DictEntry) (ep : Nat), h.DictRaw a es ep ∧ es.size = kvs.length ∧ ∀ (i : Nat) (k : List Key) (v : V), kvs[i]? = some (k, v) → ∃ b t, es[i]? = some t ∧ t.key = .ref b ∧ H b = some (.tup (k.map kV)) ∧ RelV v t.val := by
  obtain ⟨small, notSys, ys, rel, o, es, ep, h1, h2, h3, ents, _, _⟩ := dt_of ok e
  refine ⟨notSys, small, es, ep, ⟨o, h1, h2, h3⟩, ?_, fun i k v hi => ?_⟩
  · rw [size_of_entries ents, Paired.length rel]
  · obtain ⟨b, u, hy, hb, ru⟩ := kt_at rel hi
    exact ⟨b, _, by rw [entry_at ents, hy]; rfl, rfl, hb, ru⟩
def rListT : List V → Hp → VK → Prop := fun xs H Q => ∃ (a : Addr) (kvs : List (List Key × V)), xs = [.ref a] ∧ H a = some (.dT kvs) ∧
  ∀ bs : List Addr, bs.length = kvs.length → (∀ (i : Nat) (b : Addr) (k : List Key) (v : V), bs[i]? = some b → kvs[i]? = some (k, v) → H b = some (.tup (k.map kV))) → ∀ l, H l = none → Q (.ref l) (upd H l (.lst (bs.map V.ref)))
theorem vals_refs : ∀ {us : List Value} {bs : List Addr}, us = bs.map Value.ref → Vals (bs.map V.ref) us
  | _, [], rfl => .nil
  | _, b :: bs, rfl => .cons rfl (vals_refs (bs := bs) rfl)
theorem refs_of {P : Nat → Addr → Prop} : ∀ {us : List Value} (k : Nat), (∀ (i : Nat) (u : Value), us[i]? = some u → ∃ b, u = .ref b ∧ P (k + i) b) → ∃ bs : List Addr, us = bs.map Value.ref ∧ ∀ (i : Nat) (b : Addr), bs[i]? = some b → P (k + i) b
  | [], _, _ => ⟨[], rfl, fun i b e => by simp at e⟩
  | u :: us, k, h => by
    obtain ⟨b, rfl, hb⟩ := h 0 u rfl
    obtain ⟨bs, rfl, hbs⟩ := refs_of (P := P) (k + 1) fun i u e => by
      obtain ⟨b, hb, p⟩ := h (i + 1) u e
      exact ⟨b, hb, by rw [show k + 1 + i = k + (i + 1) by omega]; exact p⟩
    refine ⟨b :: bs, rfl, fun i c e => ?_⟩
    cases i with
    | zero =>
      cases Option.some.inj e
      exact hb
    | succ i =>
      rw [show k + (i + 1) = k + 1 + i by omega]
      exact hbs i c e
section
variable {X : Cx}
theorem call_listT (calm : X.calm = true) : CallR X (.type "list") rListT := by
  rintro pins s σ H xs us Q J r ⟨a, kvs, rfl, ha, q⟩
  obtain ⟨u, rfl, r1⟩ := vals1 r
  cases (show u = Value.ref a from r1)
  obtain ⟨notSys, small, es, ep, raw, size, ents⟩ := dt_raw J.hok ha
  refine PySem.W.kdl_call (KdlSrc.rawDict (es := es) (ep := ep) notSys) (J.ok.hd calm) raw (by rw [size]; exact small) ?_
  intro h' tk acc c keeps made ⟨n, items⟩
  obtain ⟨bs, hbs, keys⟩ := refs_of (us := acc.toList) (P := fun i b => ∀ (k : List Key) (v : V), kvs[i]? = some (k, v) → H b = some (.tup (k.map kV))) 0 fun i u e => by
    rw [Array.getElem?_toList] at e
    obtain ⟨hi, hu⟩ := items i u e
    have hi2 : i < kvs.length := by omega
    obtain ⟨b, t, ht, hk, hb, _⟩ := ents i kvs[i].1 kvs[i].2 (List.getElem?_eq_getElem hi2)
    have et : es[i] = t := by
      rw [Array.getElem?_eq_getElem hi] at ht
      exact Option.some.inj ht
    refine ⟨b, by rw [hu, et, hk], fun k v e => ?_⟩
    rw [Nat.zero_add, List.getElem?_eq_getElem hi2] at e
    have e := Option.some.inj e
    rw [e] at hb
    exact hb
  have len : bs.length = kvs.length := by
    have := congrArg List.length hbs
    rw [List.length_map, Array.length_toList, n, size] at this
    exact this.symm
  refine ⟨.ref _, _, J.laid (t' := tk) (o := .lst (bs.map V.ref)) keeps (Nat.le_refl _) ?_, rfl, q bs len (fun i b k v hb hk => by
    have := keys i b hb
    rw [Nat.zero_add] at this
    exact this k v hk) _ (J.hok.fresh (Nat.le_refl _))⟩
  exact ⟨by rw [List.length_map, len]; exact small, acc.toList, c, vals_refs hbs, made⟩
/-- the view d.values() at p -/
def valuesO (p d : Addr) : HO := .ext fun h => h.IsValuesView p d
def rValuesT : V → List V → Hp → VK → Prop := fun x xs H Q => ∃ (a : Addr) (kvs : List (List Key × V)), x = .ref a ∧ xs = [] ∧ H a = some (.dT kvs) ∧ ∀ p, H p = none → Q (.ref p) (upd H p (valuesO p a))
theorem mt_valuesT : MtR X "dict.values" rValuesT := by
  rintro pins s σ H x xs v us Q J rx rxs ⟨a, kvs, rfl, rfl, ha, q⟩
  cases rx
  cases rxs
  obtain ⟨notSys, small, es, ep, raw, _, _⟩ := dt_raw J.hok ha
  refine call_meetsIn PySem.F.slot_dict_values raw.typeIs PySem.F.entry_dict_values (PySem.F.args_dict_values_1 _) (meets_dict_values_raw a notSys) ⟨⟨es, ep, raw⟩, ?_⟩
  refine ⟨.ref _, _, J.laid (t' := s.toks) (o := valuesO _ a) (fun b u e => Heap.get?_push_of_some _ e) (Nat.le_refl _) ?_, rfl, q _ (J.hok.fresh (Nat.le_refl _))⟩
  exact ⟨⟨_, Heap.get?_push_size _ rfl, rfl, rfl⟩, ⟨_, Heap.get?_push_size _ rfl⟩, fun _ _ z keep => let ⟨o, ho, r⟩ := z; ⟨o, keep o ho, r⟩⟩
/-- max of the values, whole numbers -/
def rMaxT : List V → Hp → VK → Prop := fun xs H Q => ∃ (p a : Addr) (kvs : List (List Key × V)) (ns : List Int), xs = [.ref p] ∧ H p = some (valuesO p a) ∧ H a = some (.dT kvs) ∧ kvs.map (·.2) = ns.map V.int ∧ 0 < ns.length ∧ ∀ m, m ∈ ns → (∀ y, y ∈ ns → y ≤ m) → Q (.int m) H
theorem cr_maxT (calm : X.calm = true) : CallR X (.builtin "max") rMaxT := by
  rintro pins s σ H xs us Q J r ⟨p, a, kvs, ns, rfl, hp, ha, hns, some1, q⟩
  rw [Vals.ref1 r]
  obtain ⟨notSys, small, es, ep, raw, size, ents⟩ := dt_raw J.hok ha
  have view : s.heap.IsValuesView p a := (show ObjOk X.prog X.w H s.heap p (valuesO p a) from J.hok p _ hp).1
  have kn : kvs.length = ns.length := by
    have := congrArg List.length hns
    rw [List.length_map, List.length_map] at this
    exact this
  have val : ∀ (i : Nat) (v : Value), (∃ hi : i < es.size, v = es[i].val) → ∃ t, v = .int (ns.getD i 0) t := by
    rintro i v ⟨hi, rfl⟩
    have hk : i < kvs.length := by omega
    have hn : i < ns.length := by omega
    obtain ⟨b, t, ht, _, _, rv⟩ := ents i kvs[i].1 kvs[i].2 (List.getElem?_eq_getElem hk)
    rw [Array.getElem?_eq_getElem hi] at ht
    rw [Option.some.inj ht]
    have e : kvs[i].2 = V.int ns[i] := by
      have z : (kvs.map (·.2))[i]? = (ns.map V.int)[i]? := by rw [hns]
      rw [List.getElem?_map, List.getElem?_map, List.getElem?_eq_getElem hk, List.getElem?_eq_getElem hn] at z
      exact Option.some.inj z
    rw [e] at rv
    rw [List.getD_eq_getElem?_getD, List.getElem?_eq_getElem hn]
    exact rv
  have lt : a < s.heap.objs.size := let ⟨o, ho, _⟩ := raw; Heap.lt_size ho
  refine call_max_walk (wpAny_pyIter_values_raw view raw ?_)
  refine ⟨_, _, _, _, _, _, _, rfl, Walks.rawValues (show X.A.in1.handled = none from J.ok.hd calm) s.heap.objs.size a (Nat.ne_of_lt lt) es ep, ⟨⟨_, Heap.get?_push_size _ rfl, rfl, rfl⟩, raw.at fun o e => Heap.get?_push_of_some _ e⟩, fun b hb => ?_, by omega, CmpOf.ints_gt (fun i => ns.getD i 0) val, fun v h' tk hv keep => ?_⟩
  · rw [Heap.size_push]
    rcases List.mem_cons.mp hb with z | z
    · rw [z]
      exact Nat.lt_succ_self _
    · rw [List.mem_singleton.mp z]
      exact Nat.lt_succ_of_lt lt
  · obtain ⟨t, rfl⟩ := val _ v hv
    obtain ⟨m1, m2⟩ := argBest_gt (fun i => ns.getD i 0) (es.size - 1)
    have old : ∀ b o, s.heap.get? b = some o → h'.get? b = some o := fun b o e => keep b o (fun z => by
      rw [List.mem_singleton.mp z] at e
      exact absurd (Heap.lt_size e) (Nat.lt_irrefl _)) (Heap.get?_push_of_some _ e)
    refine ⟨.int _, H, J.kept (t' := tk) old, ⟨t, rfl⟩, q _ (PySem.getD_mem ?_) fun y hy => ?_⟩
    · refine Nat.lt_of_le_of_lt m1 ?_
      omega
    · obtain ⟨j, hj, e⟩ := List.mem_iff_getElem.mp hy
      have z := m2 j (by omega)
      rw [show ns.getD j 0 = y by rw [List.getD_eq_getElem?_getD, List.getElem?_eq_getElem hj, ← e]; rfl] at z
      exact z
end
end Ct
namespace Ct
open PySem PySem.Spec PyProof.Rows L2
section
variable {X : Cx}
/-- a comprehension's store into a dict with tuple keys -/
theorem dT_store {pins : List (Addr × Obj)} {σ : L2.St} {H : Hp} {s : Shared} {E : Value → Shared → Prop} {D b : Addr} {kvs : List (List Key × V)} {k : List Key} {v : V} {r : Value} {Q : Unit → Shared → Prop} (room : X.A.units + 1 < cLine) (J : Inv X pins σ H s) (hD : H D = some (.dT kvs)) (hb : H b = some (.tup (k.map kV))) (few : kvs.length < sizeLine)
    (rv : RelV v r) (q : ∀ s', Inv X pins σ (upd H D (.dT (putK kvs k v))) s' → Q () s') : wpAny (model X.prog X.w) X.A (dictSet D (.ref b) r) Q E s := by
  obtain ⟨_, notSys, ys, rel, dd⟩ := dt_of J.hok hD
  have ylen : ys.length ≤ sizeLine := by rw [← Paired.length rel]; exact Nat.le_of_lt few
  have room' : (tupleKind (mixKind X.prog X.w)).room X.A := show X.A.units < cLine from Nat.lt_of_succ_lt room
  refine wpAny_dictSet_heap (hsz := ylen) room' (key_of J.hok hb) dd ?_
  intro h' ⟨o, es, ep, h1, h2, h3, h4, _, h5⟩ same
  refine q _ (d_write J (by rw [hD]; exact True.intro) same ⟨o, h1⟩ ⟨?_, notSys, _, (rel.put k hb rv).keeps fun c zs hc => ?_, o, es, ep, h1, h2, h3, h4, h5⟩)
  · have := length_putK kvs k v
    omega
  · rw [upd_ne (ne_of hc hD fun z => nomatch z)]
    exact hc
/-- {key: value for target in iter if ..}, keys tuples of numbers and texts; D the new dict -/
def tDcT (wi : TI) (g : TG) (tt : TT) (tk tv : TE) (vs : List Nat) : TE := fun σ H Q => wi σ H fun J H1 => ∀ D, H1 D = none → ∃ W : Nat → Nat → Hp → Prop, (∃ m, W 0 m (upd H1 D (.dT []))) ∧ ∀ i m Hi, W i m Hi →
  (J.stop i Hi ∧ Q (.ref D) Hi) ∨ (J.go i Hi ∧ ∃ Nx : Hp → Prop, (∀ H', Nx H' → ∃ m', m' < m ∧ W (i + 1) m' H') ∧ ∀ x H', J.yld i Hi x H' → g x (wipe σ vs) H' fun σ2 H2 => wipe σ2 vs = wipe σ vs ∧ tt σ2 H2 fun yes H3 =>
    if yes = true then tk σ2 H3 fun y H4 => tv σ2 H4 fun z H5 => ∃ kvs k b, y = .ref b ∧ H5 b = some (.tup (k.map kV)) ∧ H5 D = some (.dT kvs) ∧ kvs.length < sizeLine ∧ Nx (upd H5 D (.dT (putK kvs k z))) else Nx H3)
theorem dcT_core {pins : List (Addr × Obj)} {s : Shared} {σ : L2.St} {H : Hp} {Q : VK} {use : Option (Value → Sem Unit)} {Qf : Value → Shared → Prop} {kx vx tg iter : Expr} {ifs : List Expr} {scope : Scope} {own : List (Str × Nat)} {pos pos' : Pos} {wi : TI} {g : TG} {tt : TT} {tk tv : TE} (calm : X.calm = true) (room : X.A.units + 1 < cLine) (nd : X.N.Nodup) (src : PI X tg iter wi) (blk : BlkOk X.N X.env.scope scope own)
    (pG : ∀ (z : Shared) (G : Hp) (C : Addr) (cl : List (Str × Addr)) (fp : List Addr), PG (X.blk z G scope (compEnvC scope cl C X.env) fp) tg g) (pT : ∀ (z : Shared) (G : Hp) (C : Addr) (cl : List (Str × Addr)) (fp : List Addr), PTs (X.blk z G scope (compEnvC scope cl C X.env) fp) ifs tt)
    (pK : ∀ (z : Shared) (G : Hp) (C : Addr) (cl : List (Str × Addr)) (fp : List Addr), PE (X.blk z G scope (compEnvC scope cl C X.env) fp) kx tk)
    (pV : ∀ (z : Shared) (G : Hp) (C : Addr) (cl : List (Str × Addr)) (fp : List Addr), PE (X.blk z G scope (compEnvC scope cl C X.env) fp) vx tv) (plain : ∀ x, foldedSetIterable iter X.env x = pure x)
    (inv : Inv X pins σ H s) (wish : tDcT wi g tt tk tv (own.map (·.2)) σ H Q)
    (post : ∀ D C z m G, Inv X pins σ G z → Q (.ref D) G → z.heap.Ns C m → FpOk X pins G C → compPost (model X.prog X.w) X.A X.xe use Qf (.ref D) C (.ok .next) z) :
    wpAny (model X.prog X.w) X.A (comprehension (.DictComp kx vx [⟨tg, iter, ifs, 0⟩] scope pos) scope X.env pos' newDict false (eval iter X.env) use) Qf X.xe s := by
  have cells : ∀ y ∈ scope.names, y.2 = .free → ∃ c, X.env.cells.lookup y.1 = some c := fun y hy e => (blk.free y hy e).elim (fun k => inv.ok.has _ (.inl k)) fun k => inv.ok.has _ (.inr k)
  refine wpAny_comprehension_free (use := use) rfl plain (closure_ok cells) blk.kind (fun y hy e => by rw [blk.uniq y hy, e]) ?_
  refine thn (src.run pins s σ H _ inv wish) fun _ sA hA => thn hA fun _ sB hB => ?_
  obtain ⟨it, fp, at_, walk, HB, rfl, invB, T, stB, fpB, told⟩ := hB
  refine wpAny_newObj_type (newEnv_comp ?_)
  have free : HB sB.heap.objs.size = none := invB.hok.fresh (Nat.le_refl _)
  obtain ⟨W, ⟨m0, w0⟩, turn⟩ := told sB.heap.objs.size free
  have below : ∀ b ∈ fp, b < sB.heap.objs.size := fun b hb => let ⟨_, e, _⟩ := T.obj _ _ stB b hb; Heap.lt_size e
  generalize hD : sB.heap.objs.size = D at *
  generalize hC : ({ sB with heap := sB.heap.push { cls := .type "dict", data := .dict #[] } } : Shared) = sC
  have heapC : sC.heap = sB.heap.push { cls := .type "dict", data := .dict #[] } := by rw [← hC]
  have invC : Inv X pins σ (upd HB D (.dT [])) sC := by
    subst hC
    refine invB.laid (t' := sB.toks) (fun b o e => Heap.get?_push_of_some _ e) (Nat.le_of_eq hD) ?_
    subst hD
    exact dt_empty sB.heap invB.big
  have oldC : ∀ b o, sB.heap.get? b = some o → sC.heap.get? b = some o := fun b o e => by rw [heapC]; exact Heap.get?_push_of_some _ e
  have fpC : ∀ b ∈ fp, FpOk X pins (upd HB D (.dT [])) b ∧ b < sC.heap.objs.size := fun b hb => by
    have lt := below b hb
    have l2 : b < sC.heap.objs.size := by
      rw [heapC, Heap.size_push, hD]
      exact Nat.lt_succ_of_lt lt
    exact ⟨⟨by rw [upd_ne (Nat.ne_of_lt lt)]; exact (fpB b hb).1, (fpB b hb).2⟩, l2⟩
  have invD := block_start invC blk nd fpC
  generalize hcl : cellsFrom (sC.heap.objs.size + 1) scope.names (cloFrom X.env.cells scope.names []) = cl at *
  show codeAny _ _ (.compStart (.DictComp kx vx [⟨tg, iter, ifs, 0⟩] scope pos) 0 (.ref it) (.ref D) (compEnvC scope cl sC.heap.objs.size X.env)) (compPost (model X.prog X.w) X.A X.xe use Qf (.ref D) sC.heap.objs.size) { sC with heap := pushCells (sC.heap.push { cls := .type "dict", data := .dict #[] }) scope.names }
  have loc : (compEnvC scope cl sC.heap.objs.size X.env).locals = sC.heap.objs.size := rfl
  have qG := pG sC (upd HB D (.dT [])) sC.heap.objs.size cl fp
  have qT := pT sC (upd HB D (.dT [])) sC.heap.objs.size cl fp
  have qK := pK sC (upd HB D (.dT [])) sC.heap.objs.size cl fp
  have qV := pV sC (upd HB D (.dT [])) sC.heap.objs.size cl fp
  have noneC : ∀ b ∈ fp, (upd HB D (.dT [])) b = none := fun b hb => (fpC b hb).1.1
  generalize hE : compEnvC scope cl sC.heap.objs.size X.env = ce at invD qG qT qK qV loc ⊢
  generalize hG : upd HB D (.dT []) = HC at invC invD qG qT qK qV w0 noneC fpC
  generalize hZ : ({ sC with heap := pushCells (sC.heap.push { cls := .type "dict", data := .dict #[] }) scope.names } : Shared) = sD at invD ⊢
  have stD : at_ 0 sD.heap := T.keep _ _ _ stB fun b _ o e => by rw [← hZ]; exact pushCells_keeps _ _ _ _ (Heap.get?_push_of_some _ (oldC b o e))
  have calmly : ∀ {τ : L2.St} {G : Hp} {z : Shared}, Inv (X.blk sC HC scope ce fp) [] τ G z → (∀ b ∈ fp, G b = none) → ∀ b ∈ fp, FpOk (X.blk sC HC scope ce fp) [] G b := fun {τ G z} i n b hb =>
    ⟨n b hb, (i.ok.exf b hb).1, i.ok.exfs b hb, .inl hb, fun x c e => (i.ok.exf b hb).2 x c e, fun p hp => absurd (show p ∈ ([] : List (Addr × Obj)) ++ [] from hp) (by simp)⟩
  refine (fun loop => codeAny_compStart_dict loop (T.self X.A 0 _ _ _ stD loop)) ?_
  refine compLoop_anyD (fun n z => ∃ i G, Inv (X.blk sC HC scope ce fp) [] (wipe σ (own.map (·.2))) G z ∧ at_ i z.heap ∧ (∀ b ∈ fp, G b = none) ∧ W i n G) ?_ m0 ⟨0, HC, invD, stD, noneC, w0⟩
  rintro n z5 ⟨i, G5, inv5, st5, n5, w5⟩
  rcases turn i n G5 w5 with ⟨stop, fin⟩ | ⟨go, Nx, less, step⟩
  · refine thnF (T.done (X.blk sC HC scope ce fp) rfl rfl rfl calm i [] z5 _ G5 (fun _ _ => False) inv5 (calmly inv5 n5) st5 stop) ?_
    rintro r z6 ⟨rfl, inv6⟩
    have back : Inv X pins σ G5 z6 := invC.call' (ch := fp) inv6.os inv6.base inv6.hok inv6.bare fun b hb => ⟨(fpC b hb).1.2.2.2.1, (fpC b hb).1.2.1, (fpC b hb).1.2.2.2.2.1, (fpC b hb).1.2.2.2.2.2⟩
    have nL : G5 sC.heap.objs.size = none := by
      rw [← loc]
      exact inv6.free
    obtain ⟨m, names, _⟩ := inv6.loc
    have names' : z6.heap.Ns sC.heap.objs.size m := by
      rw [← loc]
      exact names
    exact post D sC.heap.objs.size z6 m G5 back fin names' (invC.fpOk (Nat.le_refl _) nL)
  · refine thnF (T.item (X.blk sC HC scope ce fp) rfl rfl rfl calm i [] z5 _ G5 (fun _ _ => False) inv5 (calmly inv5 n5) st5 go) ?_
    rintro r z6 ⟨u, rfl, h6⟩
    refine thnF h6 ?_
    rintro _ z7 ⟨x, G7, inv7, r7, y7, st7, n7⟩
    refine thnF (qG.run _ z7 _ G7 x u _ (inv7.pinned (calmly inv7 n7) (T.obj _ _ st7)) r7 (step x G7 y7)) ?_
    rintro _ z8 ⟨σ8, G8, inv8, same8, q8⟩
    refine thnF (qT.run _ z8 σ8 G8 _ inv8 q8) ?_
    rintro yes z9 ⟨G9, inv9, q9⟩
    have next : ∀ {z : Shared} {G : Hp}, Inv (X.blk sC HC scope ce fp) ([] ++ pinsAt fp z7.heap) σ8 G z → Nx G → ∃ m, m < n ∧ ∃ i G, Inv (X.blk sC HC scope ce fp) [] (wipe σ (own.map (·.2))) G z ∧ at_ i z.heap ∧ (∀ b ∈ fp, G b = none) ∧ W i m G := fun {z G} i' nx => by
      obtain ⟨m', lt, w'⟩ := less G nx
      have pinned : ∀ b ∈ fp, ∀ o, z7.heap.get? b = some o → z.heap.get? b = some o ∧ G b = none := fun b hb o e =>
        let p := i'.pin (b, o) (List.mem_append_right _ (List.mem_append_right _ (mem_pinsAt hb e)))
        ⟨p.1, p.2.1⟩
      refine ⟨m', lt, i + 1, G, (i'.unpinned (pins := [])).weak (by rw [← same8, wipe_length]) (fun j v e => ?_), T.keep _ _ _ st7 fun b hb o e => (pinned b hb o e).1, fun b hb => ?_, w'⟩
      · rw [← same8] at e
        exact (wipe_some e).1
      · obtain ⟨o, e, _⟩ := T.obj _ _ st7 b hb
        exact (pinned b hb o e).2
    cases yes with
    | false =>
      simp only [Bool.false_eq_true, if_false] at q9 ⊢
      exact next inv9 q9
    | true =>
      simp only [if_true] at q9 ⊢
      refine thnF (qK.run _ z9 σ8 G9 _ inv9 q9) ?_
      rintro ku z10 ⟨yk, G10, inv10, r10, q10⟩
      refine thnF (qV.run _ z10 σ8 G10 _ inv10 q10) ?_
      rintro vu z11 ⟨yv, G11, inv11, r11, kvs, k, b, rfl, hb, hD11, few, nx⟩
      cases (show ku = Value.ref b from r10)
      exact dT_store (X := X.blk sC HC scope ce fp) room inv11 hD11 hb few r11 fun z12 inv12 => next inv12 nx
theorem pe_dcT {kx vx tg iter : Expr} {ifs : List Expr} {scope : Scope} {own : List (Str × Nat)} {pos : Pos} {wi : TI} {g : TG} {tt : TT} {tk tv : TE} (calm : X.calm = true) (room : X.A.units + 1 < cLine) (nd : X.N.Nodup) (src : PI X tg iter wi) (blk : BlkOk X.N X.env.scope scope own)
    (pG : ∀ (z : Shared) (G : Hp) (C : Addr) (cl : List (Str × Addr)) (fp : List Addr), PG (X.blk z G scope (compEnvC scope cl C X.env) fp) tg g) (pT : ∀ (z : Shared) (G : Hp) (C : Addr) (cl : List (Str × Addr)) (fp : List Addr), PTs (X.blk z G scope (compEnvC scope cl C X.env) fp) ifs tt)
    (pK : ∀ (z : Shared) (G : Hp) (C : Addr) (cl : List (Str × Addr)) (fp : List Addr), PE (X.blk z G scope (compEnvC scope cl C X.env) fp) kx tk)
    (pV : ∀ (z : Shared) (G : Hp) (C : Addr) (cl : List (Str × Addr)) (fp : List Addr), PE (X.blk z G scope (compEnvC scope cl C X.env) fp) vx tv) (plain : ∀ x, foldedSetIterable iter X.env x = pure x := by intro _; rfl) :
    PE X (.DictComp kx vx [⟨tg, iter, ifs, 0⟩] scope pos) (tDcT wi g tt tk tv (own.map (·.2))) := by
  constructor
  intro pins s σ H Q inv wish
  rw [arm_eval_DictComp]
  refine dcT_core calm room nd src blk pG pT pK pV plain inv wish ?_
  intro D C z m G back fin names ⟨f0, f1, f2, f3, f4, f5⟩
  exact ⟨m, names, fun h'' sb => ⟨.ref D, G, back.turned (t' := z.toks) (fun b o hb e => (sb.2 b hb).trans e) f0 f1 f3 f4 f5, rfl, fin⟩⟩
theorem swD_true {kx vx : Expr} {gs : List Comprehension} {scope : Scope} {pos py : Pos} {y : Str} {l : Nat} {env : Env} (fn : env.scope.kind = .function) (loc : env.scope.names.lookup y = some .local) (row : (py.line == pos.line) = true)
    (apart : (scope.names.any fun (n, k) => n == y && (k == .local || k == .cell)) = false) : swapsWith (.DictComp kx vx gs scope pos) (some (.Name y py)) l env = pure true := by
  have e1 : env.kindOf y = some .local := loc
  have e2 : env.blockKind = .function := by unfold Env.blockKind; rw [fn]; rfl
  unfold swapsWith
  simp only [e2, e1, apart, Expr.pos, row]
  rfl
/-- name = {..}, the name a local -/
theorem ps_setDcT {i : Nat} {y : Str} {py spos : Pos} {kx vx tg iter : Expr} {ifs : List Expr} {scope : Scope} {own : List (Str × Nat)} {pos : Pos} {wi : TI} {g : TG} {tt : TT} {tk tv : TE} (at_ : X.N[i]? = some y) (loc : X.env.scope.names.lookup y = some .local)
    (sw : swapsWith (.DictComp kx vx [⟨tg, iter, ifs, 0⟩] scope pos) (some (.Name y py)) spos.line X.env = pure true) (calm : X.calm = true) (room : X.A.units + 1 < cLine) (nd : X.N.Nodup) (src : PI X tg iter wi) (blk : BlkOk X.N X.env.scope scope own)
    (pG : ∀ (z : Shared) (G : Hp) (C : Addr) (cl : List (Str × Addr)) (fp : List Addr), PG (X.blk z G scope (compEnvC scope cl C X.env) fp) tg g) (pT : ∀ (z : Shared) (G : Hp) (C : Addr) (cl : List (Str × Addr)) (fp : List Addr), PTs (X.blk z G scope (compEnvC scope cl C X.env) fp) ifs tt)
    (pK : ∀ (z : Shared) (G : Hp) (C : Addr) (cl : List (Str × Addr)) (fp : List Addr), PE (X.blk z G scope (compEnvC scope cl C X.env) fp) kx tk)
    (pV : ∀ (z : Shared) (G : Hp) (C : Addr) (cl : List (Str × Addr)) (fp : List Addr), PE (X.blk z G scope (compEnvC scope cl C X.env) fp) vx tv) (plain : ∀ x, foldedSetIterable iter X.env x = pure x := by intro _; rfl) :
    PS X (.Assign [.Name y py] (.DictComp kx vx [⟨tg, iter, ifs, 0⟩] scope pos) spos) (tAsg (tDcT wi g tt tk tv (own.map (·.2))) (gName i)) := by
  constructor
  intro pins s σ H D inv wish
  rw [exec_Assign_Name_used _ _ _ _ sw]
  refine wpAny_bind (wpAny_standAt (wpAny_bind ?_))
  show wpAny _ X.A (do let _ ← comprehension (.DictComp kx vx [⟨tg, iter, ifs, 0⟩] scope pos) scope X.env (firstIterPos [⟨tg, iter, ifs, 0⟩] pos) newDict false (eval iter X.env) (some (assign (.Name y py) X.env))) _ _ s
  have wish' : tDcT wi g tt tk tv (own.map (·.2)) σ H (fun x H1 => gName i x σ H1 D.nx) := wish
  refine wpAny_bind (thn (dcT_core (Qf := fun _ z => SP X pins D .next z) calm room nd src blk pG pT pK pV plain inv wish' ?_) fun _ z hz => wpAny_pure (wpAny_pure hz))
  intro L C z m G back fin names ⟨f0, f1, f2, f3, f4, f5⟩
  show wpAny _ _ (assign (.Name y py) X.env (.ref L)) _ _ _
  refine wpAny_assign_Name (store_ok2 (v := V.ref L) back nd at_ (.inl loc) rfl (fun z2 inv2 ⟨a, sb, ha⟩ => ?_) (.inr loc))
  have other : C ≠ a := ha.elim (fun q => by rw [q]; exact f1) fun q => fun e => f4 y a q e.symm
  exact ⟨m, names.sameBut sb other, fun h3 sb3 => ⟨_, G, inv2.turned (t' := z2.toks) (fun b o hb e => (sb3.2 b hb).trans e) f0 f1 f3 f4 f5, fin⟩⟩
/-- over a list that stays -/
theorem dcT_list {K : PySem.W.Frag} {a : Addr} {xs : List V} {g : TG} {tt : TT} {tk tv : TE} {vs : List Nat} {σ : L2.St} {H1 : Hp} {D : Addr} {Qd : Hp → Prop} (Pv : Nat → Hp → Prop) (h0 : Pv 0 (upd H1 D (.dT []))) (hl : ∀ i G, i ≤ xs.length → Pv i G → SqL K G a xs)
    (hs : ∀ i x G, xs[i]? = some x → Pv i G → g x (wipe σ vs) G fun σ2 H2 => wipe σ2 vs = wipe σ vs ∧ tt σ2 H2 fun yes H3 =>
      if yes = true then tk σ2 H3 fun y H4 => tv σ2 H4 fun z H5 => ∃ kvs k b, y = .ref b ∧ H5 b = some (.tup (k.map kV)) ∧ H5 D = some (.dT kvs) ∧ kvs.length < sizeLine ∧ Pv (i + 1) (upd H5 D (.dT (putK kvs k z))) else Pv (i + 1) H3) (hd : ∀ G, Pv xs.length G → Qd G) :
    ∃ W : Nat → Nat → Hp → Prop, (∃ m, W 0 m (upd H1 D (.dT []))) ∧ ∀ i m Hi, W i m Hi →
      ((Itl K a).stop i Hi ∧ Qd Hi) ∨ ((Itl K a).go i Hi ∧ ∃ Nx : Hp → Prop, (∀ H', Nx H' → ∃ m', m' < m ∧ W (i + 1) m' H') ∧ ∀ x H', (Itl K a).yld i Hi x H' → g x (wipe σ vs) H' fun σ2 H2 => wipe σ2 vs = wipe σ vs ∧ tt σ2 H2 fun yes H3 =>
        if yes = true then tk σ2 H3 fun y H4 => tv σ2 H4 fun z H5 => ∃ kvs k b, y = .ref b ∧ H5 b = some (.tup (k.map kV)) ∧ H5 D = some (.dT kvs) ∧ kvs.length < sizeLine ∧ Nx (upd H5 D (.dT (putK kvs k z))) else Nx H3) := by
  refine ⟨fun i m G => m = xs.length - i ∧ i ≤ xs.length ∧ Pv i G, ⟨_, rfl, Nat.zero_le _, h0⟩, ?_⟩
  rintro i m G ⟨rfl, le, p⟩
  have seq := hl i G le p
  rcases Nat.lt_or_ge i xs.length with lt | ge
  · refine .inr ⟨⟨xs, xs[i], seq, by simp [lt]⟩, Pv (i + 1), fun G' p' => ⟨xs.length - (i + 1), by omega, rfl, lt, p'⟩, ?_⟩
    rintro x G' ⟨rfl, is⟩
    exact hs i x _ (is xs seq) p
  · have e : i = xs.length := by omega
    subst e
    exact .inl ⟨⟨xs, seq, Nat.le_refl _⟩, hd G p⟩
end
end Ct
namespace Ct
open PySem PySem.Spec PyProof.Rows L2
section
variable {X : Cx}
def rLenT : List V → Hp → VK → Prop := fun xs H Q => ∃ (a : Addr) (kvs : List (List Key × V)), xs = [.ref a] ∧ H a = some (.dT kvs) ∧ Q (.int kvs.length) H
theorem call_lenT : CallR X (.builtin "len") rLenT := by
  rintro pins s σ H xs us Q J r ⟨a, kvs, rfl, ha, q⟩
  obtain ⟨u, rfl, r1⟩ := vals1 r
  cases (show u = Value.ref a from r1)
  obtain ⟨notSys, small, es, ep, raw, size, _⟩ := dt_raw J.hok ha
  have s2 := sizeLine_eq
  refine PyProof.Rows.call_len_slot (n := kvs.length) raw.typeIs PySem.F.slot_dict_len (fun Q' q' => call_len_raw notSys raw (by rw [size]; exact q')) (by omega) (by omega) ?_
  exact ⟨.int kvs.length, H, J.tok _, ⟨_, rfl⟩, q⟩
end
section
variable {K : PySem.W.Frag} {H : Hp} {σ : L2.St} {D : Ends} {Q : VK} {QB : Bool → Hp → Prop} {R : It → Hp → Prop}
def IV (K : PySem.W.Frag) (vs : List V) (H : Hp) (R : It → Hp → Prop) : Prop := iRev K (fun _ H Q => Q vs H) [] H R
theorem w_irev {ta : TA} (h : ta σ H fun vs H1 => IV K vs H1 R) : iRev K ta σ H R := h
theorem w_IV {a : Addr} {xs : List V} (h : SqL K H a xs) (q : R (Itv K a xs.length) H) : IV K [.ref a] H R := ⟨a, xs, rfl, h, q⟩
theorem fb_rev {a : Addr} (xs : List V) {g : TG} {tb : TS} (Pv : Nat → L2.St → Hp → Prop) (h0 : Pv 0 σ H) (hq : ∀ i σ H, Pv i σ H → SqL K H a xs)
    (hs : ∀ (i : Nat) (x : V) (σ : L2.St) (H : Hp), i < xs.length → xs[xs.length - 1 - i]? = some x → Pv i σ H → g x σ H fun σ2 H2 => tb { D with nx := Pv (i + 1), ct := Pv (i + 1), bk := D.nx } σ2 H2) (hd : ∀ σ H, Pv xs.length σ H → D.nx σ H) : FB (Itv K a xs.length) g tb D σ H := RT.for_Itv Pv h0 hq hs hd
def DB (J : It) (g : TG) (tt : TT) (tk tv : TE) (vs : List Nat) (σ : L2.St) (H : Hp) (Q : VK) : Prop := tDcT (fun _ H R => R J H) g tt tk tv vs σ H Q
theorem w_dcT {wi : TI} {g : TG} {tt : TT} {tk tv : TE} {vs : List Nat} (h : wi σ H fun J H1 => DB J g tt tk tv vs σ H1 Q) : tDcT wi g tt tk tv vs σ H Q := h
theorem db_list {a : Addr} (xs : List V) {g : TG} {tt : TT} {tk tv : TE} {vs : List Nat} (Pv : Addr → Nat → Hp → Prop) (h0 : ∀ D, H D = none → Pv D 0 (upd H D (.dT []))) (hl : ∀ D, H D = none → ∀ i H1, i ≤ xs.length → Pv D i H1 → SqL K H1 a xs)
    (hs : ∀ D, H D = none → ∀ i x H1, xs[i]? = some x → Pv D i H1 → g x (wipe σ vs) H1 fun σ2 H2 => wipe σ2 vs = wipe σ vs ∧ tt σ2 H2 fun yes H3 =>
      if yes = true then tk σ2 H3 fun y H4 => tv σ2 H4 fun z H5 => ∃ kvs k b, y = .ref b ∧ H5 b = some (.tup (k.map kV)) ∧ H5 D = some (.dT kvs) ∧ kvs.length < sizeLine ∧ Pv D (i + 1) (upd H5 D (.dT (putK kvs k z))) else Pv D (i + 1) H3) (hd : ∀ D, H D = none → ∀ H1, Pv D xs.length H1 → Q (.ref D) H1) : DB (Itl K a) g tt tk tv vs σ H Q :=
  fun D hD => dcT_list (Pv D) (h0 D hD) (hl D hD) (hs D hD) (hd D hD)
theorem w_par {i j : Nat} {ta : TA} (h : ta σ H fun vs H1 => ∃ v w, vs = [v, w] ∧ D.nx ((σ.set i (some v)).set j (some w)) H1) : tPar i j ta D σ H := h
theorem w_bm0 {T : String} {r : V → List V → Hp → VK → Prop} {to : TE} (h : to σ H fun x H1 => tyV K T x H1 ∧ r x [] H1 Q) : tBM0 K T r to σ H Q := h
end
/-- tracked tuples of numbers -/
inductive TpAll (H : Hp) : List V → List (List Int) → Prop
  | nil : TpAll H [] []
  | cons {b : Addr} {s : List Int} {vs : List V} {ss : List (List Int)} : H b = some (.tup (s.map V.int)) → TpAll H vs ss → TpAll H (.ref b :: vs) (s :: ss)
theorem tp_same {H H' : Hp} (e : Same H H') : ∀ {vs : List V} {ss : List (List Int)}, TpAll H vs ss → TpAll H' vs ss
  | _, _, .nil => .nil
  | _, _, .cons h t => .cons (e _ _ h) (tp_same e t)
theorem tp_len {H : Hp} : ∀ {vs : List V} {ss : List (List Int)}, TpAll H vs ss → vs.length = ss.length
  | _, _, .nil => rfl
  | _, _, .cons _ t => by rw [List.length_cons, List.length_cons, tp_len t]
theorem tp_get {H : Hp} : ∀ {vs : List V} {ss : List (List Int)}, TpAll H vs ss → ∀ {i : Nat} {s : List Int}, ss[i]? = some s → ∃ b, vs[i]? = some (.ref b) ∧ H b = some (.tup (s.map V.int))
  | _, _, .nil, _, _, e => by simp at e
  | _, _, .cons h _, 0, _, e => by
    cases Option.some.inj e
    exact ⟨_, rfl, h⟩
  | _, _, .cons _ t, i + 1, _, e => tp_get t (i := i) e
theorem tp_app {H : Hp} : ∀ {vs ws : List V} {ss ts : List (List Int)}, TpAll H vs ss → TpAll H ws ts → TpAll H (vs ++ ws) (ss ++ ts)
  | _, _, _, _, .nil, h => h
  | _, _, _, _, .cons a t, h => .cons a (tp_app t h)
theorem tp_upd {H : Hp} {l : Addr} {ws : List V} {o : HO} (hl : H l = some (.lst ws)) : ∀ {vs : List V} {ss : List (List Int)}, TpAll H vs ss → TpAll (upd H l o) vs ss
  | _, _, .nil => .nil
  | _, _, .cons h t => .cons (by rw [upd_ne (ne_of h hl (fun z => nomatch z))]; exact h) (tp_upd hl t)
theorem tp_dp {K : PySem.W.Frag} {H : Hp} : ∀ {vs : List V} {ss : List (List Int)}, TpAll H vs ss → DpAll K H vs (ss.map tupD)
  | _, _, .nil => .nil
  | _, _, .cons h t => .cons (tupD_dp (.of h)) (tp_dp t)
theorem tp_take {H : Hp} : ∀ {vs : List V} {ss : List (List Int)} (k : Nat), TpAll H vs ss → TpAll H (vs.take k) (ss.take k)
  | _, _, 0, _ => .nil
  | _, _, _ + 1, .nil => .nil
  | _, _, k + 1, .cons h t => .cons h (tp_take k t)
theorem tp_drop {H : Hp} : ∀ {vs : List V} {ss : List (List Int)} (k : Nat), TpAll H vs ss → TpAll H (vs.drop k) (ss.drop k)
  | _, _, 0, h => h
  | _, _, _ + 1, .nil => .nil
  | _, _, k + 1, .cons _ t => tp_drop k t
theorem tp_of {H : Hp} : ∀ {bs : List Addr} {ss : List (List Int)}, bs.length = ss.length → (∀ (i : Nat) (b : Addr) (s : List Int), bs[i]? = some b → ss[i]? = some s → H b = some (.tup (s.map V.int))) → TpAll H (bs.map V.ref) ss
  | [], [], _, _ => .nil
  | [], _ :: _, e, _ => nomatch e
  | _ :: _, [], e, _ => nomatch e
  | b :: bs, s :: ss, e, h => .cons (h 0 b s rfl rfl) (tp_of (by simpa using e) fun i c t hc ht => h (i + 1) c t hc ht)
end Ct

/-! steps that come round -/
namespace Ct
section
variable {α : Type}
def itf (f : α → α) : Nat → α → α
  | 0, x => x
  | n + 1, x => f (itf f n x)
theorem itf_add (f : α → α) (x : α) (n : Nat) : ∀ m, itf f (m + n) x = itf f m (itf f n x)
  | 0 => by rw [Nat.zero_add]; rfl
  | m + 1 => by
    rw [show m + 1 + n = m + n + 1 by omega]
    show f (itf f (m + n) x) = f (itf f m (itf f n x))
    rw [itf_add f x n m]
theorem itf_one (f : α → α) (x : α) (n : Nat) : itf f (n + 1) x = itf f n (f x) := itf_add f x 1 n
def Ring (f : α → α) (x : α) : Prop := ∃ k, 0 < k ∧ itf f k x = x
def Tail (f : α → α) (x : α) (t : Nat) : Prop := Ring f (itf f t x) ∧ ∀ j, j < t → ¬ Ring f (itf f j x)
def Per (f : α → α) (x : α) (c : Nat) : Prop := 0 < c ∧ (∃ t, itf f (t + c) x = itf f t x) ∧ ∀ c', 0 < c' → c' < c → ∀ t, itf f (t + c') x ≠ itf f t x
variable {f : α → α} {x : α}
theorem tail_fun {s t : Nat} (h : Tail f x s) (g : Tail f x t) : s = t := by
  rcases Nat.lt_trichotomy s t with lt | e | lt
  · exact absurd h.1 (g.2 s lt)
  · exact e
  · exact absurd g.1 (h.2 t lt)
theorem per_fun {c d : Nat} (h : Per f x c) (g : Per f x d) : c = d := by
  rcases Nat.lt_trichotomy c d with lt | e | lt
  · obtain ⟨t, e⟩ := h.2.1
    exact absurd e (g.2.2 c h.1 lt t)
  · exact e
  · obtain ⟨t, e⟩ := g.2.1
    exact absurd e (h.2.2 d g.1 lt t)
theorem tail_zero (h : Ring f x) : Tail f x 0 := ⟨h, fun j hj => absurd hj (Nat.not_lt_zero j)⟩
theorem tail_succ {t : Nat} (n : ¬ Ring f x) (h : Tail f (f x) t) : Tail f x (t + 1) := by
  refine ⟨by rw [itf_one]; exact h.1, fun j hj => ?_⟩
  cases j with
  | zero => exact n
  | succ j =>
    rw [itf_one]
    exact h.2 j (by omega)
theorem per_back {c : Nat} (h : Per f (f x) c) : Per f x c := by
  obtain ⟨h0, ⟨t, e⟩, least⟩ := h
  refine ⟨h0, ⟨t + 1, ?_⟩, fun c' p lt t e => least c' p lt t ?_⟩
  · rw [show t + 1 + c = t + c + 1 by omega, itf_one, itf_one]
    exact e
  · rw [← itf_one, ← itf_one]
    show f (itf f (t + c') x) = f (itf f t x)
    rw [e]
/-- from where it came to a second time, all that comes came already -/
theorem comes {m n : Nat} (lt : m < n) (e : itf f n x = itf f m x) : ∀ i, m ≤ i → ∃ r, m ≤ r ∧ r < n ∧ itf f i x = itf f r x
  | 0, h => ⟨0, h, by omega, rfl⟩
  | i + 1, h => by
    rcases Nat.lt_or_ge m (i + 1) with l | l
    · obtain ⟨r, r1, r2, er⟩ := comes lt e i (by omega)
      rcases Nat.lt_or_ge (r + 1) n with l2 | l2
      · exact ⟨r + 1, by omega, l2, by show f (itf f i x) = f (itf f r x); rw [er]⟩
      · refine ⟨m, Nat.le_refl _, lt, ?_⟩
        have en : r + 1 = n := by omega
        rw [← e, ← en]
        show f (itf f i x) = f (itf f r x)
        rw [er]
    · exact ⟨i + 1, h, by omega, rfl⟩
theorem rounds {j k : Nat} (e : itf f (j + k) x = itf f j x) : ∀ q, itf f (j + k * q) x = itf f j x
  | 0 => by rw [Nat.mul_zero, Nat.add_zero]
  | q + 1 => by
    rw [show j + k * (q + 1) = k + (j + k * q) by rw [Nat.mul_succ]; omega, itf_add, rounds e q, ← itf_add, Nat.add_comm k j]
    exact e
/-- a walk to the first stand that comes again -/
theorem walk_end {m n : Nat} (lt : m < n) (e : itf f n x = itf f m x) (dist : ∀ i j, i < j → j < n → itf f i x ≠ itf f j x) : Tail f x m ∧ Per f x (n - m) := by
  refine ⟨⟨⟨n - m, by omega, ?_⟩, ?_⟩, by omega, ⟨m, ?_⟩, ?_⟩
  · rw [← itf_add, show n - m + m = n by omega]
    exact e
  · rintro j hj ⟨k, k0, ek⟩
    rw [← itf_add, Nat.add_comm] at ek
    have er := rounds ek m
    have big : m ≤ j + k * m := by
      have := Nat.mul_le_mul_right m k0
      omega
    obtain ⟨r, r1, r2, e2⟩ := comes lt e _ big
    exact dist j r (by omega) r2 (by rw [← e2, er])
  · rw [show m + (n - m) = n by omega]
    exact e
  · intro c' c0 cl t et
    have all : ∀ i, t ≤ i → itf f (i + c') x = itf f i x := fun i hi => by
      obtain ⟨d, rfl⟩ : ∃ d, i = d + t := ⟨i - t, by omega⟩
      rw [show d + t + c' = d + (t + c') by omega, itf_add, et, ← itf_add]
    have em := rounds (j := m) (k := n - m) (by rw [show m + (n - m) = n by omega]; exact e) t
    have big : t ≤ m + (n - m) * t := by
      have := Nat.mul_le_mul_right t (show 1 ≤ n - m by omega)
      omega
    have ea := all _ big
    rw [Nat.add_comm _ c', itf_add, em, ← itf_add, Nat.add_comm c' m] at ea
    exact dist m (m + c') (by omega) (by omega) ea.symm
/-! greatest tails, least common rounds -/
def Ahead (f : α → α) (S : List α) (a : Nat) : Prop := (∃ x, x ∈ S ∧ Tail f x a) ∧ ∀ x, x ∈ S → ∀ t, Tail f x t → t ≤ a
def Turns (f : α → α) (S : List α) (L : Nat) : Prop := 0 < L ∧ (∀ x, x ∈ S → ∀ c, Per f x c → c ∣ L) ∧ ∀ m, (∀ x, x ∈ S → ∀ c, Per f x c → c ∣ m) → L ∣ m
theorem ahead_fun {S : List α} {a b : Nat} (h : Ahead f S a) (g : Ahead f S b) : a = b := by
  obtain ⟨⟨x, hx, tx⟩, h2⟩ := h
  obtain ⟨⟨y, hy, ty⟩, g2⟩ := g
  have := h2 y hy b ty
  have := g2 x hx a tx
  omega
theorem turns_fun {S : List α} {a b : Nat} (h : Turns f S a) (g : Turns f S b) : a = b := Nat.dvd_antisymm (h.2.2 b g.2.1) (g.2.2 a h.2.1)
theorem turns_nil : Turns f [] 1 := ⟨by decide, (fun _ h => nomatch h), fun m _ => Nat.one_dvd m⟩
theorem turns_more {S S' : List α} {L c : Nat} (h : Turns f S L) (sub : ∀ x, x ∈ S → x ∈ S') (new : ∀ x, x ∈ S' → x ∈ S ∨ Per f x c) (one : ∃ x, x ∈ S' ∧ Per f x c) (c0 : 0 < c) : Turns f S' (Nat.lcm L c) := by
  refine ⟨Nat.lcm_pos h.1 c0, fun x hx d hd => ?_, fun m hm => Nat.lcm_dvd (h.2.2 m fun x hx => hm x (sub x hx)) ?_⟩
  · rcases new x hx with hx | hp
    · exact Nat.dvd_trans (h.2.1 x hx d hd) (Nat.dvd_lcm_left L c)
    · rw [per_fun hd hp]
      exact Nat.dvd_lcm_right L c
  · obtain ⟨x, hx, hp⟩ := one
    exact hm x hx c hp
theorem turns_same {S S' : List α} {L : Nat} (h : Turns f S L) (sub : ∀ x, x ∈ S → x ∈ S') (new : ∀ x, x ∈ S' → ∀ c, Per f x c → ∃ y, y ∈ S ∧ Per f y c) : Turns f S' L := by
  refine ⟨h.1, fun x hx c hc => ?_, fun m hm => h.2.2 m fun x hx => hm x (sub x hx)⟩
  obtain ⟨y, hy, hp⟩ := new x hx c hc
  exact h.2.1 y hy c hp
end
end Ct
namespace Ct
open PySem PySem.Spec PyProof.Rows L2
/-! stands that come round -/
theorem per_fwd {α : Type} {f : α → α} {x : α} {c : Nat} (h : Per f x c) : Per f (f x) c := by
  obtain ⟨h0, ⟨t, e⟩, least⟩ := h
  refine ⟨h0, ⟨t, ?_⟩, fun c' p lt t e => least c' p lt (t + 1) ?_⟩
  · rw [← itf_one, ← itf_one]
    show f (itf f (t + c) x) = f (itf f t x)
    rw [e]
  · rw [← itf_one, ← itf_one] at e
    rw [show t + 1 + c' = t + c' + 1 by omega]
    exact e
theorem per_on {α : Type} {f : α → α} {x : α} {c : Nat} (h : Per f x c) : ∀ n, Per f (itf f n x) c
  | 0 => h
  | n + 1 => per_fwd (per_on h n)
def fact : Nat → Nat
  | 0 => 1
  | n + 1 => (n + 1) * fact n
theorem fact_pos : ∀ n, 0 < fact n
  | 0 => by decide
  | n + 1 => Nat.mul_pos (Nat.succ_pos n) (fact_pos n)
theorem fact_dvd : ∀ {n c : Nat}, 0 < c → c ≤ n → c ∣ fact n
  | 0, c, h, l => by omega
  | n + 1, c, h, l => by
    rcases Nat.lt_or_ge c (n + 1) with lt | ge
    · exact Nat.dvd_trans (fact_dvd h (by omega)) (Nat.dvd_mul_left _ _)
    · rw [show c = n + 1 by omega]
      exact Nat.dvd_mul_right _ _
theorem fact_lt : ∀ {n : Nat}, n < 2 ^ 11 → fact n ≤ 2 ^ (11 * n)
  | 0, _ => by decide
  | n + 1, h => by
    have ih := fact_lt (n := n) (by omega)
    show (n + 1) * fact n ≤ 2 ^ (11 * (n + 1))
    rw [show 11 * (n + 1) = 11 + 11 * n by omega, Nat.pow_add]
    exact Nat.mul_le_mul (Nat.le_of_lt h) ih
theorem turns_le {α : Type} {f : α → α} {S : List α} {L n : Nat} (h : Turns f S L) (b : ∀ x, x ∈ S → ∀ c, Per f x c → c ≤ n) (hn : n < 2 ^ 11) : L ≤ 2 ^ (11 * n) :=
  Nat.le_trans (Nat.le_of_dvd (fact_pos n) (h.2.2 _ fun x hx c hc => fact_dvd hc.1 (b x hx c hc))) (fact_lt hn)
/-- what a row leads to -/
def fR (ps : List Part) (ds : List Deed) : List Int → List Int := fun xs => (rowL ps ds (xs, 0)).1
theorem itR_itf (ps : List Part) (ds : List Deed) (xs : List Int) : ∀ n, (itR ps ds n xs).1 = itf (fR ps ds) n xs
  | 0 => rfl
  | n + 1 => by
    show (rowL ps ds ((itR ps ds n xs).1, 0)).1 = (rowL ps ds (itf (fR ps ds) n xs, 0)).1
    rw [itR_itf ps ds xs n]
theorem itf_stand {ps : List Part} {ds : List Deed} {xs : List Int} (h : StandL ps xs) (hd : ∀ d ∈ ds, d.ok ps.length) (n : Nat) : StandL ps (itf (fR ps ds) n xs) := by
  rw [← itR_itf]
  exact itR_stand h hd n
theorem few_itf {ps : List Part} {ds : List Deed} {xs : List Int} (h : StandL ps xs) (hd : ∀ d ∈ ds, d.ok ps.length) {k : Nat} (dist : ∀ i j, i < j → j < k → itf (fR ps ds) i xs ≠ itf (fR ps ds) j xs) : k ≤ (stands ps).toNat :=
  few_stands h hd fun i j hi hj => by
    rw [itR_itf, itR_itf]
    exact dist i j hi hj
def keyI (xs : List Int) : List Key := xs.map Sum.inl
theorem keyI_inj {xs ys : List Int} (h : keyI xs = keyI ys) : xs = ys := inl_inj h
theorem keyI_kV (xs : List Int) : (keyI xs).map kV = xs.map V.int := key_map xs
/-- the dict of what each stand leads to -/
def AfterAt (H : Hp) (f : List Int → List Int) (S : List Int → Prop) (a : Addr) : Prop := ∃ kvs, H a = some (.dT kvs) ∧ ∀ xs, S xs → ∃ b, valV kvs (keyI xs) = some (.ref b) ∧ H b = some (.tup ((f xs).map V.int))
theorem AfterAt.same {H H' : Hp} {f : List Int → List Int} {S : List Int → Prop} {a : Addr} (s : Same H H') (h : AfterAt H f S a) : AfterAt H' f S a := by
  obtain ⟨kvs, h1, h2⟩ := h
  refine ⟨kvs, s _ _ h1, fun xs hx => ?_⟩
  obtain ⟨b, e, hb⟩ := h2 xs hx
  exact ⟨b, e, s _ _ hb⟩
/-- a dict told by its pairs -/
def pairsD (dl : List (List Int × V)) : List (List Key × V) := dl.map fun p => (keyI p.1, p.2)
theorem valV_none {dl : List (List Int × V)} {xs : List Int} : valV (pairsD dl) (keyI xs) = none ↔ xs ∉ dl.map (·.1) := by
  unfold valV pairsD
  rw [Option.map_eq_none_iff, List.find?_eq_none]
  constructor
  · intro h m
    obtain ⟨p, hp, rfl⟩ := List.mem_map.mp m
    exact h (keyI p.1, p.2) (List.mem_map.mpr ⟨p, hp, rfl⟩) (decide_eq_true rfl)
  · intro h q hq
    obtain ⟨p, hp, rfl⟩ := List.mem_map.mp hq
    intro z
    exact h (List.mem_map.mpr ⟨p, hp, keyI_inj (of_decide_eq_true z)⟩)
theorem valV_some {dl : List (List Int × V)} {xs : List Int} {v : V} (h : valV (pairsD dl) (keyI xs) = some v) : (xs, v) ∈ dl := by
  unfold valV pairsD at h
  obtain ⟨q, hq, rfl⟩ := Option.map_eq_some_iff.mp h
  obtain ⟨p, hp, rfl⟩ := List.mem_map.mp (List.mem_of_find?_eq_some hq)
  have e := List.find?_some hq
  have e2 : p.1 = xs := keyI_inj (of_decide_eq_true e)
  rw [← e2]
  exact hp
theorem valV_is {dl : List (List Int × V)} {xs : List Int} (h : xs ∈ dl.map (·.1)) : ∃ v, valV (pairsD dl) (keyI xs) = some v ∧ (xs, v) ∈ dl := by
  cases e : valV (pairsD dl) (keyI xs) with
  | none => exact absurd h (valV_none.mp e)
  | some v => exact ⟨v, rfl, valV_some e⟩
theorem put_pairs {dl : List (List Int × V)} {xs : List Int} (v : V) (h : xs ∉ dl.map (·.1)) : putK (pairsD dl) (keyI xs) v = pairsD (dl ++ [(xs, v)]) := by
  rw [putK_new v (valV_none.mpr h)]
  unfold pairsD
  rw [List.map_append]
  rfl
theorem prs_len (dl : List (List Int × V)) : (pairsD dl).length = dl.length := List.length_map _
end Ct
namespace Ct
open PySem PySem.Spec PyProof.Rows L2
/-! the dict of steps ahead -/
theorem per_few {ps : List Part} {ds : List Deed} {xs : List Int} {c : Nat} (h : StandL ps xs) (hd : ∀ d ∈ ds, d.ok ps.length) (p : Per (fR ps ds) xs c) : c ≤ (stands ps).toNat := by
  obtain ⟨t, e⟩ := p.2.1
  refine few_itf (xs := itf (fR ps ds) t xs) (itf_stand h hd t) hd fun i j hij hj z => ?_
  rw [← itf_add, ← itf_add] at z
  exact p.2.2 (j - i) (by omega) (by omega) (i + t) (by rw [show i + t + (j - i) = j + t by omega]; exact z.symm)
structure DI (ps : List Part) (ds : List Deed) (dl : List (List Int × V)) (turn : Nat) : Prop where
  nd : (dl.map (·.1)).Nodup
  each : ∀ p, p ∈ dl → StandL ps p.1 ∧ ∃ t : Nat, p.2 = .int (t : Int) ∧ Tail (fR ps ds) p.1 t
  closed : ∀ x, x ∈ dl.map (·.1) → fR ps ds x ∈ dl.map (·.1)
  turns : Turns (fR ps ds) (dl.map (·.1)) turn
theorem DI.nil {ps : List Part} {ds : List Deed} : DI ps ds [] 1 := ⟨List.nodup_nil, (fun _ h => nomatch h), (fun _ h => nomatch h), turns_nil⟩
theorem DI.stand {ps : List Part} {ds : List Deed} {dl : List (List Int × V)} {turn : Nat} (h : DI ps ds dl turn) {x : List Int} (hx : x ∈ dl.map (·.1)) : StandL ps x := by
  obtain ⟨p, hp, rfl⟩ := List.mem_map.mp hx
  exact (h.each p hp).1
theorem few_of {ps : List Part} {l : List (List Int)} (nd : l.Nodup) (st : ∀ x, x ∈ l → StandL ps x) : l.length ≤ (stands ps).toNat := by
  have := holes (stands ps).toNat (l.map (code ps)) ?_ ?_
  · rw [List.length_map] at this
    exact this
  · rw [List.nodup_iff_pairwise_ne, List.pairwise_map]
    exact List.Pairwise.imp_of_mem (fun {a b} ha hb hab z => hab (code_inj (st a ha) (st b hb) z)) (List.nodup_iff_pairwise_ne.mp nd)
  · intro x hx
    obtain ⟨y, hy, rfl⟩ := List.mem_map.mp hx
    exact code_lt (st y hy)
theorem DI.len {ps : List Part} {ds : List Deed} {dl : List (List Int × V)} {turn : Nat} (h : DI ps ds dl turn) : dl.length ≤ (stands ps).toNat := by
  have := few_of h.nd fun x hx => h.stand hx
  rw [List.length_map] at this
  exact this
theorem DI.small {ps : List Part} {ds : List Deed} {dl : List (List Int × V)} {turn : Nat} (h : DI ps ds dl turn) (hd : ∀ d ∈ ds, d.ok ps.length) (s : stands ps ≤ 2000) : turn ≤ 2 ^ 30000 :=
  Nat.le_trans (turns_le h.turns (n := (stands ps).toNat) (fun x hx c hc => per_few (h.stand hx) hd hc) (by omega)) (Nat.pow_le_pow_right (by decide) (by omega))
theorem DI.on {ps : List Part} {ds : List Deed} {dl : List (List Int × V)} {turn : Nat} (h : DI ps ds dl turn) {x : List Int} (hx : x ∈ dl.map (·.1)) : ∀ n, itf (fR ps ds) n x ∈ dl.map (·.1)
  | 0 => hx
  | n + 1 => h.closed _ (h.on hx n)
/-- what lies outside, and leads inside, is on no ring -/
theorem DI.out {ps : List Part} {ds : List Deed} {dl : List (List Int × V)} {turn : Nat} (h : DI ps ds dl turn) {x : List Int} {n : Nat} (hn : itf (fR ps ds) n x ∈ dl.map (·.1)) (hx : x ∉ dl.map (·.1)) : ¬ Ring (fR ps ds) x := by
  rintro ⟨k, k0, e⟩
  have er := rounds (f := fR ps ds) (x := x) (j := 0) (k := k) (by rw [Nat.zero_add]; exact e) n
  rw [Nat.zero_add] at er
  have big : n ≤ k * n := by
    have := Nat.mul_le_mul_right n k0
    omega
  obtain ⟨d, hd⟩ : ∃ d, k * n = d + n := ⟨k * n - n, by omega⟩
  rw [hd, itf_add] at er
  refine hx ?_
  have z : itf (fR ps ds) 0 x = x := rfl
  rw [← z, ← er]
  exact h.on hn d
theorem DI.back {ps : List Part} {ds : List Deed} {dl : List (List Int × V)} {turn : Nat} (h : DI ps ds dl turn) {x : List Int} {t : Nat} (st : StandL ps x) (hx : x ∉ dl.map (·.1)) (hf : fR ps ds x ∈ dl.map (·.1)) (ht : Tail (fR ps ds) (fR ps ds x) t) : DI ps ds (dl ++ [(x, .int ((t + 1 : Nat) : Int))]) turn := by
  have nr := h.out (x := x) (n := 1) hf hx
  have em : (dl ++ [(x, V.int ((t + 1 : Nat) : Int))]).map (·.1) = dl.map (·.1) ++ [x] := by rw [List.map_append]; rfl
  refine ⟨?_, fun p hp => ?_, fun y hy => ?_, ?_⟩
  · rw [em]
    exact List.nodup_append.mpr ⟨h.nd, (List.nodup_cons.mpr ⟨List.not_mem_nil, List.nodup_nil⟩ : [x].Nodup), fun a ha b hb z => hx (by rw [List.mem_singleton] at hb; rw [← hb, ← z]; exact ha)⟩
  · rcases List.mem_append.mp hp with hp | hp
    · exact h.each p hp
    · rw [List.mem_singleton] at hp
      rw [hp]
      exact ⟨st, t + 1, rfl, tail_succ nr ht⟩
  · rw [em] at hy ⊢
    rcases List.mem_append.mp hy with hy | hy
    · exact List.mem_append_left _ (h.closed y hy)
    · rw [List.mem_singleton] at hy
      rw [hy]
      exact List.mem_append_left _ hf
  · rw [em]
    refine turns_same h.turns (fun y hy => List.mem_append_left _ hy) fun y hy c hc => ?_
    rcases List.mem_append.mp hy with hy | hy
    · exact ⟨y, hy, hc⟩
    · rw [List.mem_singleton] at hy
      rw [hy] at hc
      exact ⟨_, hf, per_fwd hc⟩
/-- a new ring -/
theorem DI.ring {ps : List Part} {ds : List Deed} {dl : List (List Int × V)} {turn : Nat} (h : DI ps ds dl turn) (hd : ∀ d ∈ ds, d.ok ps.length) {x : List Int} {m n : Nat} (st : StandL ps x) (lt : m < n) (e : itf (fR ps ds) n x = itf (fR ps ds) m x) (dist : ∀ i j, i < j → j < n → itf (fR ps ds) i x ≠ itf (fR ps ds) j x) (out : ∀ i, i < n → itf (fR ps ds) i x ∉ dl.map (·.1)) :
    DI ps ds (dl ++ (List.range (n - m)).map fun j => (itf (fR ps ds) (m + j) x, V.int 0)) (Nat.lcm turn (n - m)) := by
  obtain ⟨tl, pr⟩ := walk_end lt e dist
  have em : (dl ++ (List.range (n - m)).map fun j => (itf (fR ps ds) (m + j) x, V.int 0)).map (·.1) = dl.map (·.1) ++ (List.range (n - m)).map fun j => itf (fR ps ds) (m + j) x := by rw [List.map_append, List.map_map]; rfl
  have rg : ∀ j, Ring (fR ps ds) (itf (fR ps ds) (m + j) x) := fun j => by
    obtain ⟨k, k0, ek⟩ := tl.1
    refine ⟨k, k0, ?_⟩
    rw [Nat.add_comm m j, itf_add, ← itf_add, Nat.add_comm k j, itf_add, ek]
  refine ⟨?_, fun p hp => ?_, fun y hy => ?_, ?_⟩
  · rw [em]
    refine List.nodup_append.mpr ⟨h.nd, ?_, fun a ha b hb z => ?_⟩
    · rw [List.nodup_iff_pairwise_ne, List.pairwise_map]
      refine List.Pairwise.imp_of_mem (fun {a b} ha hb hab => ?_) (List.pairwise_lt_range (n := n - m))
      rw [List.mem_range] at ha hb
      exact dist _ _ (by omega) (by omega)
    · obtain ⟨j, hj, rfl⟩ := List.mem_map.mp hb
      rw [List.mem_range] at hj
      exact out (m + j) (by omega) (by rw [← z]; exact ha)
  · rcases List.mem_append.mp hp with hp | hp
    · exact h.each p hp
    · obtain ⟨j, hj, rfl⟩ := List.mem_map.mp hp
      exact ⟨itf_stand st hd _, 0, rfl, tail_zero (rg j)⟩
  · rw [em] at hy ⊢
    rcases List.mem_append.mp hy with hy | hy
    · exact List.mem_append_left _ (h.closed y hy)
    · obtain ⟨j, hj, rfl⟩ := List.mem_map.mp hy
      rw [List.mem_range] at hj
      refine List.mem_append_right _ ?_
      rcases Nat.lt_or_ge (j + 1) (n - m) with l | l
      · exact List.mem_map.mpr ⟨j + 1, List.mem_range.mpr l, rfl⟩
      · refine List.mem_map.mpr ⟨0, List.mem_range.mpr (by omega), ?_⟩
        show itf (fR ps ds) m x = itf (fR ps ds) (m + j + 1) x
        rw [show m + j + 1 = n by omega]
        exact e.symm
  · rw [em]
    refine turns_more h.turns (fun y hy => List.mem_append_left _ hy) (fun y hy => ?_) ⟨itf (fR ps ds) m x, List.mem_append_right _ (List.mem_map.mpr ⟨0, List.mem_range.mpr (by omega), rfl⟩), per_on pr m⟩ (by omega)
    rcases List.mem_append.mp hy with hy | hy
    · exact .inl hy
    · obtain ⟨j, hj, rfl⟩ := List.mem_map.mp hy
      exact .inr (per_on pr _)
theorem at_last {xs : List V} {v : V} {n : Nat} (l : xs.length = n + 1) (e : xs[n]? = some v) : atI xs (-1) = some v := by
  unfold atI
  rw [show ixN xs.length (-1) = some n by
    unfold ixN
    rw [l]
    rw [if_neg (by decide), if_pos (by omega)]
    congr 1
    omega]
  exact e
theorem tp_updD {H : Hp} {l : Addr} {kvs : List (List Key × V)} {o : HO} (hl : H l = some (.dT kvs)) : ∀ {vs : List V} {ss : List (List Int)}, TpAll H vs ss → TpAll (upd H l o) vs ss
  | _, _, .nil => .nil
  | _, _, .cons h t => .cons (by rw [upd_ne (ne_of h hl (fun z => nomatch z))]; exact h) (tp_updD hl t)
end Ct
namespace Ct
open PySem PySem.Spec PyProof.Rows L2
theorem tails_of : ∀ (dl : List (List Int × V)), (∀ p, p ∈ dl → ∃ t : Nat, p.2 = .int (t : Int)) → ∃ ns : List Nat, dl.map (·.2) = ns.map fun (t : Nat) => V.int (t : Int)
  | [], _ => ⟨[], rfl⟩
  | p :: dl, h => by
    obtain ⟨t, e⟩ := h p List.mem_cons_self
    obtain ⟨ns, hn⟩ := tails_of dl fun q hq => h q (List.mem_cons_of_mem _ hq)
    exact ⟨t :: ns, by rw [List.map_cons, List.map_cons, e, hn]⟩
theorem cut_toN (xs : List V) (k : Nat) (h : k ≤ xs.length) : cutV xs none (some (k : Int)) = xs.take k := by
  unfold cutV
  rw [HT.sIx_none, HT.sIx_nat, List.drop_zero, Nat.min_eq_left h, Nat.sub_zero]
end Ct
namespace Ct
open PySem PySem.Spec PyProof.Rows L2
/-! a spring drawn back -/
theorem spring_step (k y : Int) : fR [.spring k] [⟨0, -1, 1⟩] [y] = [if y - 1 > 0 then y - 1 else 0] := rfl
theorem spring_steps (k : Int) (n : Nat) : ∀ j : Nat, itf (fR [.spring k] [⟨0, -1, 1⟩]) j [(n : Int)] = [((n - j : Nat) : Int)]
  | 0 => rfl
  | j + 1 => by
    show fR [.spring k] [⟨0, -1, 1⟩] (itf (fR [.spring k] [⟨0, -1, 1⟩]) j [(n : Int)]) = _
    rw [spring_steps k n j, spring_step]
    congr 1
    split <;> omega
theorem spring_tail (k : Int) : ∀ n : Nat, Tail (fR [.spring k] [⟨0, -1, 1⟩]) [(n : Int)] n := fun n => by
  refine ⟨⟨1, by decide, ?_⟩, ?_⟩
  · rw [spring_steps k n n, Nat.sub_self]
    exact spring_steps k 0 1
  · rintro j hj ⟨i, i0, e⟩
    rw [spring_steps k n j, spring_steps k (n - j) i] at e
    have e1 := (List.cons.inj e).1
    omega
theorem spring_per (k : Int) (n : Nat) : Per (fR [.spring k] [⟨0, -1, 1⟩]) [(n : Int)] 1 := by
  refine ⟨by decide, ⟨n, ?_⟩, fun c' h0 h1 => by omega⟩
  rw [spring_steps k n (n + 1), spring_steps k n n]
  congr 1
  omega
theorem spring_all {k : Int} (h : (Part.spring k).ok) {xs : List Int} (hx : xs ∈ allS [.spring k]) : ∃ n : Nat, xs = [(n : Int)] ∧ (n : Int) < k := by
  have st := (allS_mem (ps := [.spring k]) (fun p hp => by rw [List.mem_singleton] at hp; rw [hp]; exact h) xs).mp hx
  match xs, st with
  | [y], ⟨_, y0, y1, _⟩ =>
    have y1' : y < k := y1
    exact ⟨y.toNat, by rw [Int.toNat_of_nonneg y0], by omega⟩
theorem spring_round {k : Int} (h : (Part.spring k).ok) {x L : Nat} (ah : Ahead (fR [.spring k] [⟨0, -1, 1⟩]) (allS [.spring k]) x) (tn : Turns (fR [.spring k] [⟨0, -1, 1⟩]) (allS [.spring k]) L) : (x : Int) = k - 1 ∧ L = 1 := by
  have h1 : 1 ≤ k := h.1
  constructor
  · obtain ⟨⟨y, hy, ty⟩, top⟩ := ah
    obtain ⟨n, rfl, hn⟩ := spring_all h hy
    rw [← tail_fun ty (spring_tail k n)] at hn
    have mem : [((k - 1).toNat : Int)] ∈ allS [.spring k] := (allS_mem (ps := [.spring k]) (fun p hp => by rw [List.mem_singleton] at hp; rw [hp]; exact h) _).mpr ⟨h, by omega, show ((k - 1).toNat : Int) < k by omega, trivial⟩
    have := top _ mem _ (spring_tail k (k - 1).toNat)
    omega
  · refine Nat.dvd_one.mp (tn.2.2 1 fun y hy c hc => ?_)
    obtain ⟨n, rfl, _⟩ := spring_all h hy
    rw [per_fun hc (spring_per k n)]
    exact Nat.dvd_refl 1
end Ct

/-! dicts whose keys are tuples in tuples -/
namespace Ct
open PySem PySem.Spec PyProof.Rows L2
mutual
def nkD : NestedKey → PyData
  | .none => .none
  | .num i => .int i
  | .text x => .str x
  | .tup ks => .tuple (nkAll ks)
def nkAll : List NestedKey → List PyData
  | [] => []
  | k :: ks => nkD k :: nkAll ks
end
section
variable {X : Cx} {pins : List (Addr × Obj)} {σ : L2.St} {H : Hp} {s : Shared}
mutual
theorem nested_is (J : Inv X pins σ H s) : ∀ (k : NestedKey) {v : V} {u : Value}, Dp X.K H v (nkD k) → RelV v u → NestedIs s.heap k u
  | .none, v, u, h, r => by
    rw [nkD] at h
    cases h
    cases (show u = Value.none from r)
    exact .none
  | .num i, v, u, h, r => by
    rw [nkD] at h
    cases h
    obtain ⟨t, rfl⟩ := (show ∃ t, u = Value.int i t from r)
    exact .int i t
  | .text x, v, u, h, r => by
    rw [nkD] at h
    cases h
    obtain ⟨t, rfl⟩ := (show ∃ t, u = Value.str x t from r)
    exact .text x t
  | .tup ks, v, u, h, r => by
    rw [nkD] at h
    obtain ⟨a, vs, rfl, hs, ht⟩ := tup_inv h
    cases (show u = Value.ref a from r)
    obtain ⟨its, rv, ⟨o, h1, h2, n, h3⟩, _⟩ := J.tuple hs
    exact .tup h1 h2 h3 (by simpa using nested_all J ks ht rv)
theorem nested_all (J : Inv X pins σ H s) : ∀ (ks : List NestedKey) {vs : List V} {us : List Value}, DpAll X.K H vs (nkAll ks) → Vals vs us → NestedAll s.heap ks us
  | [], vs, us, h, r => by
    rw [nkAll] at h
    cases h
    cases r
    exact .nil
  | k :: ks, vs, us, h, r => by
    rw [nkAll] at h
    cases h with
    | cons h1 h2 => cases r with
      | cons r1 r2 => exact .cons (nested_is J k h1 r1) (nested_all J ks h2 r2)
end
end
/-- the dict's own object -/
def NdO (w : World) (a : Addr) (xs : List (NestedKey × Addr × Value)) : HO := .ext fun h => ∃ (o : Obj) (es : Array DictEntry) (ep : Nat), h.get? a = some o ∧ o.ExactDict ∧ o.data = .dict es ep ∧ es.toList = xs.map fun x => ⟨x.1.hash w, .ref x.2.1, x.2.2⟩
abbrev NdP (K : PySem.W.Frag) (H : Hp) : List (NestedKey × V) → List (NestedKey × Addr × Value) → Prop := Paired fun p q => p.1 = q.1 ∧ p.1.depth ≤ 8 ∧ Dp K H (.ref q.2.1) (nkD p.1) ∧ RelV p.2 q.2.2
/-- a dict with such keys: its pairs -/
def NdAt (w : World) (K : PySem.W.Frag) (H : Hp) (a : Addr) (kvs : List (NestedKey × V)) : Prop := (a == sysModules) = false ∧ kvs.length ≤ sizeLine ∧ (kvs.map (·.1)).Nodup ∧ ∃ xs, H a = some (NdO w a xs) ∧ NdP K H kvs xs
theorem ndP_keys {K : PySem.W.Frag} {H : Hp} : ∀ {kvs : List (NestedKey × V)} {xs : List (NestedKey × Addr × Value)}, NdP K H kvs xs → kvs.map (·.1) = xs.map (·.1)
  | _, _, .nil => rfl
  | _, _, .cons h t => by rw [List.map_cons, List.map_cons, h.1, ndP_keys t]
theorem ndP_same {K : PySem.W.Frag} {H H' : Hp} (d : ∀ b k, Dp K H (.ref b) (nkD k) → Dp K H' (.ref b) (nkD k)) : ∀ {kvs : List (NestedKey × V)} {xs : List (NestedKey × Addr × Value)}, NdP K H kvs xs → NdP K H' kvs xs
  | _, _, .nil => .nil
  | _, _, .cons h t => .cons ⟨h.1, h.2.1, d _ _ h.2.2.1, h.2.2.2⟩ (ndP_same d t)
theorem NdAt.same {w : World} {K : PySem.W.Frag} {H H' : Hp} {a : Addr} {kvs : List (NestedKey × V)} (s : Same H H') (h : NdAt w K H a kvs) : NdAt w K H' a kvs := by
  obtain ⟨h1, h2, h3, xs, h4, h5⟩ := h
  exact ⟨h1, h2, h3, xs, s _ _ h4, ndP_same (fun _ _ d => dp_same s d) h5⟩
section
variable {X : Cx} {pins : List (Addr × Obj)} {σ : L2.St} {H : Hp} {s : Shared} {a b : Addr} {kvs : List (NestedKey × V)} {k : NestedKey}
theorem nd_is (J : Inv X pins σ H s) : ∀ {kvs : List (NestedKey × V)} {xs : List (NestedKey × Addr × Value)}, NdP X.K H kvs xs → ∀ x ∈ xs, (nestedKind X.prog X.w).is s.heap x.1 x.2.1
  | _, _, .cons (a := p) (b := q) h t, x, hx => by
    rcases List.mem_cons.mp hx with rfl | hx
    · exact ⟨nested_is J _ (v := .ref x.2.1) (by rw [← h.1]; exact h.2.2.1) rfl, by rw [← h.1]; exact h.2.1⟩
    · exact nd_is J t x hx
theorem nd_heap (J : Inv X pins σ H s) {xs : List (NestedKey × Addr × Value)} (hx : H a = some (NdO X.w a xs)) (hp : NdP X.K H kvs xs) (nd : (kvs.map (·.1)).Nodup) : s.heap.DictOfH (nestedKind X.prog X.w) a xs := by
  obtain ⟨⟨o, es, ep, h1, h2, h3, h4⟩, _, _⟩ := (show ObjOk X.prog X.w H s.heap a (NdO X.w a xs) from J.hok a _ hx)
  exact ⟨o, es, ep, h1, h2, h3, h4, nd_is J hp, by rw [← ndP_keys hp]; exact nd⟩
theorem nd_val : ∀ {kvs : List (NestedKey × V)} {xs : List (NestedKey × Addr × Value)}, NdP X.K H kvs xs → RelO (valV kvs k) ((atKey xs k).map (·.2))
  | _, _, .nil => True.intro
  | _, _, .cons (a := p) (b := q) h t => by
    obtain ⟨h1, _, _, h2⟩ := h
    by_cases e : p.1 = k
    · have e2 : q.1 = k := h1.symm.trans e
      have z : ∀ l, atKey (q :: l) k = some q.2 := fun l => by simp [atKey, List.find?_cons, e2]
      rw [valV_pos e, z]
      exact h2
    · have e2 : ¬ q.1 = k := fun z => e (h1.trans z)
      have z : ∀ l, atKey (q :: l) k = atKey l k := fun l => by simp [atKey, List.find?_cons, e2]
      rw [valV_neg e, z]
      exact nd_val t
theorem ndO_ok {xs : List (NestedKey × Addr × Value)} {P : Program} {w : World} {h : Heap} (z : h.DictOfH (nestedKind P w) a xs) : ObjOk P w H h a (NdO w a xs) := by
  obtain ⟨o, es, ep, h1, h2, h3, h4, _, _⟩ := z
  exact ⟨⟨o, es, ep, h1, h2, h3, h4⟩, ⟨o, h1⟩, fun _ _ ⟨o, es, ep, g1, g2, g3, g4⟩ keep => ⟨o, es, ep, keep o g1, g2, g3, g4⟩⟩
end
/-- what is asked of such a dict at the key at b -/
def NdGet (w : World) (K : PySem.W.Frag) (H : Hp) (a : Addr) (y : V) (r : Option V) : Prop := ∃ kvs k b, y = .ref b ∧ NdAt w K H a kvs ∧ k.depth ≤ 8 ∧ Dp K H (.ref b) (nkD k) ∧ r = valV kvs k
def tNdNotIn (w : World) (K : PySem.W.Frag) (ty td : TE) : TE := fun σ H Q => ty σ H fun y H1 => td σ H1 fun x H2 => ∃ a o, x = .ref a ∧ NdGet w K H2 a y o ∧ Q (.bl (!o.isSome)) H2
def tNdGet (w : World) (K : PySem.W.Frag) (td ty : TE) : TE := fun σ H Q => td σ H fun x H1 => ty σ H1 fun y H2 => ∃ a v, x = .ref a ∧ NdGet w K H2 a y (some v) ∧ Q v H2
/-- a new key is put in: the dict's pairs grow; what else was tracked stays -/
def sNdPut (w : World) (K : PySem.W.Frag) (td ty tv : TE) : TS := fun D σ H => tv σ H fun v H1 => td σ H1 fun x H2 => ty σ H2 fun y H3 => ∃ a b kvs k, x = .ref a ∧ y = .ref b ∧ NdAt w K H3 a kvs ∧ k.depth ≤ 8 ∧ Dp K H3 (.ref b) (nkD k) ∧ valV kvs k = none ∧ kvs.length < sizeLine ∧
  ∀ o, NdAt w K (upd H3 a o) a (kvs ++ [(k, v)]) → D.nx σ (upd H3 a o)
def tNdNew (w : World) (K : PySem.W.Frag) : TE := fun _ H Q => ∀ p, H p = none → ∀ o, NdAt w K (upd H p o) p [] → Q (.ref p) (upd H p o)
section
variable {X : Cx} {o i value : Expr} {ty td tv : TE} {pos pos' : Pos}
theorem room_nd (room : X.A.units + 64 < cLine) : (nestedKind X.prog X.w).room X.A.in1 := by
  show X.A.in1.units + 8 < cLine
  have : X.A.in1.units = X.A.units + 1 := rfl
  omega
theorem pc_ndnotin (room : X.A.units + 64 < cLine) (hi : PE X i ty) (ho : PE X o td) : PC X .NotIn i o (tNdNotIn X.w X.K ty td) := by
  constructor
  intro pins s σ H Q J h
  refine thn (hi.run pins s σ H _ J h) ?_
  rintro iv s1 ⟨y, H1, J1, ry, q1⟩
  refine thn (ho.run pins s1 σ H1 _ J1 q1) ?_
  rintro u s2 ⟨x, H2, J2, rx, a, ov, rfl, ⟨kvs, k, b, rfl, ⟨sys, _, nd, xs, hx, hp⟩, dk, db, rfl⟩, q2⟩
  cases (show u = Value.ref a from rx)
  cases (show iv = Value.ref b from ry)
  refine wpAny_notIn_heap (room_nd room) ⟨nested_is J2 k db rfl, dk⟩ sys (nd_heap J2 hx hp nd) ?_
  have e := (nd_val (X := X) (k := k) hp).isSome_eq
  rw [Option.isSome_map] at e
  rw [← e]
  exact ⟨.bl _, H2, J2.tok _, rfl, q2⟩
theorem pe_ndget (room : X.A.units + 64 < cLine) (ho : PE X o td) (hi : PE X i ty) (ns : NoSl i) : PE X (.Subscript o i pos) (tNdGet X.w X.K td ty) := by
  constructor
  intro pins s σ H Q J h
  refine subD_of PySem.F.slot_dict_getitem.lookup ns (thn (ho.run pins s σ H _ J h) ?_)
  rintro u s1 ⟨x, H1, J1, rx, q1⟩
  refine thn (hi.run pins s1 σ H1 _ J1 q1) ?_
  rintro iv s2 ⟨y, H2, J2, ry, a, v, rfl, ⟨kvs, k, b, rfl, ⟨sys, _, nd, xs, hx, hp⟩, dk, db, l⟩, q2⟩
  cases (show u = Value.ref a from rx)
  cases (show iv = Value.ref b from ry)
  have dd := nd_heap J2 hx hp nd
  obtain ⟨w', hw, rw'⟩ := RelO.some_of (v := v) (o := (atKey xs k).map (·.2)) (by rw [l]; exact nd_val (X := X) hp)
  obtain ⟨p, hp1, hp2⟩ := Option.map_eq_some_iff.mp hw
  refine ⟨dd.typeIs, wpAny_getItem_heap (room_nd room) ⟨nested_is J2 k db rfl, dk⟩ dd hp1 ?_⟩
  rw [hp2]
  exact ⟨v, H2, J2.tok _, rw', q2⟩
mutual
/-- tuples stand aside when the dict is changed -/
theorem dp_aside {K : PySem.W.Frag} {H : Hp} {a : Addr} {w : World} {xs : List (NestedKey × Addr × Value)} {u : HO} (ha : H a = some (NdO w a xs)) : ∀ (k : NestedKey) {v : V}, Dp K H v (nkD k) → Dp K (upd H a u) v (nkD k)
  | .none, _, h => by rw [nkD] at h ⊢; cases h; exact .non
  | .num _, _, h => by rw [nkD] at h ⊢; cases h; exact .int _
  | .text _, _, h => by rw [nkD] at h ⊢; cases h; exact .str _
  | .tup ks, _, h => by
    rw [nkD] at h ⊢
    obtain ⟨c, vs, rfl, hs, ht⟩ := tup_inv h
    refine .tup ?_ (dpAll_aside ha ks ht)
    rcases hs with (z | ⟨o, z⟩) | z
    · exact .inl (.inl (by rw [upd_ne (ne_of z ha (fun q => nomatch q))]; exact z))
    · exact .inl (.inr ⟨o, by rw [upd_ne (ne_of z ha (fun q => nomatch q))]; exact z⟩)
    · exact .inr z
theorem dpAll_aside {K : PySem.W.Frag} {H : Hp} {a : Addr} {w : World} {xs : List (NestedKey × Addr × Value)} {u : HO} (ha : H a = some (NdO w a xs)) : ∀ (ks : List NestedKey) {vs : List V}, DpAll K H vs (nkAll ks) → DpAll K (upd H a u) vs (nkAll ks)
  | [], _, h => by rw [nkAll] at h ⊢; cases h; exact .nil
  | k :: ks, _, h => by
    rw [nkAll] at h ⊢
    cases h with
    | cons h1 h2 => exact .cons (dp_aside ha k h1) (dpAll_aside ha ks h2)
end
theorem ps_ndput (room : X.A.units + 64 < cLine) (ho : PE X o td) (hi : PE X i ty) (hv : PE X value tv) (ns : swapsWith value (some (.Subscript o i pos')) pos.line X.env = pure false) :
    PS X (.Assign [.Subscript o i pos'] value pos) (sNdPut X.w X.K td ty tv) := by
  constructor
  intro pins s σ H D J h
  refine wpAny_Assign_Subscript (thn (hv.run pins s σ H _ J h) ?_) ns
  rintro r s1 ⟨v, H1, J1, rv, q1⟩
  refine thn (ho.run pins s1 σ H1 _ J1 q1) ?_
  rintro u s2 ⟨x, H2, J2, rx, q2⟩
  refine thn (hi.run pins s2 σ H2 _ J2 q2) ?_
  rintro iv s3 ⟨y, H3, J3, ry, a, b, kvs, k, rfl, rfl, ⟨sys, small, nd, xs, hx, hp⟩, dk, db, new, few, q3⟩
  cases (show u = Value.ref a from rx)
  cases (show iv = Value.ref b from ry)
  have dd := nd_heap J3 hx hp nd
  have xl : xs.length ≤ sizeLine := by rw [← Paired.length hp]; exact small
  have none_ : (atKey xs k).isSome = false := by
    have e := (nd_val (X := X) (k := k) hp).isSome_eq
    rw [Option.isSome_map, new] at e
    exact e.symm
  have st : storedH xs k b r = xs ++ [(k, b, r)] := by
    unfold storedH
    rw [none_]
    rfl
  refine wpAny_setItem_heap (hsz := xl) (room_nd room) ⟨nested_is J3 k db rfl, dk⟩ dd ?_
  intro h' dd' same
  rw [st] at dd'
  have at_ : ∃ q, h'.get? a = some q := let ⟨q, _, _, hq, _⟩ := dd'; ⟨q, hq⟩
  have nin : k ∉ kvs.map (·.1) := valV_not new
  refine ⟨σ, _, d_write J3 (by rw [hx]; exact True.intro) same at_ (ndO_ok dd'), q3 _ ⟨sys, by rw [List.length_append]; show kvs.length + 1 ≤ sizeLine; omega, ?_, _, upd_same, ?_⟩⟩
  · rw [List.map_append]
    exact List.nodup_append.mpr ⟨nd, List.nodup_cons.mpr ⟨List.not_mem_nil, List.nodup_nil⟩, fun p hp q hq z => nin (by rw [List.map_singleton, List.mem_singleton] at hq; rw [← show q = k from hq, ← z]; exact hp)⟩
  · exact Paired.snoc (ndP_same (fun _ k d => dp_aside hx k d) hp) ⟨rfl, dk, dp_aside hx k db, rv⟩
theorem pe_dnewN : PE X (.Dict [] [] pos) (tNdNew X.w X.K) := by
  constructor
  intro pins s σ H Q J h
  have big := J.big
  refine wpAny_Dict_empty ⟨.ref s.heap.objs.size, _, J.laid (a := s.heap.objs.size) (o := NdO X.w s.heap.objs.size []) (t' := s.toks) (fun _ _ q => Heap.get?_push_of_some _ q) (Nat.le_refl _) (ndO_ok (Heap.DictOfH.new s.heap)), rfl, h _ (J.hok.fresh (Nat.le_refl _)) _ ⟨beq_eq_false_iff_ne.mpr (Ne.symm (Nat.ne_of_lt big)), Nat.zero_le _, List.nodup_nil, [], upd_same, .nil⟩⟩
end
section
variable {w : World} {K : PySem.W.Frag} {H : Hp} {σ : L2.St} {D : Ends} {Q : VK}
theorem w_ndnotin {ty td : TE} (h : ty σ H fun y H1 => td σ H1 fun x H2 => ∃ a o, x = .ref a ∧ NdGet w K H2 a y o ∧ Q (.bl (!o.isSome)) H2) : tNdNotIn w K ty td σ H Q := h
theorem w_ndget {td ty : TE} (h : td σ H fun x H1 => ty σ H1 fun y H2 => ∃ a v, x = .ref a ∧ NdGet w K H2 a y (some v) ∧ Q v H2) : tNdGet w K td ty σ H Q := h
theorem w_ndput {td ty tv : TE} (h : tv σ H fun v H1 => td σ H1 fun x H2 => ty σ H2 fun y H3 => ∃ a b kvs k, x = .ref a ∧ y = .ref b ∧ NdAt w K H3 a kvs ∧ k.depth ≤ 8 ∧ Dp K H3 (.ref b) (nkD k) ∧ valV kvs k = none ∧ kvs.length < sizeLine ∧ ∀ o, NdAt w K (upd H3 a o) a (kvs ++ [(k, v)]) → D.nx σ (upd H3 a o)) : sNdPut w K td ty tv D σ H := h
theorem w_ndnew (h : ∀ p, H p = none → ∀ o, NdAt w K (upd H p o) p [] → Q (.ref p) (upd H p o)) : tNdNew w K σ H Q := h
end
end Ct

/-! a tuple told n times, n from 0 on -/
namespace Ct
open PySem PySem.Spec PyProof.Rows L2
theorem tuple_mul1 (l : Addr) (items : Array Value) (n : Nat) (dd : Option Addr) (sl : Array (Option Value)) (u : Tok) :
    Meets (Builtin.«tuple.__mul__» ⟨[.ref l, .int 1 u], []⟩) (fun _ R s => s.heap.get? l = some { cls := .type "tuple", dict := dd, data := .seq items n, slots := sl } ∧
      R (.ok (.ret (Value.ref l))) s) :=
  .of_wp fun prog w A R s h => by
    obtain ⟨hp, g, d, tk, os⟩ := s
    obtain ⟨hl, h⟩ := h
    have f1 := AutoSeq1.idx_int
    have c1 : (items.isEmpty || ((1 : Int) == 1)) = true := by simp
    wp_walk using wpAny_loadPart' hl
    exact ⟨_, rfl, h⟩
theorem tuple_mul0 (l : Addr) (items : Array Value) (n : Nat) (dd : Option Addr) (sl : Array (Option Value)) (u : Tok) (c1 : items.isEmpty = false) :
    Meets (Builtin.«tuple.__mul__» ⟨[.ref l, .int 0 u], []⟩) (fun _ R s => s.heap.get? l = some { cls := .type "tuple", dict := dd, data := .seq items n, slots := sl } ∧
      R (.ok (.ret (Value.ref s.heap.objs.size))) { s with heap := s.heap.push { cls := Value.type "tuple", data := Data.seq #[] }, toks := s.toks }) :=
  .of_wp fun prog w A R s h => by
    obtain ⟨hp, g, d, tk, os⟩ := s
    obtain ⟨hl, h⟩ := h
    have f1 := AutoSeq1.idx_int
    wp_walk using wpAny_loadPart' hl
    exact ⟨_, rfl, h⟩
def rRepZ (K : PySem.W.Frag) : R2 := fun x y H Q => ∃ l k xs, x = .ref l ∧ y = .int k ∧ SqT K H l xs ∧ xs ≠ [] ∧ 0 ≤ k ∧ k ≤ 1000 ∧ xs.length ≤ 1000 ∧ ∀ p H', Same H H' → SqT K H' p (List.replicate k.toNat xs).flatten → Q (.ref p) H'
variable {X : Cx}
theorem op_repZ : OpR X (binaryOp .Mult) (rRepZ X.K) := by
  intro pins s σ H x y v u Q I rx ry h
  obtain ⟨l, k, xs, rfl, rfl, hT, hne, h1, h2, hz, q⟩ := h
  by_cases c : 2 ≤ k
  · exact op_repT pins s σ H _ _ v u Q I rx ry ⟨l, k, xs, rfl, rfl, hT, hne, c, h2, hz, fun p hp => q p _ (same_upd hp) (.of upd_same)⟩
  cases rx
  obtain ⟨t, rfl⟩ := ry
  obtain ⟨its, r, ⟨⟨cls, dd, data, sl⟩, ho, hc, n, hd⟩, hs⟩ := I.tuple hT
  simp only at hc hd
  subst hc hd
  have hle : its.length = xs.length := r.length.symm
  have hn : its ≠ [] := fun e => hne (by
    rw [e] at hle
    exact List.eq_nil_of_length_eq_zero hle.symm)
  have hi : its.toArray.isEmpty = false := by
    cases its with
    | nil => exact absurd rfl hn
    | cons a b => rfl
  have k01 : k = 0 ∨ k = 1 := by omega
  rcases k01 with rfl | rfl
  · refine wpAny_binaryOp_repeat_ref (T := "tuple") (U := "int") (by decide) ⟨_, ho, rfl⟩ (fun s' => typeIs_int s' 0 t) noFill_tuple_mul F.fills_int_mul F.slot_int_rmul repeat_tuple F.slot_int_index.lookup
      (call_meets F.slot_int_rmul (typeIs_int s 0 t) F.entry_int_rmul (F.args_int_rmul_2 _ _) (int_rmul_tuple 0 t l its.toArray n dd sl)
        ⟨ho, rfl, ⟨_, ho, rfl⟩, call_meets F.slot_tuple_mul ⟨_, ho, rfl⟩ F.entry_tuple_mul (F.args_tuple_mul_2 _ _) (tuple_mul0 l its.toArray n dd sl t hi) ⟨ho, ?_⟩⟩)
    refine ⟨.ref s.heap.objs.size, _, I.laid (t' := s.toks) (o := .tup []) (fun b ob q => Heap.get?_push_of_some _ q) (Nat.le_refl _) ?_, rfl, q _ _ (same_upd (I.hok.fresh (Nat.le_refl _))) (.of upd_same)⟩
    exact ⟨Nat.zero_le _, _, .nil, IsTup.new _ _⟩
  · refine wpAny_binaryOp_repeat_ref (T := "tuple") (U := "int") (by decide) ⟨_, ho, rfl⟩ (fun s' => typeIs_int s' 1 t) noFill_tuple_mul F.fills_int_mul F.slot_int_rmul repeat_tuple F.slot_int_index.lookup
      (call_meets F.slot_int_rmul (typeIs_int s 1 t) F.entry_int_rmul (F.args_int_rmul_2 _ _) (int_rmul_tuple 1 t l its.toArray n dd sl)
        ⟨ho, rfl, ⟨_, ho, rfl⟩, call_meets F.slot_tuple_mul ⟨_, ho, rfl⟩ F.entry_tuple_mul (F.args_tuple_mul_2 _ _) (tuple_mul1 l its.toArray n dd sl t) ⟨ho, ?_⟩⟩)
    exact ⟨.ref l, H, I, rfl, q _ _ (fun _ _ z => z) (by rw [show (List.replicate (Int.toNat 1) xs).flatten = xs by simp]; exact hT)⟩
theorem w_repZ {K : PySem.W.Frag} {H : Hp} {l : Addr} {k : Int} {xs : List V} {Q : VK} (hT : SqT K H l xs) (hne : xs ≠ []) (h0 : 0 ≤ k) (h2 : k ≤ 1000) (hz : xs.length ≤ 1000) (q : ∀ p H', Same H H' → SqT K H' p (List.replicate k.toNat xs).flatten → Q (.ref p) H') : rRepZ K (.ref l) (.int k) H Q :=
  ⟨l, k, xs, rfl, rfl, hT, hne, h0, h2, hz, q⟩
end Ct

/-! rows gone through part by part -/
namespace Ct
open PySem PySem.Spec PyProof.Rows L2
def shf (n : Nat) (d : Deed) : Deed := ⟨d.i - n, d.w, d.t⟩
/-- what a part is left at, and what comes to the parts behind it -/
def pass (p : Part) (n : Nat) : Int → List Deed → Int × List Deed
  | x, [] => (x, [])
  | x, d :: ds =>
    if d.i ≤ n then ((pass p n (pt p x d.w d.t).1 ds).1, if 0 < (pt p x d.w d.t).2 then ⟨d.i, d.w, (pt p x d.w d.t).2.toNat⟩ :: (pass p n (pt p x d.w d.t).1 ds).2 else (pass p n (pt p x d.w d.t).1 ds).2)
    else ((pass p n x ds).1, if 0 < d.t then d :: (pass p n x ds).2 else (pass p n x ds).2)
theorem pass_le {p : Part} {n : Nat} {x : Int} {d : Deed} {ds : List Deed} (c : d.i ≤ n) : pass p n x (d :: ds) = ((pass p n (pt p x d.w d.t).1 ds).1, if 0 < (pt p x d.w d.t).2 then ⟨d.i, d.w, (pt p x d.w d.t).2.toNat⟩ :: (pass p n (pt p x d.w d.t).1 ds).2 else (pass p n (pt p x d.w d.t).1 ds).2) := by
  rw [pass, if_pos c]
theorem pass_gt {p : Part} {n : Nat} {x : Int} {d : Deed} {ds : List Deed} (c : ¬ d.i ≤ n) : pass p n x (d :: ds) = ((pass p n x ds).1, if 0 < d.t then d :: (pass p n x ds).2 else (pass p n x ds).2) := by
  rw [pass, if_neg c]
theorem gen_zero {w : Int} : ∀ {ps : List Part} {xs : List Int}, StandL ps xs → gen (ptw w) ps xs 0 = (xs, 0)
  | [], [], _ => rfl
  | p :: ps, x :: xs, ⟨ok, h0, h1, h⟩ => by
    show ((ptw w p x 0).1 :: (gen (ptw w) ps xs (ptw w p x 0).2).1, (gen (ptw w) ps xs (ptw w p x 0).2).2) = _
    rw [show ptw w p x 0 = (x, 0) from pt_zero ok h0 h1, gen_zero h]
theorem deedL_zero {ps : List Part} {xs : List Int} {i : Nat} {w : Int} (h : StandL ps xs) : deedL ps xs ⟨i, w, 0⟩ = (xs, 0) := by
  unfold deedL
  show (xs.take i ++ (gen (ptw w) (ps.drop i) (xs.drop i) 0).1, w * (gen (ptw w) (ps.drop i) (xs.drop i) 0).2) = _
  rw [gen_zero (stand_drop i h), List.take_append_drop, Int.mul_zero]
theorem deed_first {p : Part} {ps : List Part} {x : Int} {xs : List Int} {w : Int} {t : Nat} (h : StandL (p :: ps) (x :: xs)) (hw : Sign w) :
    deedL (p :: ps) (x :: xs) ⟨0, w, t⟩ = ((pt p x w t).1 :: (deedL ps xs ⟨0, w, (pt p x w t).2.toNat⟩).1, (deedL ps xs ⟨0, w, (pt p x w t).2.toNat⟩).2) := by
  obtain ⟨ok, h0, h1, _⟩ := h
  have nn := pt_nn ok h0 h1 hw t
  show ((pt p x w t).1 :: (gen (ptw w) ps xs (pt p x w t).2).1, w * (gen (ptw w) ps xs (pt p x w t).2).2) = ((pt p x w t).1 :: (gen (ptw w) ps xs ((pt p x w t).2.toNat : Nat)).1, w * (gen (ptw w) ps xs ((pt p x w t).2.toNat : Nat)).2)
  rw [Int.toNat_of_nonneg nn]
theorem deed_later {p : Part} {ps : List Part} {x : Int} {xs : List Int} {j : Nat} {w : Int} {t : Nat} : deedL (p :: ps) (x :: xs) ⟨j + 1, w, t⟩ = (x :: (deedL ps xs ⟨j, w, t⟩).1, (deedL ps xs ⟨j, w, t⟩).2) := rfl
theorem pt_in {p : Part} {x w : Int} {t : Nat} (ok : p.ok) (h0 : 0 ≤ x) (h1 : x < p.places) (hw : Sign w) : 0 ≤ (pt p x w t).1 ∧ (pt p x w t).1 < p.places := by
  have := (gen_stand hw [p] [x] (t : Int) (by omega) ⟨ok, h0, h1, trivial⟩).1
  obtain ⟨_, a, b, _⟩ := (show StandL [p] [(pt p x w t).1] from this)
  exact ⟨a, b⟩
/-- a row over a train is the row over its first part, and what that gives over the others -/
theorem row_parts {p : Part} {ps : List Part} {n : Nat} : ∀ (ds : List Deed) (x : Int) (xs : List Int) (s : Int), StandL (p :: ps) (x :: xs) → (∀ d ∈ ds, Sign d.w) → (∀ d ∈ ds, d.i < n + 1 + ps.length) →
    rowL (p :: ps) (ds.map (shf n)) (x :: xs, s) = ((pass p n x ds).1 :: (rowL ps ((pass p n x ds).2.map (shf (n + 1))) (xs, s)).1, (rowL ps ((pass p n x ds).2.map (shf (n + 1))) (xs, s)).2)
  | [], x, xs, s, _, _, _ => rfl
  | d :: ds, x, xs, s, h, hw, hi => by
    have w1 := hw d List.mem_cons_self
    have i1 := hi d List.mem_cons_self
    have hw' : ∀ e ∈ ds, Sign e.w := fun e he => hw e (List.mem_cons_of_mem _ he)
    have hi' : ∀ e ∈ ds, e.i < n + 1 + ps.length := fun e he => hi e (List.mem_cons_of_mem _ he)
    obtain ⟨ok, h0, h1, hs⟩ := id h
    show rowL (p :: ps) (ds.map (shf n)) ((deedL (p :: ps) (x :: xs) (shf n d)).1, s + (deedL (p :: ps) (x :: xs) (shf n d)).2) = _
    by_cases c : d.i ≤ n
    · have e1 : shf n d = ⟨0, d.w, d.t⟩ := by unfold shf; rw [show d.i - n = 0 by omega]
      have nn := pt_nn ok h0 h1 w1 d.t
      rw [e1, deed_first h w1]
      have st2 : StandL (p :: ps) ((pt p x d.w d.t).1 :: (deedL ps xs ⟨0, d.w, (pt p x d.w d.t).2.toNat⟩).1) := by
        refine ⟨ok, (pt_in ok h0 h1 w1).1, (pt_in ok h0 h1 w1).2, ?_⟩
        cases ps with
        | nil => cases xs with
          | nil => exact trivial
          | cons _ _ => exact nomatch hs
        | cons q qs => exact deedL_stand hs ⟨Nat.succ_pos _, w1⟩
      rw [row_parts ds _ _ _ st2 hw' hi']
      rw [pass_le c]
      by_cases g : 0 < (pt p x d.w d.t).2
      · rw [if_pos g]
        have e2 : shf (n + 1) ⟨d.i, d.w, (pt p x d.w d.t).2.toNat⟩ = ⟨0, d.w, (pt p x d.w d.t).2.toNat⟩ := by
          show (⟨d.i - (n + 1), d.w, (pt p x d.w d.t).2.toNat⟩ : Deed) = _
          rw [show d.i - (n + 1) = 0 by omega]
        have key : ∀ r : List Deed, rowL ps ((⟨d.i, d.w, (pt p x d.w d.t).2.toNat⟩ :: r).map (shf (n + 1))) (xs, s) = rowL ps (r.map (shf (n + 1))) ((deedL ps xs ⟨0, d.w, (pt p x d.w d.t).2.toNat⟩).1, s + (deedL ps xs ⟨0, d.w, (pt p x d.w d.t).2.toNat⟩).2) := fun r => by
          show rowL ps (r.map (shf (n + 1))) ((deedL ps xs (shf (n + 1) ⟨d.i, d.w, (pt p x d.w d.t).2.toNat⟩)).1, s + (deedL ps xs (shf (n + 1) ⟨d.i, d.w, (pt p x d.w d.t).2.toNat⟩)).2) = _
          rw [e2]
        rw [key]
      · rw [if_neg g, show (pt p x d.w d.t).2.toNat = 0 by omega, deedL_zero hs, Int.add_zero]
    · obtain ⟨j, hj⟩ : ∃ j, d.i - n = j + 1 := ⟨d.i - n - 1, by omega⟩
      have e1 : shf n d = ⟨j + 1, d.w, d.t⟩ := by unfold shf; rw [hj]
      have e2 : shf (n + 1) d = ⟨j, d.w, d.t⟩ := by unfold shf; rw [show d.i - (n + 1) = j by omega]
      rw [e1, deed_later]
      have st2 : StandL (p :: ps) (x :: (deedL ps xs ⟨j, d.w, d.t⟩).1) := ⟨ok, h0, h1, deedL_stand hs ⟨show j < ps.length by omega, w1⟩⟩
      rw [row_parts ds _ _ _ st2 hw' hi']
      rw [pass_gt c]
      by_cases g : 0 < d.t
      · rw [if_pos g]
        have key : ∀ r : List Deed, rowL ps ((d :: r).map (shf (n + 1))) (xs, s) = rowL ps (r.map (shf (n + 1))) ((deedL ps xs ⟨j, d.w, d.t⟩).1, s + (deedL ps xs ⟨j, d.w, d.t⟩).2) := fun r => by
          show rowL ps (r.map (shf (n + 1))) ((deedL ps xs (shf (n + 1) d)).1, s + (deedL ps xs (shf (n + 1) d)).2) = _
          rw [e2]
        rw [key]
      · rw [if_neg g, show d.t = 0 by omega, deedL_zero hs, Int.add_zero]
/-! all stands, by their first places -/
theorem fold_all : ∀ (ps : List Part) (ss : List (List Int)), ps.foldl grow ss = ss.flatMap fun s => (ps.foldl grow [[]]).map (s ++ ·)
  | [], ss => by
    show ss = ss.flatMap fun s => [s ++ []]
    simp
  | p :: ps, ss => by
    rw [List.foldl_cons, List.foldl_cons, fold_all ps (grow ss p), fold_all ps (grow [[]] p)]
    unfold grow rowS
    simp only [List.flatMap_assoc, List.flatMap_map, List.map_flatMap, List.map_map, List.flatMap_cons, List.flatMap_nil, List.append_nil, List.nil_append]
    congr 1
    funext s
    congr 1
    funext x
    congr 1
    funext t
    simp
theorem allS_cons (p : Part) (ps : List Part) : allS (p :: ps) = (List.range p.places.toNat).flatMap fun (x : Nat) => (allS ps).map ((x : Int) :: ·) := by
  show ps.foldl grow (grow [[]] p) = _
  rw [fold_all]
  unfold grow rowS
  simp only [List.flatMap_cons, List.flatMap_nil, List.append_nil, List.nil_append, List.flatMap_map]
  rfl
def zeros (n : Nat) : List Int := List.replicate n 0
theorem allS_head : ∀ {ps : List Part}, (∀ p ∈ ps, p.ok) → (allS ps).head? = some (zeros ps.length)
  | [], _ => rfl
  | p :: ps, h => by
    have po := (h p List.mem_cons_self).pos.1
    obtain ⟨n, hn⟩ : ∃ n, p.places.toNat = n + 1 := ⟨p.places.toNat - 1, by omega⟩
    rw [allS_cons, hn, List.range_succ_eq_map, List.flatMap_cons, List.head?_append, List.head?_map, allS_head fun q hq => h q (List.mem_cons_of_mem _ hq)]
    rfl
/-! the first stand that tells two rows apart -/
def ssum : List Deed → Int
  | [] => 0
  | d :: ds => d.w * d.t + ssum ds
def unl (ps : List Part) (n : Nat) (one other : List Deed) (xs : List Int) : Bool := decide (rowL ps (one.map (shf n)) (xs, 0) ≠ rowL ps (other.map (shf n)) (xs, 0))
def fa : List Part → Nat → List Deed → List Deed → Option (List Int)
  | [], _, one, other => if ssum one = ssum other then none else some []
  | p :: ps, n, one, other => (List.range p.places.toNat).findSome? fun (x : Nat) => if (pass p n x one).1 ≠ (pass p n x other).1 then some ((x : Int) :: zeros ps.length) else (fa ps (n + 1) (pass p n x one).2 (pass p n x other).2).map ((x : Int) :: ·)
theorem row_nil {n : Nat} : ∀ (ds : List Deed) (s : Int), rowL [] (ds.map (shf n)) ([], s) = ([], s + ssum ds)
  | [], s => by rw [ssum, Int.add_zero]; rfl
  | d :: ds, s => by
    show rowL [] (ds.map (shf n)) ((deedL [] [] (shf n d)).1, s + (deedL [] [] (shf n d)).2) = _
    have e : deedL [] [] (shf n d) = ([], d.w * d.t) := by
      unfold deedL
      rw [List.take_nil, List.drop_nil, List.drop_nil]
      rfl
    rw [e, row_nil ds, ssum]
    congr 1
    show s + d.w * d.t + ssum ds = s + (d.w * d.t + ssum ds)
    omega
structure DeedsOk (m : Nat) (ds : List Deed) : Prop where
  w : ∀ d ∈ ds, Sign d.w
  i : ∀ d ∈ ds, d.i < m
  t : ∀ d ∈ ds, d.t < 2 ^ 200
theorem pass_ok {p : Part} {n m : Nat} (ok : p.ok) : ∀ (ds : List Deed) (x : Int), 0 ≤ x → x < p.places → DeedsOk m ds → DeedsOk m (pass p n x ds).2 ∧ (pass p n x ds).2.length ≤ ds.length
  | [], _, _, _, h => ⟨h, Nat.le_refl _⟩
  | d :: ds, x, h0, h1, h => by
    have hd : DeedsOk m ds := ⟨fun e he => h.w e (List.mem_cons_of_mem _ he), fun e he => h.i e (List.mem_cons_of_mem _ he), fun e he => h.t e (List.mem_cons_of_mem _ he)⟩
    have w1 := h.w d List.mem_cons_self
    have more : ∀ (e : Deed) (es : List Deed), Sign e.w → e.i < m → e.t < 2 ^ 200 → DeedsOk m es ∧ es.length ≤ ds.length → ∀ c : Prop, [Decidable c] → DeedsOk m (if c then e :: es else es) ∧ (if c then e :: es else es).length ≤ (d :: ds).length := fun e es a1 a2 a3 a4 c _ => by
      by_cases z : c
      · rw [if_pos z]
        refine ⟨⟨fun f hf => ?_, fun f hf => ?_, fun f hf => ?_⟩, by rw [List.length_cons, List.length_cons]; omega⟩ <;> rcases List.mem_cons.mp hf with rfl | hf
        · exact a1
        · exact a4.1.w f hf
        · exact a2
        · exact a4.1.i f hf
        · exact a3
        · exact a4.1.t f hf
      · rw [if_neg z]
        exact ⟨a4.1, by rw [List.length_cons]; omega⟩
    by_cases c : d.i ≤ n
    · rw [pass_le c]
      have r := pt_in (t := d.t) ok h0 h1 w1
      have le := pt_le ok h0 h1 w1 d.t
      have nn := pt_nn ok h0 h1 w1 d.t
      have tb := h.t d List.mem_cons_self
      exact more ⟨d.i, d.w, (pt p x d.w d.t).2.toNat⟩ _ w1 (h.i d List.mem_cons_self) (by show (pt p x d.w d.t).2.toNat < 2 ^ 200; omega) (pass_ok ok ds _ r.1 r.2 hd) _
    · rw [pass_gt c]
      exact more d _ w1 (h.i d List.mem_cons_self) (h.t d List.mem_cons_self) (pass_ok ok ds _ h0 h1 hd) _
theorem find_true {α : Type} {l : List α} {q : α → Bool} (h : ∀ x ∈ l, q x = true) : l.find? q = l.head? := by
  cases l with
  | nil => rfl
  | cons a r => rw [List.find?_cons_of_pos (h a List.mem_cons_self)]; rfl
theorem find_cong {α : Type} {l : List α} {q r : α → Bool} (h : ∀ x ∈ l, q x = r x) : l.find? q = l.find? r := by
  induction l with
  | nil => rfl
  | cons a t ih =>
    have ha := h a List.mem_cons_self
    rw [List.find?_cons, List.find?_cons, ha, ih fun x hx => h x (List.mem_cons_of_mem _ hx)]
theorem some_cong {α β : Type} {l : List α} {f g : α → Option β} (h : ∀ x ∈ l, f x = g x) : l.findSome? f = l.findSome? g := by
  induction l with
  | nil => rfl
  | cons a t ih =>
    rw [List.findSome?_cons, List.findSome?_cons, h a List.mem_cons_self, ih fun x hx => h x (List.mem_cons_of_mem _ hx)]
theorem fa_spec : ∀ (ps : List Part) (n : Nat) (one other : List Deed), (∀ p ∈ ps, p.ok) → DeedsOk (n + ps.length) one → DeedsOk (n + ps.length) other → fa ps n one other = (allS ps).find? (unl ps n one other)
  | [], n, one, other, _, _, _ => by
    show (if ssum one = ssum other then none else some []) = List.find? _ [[]]
    unfold unl
    rw [List.find?_cons, row_nil, row_nil, Int.zero_add, Int.zero_add]
    by_cases c : ssum one = ssum other
    · rw [if_pos c, c]
      simp
    · rw [if_neg c]
      simp [c]
  | p :: ps, n, one, other, ok, h1, h2 => by
    have ok1 := ok p List.mem_cons_self
    have oks : ∀ q ∈ ps, q.ok := fun q hq => ok q (List.mem_cons_of_mem _ hq)
    rw [allS_cons, List.find?_flatMap]
    unfold fa
    refine some_cong fun x hx => ?_
    rw [List.mem_range] at hx
    have x0 : (0 : Int) ≤ (x : Int) := by omega
    have x1 : (x : Int) < p.places := by omega
    have e1 : n + (p :: ps).length = n + 1 + ps.length := by rw [List.length_cons]; omega
    rw [e1] at h1 h2
    rw [List.find?_map]
    have un : ∀ xs ∈ allS ps, (unl (p :: ps) n one other ∘ ((x : Int) :: ·)) xs = decide ((pass p n x one).1 :: (rowL ps ((pass p n x one).2.map (shf (n + 1))) (xs, 0)).1 ≠ (pass p n x other).1 :: (rowL ps ((pass p n x other).2.map (shf (n + 1))) (xs, 0)).1 ∨ (rowL ps ((pass p n x one).2.map (shf (n + 1))) (xs, 0)).2 ≠ (rowL ps ((pass p n x other).2.map (shf (n + 1))) (xs, 0)).2) := fun xs hxs => by
      have st : StandL (p :: ps) ((x : Int) :: xs) := ⟨ok1, x0, x1, (allS_mem oks xs).mp hxs⟩
      show decide (rowL (p :: ps) (one.map (shf n)) ((x : Int) :: xs, 0) ≠ rowL (p :: ps) (other.map (shf n)) ((x : Int) :: xs, 0)) = _
      rw [row_parts one x xs 0 st h1.w h1.i, row_parts other x xs 0 st h2.w h2.i]
      refine decide_eq_decide.mpr ?_
      rw [Ne, Prod.mk.injEq, Classical.not_and_iff_not_or_not]
    by_cases c : (pass p n x one).1 ≠ (pass p n x other).1
    · rw [if_pos c, find_true fun xs hxs => ?_, allS_head oks]
      · rfl
      · rw [un xs hxs]
        exact decide_eq_true (.inl fun z => c (List.cons.inj z).1)
    · rw [if_neg c, fa_spec ps (n + 1) _ _ oks (pass_ok ok1 one x x0 x1 h1).1 (pass_ok ok1 other x x0 x1 h2).1]
      congr 1
      refine (find_cong fun xs hxs => ?_).symm
      rw [un xs hxs]
      unfold unl
      refine decide_eq_decide.mpr ?_
      have ce : (pass p n x one).1 = (pass p n x other).1 := Classical.not_not.mp c
      rw [ce]
      constructor
      · rintro (z | z) e
        · exact z (by rw [e])
        · exact z (by rw [e])
      · intro z
        by_cases q : (rowL ps ((pass p n x one).2.map (shf (n + 1))) (xs, 0)).1 = (rowL ps ((pass p n x other).2.map (shf (n + 1))) (xs, 0)).1
        · exact .inr fun r => z (Prod.ext q r)
        · exact .inl fun r => q (List.cons.inj r).2
theorem fa_refl {ps : List Part} {n : Nat} {one : List Deed} (ok : ∀ p ∈ ps, p.ok) (h : DeedsOk (n + ps.length) one) : fa ps n one one = none := by
  rw [fa_spec ps n one one ok h h, List.find?_eq_none]
  intro xs _
  unfold unl
  simp
theorem fa_len : ∀ {ps : List Part} {n : Nat} {one other : List Deed} {xs : List Int}, fa ps n one other = some xs → xs.length = ps.length
  | [], n, one, other, xs, h => by
    unfold fa at h
    split at h
    · cases h
    · cases h
      rfl
  | p :: ps, n, one, other, xs, h => by
    unfold fa at h
    obtain ⟨x, _, hx⟩ := List.exists_of_findSome?_eq_some h
    split at hx
    · cases hx
      rw [List.length_cons, List.length_cons, zeros, List.length_replicate]
    · obtain ⟨r, hr, rfl⟩ := Option.map_eq_some_iff.mp hx
      rw [List.length_cons, List.length_cons, fa_len hr]
/-- how many askings are kept -/
def cost : List Part → Nat
  | [] => 0
  | p :: ps => 1 + p.places.toNat * cost ps
theorem cost_le : ∀ {ps : List Part}, (∀ p ∈ ps, p.ok) → cost ps ≤ ps.length * (stands ps).toNat
  | [], _ => Nat.zero_le _
  | p :: ps, h => by
    have ih := cost_le (ps := ps) fun q hq => h q (List.mem_cons_of_mem _ hq)
    have po := (h p List.mem_cons_self).pos.1
    have sp := stands_pos ps fun q hq => h q (List.mem_cons_of_mem _ hq)
    have e : (stands (p :: ps)).toNat = p.places.toNat * (stands ps).toNat := by
      show (p.places * stands ps).toNat = _
      rw [Int.toNat_mul (by omega) (by omega)]
    have one : 1 ≤ p.places.toNat * (stands ps).toNat := Nat.mul_pos (by omega) (by omega)
    have m := Nat.mul_le_mul_left p.places.toNat ih
    rw [List.length_cons, e, Nat.succ_mul]
    show 1 + p.places.toNat * cost ps ≤ _
    rw [← Nat.mul_assoc, Nat.mul_comm p.places.toNat ps.length, Nat.mul_assoc] at m
    omega
end Ct
namespace Ct
open PySem PySem.Spec PyProof.Rows L2
theorem pass_snoc {p : Part} {n : Nat} (d : Deed) : ∀ (ds : List Deed) (x : Int), pass p n x (ds ++ [d]) = (if d.i ≤ n then ((pt p (pass p n x ds).1 d.w d.t).1, (pass p n x ds).2 ++ if 0 < (pt p (pass p n x ds).1 d.w d.t).2 then [⟨d.i, d.w, (pt p (pass p n x ds).1 d.w d.t).2.toNat⟩] else []) else ((pass p n x ds).1, (pass p n x ds).2 ++ if 0 < d.t then [d] else []))
  | [], x => by
    rw [List.nil_append]
    by_cases c : d.i ≤ n
    · rw [pass_le c, if_pos c]
      rfl
    · rw [pass_gt c, if_neg c]
      rfl
  | e :: ds, x => by
    rw [List.cons_append]
    by_cases ce : e.i ≤ n
    · rw [pass_le ce, pass_le ce, pass_snoc d ds]
      by_cases c : d.i ≤ n
      · rw [if_pos c, if_pos c]
        by_cases g : 0 < (pt p x e.w e.t).2
        · rw [if_pos g, if_pos g]
          rfl
        · rw [if_neg g, if_neg g]
      · rw [if_neg c, if_neg c]
        by_cases g : 0 < (pt p x e.w e.t).2
        · rw [if_pos g, if_pos g]
          rfl
        · rw [if_neg g, if_neg g]
    · rw [pass_gt ce, pass_gt ce, pass_snoc d ds]
      by_cases c : d.i ≤ n
      · rw [if_pos c, if_pos c]
        by_cases g : 0 < e.t
        · rw [if_pos g, if_pos g]
          rfl
        · rw [if_neg g, if_neg g]
      · rw [if_neg c, if_neg c]
        by_cases g : 0 < e.t
        · rw [if_pos g, if_pos g]
          rfl
        · rw [if_neg g, if_neg g]
theorem pass_in {p : Part} {n : Nat} (ok : p.ok) : ∀ (ds : List Deed) (x : Int), 0 ≤ x → x < p.places → (∀ d ∈ ds, Sign d.w) → 0 ≤ (pass p n x ds).1 ∧ (pass p n x ds).1 < p.places
  | [], _, h0, h1, _ => ⟨h0, h1⟩
  | d :: ds, x, h0, h1, h => by
    have hw' : ∀ e ∈ ds, Sign e.w := fun e he => h e (List.mem_cons_of_mem _ he)
    by_cases c : d.i ≤ n
    · rw [pass_le c]
      have r := pt_in (t := d.t) ok h0 h1 (h d List.mem_cons_self)
      exact pass_in ok ds _ r.1 r.2 hw'
    · rw [pass_gt c]
      exact pass_in ok ds _ h0 h1 hw'
end Ct

/-! what is kept of rows gone through: a dict with keys (part, deeds, deeds) -/
namespace Ct
open PySem PySem.Spec PyProof.Rows L2
theorem NdAt.ext {w : World} {K : PySem.W.Frag} {H : Hp} {a : Addr} {kvs : List (NestedKey × V)} (h : NdAt w K H a kvs) : Ext H a := by
  obtain ⟨_, _, _, xs, h4, _⟩ := h
  exact ⟨_, h4⟩
/-! keys -/
def dkey (d : Deed) : NestedKey := .tup [.num d.i, .num d.w, .num d.t]
def fkey (n : Nat) (one other : List Deed) : NestedKey := .tup [.num n, .tup (one.map dkey), .tup (other.map dkey)]
theorem dkey_inj {d e : Deed} (h : dkey d = dkey e) : d = e := by
  obtain ⟨i, w, t⟩ := d
  obtain ⟨j, x, u⟩ := e
  unfold dkey at h
  injection h with h
  injection h with h1 h
  injection h with h2 h
  injection h with h3 h
  injection h1 with h1
  injection h2 with h2
  injection h3 with h3
  have a1 : i = j := by have : (i : Int) = j := h1; omega
  have a3 : t = u := by have : (t : Int) = u := h3; omega
  have a2 : w = x := h2
  rw [a1, a2, a3]
theorem dkeys_inj : ∀ {ds es : List Deed}, ds.map dkey = es.map dkey → ds = es
  | [], [], _ => rfl
  | [], _ :: _, h => nomatch h
  | _ :: _, [], h => nomatch h
  | d :: ds, e :: es, h => by
    rw [List.map_cons, List.map_cons] at h
    injection h with h1 h2
    rw [dkey_inj h1, dkeys_inj h2]
theorem fkey_inj {n m : Nat} {a b c d : List Deed} (h : fkey n a b = fkey m c d) : n = m ∧ a = c ∧ b = d := by
  unfold fkey at h
  injection h with h
  injection h with h1 h
  injection h with h2 h
  injection h with h3 h
  injection h1 with h1
  injection h2 with h2
  injection h3 with h3
  exact ⟨by omega, dkeys_inj h2, dkeys_inj h3⟩
theorem nk_deed (d : Deed) : nkD (dkey d) = d.data := by
  unfold dkey
  rw [nkD, nkAll, nkAll, nkAll, nkAll, nkD, nkD, nkD]
  rfl
theorem nk_deeds : ∀ ds : List Deed, nkAll (ds.map dkey) = ds.map Deed.data
  | [] => by rw [List.map_nil, nkAll]; rfl
  | d :: ds => by rw [List.map_cons, nkAll, nk_deed, nk_deeds ds]; rfl
theorem nk_key (n : Nat) (a b : List Deed) : nkD (fkey n a b) = .tuple [.int n, .tuple (a.map Deed.data), .tuple (b.map Deed.data)] := by
  unfold fkey
  rw [nkD, nkAll, nkAll, nkAll, nkAll, nkD, nkD, nkD, nk_deeds, nk_deeds]
theorem depth_deeds : ∀ ds : List Deed, NestedKey.depthAll (ds.map dkey) ≤ 2
  | [] => by rw [List.map_nil, NestedKey.depthAll]; omega
  | d :: ds => by
    have := depth_deeds ds
    have e : (dkey d).depth ≤ 2 := by
      unfold dkey
      simp [NestedKey.depth, NestedKey.depthAll]
    rw [List.map_cons, NestedKey.depthAll]
    omega
theorem depth_key (n : Nat) (a b : List Deed) : (fkey n a b).depth ≤ 8 := by
  have h1 := depth_deeds a
  have h2 := depth_deeds b
  unfold fkey
  simp only [NestedKey.depth, NestedKey.depthAll]
  omega
/-! what a kept answer is -/
def Vis (K : PySem.W.Frag) (H : Hp) (v : V) : Option (List Int) → Prop
  | none => v = .non
  | some xs => Dp K H v (tupD xs)
theorem Vis.same {K : PySem.W.Frag} {H H' : Hp} {v : V} {o : Option (List Int)} (s : Same H H') (h : Vis K H v o) : Vis K H' v o := by
  cases o with
  | none => exact h
  | some xs => exact dp_same s h
theorem Vis.but {K : PySem.W.Frag} {H H' : Hp} {k : Addr} {v : V} {o : Option (List Int)} (x : Ext H k) (s : But k H H') (h : Vis K H v o) : Vis K H' v o := by
  cases o with
  | none => exact h
  | some xs => exact dp_but x s h
def Known (K : PySem.W.Frag) (H : Hp) (ps : List Part) (kvs : List (NestedKey × V)) : Prop := ∀ n a b v, valV kvs (fkey n a b) = some v → Vis K H v (fa (ps.drop n) n a b)
theorem Known.same {K : PySem.W.Frag} {H H' : Hp} {ps : List Part} {kvs : List (NestedKey × V)} (s : Same H H') (h : Known K H ps kvs) : Known K H' ps kvs := fun n a b v e => (h n a b v e).same s
theorem Known.put {K : PySem.W.Frag} {H H' : Hp} {ps : List Part} {kvs : List (NestedKey × V)} {k : Addr} {n : Nat} {a b : List Deed} {v : V} (x : Ext H k) (s : But k H H') (h : Known K H ps kvs) (new : valV kvs (fkey n a b) = none) (hv : Vis K H v (fa (ps.drop n) n a b)) : Known K H' ps (kvs ++ [(fkey n a b, v)]) := fun m c d u e => by
  rw [valV_snoc _ _ _ _ new] at e
  by_cases z : fkey m c d = fkey n a b
  · rw [if_pos z] at e
    cases e
    obtain ⟨rfl, rfl, rfl⟩ := fkey_inj z
    exact hv.but x s
  · rw [if_neg z] at e
    exact (h m c d u e).but x s
/-- keys of the parts ahead are as they were -/
def Ahead0 (n : Nat) (kvs kvs' : List (NestedKey × V)) : Prop := ∀ m a b, m < n → valV kvs' (fkey m a b) = valV kvs (fkey m a b)
theorem ahead_put {n : Nat} {kvs : List (NestedKey × V)} {a b : List Deed} {v : V} (new : valV kvs (fkey n a b) = none) : Ahead0 n kvs (kvs ++ [(fkey n a b, v)]) := fun m c d hm => by
  rw [valV_snoc _ _ _ _ new, if_neg fun z => absurd (fkey_inj z).1 (by omega)]
theorem eqv_deeds : ∀ ds es : List Deed, PyData.eqvAll (ds.map Deed.data) (es.map Deed.data) = true ↔ ds = es
  | [], [] => ⟨fun _ => rfl, fun _ => rfl⟩
  | [], _ :: _ => ⟨(fun h => nomatch h), (fun h => nomatch h)⟩
  | _ :: _, [] => ⟨(fun h => nomatch h), (fun h => nomatch h)⟩
  | d :: ds, e :: es => by
    rw [List.map_cons, List.map_cons, PyData.eqvAll, Bool.and_eq_true, eqv_deeds ds es]
    obtain ⟨i, w, t⟩ := d
    obtain ⟨j, x, u⟩ := e
    unfold Deed.data
    rw [PyData.eqv, PyData.eqvAll, PyData.eqvAll, PyData.eqvAll, PyData.eqvAll, PyData.eqv, PyData.eqv, PyData.eqv]
    simp only [Bool.and_eq_true, beq_iff_eq, and_true]
    constructor
    · rintro ⟨⟨h1, h2, h3⟩, h4⟩
      have a1 : i = j := by omega
      have a3 : t = u := by omega
      have a2 : w = x := h2
      rw [a1, a2, a3, h4]
    · intro h
      injection h with h1 h2
      injection h1 with c1 c2 c3
      subst c1 c2 c3
      exact ⟨⟨rfl, rfl, rfl⟩, h2⟩
theorem drop_atK {ps : List Part} {n : Nat} {p : Part} (h : ps[n]? = some p) : ps.drop n = p :: ps.drop (n + 1) := by
  obtain ⟨hn, e⟩ := List.getElem?_eq_some_iff.mp h
  rw [List.drop_eq_getElem_cons hn, e]
theorem w_catZ {K : PySem.W.Frag} {H : Hp} {Q : VK} {a b : Addr} {xs ys : List V} (ha : SqT K H a xs) (hb : SqT K H b ys) (l : xs.length + ys.length ≤ 1000) (q : ∀ u H', Same H H' → SqT K H' u (xs ++ ys) → Q (.ref u) H') : rCatA K (.ref a) (.ref b) H Q :=
  ⟨a, b, xs, ys, rfl, rfl, ha, hb, Nat.le_trans l (by decide), fun z => q b H (Same.refl _) (by rw [z]; exact hb), fun _ z => q a H (Same.refl _) (by rw [z, List.append_nil]; exact ha), fun _ _ p np => q p _ (same_upd np) (.of upd_same)⟩
end Ct
namespace Ct
open PySem PySem.Spec PyProof.Rows L2
theorem lay_deeds (ds : List Deed) : (PyData.tuple (ds.map Deed.data)).canLay0 = true ∧ (PyData.tuple (ds.map Deed.data)).depth ≤ 2 := lay_tup (n := 1) fun e he => by
  obtain ⟨d, _, rfl⟩ := List.mem_map.mp he
  unfold Deed.data
  refine lay_tup (n := 0) fun x hx => ?_
  rcases List.mem_cons.mp hx with rfl | hx
  · exact lay_int _ _
  rcases List.mem_cons.mp hx with rfl | hx
  · exact lay_int _ _
  rcases List.mem_cons.mp hx with rfl | hx
  · exact lay_int _ _
  · cases hx
end Ct
namespace Ct
open PySem PySem.Spec PyProof.Rows L2
def told : Option (List Int) → PyData
  | none => .tuple [.str "alike"]
  | some xs => .tuple [.str "apart", tupD xs]
theorem lay_saysO (o : Option (List Int)) : (told o).canLay0 = true ∧ (told o).depth ≤ 3 := by
  cases o with
  | none => exact lay_mono (lay_tup (n := 0) fun d hd => by
      rcases List.mem_cons.mp hd with rfl | hd
      · exact lay_str _ _
      · cases hd) (by decide)
  | some xs => exact lay_mono (lay_tup (n := 1) fun d hd => by
      rcases List.mem_cons.mp hd with rfl | hd
      · exact lay_str _ _
      rcases List.mem_cons.mp hd with rfl | hd
      · exact lay_tup (lay_ints xs 0)
      · cases hd) (by decide)
theorem eqv_told (xs ys : List Int) (x y : Int) : PyData.eqv (.tuple [.tuple (xs.map PyData.int), .int x]) (.tuple [.tuple (ys.map PyData.int), .int y]) = decide ((xs, x) = (ys, y)) := by
  rw [PyData.eqv, PyData.eqvAll, PyData.eqvAll, PyData.eqvAll, PyData.eqv, PyData.eqv, eqv_ints, Bool.and_true]
  by_cases c : xs = ys
  · by_cases e : x = y
    · subst c e; simp
    · subst c; simp [e]
  · simp [c]
theorem shf0 (ds : List Deed) : ds.map (shf 0) = ds := by
  have : ∀ d : Deed, shf 0 d = d := fun d => rfl
  rw [show shf 0 = id from funext this, List.map_id]
theorem unl0 {ps : List Part} {one other : List Deed} {xs : List Int} : unl ps 0 one other xs = decide (rowL ps one (xs, 0) ≠ rowL ps other (xs, 0)) := by
  unfold unl
  rw [shf0, shf0]
theorem deeds_ok {m : Nat} {ds : List Deed} (h : ∀ d ∈ ds, d.ok m ∧ d.t < 2 ^ 200) : DeedsOk m ds := ⟨fun d hd => (h d hd).1.2, fun d hd => (h d hd).1.1, fun d hd => (h d hd).2⟩
end Ct
namespace Ct
open PySem PySem.Spec PyProof.Rows L2
theorem dpAll_cutL {K : PySem.W.Frag} {H : Hp} {vs : List V} {ds : List Deed} (lo hi : Option Int) (h : DpAll K H vs (ds.map Deed.data)) : ∃ es : List Deed, DpAll K H (cutV vs lo hi) (es.map Deed.data) ∧ (∀ d ∈ es, d ∈ ds) ∧ es.length ≤ ds.length := by
  refine ⟨(ds.drop (HT.sIx vs.length 0 lo)).take (HT.sIx vs.length vs.length hi - HT.sIx vs.length 0 lo), ?_, fun d hd => List.mem_of_mem_drop (List.mem_of_mem_take hd), by rw [List.length_take, List.length_drop]; omega⟩
  rw [List.map_take, List.map_drop]
  exact dpAll_take _ (dpAll_drop _ h)
theorem dpAll_setD {K : PySem.W.Frag} {H : Hp} : ∀ {vs : List V} {ds : List PyData} {k : Nat} {v : V} {d : PyData}, DpAll K H vs ds → Dp K H v d → DpAll K H (vs.set k v) (ds.set k d)
  | _, _, _, _, _, .nil, _ => .nil
  | _, _, 0, _, _, .cons _ t, h => .cons h t
  | _, _, _ + 1, _, _, .cons g t, h => .cons g (dpAll_setD t h)
end Ct

namespace Ct
open PySem PySem.Spec PyProof.Rows L2
theorem len_200 {m l n : Nat} (m1 : 1 ≤ m) (h : m * 2 ^ l ≤ n) (hn : n < 2 ^ 200) : l < 200 := by
  apply Classical.byContradiction
  intro z
  have h1 : 2 ^ 200 ≤ 2 ^ l := Nat.pow_le_pow_right (by decide) (by omega)
  have h2 : 1 * 2 ^ l ≤ m * 2 ^ l := Nat.mul_le_mul_right _ m1
  omega
def natsV (ls : List Nat) : List V := ls.map fun (k : Nat) => V.int (k : Int)
theorem natsV_app (ls : List Nat) (p : Nat) : natsV ls ++ [V.int (p : Int)] = natsV (ls ++ [p]) := by
  unfold natsV
  rw [List.map_append]
  rfl
theorem natsV_len (ls : List Nat) : (natsV ls).length = ls.length := List.length_map _
section
variable {α : Type} {f : α → α} {x : α}
theorem itf_on {a b n : Nat} (e : itf f a x = itf f b x) : itf f (n + a) x = itf f (n + b) x := by
  rw [itf_add, itf_add, e]
theorem tail_per {t c : Nat} (ht : Tail f x t) (hc : Per f x c) : itf f (t + c) x = itf f t x := by
  obtain ⟨⟨k, k0, ek⟩, _⟩ := ht
  obtain ⟨_, ⟨t0, e0⟩, _⟩ := hc
  have ek' : itf f (t + k) x = itf f t x := by rw [Nat.add_comm, itf_add]; exact ek
  have r := rounds ek' t0
  have ge : t0 ≤ t + k * t0 := by
    have : 1 * t0 ≤ k * t0 := Nat.mul_le_mul_right _ k0
    omega
  have e1 := itf_on (n := t + k * t0 - t0) e0
  rw [show t + k * t0 - t0 + (t0 + c) = c + (t + k * t0) by omega, show t + k * t0 - t0 + t0 = t + k * t0 by omega, itf_add, r] at e1
  rw [Nat.add_comm, itf_add]
  exact e1
theorem on_rounds {t c s q : Nat} (ht : Tail f x t) (hc : Per f x c) (hs : t ≤ s) : itf f (s + c * q) x = itf f s x := by
  have e := itf_on (n := s - t) (tail_per ht hc)
  rw [show s - t + (t + c) = s + c by omega, show s - t + t = s by omega] at e
  exact rounds e q
theorem per_dvd {a c d : Nat} (hc : Per f x c) (e : itf f (a + d) x = itf f a x) : c ∣ d := by
  obtain ⟨c0, ⟨t0, e0⟩, least⟩ := hc
  have e1 := itf_on (n := t0) e
  have e2 := itf_on (n := a) e0
  rw [← Nat.add_assoc, Nat.add_comm a t0] at e2
  rw [← Nat.add_assoc] at e1
  have e3 := rounds e2 (d / c)
  have hd : t0 + a + d = d % c + (t0 + a + c * (d / c)) := by
    have := Nat.div_add_mod d c
    omega
  rw [hd, itf_add, e3, ← itf_add, Nat.add_comm] at e1
  by_cases z : d % c = 0
  · exact Nat.dvd_of_mod_eq_zero z
  · exact absurd e1 (least (d % c) (by omega) (Nat.mod_lt _ c0) (t0 + a))
end
theorem some_end {ps : List Part} {ds : List Deed} {xs : List Int} (h : StandL ps xs) (hd : ∀ d ∈ ds, d.ok ps.length) : ∃ t c, Tail (fR ps ds) xs t ∧ Per (fR ps ds) xs c := by
  have main : ∀ k, (∀ i j, i < j → j < k → itf (fR ps ds) i xs ≠ itf (fR ps ds) j xs) ∨ ∃ t c, Tail (fR ps ds) xs t ∧ Per (fR ps ds) xs c := fun k => by
    induction k with
    | zero => exact .inl fun i j _ hj => absurd hj (Nat.not_lt_zero j)
    | succ k ih =>
      rcases ih with ih | ih
      · by_cases z : ∃ i, i < k ∧ itf (fR ps ds) k xs = itf (fR ps ds) i xs
        · obtain ⟨i, hi, e⟩ := z
          have w := walk_end hi e ih
          exact .inr ⟨_, _, w.1, w.2⟩
        · refine .inl fun i j hij hj e => ?_
          by_cases jk : j < k
          · exact ih i j hij jk e
          · have : j = k := by omega
            subst this
            exact z ⟨i, hij, e.symm⟩
      · exact .inr ih
  rcases main ((stands ps).toNat + 1) with h1 | h1
  · have := few_itf h hd h1
    omega
  · exact h1
theorem round_same {ps : List Part} {ds : List Deed} {x L s q : Nat} (ok : ∀ p ∈ ps, p.ok) (hd : ∀ d ∈ ds, d.ok ps.length) (ha : Ahead (fR ps ds) (allS ps) x) (ht : Turns (fR ps ds) (allS ps) L) (hs : x ≤ s) : ∀ xs ∈ allS ps, itf (fR ps ds) s xs = itf (fR ps ds) (s + L * q) xs := fun xs hx => by
  obtain ⟨t, c, h1, h2⟩ := some_end ((allS_mem ok xs).mp hx) hd
  obtain ⟨r, hr⟩ := ht.2.1 xs hx c h2
  have := on_rounds (q := r * q) h1 h2 (Nat.le_trans (ha.2 xs hx t h1) hs)
  rw [← Nat.mul_assoc, ← hr] at this
  exact this.symm
theorem round_ahead {α : Type} {f : α → α} {S : List α} {x L : Nat} (ha : Ahead f S x) (ht : Turns f S L) (h0 : 0 < x) : ¬ ∀ y ∈ S, itf f (x - 1) y = itf f (x - 1 + L) y := fun z => by
  obtain ⟨⟨y, hy, tl⟩, _⟩ := ha
  refine tl.2 (x - 1) (by omega) ⟨L, ht.1, ?_⟩
  rw [← itf_add, Nat.add_comm]
  exact (z y hy).symm
theorem round_part {α : Type} {f : α → α} {S : List α} {a L p : Nat} (ht : Turns f S L) (p2 : 2 ≤ p) (hp : p ∣ L) : ¬ ∀ y ∈ S, itf f a y = itf f (a + L / p) y := fun z => by
  have h1 : L ∣ L / p := ht.2.2 _ fun y hy c hc => per_dvd hc (z y hy).symm
  obtain ⟨k, hk⟩ := hp
  have L0 := ht.1
  have e : L / p = k := by rw [hk, Nat.mul_div_cancel_left _ (by omega)]
  rw [e] at h1
  have k0 : 0 < k := by
    apply Nat.pos_of_ne_zero
    intro z
    rw [z, Nat.mul_zero] at hk
    omega
  have h2 := Nat.le_of_dvd k0 h1
  have h3 : 2 * k ≤ p * k := Nat.mul_le_mul_right _ p2
  omega
theorem all60 : ∀ c, c < 61 → c = 0 ∨ 9690712164777231700912800 % c = 0 := by decide +kernel
theorem round_60 {ps : List Part} {ds : List Deed} {L : Nat} (ok : ∀ p ∈ ps, p.ok) (hd : ∀ d ∈ ds, d.ok ps.length) (few : stands ps ≤ 60) (ht : Turns (fR ps ds) (allS ps) L) : L < 2 ^ 84 := by
  have h1 : L ∣ 9690712164777231700912800 := ht.2.2 _ fun y hy c hc => by
    have hle := per_few ((allS_mem ok y).mp hy) hd hc
    rcases all60 c (by omega) with z | z
    · have := hc.1
      omega
    · exact Nat.dvd_of_mod_eq_zero z
  have := Nat.le_of_dvd (by decide) h1
  omega
theorem ahead_60 {ps : List Part} {ds : List Deed} {x : Nat} (ok : ∀ p ∈ ps, p.ok) (hd : ∀ d ∈ ds, d.ok ps.length) (ha : Ahead (fR ps ds) (allS ps) x) : x ≤ (stands ps).toNat := by
  obtain ⟨⟨y, hy, tl⟩, _⟩ := ha
  refine few_itf ((allS_mem ok y).mp hy) hd fun i j hij hj e => ?_
  refine tl.2 i (by omega) ⟨j - i, by omega, ?_⟩
  rw [← itf_add, show j - i + i = j by omega]
  exact e.symm
theorem rowL_from (ps : List Part) : ∀ (ds : List Deed) (xs : List Int) (s : Int), rowL ps ds (xs, s) = ((rowL ps ds (xs, 0)).1, s + (rowL ps ds (xs, 0)).2)
  | [], xs, s => by show (xs, s) = (xs, s + 0); rw [Int.add_zero]
  | d :: ds, xs, s => by
    show rowL ps ds ((deedL ps xs d).1, s + (deedL ps xs d).2) = ((rowL ps ds ((deedL ps xs d).1, 0 + (deedL ps xs d).2)).1, s + (rowL ps ds ((deedL ps xs d).1, 0 + (deedL ps xs d).2)).2)
    rw [rowL_from ps ds _ (s + _), rowL_from ps ds _ (0 + _), Int.zero_add, Int.add_assoc]
def RowL (K : PySem.W.Frag) (H : Hp) (a : Addr) (ds : List Deed) : Prop := ∃ vs, H a = some (.lst vs) ∧ DpAll K H vs (ds.map Deed.data)
theorem RowL.at {K : PySem.W.Frag} {H : Hp} {a : Addr} {ds : List Deed} (h : RowL K H a ds) : RowAt K H a ds := by
  obtain ⟨vs, h1, h2⟩ := h
  exact ⟨vs, .of h1, h2⟩
theorem RowL.same {K : PySem.W.Frag} {H H' : Hp} {a : Addr} {ds : List Deed} (s : Same H H') (h : RowL K H a ds) : RowL K H' a ds := by
  obtain ⟨vs, h1, h2⟩ := h
  exact ⟨vs, s _ _ h1, dpAll_same s h2⟩
theorem w_catR {K : PySem.W.Frag} {H : Hp} {a b : Addr} {ds es : List Deed} {Q : VK} (ha : RowL K H a ds) (hb : RowL K H b es) (l : ds.length + es.length ≤ 1000) (q : ∀ p H', Same H H' → H p = none → RowL K H' p (ds ++ es) → Q (.ref p) H') : rCat (.ref a) (.ref b) H Q := by
  obtain ⟨vs, h1, h2⟩ := ha
  obtain ⟨us, g1, g2⟩ := hb
  have vl : vs.length = ds.length := by rw [dpAll_len h2, List.length_map]
  have ul : us.length = es.length := by rw [dpAll_len g2, List.length_map]
  refine ⟨a, b, vs, us, rfl, rfl, h1, g1, by rw [vl, ul]; exact Nat.le_trans l (by decide), fun p np => ?_⟩
  refine q p _ (same_upd np) np ⟨vs ++ us, upd_same, ?_⟩
  rw [List.map_append]
  exact dpAll_app (dpAll_same (same_upd np) h2) (dpAll_same (same_upd np) g2)
theorem unl_iff {ps : List Part} {one other : List Deed} {xs : List Int} : unl ps 0 one other xs = true ↔ rowL ps one (xs, 0) ≠ rowL ps other (xs, 0) := by
  rw [unl0, decide_eq_true_iff]
theorem alike_all {ps : List Part} {one other : List Deed} (h : none = (allS ps).find? (unl ps 0 one other)) : ∀ xs ∈ allS ps, rowL ps one (xs, 0) = rowL ps other (xs, 0) := fun xs hx => by
  have z := List.find?_eq_none.mp h.symm xs hx
  apply Classical.byContradiction
  intro e
  exact z (unl_iff.mpr e)
theorem all_alike {ps : List Part} {one other : List Deed} (h : ∀ xs ∈ allS ps, rowL ps one (xs, 0) = rowL ps other (xs, 0)) : (allS ps).find? (unl ps 0 one other) = none :=
  List.find?_eq_none.mpr fun xs hx z => unl_iff.mp z (h xs hx)
theorem apart_at {ps : List Part} {one other : List Deed} {xs : List Int} (h : some xs = (allS ps).find? (unl ps 0 one other)) : ∃ k : Nat, (allS ps)[k]? = some xs ∧ rowL ps one (xs, 0) ≠ rowL ps other (xs, 0) ∧ ∀ (j : Nat) (ys : List Int), j < k → (allS ps)[j]? = some ys → rowL ps one (ys, 0) = rowL ps other (ys, 0) := by
  obtain ⟨h1, as, bs, e, h2⟩ := List.find?_eq_some_iff_append.mp h.symm
  refine ⟨as.length, by rw [e]; simp, unl_iff.mp h1, fun j ys hj hy => ?_⟩
  rw [e, List.getElem?_append_left hj] at hy
  have z := h2 ys (List.mem_of_getElem? hy)
  apply Classical.byContradiction
  intro c
  rw [unl_iff.mpr c] at z
  cases z
theorem unl_comm (ps : List Part) (one other : List Deed) : unl ps 0 one other = unl ps 0 other one := by
  funext xs
  rw [unl0, unl0]
  exact decide_eq_decide.mpr ⟨fun h z => h z.symm, fun h z => h z.symm⟩
end Ct

/-! a list of draws: a number, how often it was drawn from, a truth; it is written -/
namespace Ct
open PySem PySem.Spec PyProof.Rows L2
def DrO (a : Addr) (c : Nat) : HO := .ext fun h => ∃ (n : Int) (b : Bool) (its : List Value) (m : Nat), Vals [.int n, .int (c : Int), .bl b] its ∧ h.get? a = some { cls := .type "list", data := .seq its.toArray m }
theorem drO_ok {P : Program} {w : World} {H : Hp} {h : Heap} {a : Addr} {c : Nat} {n : Int} {b : Bool} {its : List Value} {m : Nat} (r : Vals [.int n, .int (c : Int), .bl b] its) (e : h.get? a = some { cls := .type "list", data := .seq its.toArray m }) : ObjOk P w H h a (DrO a c) :=
  ⟨⟨n, b, its, m, r, e⟩, ⟨_, e⟩, fun _ _ ⟨n, b, its, m, r, e⟩ keep => ⟨n, b, its, m, r, keep _ e⟩⟩
section
variable {X : Cx}
theorem dr_get {pins : List (Addr × Obj)} {σ : L2.St} {H : Hp} {s : Shared} {p : Addr} {c : Nat} (I : Inv X pins σ H s) (h : H p = some (DrO p c)) : ∃ (n : Int) (b : Bool) (its : List Value) (m : Nat), Vals [.int n, .int (c : Int), .bl b] its ∧ s.heap.get? p = some { cls := .type "list", data := .seq its.toArray m } :=
  (show ObjOk X.prog X.w H s.heap p (DrO p c) from I.hok p _ h).1
def rIxDr : R2 := fun x y H Q => ∃ (p : Addr) (i : Int) (c : Nat), x = .ref p ∧ y = .int i ∧ H p = some (DrO p c) ∧ (i = 0 ∧ (∀ n : Int, Q (.int n) H) ∨ i = 1 ∧ Q (.int (c : Int)) H ∨ i = 2 ∧ ∀ b, Q (.bl b) H)
theorem ix_dr : IxR X rIxDr := by
  intro value slice pins s σ H x y v u Q I rx ry h hs
  obtain ⟨p, i, c, rfl, rfl, hp, q⟩ := h
  cases rx
  obtain ⟨t, rfl⟩ := ry
  obtain ⟨n, b, its, m, r, e⟩ := dr_get I hp
  have pl : PlainL s.heap p its.toArray := ⟨_, m, e, rfl, rfl, rfl⟩
  have hl := r.length
  have hn := line63
  rcases q with ⟨rfl, q⟩ | ⟨rfl, q⟩ | ⟨rfl, q⟩
  · obtain ⟨w, ew, rw'⟩ := r.get (i := 0) (x := .int n) rfl
    exact item_listR pl.isList (by decide) (by omega) (by simpa using ew) ⟨.int n, H, I, rw', q n⟩ hs
  · obtain ⟨w, ew, rw'⟩ := r.get (i := 1) (x := .int (c : Int)) rfl
    exact item_listR pl.isList (by decide) (by omega) (by simpa using ew) ⟨.int (c : Int), H, I, rw', q⟩ hs
  · obtain ⟨w, ew, rw'⟩ := r.get (i := 2) (x := .bl b) rfl
    exact item_listR pl.isList (by decide) (by omega) (by simpa using ew) ⟨.bl b, H, I, rw', q b⟩ hs
def rSetDr : V → V → V → Hp → (Hp → Prop) → Prop := fun o i v H Q => ∃ (p : Addr) (k : Int) (c : Nat), o = .ref p ∧ i = .int k ∧ H p = some (DrO p c) ∧ (k = 0 ∧ (∃ n : Int, v = .int n) ∧ Q (upd H p (DrO p c)) ∨ k = 1 ∧ ∃ c' : Nat, v = .int (c' : Int) ∧ Q (upd H p (DrO p c')))
theorem dr_write {pins : List (Addr × Obj)} {σ : L2.St} {H : Hp} {s : Shared} {p : Addr} {c c' : Nat} {its its' : List Value} {m m' : Nat} {f : Obj → Obj} {n : Int} {b : Bool} (I : Inv X pins σ H s) (h : H p = some (DrO p c))
    (ho : s.heap.get? p = some { cls := .type "list", data := .seq its.toArray m }) (hf : f { cls := .type "list", data := .seq its.toArray m } = { cls := .type "list", data := .seq its'.toArray m' }) (r : Vals [.int n, .int (c' : Int), .bl b] its') (t : Nat) :
    Inv X pins σ (upd H p (DrO p c')) { s with heap := s.heap.update p f, toks := t } := by
  have e : (s.heap.update p f).get? p = some { cls := .type "list", data := .seq its'.toArray m' } := by
    rw [Heap.get?_update_self f ho (by rw [hf] <;> rfl), hf]
  exact I.write (x := p) (e := p) (by rw [h]; trivial) (.inl rfl) (fun b u hb q => (Heap.get?_update_other _ _ (Ne.symm hb)).trans q) ⟨_, e⟩ (drO_ok r e)
theorem set_dr : PSet X rSetDr := by
  intro pins s σ H o i v ov iv u Q I ro ri rv h
  obtain ⟨p, k, c, rfl, rfl, hp, q⟩ := h
  cases ro
  obtain ⟨t, rfl⟩ := ri
  obtain ⟨n, b, its, m, r, e⟩ := dr_get I hp
  have hl := r.length
  have hn := line63
  rcases q with ⟨rfl, ⟨n', rfl⟩, q⟩ | ⟨rfl, c', rfl, q⟩
  · have I' := dr_write I hp e (mapSeq_set its m 0 u) (r.set rv 0) s.toks
    exact PySem.W.ki_setAt e (by decide) (by omega) (by rw [List.size_toArray, ← hl]; show (0 : Int) < ((3 : Nat) : Int); decide) ⟨_, I', q⟩
  · have I' := dr_write I hp e (mapSeq_set its m 1 u) (r.set rv 1) s.toks
    exact PySem.W.ki_setAt e (by decide) (by omega) (by rw [List.size_toArray, ← hl]; show (1 : Int) < ((3 : Nat) : Int); decide) ⟨_, I', q⟩
def tLstDr (t : TA) : TE := fun σ H Q => t σ H fun xs H1 => ∃ (n : Int) (c : Nat) (b : Bool), xs = [.int n, .int (c : Int), .bl b] ∧ ∀ p, H1 p = none → Q (.ref p) (upd H1 p (DrO p c))
theorem pe_lstDr {es : List Expr} {t : TA} {pos : Pos} (h : PA X es t) : PE X (.List es pos) (tLstDr t) := by
  refine ⟨fun pins s σ H Q I hq => ?_⟩
  refine wpAny_List_spliced (thn (h.run pos pins s σ H _ I hq) fun us s1 ⟨xs, H1, I1, r, n, c, b, ex, q⟩ => ?_)
  subst ex
  refine ⟨by rw [← r.length]; show 3 ≤ sizeLine; decide, ?_⟩
  have hf : H1 s1.heap.objs.size = none := I1.hok.fresh (Nat.le_refl _)
  exact ⟨.ref s1.heap.objs.size, upd H1 s1.heap.objs.size (DrO _ c), I1.laid (t' := s1.toks) (fun b u e => Heap.get?_push_of_some _ e) (Nat.le_refl _) (drO_ok r (Heap.get?_push_size _ rfl)), rfl, q _ hf⟩
end
section
variable {H : Hp} {σ : L2.St} {Q : VK}
theorem w_lstDr {t : TA} (h : t σ H fun xs H1 => ∃ (n : Int) (c : Nat) (b : Bool), xs = [.int n, .int (c : Int), .bl b] ∧ ∀ p, H1 p = none → Q (.ref p) (upd H1 p (DrO p c))) : tLstDr t σ H Q := h
theorem w_dr0 {p : Addr} {c : Nat} (h : H p = some (DrO p c)) (q : ∀ n : Int, Q (.int n) H) : rIxDr (.ref p) (.int 0) H Q := ⟨p, 0, c, rfl, rfl, h, .inl ⟨rfl, q⟩⟩
theorem w_dr1 {p : Addr} {c : Nat} (h : H p = some (DrO p c)) (q : Q (.int (c : Int)) H) : rIxDr (.ref p) (.int 1) H Q := ⟨p, 1, c, rfl, rfl, h, .inr (.inl ⟨rfl, q⟩)⟩
theorem w_dr2 {p : Addr} {c : Nat} (h : H p = some (DrO p c)) (q : ∀ b, Q (.bl b) H) : rIxDr (.ref p) (.int 2) H Q := ⟨p, 2, c, rfl, rfl, h, .inr (.inr ⟨rfl, q⟩)⟩
end
/-- the draws at D were drawn from, c times by now; all else that was tracked stays -/
def Dr (D : Addr) (c : Nat) (H H' : Hp) : Prop := But D H H' ∧ H' D = some (DrO D c)
theorem Dr.refl {D : Addr} {c : Nat} {H : Hp} (h : H D = some (DrO D c)) : Dr D c H H := ⟨But.refl, h⟩
theorem Dr.next {D : Addr} {c : Nat} {H H' : Hp} (h : Dr D c H H') (c' : Nat) : Dr D c' H (upd H' D (DrO D c')) := ⟨h.1.trans but_upd, upd_same⟩
theorem Dr.same {D : Addr} {c : Nat} {H H' H2 : Hp} (h : Dr D c H H') (s : Same H' H2) : Dr D c H H2 := ⟨h.1.trans (but_same s), s _ _ h.2⟩
theorem Dr.trans {D : Addr} {c c' : Nat} {H H' H2 : Hp} (h : Dr D c H H') (g : Dr D c' H' H2) : Dr D c' H H2 := ⟨h.1.trans g.1, g.2⟩
theorem Dr.ext {D : Addr} {c : Nat} {H H' : Hp} (h : Dr D c H H') : Ext H' D := ⟨_, h.2⟩
theorem drO_ext {D : Addr} {c : Nat} {H : Hp} (h : H D = some (DrO D c)) : Ext H D := ⟨_, h⟩
theorem Dr.free {D : Addr} {c : Nat} {H H' : Hp} (h : Dr D c H H') {a : Addr} (n : H' a = none) : H a = none := by
  cases e : H a with
  | none => rfl
  | some o =>
    by_cases z : a = D
    · rw [z, h.2] at n
      cases n
    · rw [h.1 a o z e] at n
      cases n
/-- a list made in between is not the draws -/
theorem Dr.at {D l : Addr} {c c' : Nat} {H H' : Hp} {o : HO} (h : Dr D c H H') (hD : H D = some (DrO D c')) (hl : H l = some o) (ne : ∀ f, o ≠ .ext f := by intro f z; cases z) : H' l = some o :=
  h.1 l o (fun z => by rw [z, hD] at hl; exact ne _ (Option.some.inj hl).symm) hl
/-- a list made since is written -/
theorem Dr.put {D l : Addr} {c : Nat} {H H' : Hp} {o o' : HO} (h : Dr D c H H') (n : H l = none) (hl : H' l = some o) (ne : ∀ f, o ≠ .ext f := by intro f z; cases z) : Dr D c H (upd H' l o') := by
  have lD : l ≠ D := fun z => by rw [z, h.2] at hl; exact ne _ (Option.some.inj hl).symm
  refine ⟨fun a u na ha => ?_, by rw [upd_ne lD.symm]; exact h.2⟩
  rw [upd_ne (fun z => by rw [z, n] at ha; cases ha)]
  exact h.1 a u na ha
theorem rep_flat (w : V) : ∀ k : Nat, (List.replicate k [w]).flatten = List.replicate k w
  | 0 => rfl
  | k + 1 => by
    rw [List.replicate_succ, List.flatten_cons, rep_flat w k, List.replicate_succ]
    rfl
theorem cut_toB (xs : List V) (k : Nat) : cutV xs none (some (k : Int)) = xs.take k := by
  unfold cutV
  rw [HT.sIx_none, HT.sIx_nat, List.drop_zero, Nat.sub_zero]
  by_cases h : k ≤ xs.length
  · rw [Nat.min_eq_left h]
  · rw [Nat.min_eq_right (by omega), List.take_length, List.take_of_length_le (by omega)]
/-- a show: a way, and what was shown -/
def sh2D (s : Int × Int) : PyData := .tuple [.int s.1, .int s.2]
def Sh2Ok (s : Int × Int) : Prop := Sign s.1 ∧ (s.2 = 0 ∨ Sign s.2)
theorem sh2_inv {K : PySem.W.Frag} {H : Hp} {v : V} {s : Int × Int} (h : Dp K H v (sh2D s)) : ∃ a, v = .ref a ∧ SqT K H a [.int s.1, .int s.2] := by
  obtain ⟨a, vs, rfl, h1, h2⟩ := tup_inv h
  cases dpAll_ints_inv [s.1, s.2] h2
  exact ⟨a, rfl, h1⟩
theorem sh2_dp {K : PySem.W.Frag} {H : Hp} {a : Addr} {s : Int × Int} (h : SqT K H a [.int s.1, .int s.2]) : Dp K H (.ref a) (sh2D s) := .tup h (.cons (.int _) (.cons (.int _) .nil))
theorem sh2_upd {K : PySem.W.Frag} {H : Hp} {l : Addr} {ws : List V} {o : HO} (hl : H l = some (.lst ws)) {v : V} {s : Int × Int} (h : Dp K H v (sh2D s)) : Dp K (upd H l o) v (sh2D s) := by
  obtain ⟨g, rfl, hg⟩ := sh2_inv h
  exact sh2_dp (sqT_upd hg hl)
theorem sh2s_upd {K : PySem.W.Frag} {H : Hp} {l : Addr} {ws : List V} {o : HO} (hl : H l = some (.lst ws)) : ∀ {vs : List V} {ss : List (Int × Int)}, DpAll K H vs (ss.map sh2D) → DpAll K (upd H l o) vs (ss.map sh2D)
  | _, [], .nil => .nil
  | _, s :: ss, .cons h t => .cons (sh2_upd hl h) (sh2s_upd hl t)
theorem lay_sh2s (ss : List (Int × Int)) : (PyData.list (ss.map sh2D)).canLay0 = true ∧ (PyData.list (ss.map sh2D)).depth ≤ 2 := lay_lst fun d hd => by
  obtain ⟨w, _, rfl⟩ := List.mem_map.mp hd
  exact lay_tup (n := 0) (lay_ints [w.1, w.2] 0)
theorem Dr.step {D : Addr} {c : Nat} {H : Hp} (h : H D = some (DrO D c)) (c' : Nat) : Dr D c' H (upd H D (DrO D c')) := (Dr.refl h).next c'
theorem Dr.all {K : PySem.W.Frag} {D : Addr} {c c' : Nat} {H H' : Hp} (d : Dr D c' H H') (h : H D = some (DrO D c)) {vs : List V} {ds : List PyData} (x : DpAll K H vs ds) : DpAll K H' vs ds := dpAll_but (drO_ext h) d.1 x
/-- a pass: what came, at which tooth, what was shown -/
abbrev Pass := Int × Int × Int
def passD (s : Pass) : PyData := .tuple [.int s.1, .int s.2.1, .int s.2.2]
theorem pass_inv {K : PySem.W.Frag} {H : Hp} {v : V} {s : Pass} (h : Dp K H v (passD s)) : ∃ a, v = .ref a ∧ SqT K H a [.int s.1, .int s.2.1, .int s.2.2] := by
  obtain ⟨a, vs, rfl, h1, h2⟩ := tup_inv h
  cases dpAll_ints_inv [s.1, s.2.1, s.2.2] h2
  exact ⟨a, rfl, h1⟩
def unlk (p q : Pass) : Bool := !decide (p.1 = 0) && (!decide (q.1 = 0) && (decide (p.2.2 = 0) != decide (q.2.2 = 0)))
/-- two passes at the same tooth that are unlike -/
def Hit (ps : List Pass) (t : Int) (j k : Nat) : Prop := ∃ p q : Pass, ps[j]? = some p ∧ ps[k]? = some q ∧ p.2.1 % t = q.2.1 % t ∧ unlk p q = true
def NoHit (ps : List Pass) (t : Int) (n : Nat) : Prop := ∀ j k, j < k → k < n → ¬ Hit ps t j k
theorem unlk_came {p q : Pass} (h : unlk p q = true) : p.1 ≠ 0 ∧ q.1 ≠ 0 ∧ (decide (p.2.2 = 0) ≠ decide (q.2.2 = 0)) := by
  unfold unlk at h
  simp only [Bool.and_eq_true, Bool.not_eq_true', decide_eq_false_iff_not, bne_iff_ne, ne_eq] at h
  exact ⟨h.1, h.2.1, h.2.2⟩
theorem unlk_of {p q : Pass} (h1 : p.1 ≠ 0) (h2 : q.1 ≠ 0) (h : unlk p q = false) : decide (p.2.2 = 0) = decide (q.2.2 = 0) := by
  unfold unlk at h
  rw [decide_eq_false h1, decide_eq_false h2] at h
  simpa using h
theorem unlk_self (p : Pass) : unlk p p = false := by
  unfold unlk
  simp
/-- what is kept of the first n passes: the first one at each tooth -/
structure Kept (ps : List Pass) (t : Int) (n : Nat) (kvs : List (Key × V)) : Prop where
  is : ∀ r v, valV kvs (Sum.inl r) = some v → ∃ (j : Nat) (p : Pass), v = .int (j : Int) ∧ j < n ∧ ps[j]? = some p ∧ p.1 ≠ 0 ∧ p.2.1 % t = r ∧ ∀ i q, i < j → ps[i]? = some q → q.1 ≠ 0 → q.2.1 % t ≠ r
  no : ∀ r, valV kvs (Sum.inl r) = none → ∀ i q, i < n → ps[i]? = some q → q.1 ≠ 0 → q.2.1 % t ≠ r
theorem Kept.skip {ps : List Pass} {t : Int} {n : Nat} {kvs : List (Key × V)} (h : Kept ps t n kvs) {q : Pass} (hq : ps[n]? = some q) (z : q.1 = 0) : Kept ps t (n + 1) kvs := by
  refine ⟨fun r v e => ?_, fun r e i p hi hp hn => ?_⟩
  · obtain ⟨j, p, h1, h2, h3⟩ := h.is r v e
    exact ⟨j, p, h1, by omega, h3⟩
  · by_cases c : i < n
    · exact h.no r e i p c hp hn
    · have : i = n := by omega
      subst this
      cases Option.some.inj (hq.symm.trans hp)
      exact absurd z hn
theorem Kept.there {ps : List Pass} {t : Int} {n : Nat} {kvs : List (Key × V)} (h : Kept ps t n kvs) {q : Pass} (hq : ps[n]? = some q) {v : V} (e : valV kvs (Sum.inl (q.2.1 % t)) = some v) : Kept ps t (n + 1) kvs := by
  refine ⟨fun r v e => ?_, fun r e' i p hi hp hn => ?_⟩
  · obtain ⟨j, p, h1, h2, h3⟩ := h.is r v e
    exact ⟨j, p, h1, by omega, h3⟩
  · by_cases c : i < n
    · exact h.no r e' i p c hp hn
    · have : i = n := by omega
      subst this
      cases Option.some.inj (hq.symm.trans hp)
      intro z
      rw [z, e'] at e
      cases e
theorem Kept.new {ps : List Pass} {t : Int} {n : Nat} {kvs : List (Key × V)} (h : Kept ps t n kvs) {q : Pass} (hq : ps[n]? = some q) (hn : q.1 ≠ 0) (e : valV kvs (Sum.inl (q.2.1 % t)) = none) : Kept ps t (n + 1) (putK kvs (Sum.inl (q.2.1 % t)) (.int (n : Int))) := by
  refine ⟨fun r v e2 => ?_, fun r e2 i p hi hp hne => ?_⟩
  · rw [valV_put] at e2
    by_cases c : (Sum.inl r : Key) = Sum.inl (q.2.1 % t)
    · have c' : r = q.2.1 % t := Sum.inl.inj c
      subst c'
      rw [if_pos rfl] at e2
      cases Option.some.inj e2
      exact ⟨n, q, rfl, Nat.lt_succ_self n, hq, hn, rfl, fun i p hi hp hne => h.no _ e i p hi hp hne⟩
    · rw [if_neg c] at e2
      obtain ⟨j, p, h1, h2, h3⟩ := h.is r v e2
      exact ⟨j, p, h1, by omega, h3⟩
  · rw [valV_put] at e2
    by_cases c : (Sum.inl r : Key) = Sum.inl (q.2.1 % t)
    · rw [if_pos c] at e2
      cases e2
    · rw [if_neg c] at e2
      by_cases cc : i < n
      · exact h.no r e2 i p cc hp hne
      · have : i = n := by omega
        subst this
        cases Option.some.inj (hq.symm.trans hp)
        exact fun z => c (by rw [z])
theorem NoHit.more {ps : List Pass} {t : Int} {n : Nat} (h : NoHit ps t n) (g : ∀ j, j < n → ¬ Hit ps t j n) : NoHit ps t (n + 1) := fun j k jk kn => by
  by_cases c : k < n
  · exact h j k jk c
  · have : k = n := by omega
    subst this
    exact g j jk
theorem fb_enumL {K : PySem.W.Frag} {H : Hp} {σ : L2.St} {D : Ends} {a : Addr} (xs : List V) {g : TG} {tb : TS} (Pv : Nat → L2.St → Hp → Prop) (h0 : Pv 0 σ H) (hl : ∀ i σ H, i ≤ xs.length → Pv i σ H → SqL K H a xs)
    (hs : ∀ i v T σ H, xs[i]? = some v → Pv i σ H → H T = none → g (.ref T) σ (upd H T (.tup [.int (i : Nat), v])) fun σ2 H2 => tb { D with nx := Pv (i + 1), ct := Pv (i + 1), bk := D.nx } σ2 H2) (hd : ∀ σ H, Pv xs.length σ H → D.nx σ H) : FB (Ite K a) g tb D σ H :=
  for_it (walk_enum (xs := xs)) Pv h0 hl (fun i x σ H H' _ p y => by
    obtain ⟨T, u, v, rfl, hT, rfl, e1, e2⟩ := y
    cases Option.some.inj e1
    exact hs i v T σ H e2 p hT) hd
theorem w_ninT {K : PySem.W.Frag} {H : Hp} {Q : VK} {p : Addr} {x : Int} {ns : List Int} (h : SqT K H p (ns.map V.int)) (q : Q (.bl (!decide (x ∈ ns))) H) : rIn K true (.int x) (.ref p) H Q := by
  refine ⟨p, ns.map V.int, rfl, .inr h, rfl, ?_, ?_⟩
  · rw [List.all_map]
    exact List.all_eq_true.mpr fun _ _ => rfl
  · rw [if_pos rfl]
    rw [show inV (.int x) (ns.map V.int) = decide (x ∈ ns) from by
      unfold inV
      rw [List.any_map]
      by_cases e : x ∈ ns
      · rw [decide_eq_true e, List.any_eq_true]
        exact ⟨x, e, by show (x == x) = true; exact beq_self_eq_true x⟩
      · rw [decide_eq_false e, List.any_eq_false]
        intro y hy
        show ¬ (y == x) = true
        intro z
        exact e (eq_of_beq z ▸ hy)]
    exact q
section
variable {K : PySem.W.Frag} {H : Hp} {σ : L2.St} {D : Ends} {Q : VK} {R : It → Hp → Prop}
def IZL (K : PySem.W.Frag) (vs : List V) (H : Hp) (R : It → Hp → Prop) : Prop := iZip K (fun _ H Q => Q vs H) [] H R
theorem w_izip {ta : TA} (h : ta σ H fun vs H1 => IZL K vs H1 R) : iZip K ta σ H R := h
theorem w_IZL {a b : Addr} {xs ys : List V} (h1 : SqL K H a xs) (h2 : SqL K H b ys) (q : R (Itz K a b) H) : IZL K [.ref a, .ref b] H R := ⟨a, b, xs, ys, rfl, h1, h2, q⟩
theorem fb_zipL {a b : Addr} (xs ys : List V) (hl : xs.length = ys.length) {g : TG} {tb : TS} (Pv : Nat → L2.St → Hp → Prop) (h0 : Pv 0 σ H) (hq : ∀ i σ H, i ≤ xs.length → Pv i σ H → SqL K H a xs ∧ SqL K H b ys)
    (hs : ∀ i x y T σ H, xs[i]? = some x → ys[i]? = some y → Pv i σ H → H T = none → g (.ref T) σ (upd H T (.tup [x, y])) fun σ2 H2 => tb { D with nx := Pv (i + 1), ct := Pv (i + 1), bk := D.nx } σ2 H2) (hd : ∀ σ H, Pv xs.length σ H → D.nx σ H) : FB (Itz K a b) g tb D σ H :=
  for_it (walk_zip (xs := xs) (ys := ys) (n := xs.length) (by omega)) Pv h0 hq (fun i x σ H H' _ p y => by
    obtain ⟨T, u, v, rfl, hT, rfl, e1, e2⟩ := y
    exact hs i u v T σ H e1 e2 p hT) hd
end
/-- the passes of the first n shows -/
def passN (cs : List Int) (ss : List (Int × Int)) : Nat → List Pass
  | 0 => []
  | n + 1 => passN cs ss n ++ (match cs[n]?, ss[n]? with | some c, some s => [(c, (if c = 1 then (cs.take n).sum + 1 else (cs.take n).sum), s.2)] | _, _ => [])
theorem pass_upd {K : PySem.W.Frag} {H : Hp} {l : Addr} {ws : List V} {o : HO} (hl : H l = some (.lst ws)) {v : V} {s : Pass} (h : Dp K H v (passD s)) : Dp K (upd H l o) v (passD s) := by
  obtain ⟨g, rfl, hg⟩ := pass_inv h
  exact .tup (sqT_upd hg hl) (.cons (.int _) (.cons (.int _) (.cons (.int _) .nil)))
theorem passes_upd {K : PySem.W.Frag} {H : Hp} {l : Addr} {ws : List V} {o : HO} (hl : H l = some (.lst ws)) : ∀ {vs : List V} {ss : List Pass}, DpAll K H vs (ss.map passD) → DpAll K (upd H l o) vs (ss.map passD)
  | _, [], .nil => .nil
  | _, s :: ss, .cons h t => .cons (pass_upd hl h) (passes_upd hl t)
end Ct

/-! zip of a list, a tuple and a list -/
namespace Ct
open PySem PySem.Spec PyProof.Rows L2
def Itm3 (K : PySem.W.Frag) (a b d : Addr) : It where
  go := fun i H => ∃ (xs ys zs : List V) (x y z : V), SqL K H a xs ∧ SqT K H b ys ∧ SqL K H d zs ∧ xs[i]? = some x ∧ ys[i]? = some y ∧ zs[i]? = some z
  yld := fun i H v H' => ∃ T x y z, v = .ref T ∧ H T = none ∧ H' = upd H T (.tup [x, y, z]) ∧ (∀ xs, SqL K H a xs → xs[i]? = some x) ∧ (∀ ys, SqT K H b ys → ys[i]? = some y) ∧ ∀ zs, SqL K H d zs → zs[i]? = some z
  stop := fun i H => ∃ xs ys zs : List V, SqL K H a xs ∧ SqT K H b ys ∧ SqL K H d zs ∧ min (min xs.length ys.length) zs.length = i
abbrev ZSm3 (a b d z TI TO i1 i2 i3 : Addr) (i : Nat) (h : Heap) : Prop :=
  IsZip h z TI TO .none ∧ IsTupOf3 h TI (.ref i1) (.ref i2) (.ref i3) ∧ (∃ a1 a2 a3, IsTupOf3 h TO a1 a2 a3) ∧ h.IsListIter i1 a i ∧ h.IsTupleIter i2 b i ∧ h.IsListIter i3 d i
theorem turnM3 {P : Program} {w : World} {K : PySem.W.Frag} {es : List Expr} {kk : Nat} {tp : Pos} {a b d N : Nat} (ha : a < N) (hb : b < N) (hd : d < N) :
    Turn P w K (.Tuple es kk tp) (Itm3 K a b d) [N + 5, N + 3, N + 4, N, N + 1, N + 2] (N + 5) (ZSm3 a b d (N + 5) (N + 3) (N + 4) N (N + 1) (N + 2)) := by
  have sep : ZipSep3 (N + 5) (N + 3) (N + 4) N (N + 1) (N + 2) [N, a] [N + 1, b] [N + 2, d] := zip_sep3 (fun c hc => by rw [List.mem_singleton] at hc; rw [hc]; exact ha) (fun c hc => by rw [List.mem_singleton] at hc; rw [hc]; exact hb) fun c hc => by rw [List.mem_singleton] at hc; rw [hc]; exact hd
  have wrfp : ∀ {c : Nat}, c ∉ [N + 5, N + 3, N + 4, N, N + 1, N + 2] → c ∉ [N + 5, N + 4, N, N + 1, N + 2] := fun {c} hc hm => hc (by
    simp only [List.mem_cons, List.not_mem_nil, or_false] at hm ⊢
    omega)
  refine ⟨List.mem_cons_self, fun i h st c hc => ?_, fun i h h' st k => ?_, ?_, ?_, fun A i s Q E st h => wpAny_pyIter_zip st.1 h⟩
  · obtain ⟨s1, s2, ⟨u, v, y, s3⟩, ⟨o1, g1, _, d1⟩, ⟨o2, g2, _, d2⟩, ⟨o3, g3, _, d3⟩⟩ := st
    simp only [List.mem_cons, List.not_mem_nil, or_false] at hc
    rcases hc with e | e | e | e | e | e <;> subst e
    · exact ⟨_, s1, fun v q => nomatch q⟩
    · exact ⟨_, s2, fun v q => nomatch q⟩
    · exact ⟨_, s3, fun v q => nomatch q⟩
    · exact ⟨o1, g1, fun v q => by rw [d1] at q; cases q⟩
    · exact ⟨o2, g2, fun v q => by rw [d2] at q; cases q⟩
    · exact ⟨o3, g3, fun v q => by rw [d3] at q; cases q⟩
  · obtain ⟨s1, s2, ⟨u, v, y, s3⟩, s4, s5, s6⟩ := st
    exact ⟨k _ (by simp) _ s1, k _ (by simp) _ s2, ⟨u, v, y, k _ (by simp) _ s3⟩, s4.at fun o q => k N (by simp) o q, s5.at fun o q => k (N + 1) (by simp) o q, s6.at fun o q => k (N + 2) (by simp) o q⟩
  · intro X eP ew eK calm i pins s σ H E I hf st hg
    subst eP ew eK
    obtain ⟨xs, ys, zs, x, y, z, lx, ly, lz, gx, gy, gz⟩ := hg
    obtain ⟨us, rx, px, _⟩ := I.list lx
    obtain ⟨vs, ry, py, _⟩ := I.tuple ly
    obtain ⟨ts, rz, pz, _⟩ := I.list lz
    obtain ⟨s1, s2, s3, s4, s5, s6⟩ := st
    have hh : X.A.in1.handled = none := I.ok.hd calm
    have G := GoesN.zip3 (elts := es) (x1 := kk) (pos := tp) sep (Draws.list (prog := X.prog) (w := X.w) hh N a (Nat.ne_of_lt ha) us.toArray) (Draws.tuple (prog := X.prog) (w := X.w) hh (N + 1) b (Nat.ne_of_lt (Nat.lt_succ_of_lt hb)) vs.toArray) (Draws.list (prog := X.prog) (w := X.w) hh (N + 2) d (Nat.ne_of_lt (Nat.lt_succ_of_lt (Nat.lt_succ_of_lt hd))) ts.toArray)
    have lu := rx.length; have lv := ry.length; have lt := rz.length
    have ix : i < xs.length := (List.getElem?_eq_some_iff.mp gx).1
    have iy : i < ys.length := (List.getElem?_eq_some_iff.mp gy).1
    have iz : i < zs.length := (List.getElem?_eq_some_iff.mp gz).1
    refine G.goes i s _ E (by rw [List.size_toArray, List.size_toArray, List.size_toArray]; omega) ⟨s1, s2, s3, ⟨s4, px.isList⟩, ⟨s5, py⟩, ⟨s6, pz.isList⟩⟩ fun v h' tk hY st' hk _ => ?_
    obtain ⟨T, u1, u2, u3, rfl, hT, q1, q2, q3, hTu⟩ := hY
    obtain ⟨w1, e1, r1⟩ := rx.get gx
    obtain ⟨w2, e2, r2⟩ := ry.get gy
    obtain ⟨w3, e3, r3⟩ := rz.get gz
    have f1 : w1 = u1 := Option.some.inj (e1.symm.trans (by simpa using q1))
    have f2 : w2 = u2 := Option.some.inj (e2.symm.trans (by simpa using q2))
    have f3 : w3 = u3 := Option.some.inj (e3.symm.trans (by simpa using q3))
    subst f1 f2 f3
    have new : ObjOk X.prog X.w (upd H T (.tup [x, y, z])) h' T (.tup [x, y, z]) := ⟨len2 rfl, [w1, w2, w3], .cons r1 (.cons r2 (.cons r3 .nil)), hTu⟩
    refine ⟨.ref T, _, I.turnedNew (t' := tk) (fun c o hc e => hk c o (wrfp hc) e) hf hT new, rfl, ⟨T, x, y, z, rfl, I.hok.fresh hT, rfl, fun l hl => by rw [I.list_inj hl lx]; exact gx, fun l hl => by rw [I.tuple_inj hl ly]; exact gy, fun l hl => by rw [I.list_inj hl lz]; exact gz⟩, ⟨st'.1, st'.2.1, st'.2.2.1, st'.2.2.2.1.1, st'.2.2.2.2.1.1, st'.2.2.2.2.2.1⟩, fun c hc => ?_⟩
    obtain ⟨o, g, _⟩ : ∃ o, s.heap.get? c = some o ∧ True := by
      obtain ⟨u, v, t, s3⟩ := s3
      obtain ⟨o1, g1, _⟩ := s4
      obtain ⟨o2, g2, _⟩ := s5
      obtain ⟨o3, g3, _⟩ := s6
      simp only [List.mem_cons, List.not_mem_nil, or_false] at hc
      rcases hc with e | e | e | e | e | e <;> subst e
      · exact ⟨_, s1, trivial⟩
      · exact ⟨_, s2, trivial⟩
      · exact ⟨_, s3, trivial⟩
      · exact ⟨_, g1, trivial⟩
      · exact ⟨_, g2, trivial⟩
      · exact ⟨_, g3, trivial⟩
    rw [upd_ne (Nat.ne_of_lt (Nat.lt_of_lt_of_le (Heap.lt_size g) hT))]
    exact (hf c hc).1
  · intro X eP ew eK calm i pins s σ H E I hf st hg
    subst eP ew eK
    obtain ⟨xs, ys, zs, lx, ly, lz, hm⟩ := hg
    obtain ⟨us, rx, px, _⟩ := I.list lx
    obtain ⟨vs, ry, py, _⟩ := I.tuple ly
    obtain ⟨ts, rz, pz, _⟩ := I.list lz
    obtain ⟨s1, s2, s3, s4, s5, s6⟩ := st
    have hh : X.A.in1.handled = none := I.ok.hd calm
    have G := GoesN.zip3 (elts := es) (x1 := kk) (pos := tp) sep (Draws.list (prog := X.prog) (w := X.w) hh N a (Nat.ne_of_lt ha) us.toArray) (Draws.tuple (prog := X.prog) (w := X.w) hh (N + 1) b (Nat.ne_of_lt (Nat.lt_succ_of_lt hb)) vs.toArray) (Draws.list (prog := X.prog) (w := X.w) hh (N + 2) d (Nat.ne_of_lt (Nat.lt_succ_of_lt (Nat.lt_succ_of_lt hd))) ts.toArray)
    have lu := rx.length; have lv := ry.length; have lt := rz.length
    have hn : min (min us.toArray.size vs.toArray.size) ts.toArray.size = i := by rw [List.size_toArray, List.size_toArray, List.size_toArray]; omega
    rw [hn] at G
    exact G.stops s _ E ⟨s1, s2, s3, ⟨s4, px.isList⟩, ⟨s5, py⟩, ⟨s6, pz.isList⟩⟩ fun h' tk hk _ => I.turnedL (t' := tk) (fun c o hc e => hk c o (wrfp hc) e) hf
def iM3 (K : PySem.W.Frag) (ta : TA) : TI := fun σ H R => ta σ H fun vs H1 => ∃ a b d xs ys zs, vs = [.ref a, .ref b, .ref d] ∧ SqL K H1 a xs ∧ SqT K H1 b ys ∧ SqL K H1 d zs ∧ R (Itm3 K a b d) H1
theorem pi_zipM3 {X : Cx} {e e2 e3 : Expr} {ta : TA} {p pos tp : Pos} {es : List Expr} {kk : Nat} (gl : Gl X "zip") (mz : X.mg "zip" = none) (pa : PA X [e, e2, e3] ta)
    (se : starEach [e, e2, e3] X.env = (false, eval e X.env) :: starEach [e2, e3] X.env := by rfl) (bk : (backTo pos (starEach [e2, e3] X.env)).any (·.1) = false := by rfl) : PI X (.Tuple es kk tp) (.Call (.Name "zip" p) [e, e2, e3] [] pos) (iM3 X.K ta) := by
  refine ⟨fun pins s σ H R I h => Call_ (ld_blt I gl mz boot_zip (callWith_type1 (thn (pa.run pos pins s σ H _ I h) fun us s1 ⟨vs, H1, I1, r1, q1⟩ => ?_) se bk))⟩
  obtain ⟨a, b, d, xs, ys, zs, rfl, lx, ly, lz, q⟩ := q1
  cases r1 with
  | cons ra rr => cases rr with
    | cons rb rs => cases rs with
      | cons rc rn =>
        cases rn
        cases ra
        cases rb
        cases rc
        obtain ⟨us, rx, px, _⟩ := I1.list lx
        obtain ⟨vs, ry, py, _⟩ := I1.tuple ly
        obtain ⟨ts, rz, pz, _⟩ := I1.list lz
        obtain ⟨ob, gb, _⟩ := id py
        refine zip_begins3 (begins_list a us.toArray) (begins_tuple b vs.toArray) (begins_list d ts.toArray) px.isList py pz.isList fun h' z1 z2 z3 g1 g2 g3 _ hk => wpAny_pyIter_zip z1 ?_
        have I2 : Inv X pins σ H1 { s1 with heap := h' } := I1.kept (t' := s1.toks) hk
        refine ⟨_, _, _, _, H1, rfl, I2, turnM3 px.lt (Heap.lt_size gb) pz.lt, ⟨z1, z2, ⟨_, _, _, z3⟩, ⟨_, g1, rfl, rfl⟩, ⟨_, g2, rfl, rfl⟩, ⟨_, g3, rfl, rfl⟩⟩, fun c hc => ?_, q⟩
        have hle : s1.heap.objs.size ≤ c := by
          simp only [List.mem_cons, List.not_mem_nil, or_false] at hc
          rcases hc with e | e | e | e | e | e <;> subst e <;> first | exact Nat.le_add_right _ _ | exact Nat.le_refl _
        exact I1.fpOk hle (I1.hok.fresh hle)
section
variable {K : PySem.W.Frag} {H : Hp} {σ : L2.St} {D : Ends} {R : It → Hp → Prop}
def IM3 (K : PySem.W.Frag) (vs : List V) (H : Hp) (R : It → Hp → Prop) : Prop := iM3 K (fun _ H Q => Q vs H) [] H R
theorem w_im3 {ta : TA} (h : ta σ H fun vs H1 => IM3 K vs H1 R) : iM3 K ta σ H R := h
theorem w_IM3 {a b d : Addr} {xs ys zs : List V} (h1 : SqL K H a xs) (h2 : SqT K H b ys) (h3 : SqL K H d zs) (q : R (Itm3 K a b d) H) : IM3 K [.ref a, .ref b, .ref d] H R := ⟨a, b, d, xs, ys, zs, rfl, h1, h2, h3, q⟩
theorem fb_zipM3 {a b d : Addr} (xs ys zs : List V) (hl : xs.length ≤ ys.length) (hl2 : xs.length ≤ zs.length) {g : TG} {tb : TS} (Pv : Nat → L2.St → Hp → Prop) (h0 : Pv 0 σ H) (hq : ∀ i σ H, i ≤ xs.length → Pv i σ H → SqL K H a xs ∧ SqT K H b ys ∧ SqL K H d zs)
    (hs : ∀ i x y z T σ H, xs[i]? = some x → ys[i]? = some y → zs[i]? = some z → Pv i σ H → H T = none → g (.ref T) σ (upd H T (.tup [x, y, z])) fun σ2 H2 => tb { D with nx := Pv (i + 1), ct := Pv (i + 1), bk := D.nx } σ2 H2) (hd : ∀ σ H, Pv xs.length σ H → D.nx σ H) : FB (Itm3 K a b d) g tb D σ H := by
  refine ⟨fun i m σ H => m = xs.length - i ∧ i ≤ xs.length ∧ Pv i σ H, ⟨xs.length, rfl, Nat.zero_le _, h0⟩, ?_⟩
  rintro i m σ H ⟨rfl, hi, p⟩
  obtain ⟨q1, q2, q3⟩ := hq i σ H hi p
  by_cases hlt : i < xs.length
  · refine .inr ⟨⟨xs, ys, zs, _, _, _, q1, q2, q3, List.getElem?_eq_getElem hlt, List.getElem?_eq_getElem (Nat.lt_of_lt_of_le hlt hl), List.getElem?_eq_getElem (Nat.lt_of_lt_of_le hlt hl2)⟩, Pv (i + 1), fun σ' H' p' => ⟨xs.length - (i + 1), by omega, rfl, hlt, p'⟩, fun v H' y => ?_⟩
    obtain ⟨T, x1, x2, x3, rfl, hT, rfl, f1, f2, f3⟩ := y
    exact hs i x1 x2 x3 T σ H (f1 _ q1) (f2 _ q2) (f3 _ q3) p hT
  · exact .inl ⟨⟨xs, ys, zs, q1, q2, q3, by omega⟩, hd σ H (by rw [show xs.length = i by omega]; exact p)⟩
end
end Ct

/-! sorted(..) of a list of any data of one shape -/
namespace Ct
open PySem PySem.Spec PyProof.Rows L2
section
variable {X : Cx} {pins : List (Addr × Obj)} {σ : L2.St} {H : Hp} {s : Shared}
theorem so_each (I : Inv X pins σ H s) : ∀ {xs : List V} {us : List Value} {ds : List PyData}, Vals xs us → DpAll X.K H xs ds →
    PySem.W.EachIs (fun u (b : V × PyData) => RelV b.1 u) us (xs.zip ds) ∧ PySem.W.EachIs (fun u (b : V × PyData) => ∃ as, Reads s.heap u b.2 as) us (xs.zip ds)
  | _, _, _, .nil, .nil => ⟨.nil, .nil⟩
  | _, _, _, .cons r t, .cons d e => ⟨.cons r (so_each I t e).1, .cons (Dp.reads I _ _ _ d r) (so_each I t e).2⟩
theorem so_vals : ∀ {us : List Value} {bs : List (V × PyData)}, PySem.W.EachIs (fun u (b : V × PyData) => RelV b.1 u) us bs → Vals (bs.map Prod.fst) us
  | _, _, .nil => .nil
  | _, _, .cons r t => .cons r (so_vals t)
theorem so_snd {K : PySem.W.Frag} : ∀ {xs : List V} {ds : List PyData}, DpAll K H xs ds → (xs.zip ds).map Prod.snd = ds
  | _, _, .nil => rfl
  | _, _, .cons _ t => by rw [List.zip_cons_cons, List.map_cons, so_snd t]
theorem so_dp {K : PySem.W.Frag} : ∀ {xs : List V} {ds : List PyData}, DpAll K H xs ds → ∀ b ∈ xs.zip ds, Dp K H b.1 b.2
  | _, _, .nil, b, hb => nomatch hb
  | _, _, .cons d t, b, hb => by
    rw [List.zip_cons_cons] at hb
    rcases List.mem_cons.mp hb with rfl | hb
    · exact d
    · exact so_dp t b hb
theorem so_all {K : PySem.W.Frag} : ∀ {bs : List (V × PyData)}, (∀ b ∈ bs, Dp K H b.1 b.2) → DpAll K H (bs.map Prod.fst) (bs.map Prod.snd)
  | [], _ => .nil
  | b :: bs, h => .cons (h b List.mem_cons_self) (so_all fun c hc => h c (List.mem_cons_of_mem _ hc))
def rSortAny (K : PySem.W.Frag) : List V → Hp → VK → Prop := fun vs H Q => ∃ (a : Addr) (xs : List V) (ds : List PyData), vs = [V.ref a] ∧ SqL K H a xs ∧ DpAll K H xs ds ∧ PySem.W.AllAlike ds ∧ PySem.W.Sortable ds ∧ (∀ d ∈ ds, d.depth ≤ 60) ∧
  ∀ (ys : List V) (es : List PyData) (p : Addr), es.Perm ds → ys.length = xs.length → DpAll K H ys es → H p = none → Q (.ref p) (upd H p (.lst ys))
theorem cr_sortAny (hu : X.A.units + 65 < cLine) : CallR X (.builtin "sorted") (rSortAny X.K) := by
  intro pins s σ H vs us Q I r h
  obtain ⟨a, xs, ds, rfl, hs, hd, al, so, dp, q⟩ := h
  obtain ⟨its, rv, hl, hz⟩ := I.list hs
  rw [Vals.ref1 r]
  obtain ⟨e1, e2⟩ := so_each I rv hd
  have zl : (xs.zip ds).length = xs.length := by rw [List.length_zip, ← dpAll_len hd, Nat.min_self]
  have zs := so_snd hd
  refine PySem.W.sorted_data (enc := Prod.snd) hl.isList e1 e2 (by rw [zs]; exact al) (by rw [zs]; exact so) (by rw [zl]; exact hz) (fun b hb => ?_) fun out ol oe => ?_
  · have := dp b.2 (by rw [← zs]; exact List.mem_map_of_mem hb)
    omega
  have pm := List.mergeSort_perm (xs.zip ds) (PySem.W.dataLe false Prod.snd)
  have pl : ((xs.zip ds).mergeSort (PySem.W.dataLe false Prod.snd)).length = xs.length := pm.length_eq.trans zl
  obtain ⟨ep, he'⟩ := PyProof.Rows.sortedAll_at s.heap its out.toArray
  refine ⟨.ref _, upd H (s.heap.objs.size + 1) (.lst (((xs.zip ds).mergeSort (PySem.W.dataLe false Prod.snd)).map Prod.fst)), I.laid (t' := s.toks) (fun _ _ => PyProof.Rows.sortedAll_old) (Nat.le_succ _) ⟨by rw [List.length_map, pl]; exact hz, out, ep, so_vals oe, he'⟩, rfl, q _ (((xs.zip ds).mergeSort (PySem.W.dataLe false Prod.snd)).map Prod.snd) _ ?_ (by rw [List.length_map, pl]) (so_all fun b hb => so_dp hd b (pm.mem_iff.mp hb)) (I.hok.fresh (Nat.le_succ _))⟩
  have := pm.map Prod.snd
  rw [zs] at this
  exact this
end
end Ct

/-! wheels go by net pushes -/
namespace Ct
open PySem PySem.Spec PyProof.Rows L2
theorem cnt_le_len (ms : List Int) (r : Int) : cnt ms r = cnt ms r := rfl
theorem mah_turn {z : Int} {ms : List Int} (hz : 1 ≤ z) (y k : Int) : mah z ms (y + k * z) = mah z ms y + k * ms.length := by
  unfold mah
  rw [Int.add_mul_emod_self_right, Int.add_mul_ediv_right _ _ (by omega), Int.add_mul]
  omega
theorem mah_mod {z : Int} {ms : List Int} (hz : 1 ≤ z) (y a : Int) : mah z ms (y % z + a) - mah z ms (y % z) = mah z ms (y + a) - mah z ms y := by
  have e := Int.emod_add_mul_ediv y z
  have h1 := mah_turn (ms := ms) hz (y % z + a) (y / z)
  have h2 := mah_turn (ms := ms) hz (y % z) (y / z)
  rw [show y % z + a + y / z * z = y + a by rw [Int.mul_comm (y / z) z]; omega] at h1
  rw [show y % z + y / z * z = y by rw [Int.mul_comm (y / z) z]; omega] at h2
  omega
theorem pt_signed {z : Int} {ms : List Int} (ok : (Part.wheel z ms).ok) (x : Int) {w : Int} (hw : Sign w) (t : Nat) : w * (pt (.wheel z ms) x w t).2 = mah z ms (x + w * t) - mah z ms x := by
  have rs : Rise z ms := ok.2.2.1
  rcases hw with rfl | rfl
  · have u := mah_up ok.1 rs x t
    simp only [pt, Int.one_mul]
    rw [if_neg (by omega)]
  · have u := mah_up ok.1 rs (x - t) t
    rw [show x - (t : Int) + t = x by omega] at u
    simp only [pt, show x + -1 * (t : Int) = x - t by omega]
    split <;> omega
def isWh : Part → Bool
  | .wheel _ _ => true
  | _ => false
/-- what net pushes f leave, with c come from ahead -/
def dueF : List Part → List Int → (Nat → Int) → Nat → Int → List Int × Int
  | .wheel z ms :: ps, x :: xs, f, k, c => ((x + f k + c) % z :: (dueF ps xs f (k + 1) (wsum z ms (x + f k + c) - wsum z ms x)).1, (dueF ps xs f (k + 1) (wsum z ms (x + f k + c) - wsum z ms x)).2)
  | _, _, _, _, c => ([], c)
theorem dueF_cons (z : Int) (ms : List Int) (ps : List Part) (x : Int) (xs : List Int) (f : Nat → Int) (k : Nat) (c : Int) : dueF (.wheel z ms :: ps) (x :: xs) f k c = ((x + f k + c) % z :: (dueF ps xs f (k + 1) (wsum z ms (x + f k + c) - wsum z ms x)).1, (dueF ps xs f (k + 1) (wsum z ms (x + f k + c) - wsum z ms x)).2) := rfl
def Wheels (ps : List Part) : Prop := ∀ p ∈ ps, isWh p = true
theorem Wheels.cons {p : Part} {ps : List Part} (h : Wheels (p :: ps)) : (∃ z ms, p = .wheel z ms) ∧ Wheels ps := by
  refine ⟨?_, fun q hq => h q (List.mem_cons_of_mem _ hq)⟩
  have := h p List.mem_cons_self
  cases p with
  | wheel z ms => exact ⟨z, ms, rfl⟩
  | click => cases this
  | rocker => cases this
  | spring k => cases this
theorem dueF_congr {f g : Nat → Int} : ∀ (ps : List Part) (xs : List Int) (k : Nat) (c : Int), (∀ j, j < ps.length → f (k + j) = g (k + j)) → dueF ps xs f k c = dueF ps xs g k c
  | [], _, _, _, _ => rfl
  | .wheel z ms :: ps, [], _, _, _ => rfl
  | .wheel z ms :: ps, x :: xs, k, c, h => by
    have h0 := h 0 (Nat.succ_pos _)
    rw [Nat.add_zero] at h0
    have e := fun c' => dueF_congr (f := f) (g := g) ps xs (k + 1) c' fun j hj => by
      have := h (j + 1) (by rw [List.length_cons]; omega)
      rw [show k + 1 + j = k + (j + 1) by omega]
      exact this
    rw [dueF_cons, dueF_cons, h0, e]
  | .click :: _, _, _, _, _ => rfl
  | .rocker :: _, _, _, _, _ => rfl
  | .spring _ :: _, _, _, _, _ => rfl
theorem dueF_len : ∀ {ps : List Part} {xs : List Int} (f : Nat → Int) (k : Nat) (c : Int), Wheels ps → StandL ps xs → (dueF ps xs f k c).1.length = ps.length
  | [], [], _, _, _, _, _ => rfl
  | p :: ps, x :: xs, f, k, c, hw, ⟨_, _, _, hs⟩ => by
    obtain ⟨⟨z, ms, rfl⟩, hw'⟩ := hw.cons
    rw [dueF_cons, List.length_cons, dueF_len f _ _ hw' hs, List.length_cons]
/-- signed pushes from the head on -/
theorem flow {w : Int} (hsw : Sign w) : ∀ {ps : List Part} {xs : List Int} (f : Nat → Int) (k : Nat) (c : Int) (t : Nat), Wheels ps → StandL ps xs →
    gen (ptw w) ps (dueF ps xs f k c).1 t = ((dueF ps xs f k (c + w * t)).1, (gen (ptw w) ps (dueF ps xs f k c).1 t).2) ∧ w * (gen (ptw w) ps (dueF ps xs f k c).1 t).2 = (dueF ps xs f k (c + w * t)).2 - (dueF ps xs f k c).2
  | [], [], f, k, c, t, _, _ => by
    refine ⟨rfl, ?_⟩
    show w * (t : Int) = c + w * t - c
    omega
  | p :: ps, x :: xs, f, k, c, t, hw, ⟨ok, h0, h1, hs⟩ => by
    obtain ⟨⟨z, ms, rfl⟩, hw'⟩ := hw.cons
    have rs : Rise z ms := ok.2.2.1
    have z1 : 1 ≤ z := ok.1
    rw [dueF_cons, dueF_cons]
    have nn := pt_nn (p := .wheel z ms) (x := (x + f k + c) % z) (w := w) ok (Int.emod_nonneg _ (by omega)) (Int.emod_lt_of_pos _ (by omega)) hsw t
    obtain ⟨t', ht'⟩ : ∃ t' : Nat, (pt (.wheel z ms) ((x + f k + c) % z) w t).2 = (t' : Int) := ⟨_, (Int.toNat_of_nonneg nn).symm⟩
    have sg := pt_signed ok ((x + f k + c) % z) hsw t
    rw [mah_mod z1, ht'] at sg
    have ih := flow hsw (ps := ps) (xs := xs) f (k + 1) (wsum z ms (x + f k + c) - wsum z ms x) t' hw' hs
    have ec : wsum z ms (x + f k + c) - wsum z ms x + w * t' = wsum z ms (x + f k + (c + w * t)) - wsum z ms x := by
      rw [wsum_mah z1 (x + f k + c) rs.2, wsum_mah z1 x rs.2, sg, show x + f k + (c + w * t) = x + f k + c + w * t by omega, wsum_mah z1 (x + f k + c + w * t) rs.2]
      omega
    rw [ec] at ih
    have ep : (pt (.wheel z ms) ((x + f k + c) % z) w t).1 = (x + f k + (c + w * t)) % z := by
      show ((x + f k + c) % z + w * t) % z = _
      rw [Int.emod_add_emod, show x + f k + c + w * t = x + f k + (c + w * t) by omega]
    have eg : gen (ptw w) (.wheel z ms :: ps) ((x + f k + c) % z :: (dueF ps xs f (k + 1) (wsum z ms (x + f k + c) - wsum z ms x)).1) t = ((x + f k + (c + w * t)) % z :: (gen (ptw w) ps (dueF ps xs f (k + 1) (wsum z ms (x + f k + c) - wsum z ms x)).1 t').1, (gen (ptw w) ps (dueF ps xs f (k + 1) (wsum z ms (x + f k + c) - wsum z ms x)).1 t').2) := by
      show ((pt (.wheel z ms) ((x + f k + c) % z) w t).1 :: (gen (ptw w) ps _ (pt (.wheel z ms) ((x + f k + c) % z) w t).2).1, (gen (ptw w) ps _ (pt (.wheel z ms) ((x + f k + c) % z) w t).2).2) = _
      rw [ep, ht']
    rw [eg]
    refine ⟨?_, ih.2⟩
    rw [ih.1]
/-- one deed more -/
def addF (f : Nat → Int) (i : Nat) (a : Int) : Nat → Int := fun j => if j = i then f j + a else f j
theorem deed_net {w : Int} (hsw : Sign w) : ∀ {ps : List Part} {xs : List Int} (f : Nat → Int) (k : Nat) (c : Int) (i t : Nat), Wheels ps → StandL ps xs → i < ps.length →
    deedL ps (dueF ps xs f k c).1 ⟨i, w, t⟩ = ((dueF ps xs (addF f (k + i) (w * t)) k c).1, (dueF ps xs (addF f (k + i) (w * t)) k c).2 - (dueF ps xs f k c).2)
  | [], _, _, _, _, _, _, _, _, hi => nomatch hi
  | p :: ps, [], _, _, _, _, _, _, hs, _ => nomatch hs
  | p :: ps, x :: xs, f, k, c, 0, t, hw, hs, _ => by
    have fl := flow hsw f k c t hw hs
    obtain ⟨⟨z, ms, rfl⟩, hw'⟩ := hw.cons
    have e : dueF (.wheel z ms :: ps) (x :: xs) f k (c + w * t) = dueF (.wheel z ms :: ps) (x :: xs) (addF f (k + 0) (w * t)) k c := by
      rw [dueF_cons, dueF_cons, show addF f (k + 0) (w * t) k = f k + w * t from if_pos rfl, show x + f k + (c + w * t) = x + (f k + w * t) + c by omega]
      rw [dueF_congr (f := f) (g := addF f (k + 0) (w * t)) ps xs (k + 1) _ fun j _ => (if_neg (by omega)).symm]
    rw [e] at fl
    show (([] : List Int) ++ (gen (ptw w) (.wheel z ms :: ps) (dueF (.wheel z ms :: ps) (x :: xs) f k c).1 t).1, w * (gen (ptw w) (.wheel z ms :: ps) (dueF (.wheel z ms :: ps) (x :: xs) f k c).1 t).2) = _
    rw [fl.2, fl.1]
    rfl
  | p :: ps, x :: xs, f, k, c, i + 1, t, hw, ⟨ok, h0, h1, hs⟩, hi => by
    obtain ⟨⟨z, ms, rfl⟩, hw'⟩ := hw.cons
    have ih := deed_net hsw (ps := ps) (xs := xs) f (k + 1) (wsum z ms (x + f k + c) - wsum z ms x) i t hw' hs (by rw [List.length_cons] at hi; omega)
    rw [dueF_cons, dueF_cons, show addF f (k + (i + 1)) (w * t) k = f k from if_neg (by omega)]
    show ((x + f k + c) % z :: (deedL ps (dueF ps xs f (k + 1) (wsum z ms (x + f k + c) - wsum z ms x)).1 ⟨i, w, t⟩).1, (deedL ps (dueF ps xs f (k + 1) (wsum z ms (x + f k + c) - wsum z ms x)).1 ⟨i, w, t⟩).2) = _
    rw [ih, show k + 1 + i = k + (i + 1) by omega]
/-- net pushes of a row -/
def netF : List Deed → Nat → Int
  | [], _ => 0
  | d :: ds, j => (if j = d.i then d.w * d.t else 0) + netF ds j
theorem row_net {ps : List Part} {xs : List Int} (hw : Wheels ps) (hs : StandL ps xs) : ∀ (ds : List Deed) (f : Nat → Int) (s : Int), (∀ d ∈ ds, d.ok ps.length) →
    rowL ps ds ((dueF ps xs f 0 0).1, s) = ((dueF ps xs (fun j => f j + netF ds j) 0 0).1, s + ((dueF ps xs (fun j => f j + netF ds j) 0 0).2 - (dueF ps xs f 0 0).2))
  | [], f, s, _ => by
    rw [show (fun j => f j + netF [] j) = f from funext fun j => Int.add_zero _]
    show ((dueF ps xs f 0 0).1, s) = _
    rw [Int.sub_self, Int.add_zero]
  | d :: ds, f, s, h => by
    have hd := h d List.mem_cons_self
    have dn := deed_net hd.2 f 0 0 d.i d.t hw hs hd.1
    show rowL ps ds ((deedL ps (dueF ps xs f 0 0).1 d).1, s + (deedL ps (dueF ps xs f 0 0).1 d).2) = _
    rw [show d = ⟨d.i, d.w, d.t⟩ from rfl, dn, row_net hw hs ds _ _ fun e he => h e (List.mem_cons_of_mem _ he)]
    have ef : (fun j => addF f (0 + d.i) (d.w * d.t) j + netF ds j) = fun j => f j + netF (⟨d.i, d.w, d.t⟩ :: ds) j := funext fun j => by
      show (if j = 0 + d.i then f j + d.w * d.t else f j) + netF ds j = f j + ((if j = d.i then d.w * d.t else 0) + netF ds j)
      rw [Nat.zero_add]
      split <;> omega
    rw [ef]
    congr 1
    omega
theorem due_zero : ∀ {ps : List Part} {xs : List Int} (k : Nat), Wheels ps → StandL ps xs → dueF ps xs (fun _ => 0) k 0 = (xs, 0)
  | [], [], _, _, _ => rfl
  | p :: ps, x :: xs, k, hw, ⟨ok, h0, h1, hs⟩ => by
    obtain ⟨⟨z, ms, rfl⟩, hw'⟩ := hw.cons
    have h1 : x < z := h1
    rw [dueF_cons, Int.add_zero, Int.add_zero, Int.sub_self, due_zero (k + 1) hw' hs, Int.emod_eq_of_lt h0 h1]
/-- a row of a train of wheels leaves what its net pushes leave -/
theorem left_net {ps : List Part} {xs : List Int} (hw : Wheels ps) (hs : StandL ps xs) {ds : List Deed} (h : ∀ d ∈ ds, d.ok ps.length) : rowL ps ds (xs, 0) = dueF ps xs (netF ds) 0 0 := by
  have r := row_net hw hs ds (fun _ => 0) 0 h
  rw [due_zero 0 hw hs] at r
  rw [r, show (fun j => 0 + netF ds j) = netF ds from funext fun j => Int.zero_add _, Int.sub_zero, Int.zero_add]
theorem netF_perm {ds es : List Deed} (h : ds.Perm es) (j : Nat) : netF ds j = netF es j := by
  induction h with
  | nil => rfl
  | cons d _ ih => show _ + _ = _ + _; rw [ih]
  | swap d e l => show _ + (_ + _) = _ + (_ + _); omega
  | trans _ _ ih1 ih2 => rw [ih1, ih2]
theorem netF_app (j : Nat) : ∀ (ds es : List Deed), netF (ds ++ es) j = netF ds j + netF es j
  | [], es => (Int.zero_add _).symm
  | d :: ds, es => by
    show _ + netF (ds ++ es) j = _ + netF ds j + netF es j
    rw [netF_app j ds es]
    omega
end Ct
namespace Ct
open PySem PySem.Spec PyProof.Rows L2
theorem gen_apB (f : Part → Int → Int → Int × Int) : ∀ (ws qs : List Part) (xs ys : List Int) (a : Int), xs.length = ws.length → gen f (ws ++ qs) (xs ++ ys) a = ((gen f ws xs a).1 ++ (gen f qs ys (gen f ws xs a).2).1, (gen f qs ys (gen f ws xs a).2).2)
  | [], qs, [], ys, a, _ => rfl
  | [], _, _ :: _, _, _, h => by simp at h
  | _ :: _, _, [], _, _, h => by simp at h
  | w :: ws, qs, x :: xs, ys, a, h => by
    have ih := gen_apB f ws qs xs ys (f w x a).2 (by simpa using h)
    show ((f w x a).1 :: (gen f (ws ++ qs) (xs ++ ys) (f w x a).2).1, (gen f (ws ++ qs) (xs ++ ys) (f w x a).2).2) = _
    rw [ih]
    rfl
theorem deed_head {ws qs : List Part} {as ys : List Int} {d : Deed} (hl : as.length = ws.length) (hi : d.i < ws.length) : ∃ ys', (deedL (ws ++ qs) (as ++ ys) d).1 = (deedL ws as d).1 ++ ys' := by
  unfold deedL
  rw [List.drop_append_of_le_length (by omega), List.drop_append_of_le_length (by omega), List.take_append_of_le_length (by omega), gen_apB _ _ _ _ _ _ (by rw [List.length_drop, List.length_drop, hl])]
  exact ⟨_, (List.append_assoc ..).symm⟩
theorem deed_tail {ws qs : List Part} {as ys : List Int} {d : Deed} (hl : as.length = ws.length) (hi : ws.length ≤ d.i) : ∃ ys', (deedL (ws ++ qs) (as ++ ys) d).1 = as ++ ys' := by
  unfold deedL
  refine ⟨ys.take (d.i - as.length) ++ (gen (ptw d.w) ((ws ++ qs).drop d.i) ((as ++ ys).drop d.i) d.t).1, ?_⟩
  show (as ++ ys).take d.i ++ _ = _
  rw [List.take_append, List.take_of_length_le (by omega), List.append_assoc]
/-- the wheels ahead go by net pushes, whatever is behind -/
theorem row_head {ws qs : List Part} {xs : List Int} (hw : Wheels ws) (hs : StandL ws xs) : ∀ (ds : List Deed) (f : Nat → Int) (ys : List Int) (s : Int), (∀ d ∈ ds, d.ok (ws ++ qs).length) →
    ∃ ys', (rowL (ws ++ qs) ds ((dueF ws xs f 0 0).1 ++ ys, s)).1 = (dueF ws xs (fun j => f j + netF ds j) 0 0).1 ++ ys'
  | [], f, ys, s, _ => ⟨ys, by rw [show (fun j => f j + netF [] j) = f from funext fun j => Int.add_zero _]; rfl⟩
  | d :: ds, f, ys, s, h => by
    have hd := h d List.mem_cons_self
    have hl := dueF_len f 0 0 hw hs
    have ef : (fun j => addF f (0 + d.i) (d.w * d.t) j + netF ds j) = fun j => f j + netF (d :: ds) j := funext fun j => by
      show (if j = 0 + d.i then f j + d.w * d.t else f j) + netF ds j = f j + ((if j = d.i then d.w * d.t else 0) + netF ds j)
      rw [Nat.zero_add]
      split <;> omega
    show ∃ ys', (rowL (ws ++ qs) ds ((deedL (ws ++ qs) ((dueF ws xs f 0 0).1 ++ ys) d).1, s + (deedL (ws ++ qs) ((dueF ws xs f 0 0).1 ++ ys) d).2)).1 = _
    rcases Nat.lt_or_ge d.i ws.length with c | c
    · obtain ⟨ys', e⟩ := deed_head (qs := qs) (ys := ys) hl c
      have dn := deed_net hd.2 f 0 0 d.i d.t hw hs c
      rw [e, show d = ⟨d.i, d.w, d.t⟩ from rfl, dn, ← ef]
      exact row_head hw hs ds _ _ _ fun e he => h e (List.mem_cons_of_mem _ he)
    · obtain ⟨ys', e⟩ := deed_tail (qs := qs) (ys := ys) hl c
      rw [e]
      obtain ⟨y2, e2⟩ := row_head (qs := qs) hw hs ds f ys' (s + (deedL (ws ++ qs) ((dueF ws xs f 0 0).1 ++ ys) d).2) fun e he => h e (List.mem_cons_of_mem _ he)
      refine ⟨y2, ?_⟩
      rw [e2, dueF_congr (f := fun j => f j + netF ds j) (g := fun j => f j + netF (d :: ds) j) ws xs 0 0 fun j hj => ?_]
      show f (0 + j) + netF ds (0 + j) = f (0 + j) + ((if 0 + j = d.i then d.w * d.t else 0) + netF ds (0 + j))
      rw [if_neg (by omega), Int.zero_add]
theorem left_head {ws qs : List Part} {xs ys : List Int} (hw : Wheels ws) (hs : StandL ws xs) {ds : List Deed} (s : Int) (h : ∀ d ∈ ds, d.ok (ws ++ qs).length) : ∃ ys', (rowL (ws ++ qs) ds (xs ++ ys, s)).1 = (dueF ws xs (netF ds) 0 0).1 ++ ys' := by
  have r := row_head (qs := qs) hw hs ds (fun _ => 0) ys s h
  rw [due_zero 0 hw hs] at r
  rw [show (fun j => 0 + netF ds j) = netF ds from funext fun j => Int.zero_add _] at r
  exact r
end Ct
namespace Ct
open PySem PySem.Spec PyProof.Rows L2
theorem often_net {ps : List Part} {xs : List Int} (hw : Wheels ps) (hs : StandL ps xs) {ds : List Deed} (h : ∀ d ∈ ds, d.ok ps.length) : ∀ n : Nat, itR ps ds n xs = dueF ps xs (fun j => n * netF ds j) 0 0
  | 0 => by
    rw [show (fun j => ((0 : Nat) : Int) * netF ds j) = fun _ => 0 from funext fun j => Int.zero_mul _, due_zero 0 hw hs]
    rfl
  | n + 1 => by
    have ih := often_net hw hs h n
    have r := row_net hw hs ds (fun j => n * netF ds j) 0 h
    rw [show (fun j => (n : Int) * netF ds j + netF ds j) = fun j => ((n + 1 : Nat) : Int) * netF ds j from funext fun j => by rw [show ((n + 1 : Nat) : Int) = (n : Int) + 1 from rfl, Int.add_mul, Int.one_mul]] at r
    show ((rowL ps ds ((itR ps ds n xs).1, 0)).1, (itR ps ds n xs).2 + (rowL ps ds ((itR ps ds n xs).1, 0)).2) = _
    rw [ih, r]
    refine Prod.ext rfl ?_
    show (dueF ps xs (fun j => n * netF ds j) 0 0).2 + (0 + ((dueF ps xs (fun j => ((n + 1 : Nat) : Int) * netF ds j) 0 0).2 - (dueF ps xs (fun j => n * netF ds j) 0 0).2)) = _
    omega
theorem often_head {ws qs : List Part} {xs ys : List Int} (hw : Wheels ws) (hs : StandL ws xs) {ds : List Deed} (h : ∀ d ∈ ds, d.ok (ws ++ qs).length) : ∀ n : Nat, ∃ ys', (itR (ws ++ qs) ds n (xs ++ ys)).1 = (dueF ws xs (fun j => n * netF ds j) 0 0).1 ++ ys'
  | 0 => by
    rw [show (fun j => ((0 : Nat) : Int) * netF ds j) = fun _ => 0 from funext fun j => Int.zero_mul _, due_zero 0 hw hs]
    exact ⟨ys, rfl⟩
  | n + 1 => by
    obtain ⟨y1, e1⟩ := often_head (ys := ys) hw hs h n
    obtain ⟨y2, e2⟩ := row_head (qs := qs) hw hs ds (fun j => n * netF ds j) y1 0 h
    refine ⟨y2, ?_⟩
    rw [show (fun j => (n : Int) * netF ds j + netF ds j) = fun j => ((n + 1 : Nat) : Int) * netF ds j from funext fun j => by rw [show ((n + 1 : Nat) : Int) = (n : Int) + 1 from rfl, Int.add_mul, Int.one_mul]] at e2
    show (rowL (ws ++ qs) ds ((itR (ws ++ qs) ds n (xs ++ ys)).1, 0)).1 = _
    rw [e1, e2]
/-! whole turns -/
def prodZ : List Part → Nat
  | [] => 1
  | p :: ps => p.places.toNat * prodZ ps
def marksN : Part → List Int
  | .wheel _ ms => ms
  | _ => []
def prodM : List Part → Nat
  | [] => 1
  | p :: ps => (marksN p).length * prodM ps
theorem gen_round {w : Int} (hsw : Sign w) : ∀ {ps : List Part} {xs : List Int} (m : Nat), Wheels ps → StandL ps xs → gen (ptw w) ps xs ((prodZ ps * m : Nat) : Int) = (xs, ((prodM ps * m : Nat) : Int))
  | [], [], m, _, _ => rfl
  | p :: ps, x :: xs, m, hw, ⟨ok, h0, h1, hs⟩ => by
    obtain ⟨⟨z, ms, rfl⟩, hw'⟩ := hw.cons
    have z1 : 1 ≤ z := ok.1
    have h1 : x < z := h1
    obtain ⟨zn, rfl⟩ : ∃ zn : Nat, z = zn := ⟨z.toNat, by omega⟩
    have et : ((prodZ (.wheel (zn : Int) ms :: ps) * m : Nat) : Int) = ((prodZ ps * m : Nat) : Int) * zn := by
      show ((((zn : Int).toNat * prodZ ps) * m : Nat) : Int) = _
      rw [Int.toNat_natCast, Nat.mul_assoc, Nat.mul_comm]
      exact Int.natCast_mul _ _
    have e1 : (pt (.wheel (zn : Int) ms) x w ((prodZ (.wheel (zn : Int) ms :: ps) * m : Nat) : Int)).1 = x := by
      show (x + w * ((prodZ (.wheel (zn : Int) ms :: ps) * m : Nat) : Int)) % zn = x
      rw [et, ← Int.mul_assoc, Int.add_mul_emod_self_right, Int.emod_eq_of_lt h0 h1]
    have e2 : (pt (.wheel (zn : Int) ms) x w ((prodZ (.wheel (zn : Int) ms :: ps) * m : Nat) : Int)).2 = ((prodZ ps * (ms.length * m) : Nat) : Int) := by
      have nn := pt_nn (p := .wheel (zn : Int) ms) ok h0 h1 hsw (prodZ (.wheel (zn : Int) ms :: ps) * m)
      have sg := pt_signed ok x hsw (prodZ (.wheel (zn : Int) ms :: ps) * m)
      rw [et, ← Int.mul_assoc, mah_turn z1] at sg
      rw [et] at nn
      rw [et]
      have em : ((prodZ ps * (ms.length * m) : Nat) : Int) = ((prodZ ps * m : Nat) : Int) * ms.length := by
        rw [Nat.mul_comm ms.length m, ← Nat.mul_assoc]
        exact Int.natCast_mul _ _
      rw [em]
      generalize ((prodZ ps * m : Nat) : Int) = A at *
      rcases hsw with rfl | rfl
      · rw [Int.one_mul, Int.one_mul] at sg
        rw [sg]
        omega
      · rw [Int.mul_assoc] at sg
        generalize A * (ms.length : Int) = B at *
        omega
    show ((ptw w (.wheel (zn : Int) ms) x _).1 :: (gen (ptw w) ps xs (ptw w (.wheel (zn : Int) ms) x _).2).1, (gen (ptw w) ps xs (ptw w (.wheel (zn : Int) ms) x _).2).2) = _
    rw [show ptw w (.wheel (zn : Int) ms) x ((prodZ (.wheel (zn : Int) ms :: ps) * m : Nat) : Int) = (x, ((prodZ ps * (ms.length * m) : Nat) : Int)) from Prod.ext e1 e2, gen_round hsw (ms.length * m) hw' hs]
    show (x :: xs, ((prodM ps * (ms.length * m) : Nat) : Int)) = (x :: xs, (((ms.length * prodM ps) * m : Nat) : Int))
    rw [← Nat.mul_assoc, Nat.mul_comm (prodM ps) ms.length]
theorem round_net {ps : List Part} {xs : List Int} {i : Nat} {w : Int} (hsw : Sign w) (hw : Wheels ps) (hs : StandL ps xs) : rowL ps [⟨i, w, prodZ (ps.drop i)⟩] (xs, 0) = (xs, w * (prodM (ps.drop i) : Int)) := by
  have g := gen_round hsw 1 (ps := ps.drop i) (xs := xs.drop i) (fun p hp => hw p (List.mem_of_mem_drop hp)) (stand_drop i hs)
  rw [Nat.mul_one, Nat.mul_one] at g
  show ((deedL ps xs ⟨i, w, prodZ (ps.drop i)⟩).1, 0 + (deedL ps xs ⟨i, w, prodZ (ps.drop i)⟩).2) = _
  unfold deedL
  rw [g]
  show (xs.take i ++ xs.drop i, 0 + w * (prodM (ps.drop i) : Int)) = _
  rw [List.take_append_drop, Int.zero_add]
end Ct
namespace Ct
open PySem PySem.Spec PyProof.Rows L2
theorem w_eqSame {K : PySem.W.Frag} {H : Hp} {Q : VK} {x y : V} (d : PyData) {n : Nat} (hx : Dp K H x d) (hy : Dp K H y d) (h : d.canLay0 = true ∧ d.depth ≤ n) (e : n ≤ 64) (q : Q (.bl true) H) : rEqD K x y H Q :=
  ⟨d, d, hx, hy, shaped_of h e, shaped_of h e, by rw [SeqAt.eqv_refl d h.1]; exact q⟩
end Ct
namespace Ct
open PySem PySem.Spec PyProof.Rows L2
theorem prodZ_app (p : Part) : ∀ l : List Part, prodZ (l ++ [p]) = prodZ l * p.places.toNat
  | [] => by show p.places.toNat * 1 = 1 * p.places.toNat; omega
  | a :: l => by
    show a.places.toNat * prodZ (l ++ [p]) = a.places.toNat * prodZ l * p.places.toNat
    rw [prodZ_app p l, Nat.mul_assoc]
theorem prodM_app (p : Part) : ∀ l : List Part, prodM (l ++ [p]) = prodM l * (marksN p).length
  | [] => by show (marksN p).length * 1 = 1 * (marksN p).length; omega
  | a :: l => by
    show (marksN a).length * prodM (l ++ [p]) = (marksN a).length * prodM l * (marksN p).length
    rw [prodM_app p l, Nat.mul_assoc]
theorem prodZ_small : ∀ {l : List Part}, (∀ p ∈ l, p.places ≤ 10 ^ 40) → prodZ l < 2 ^ (134 * l.length + 1)
  | [], _ => by show 1 < 2 ^ (134 * 0 + 1); decide
  | p :: l, h => by
    have ih := prodZ_small (l := l) fun q hq => h q (List.mem_cons_of_mem _ hq)
    have hp := h p List.mem_cons_self
    have hp2 : p.places.toNat ≤ 2 ^ 134 := Nat.le_trans (show p.places.toNat ≤ 10 ^ 40 by omega) (by decide)
    rw [List.length_cons, show 134 * (l.length + 1) + 1 = 134 + (134 * l.length + 1) by omega, Nat.pow_add]
    show p.places.toNat * prodZ l < _
    exact Nat.lt_of_le_of_lt (Nat.mul_le_mul_right _ hp2) (Nat.mul_lt_mul_of_pos_left ih (by decide))
theorem prodM_small : ∀ {l : List Part}, (∀ p ∈ l, (marksN p).length ≤ 6) → prodM l < 2 ^ (3 * l.length + 1)
  | [], _ => by show 1 < 2 ^ (3 * 0 + 1); decide
  | p :: l, h => by
    have ih := prodM_small (l := l) fun q hq => h q (List.mem_cons_of_mem _ hq)
    have hp := h p List.mem_cons_self
    rw [List.length_cons, show 3 * (l.length + 1) + 1 = 3 + (3 * l.length + 1) by omega, Nat.pow_add]
    show (marksN p).length * prodM l < _
    exact Nat.lt_of_le_of_lt (Nat.mul_le_mul_right _ (show (marksN p).length ≤ 2 ^ 3 by omega)) (Nat.mul_lt_mul_of_pos_left ih (by decide))
end Ct
namespace Ct
open PySem PySem.Spec PyProof.Rows L2
theorem stands_prodZ : ∀ {ps : List Part}, (∀ p ∈ ps, p.ok) → stands ps = (prodZ ps : Int)
  | [], _ => rfl
  | p :: ps, h => by
    have ih := stands_prodZ (ps := ps) fun q hq => h q (List.mem_cons_of_mem _ hq)
    have hp := (h p List.mem_cons_self).pos.1
    show p.places * stands ps = ((p.places.toNat * prodZ ps : Nat) : Int)
    rw [ih, Int.natCast_mul, Int.toNat_of_nonneg (by omega)]
theorem netF_abs {B : Nat} (j : Nat) : ∀ {ds : List Deed}, (∀ d ∈ ds, Sign d.w ∧ d.t ≤ B) → (netF ds j).natAbs ≤ ds.length * B
  | [], _ => Nat.zero_le _
  | d :: ds, h => by
    have ih := netF_abs j (ds := ds) fun e he => h e (List.mem_cons_of_mem _ he)
    obtain ⟨hw, ht⟩ := h d List.mem_cons_self
    show ((if j = d.i then d.w * d.t else 0) + netF ds j).natAbs ≤ _
    have e1 : ((if j = d.i then d.w * d.t else 0) : Int).natAbs ≤ B := by
      split
      · rcases hw with hw | hw <;> rw [hw] <;> omega
      · exact Nat.zero_le _
    rw [List.length_cons, Nat.add_mul, Nat.one_mul]
    omega
end Ct
namespace Ct
open PySem PySem.Spec PyProof.Rows L2
theorem stand_lt : ∀ {ps : List Part} {xs : List Int}, StandL ps xs → ∀ x ∈ xs, x.natAbs < 2 ^ 200
  | [], [], _, _, h => nomatch h
  | p :: ps, x :: xs, ⟨ok, h0, h1, hs⟩, y, hy => by
    rcases List.mem_cons.mp hy with rfl | hy
    · have := ok.pos.2
      omega
    · exact stand_lt hs y hy
theorem dueF_more : ∀ {ps : List Part} {xs : List Int}, StandL ps xs → ∀ (ys : List Int) (f : Nat → Int) (k : Nat) (c : Int), dueF ps (xs ++ ys) f k c = dueF ps xs f k c
  | [], [], _, ys, f, k, c => by cases ys <;> rfl
  | .wheel z ms :: ps, x :: xs, ⟨_, _, _, hs⟩, ys, f, k, c => by
    rw [List.cons_append, dueF_cons, dueF_cons, dueF_more hs]
  | .click :: _, _ :: _, _, _, _, _, _ => rfl
  | .rocker :: _, _ :: _, _, _, _, _, _ => rfl
  | .spring _ :: _, _ :: _, _, _, _, _, _ => rfl
end Ct
namespace Ct
open PySem PySem.Spec PyProof.Rows L2
/-- a row with the same net pushes -/
def RowOf (K : PySem.W.Frag) (H : Hp) (o : Addr) (n : Nat) (ds : List Deed) : Prop := ∃ (uv : List V) (es : List Deed), H o = some (.lst uv) ∧ DpAll K H uv (es.map Deed.data) ∧ es.length ≤ 20 ∧ (∀ d ∈ es, d.ok n ∧ d.t < 2 ^ 150) ∧ ∀ j, netF es j = netF ds j
theorem RowOf.same {K : PySem.W.Frag} {H H' : Hp} {o : Addr} {n : Nat} {ds : List Deed} (h : RowOf K H o n ds) (s : Same H H') : RowOf K H' o n ds :=
  let ⟨uv, es, h1, h2, h3⟩ := h; ⟨uv, es, s _ _ h1, dpAll_same s h2, h3⟩
theorem netF_one (d : Deed) (j : Nat) : netF [d] j = if j = d.i then d.w * d.t else 0 := Int.add_zero _
theorem netF_ins (es : List Deed) (d : Deed) (i j : Nat) : netF (es.take i ++ [d] ++ es.drop i) j = netF es j + netF [d] j := by
  have e := netF_app j (es.take i) (es.drop i)
  rw [List.take_append_drop] at e
  rw [netF_app, netF_app]
  omega
theorem netF_out {n : Nat} {j : Nat} (hj : n ≤ j) : ∀ {ds : List Deed}, (∀ d ∈ ds, d.i < n) → netF ds j = 0
  | [], _ => rfl
  | d :: ds, h => by
    show (if j = d.i then d.w * d.t else 0) + netF ds j = 0
    rw [netF_out hj fun e he => h e (List.mem_cons_of_mem _ he), if_neg (by have := h d List.mem_cons_self; omega)]
    rfl
theorem netF_two {i : Nat} {w : Int} (hw : Sign w) {f t : Nat} (h : f ≤ t) (j : Nat) : netF [⟨i, w, f⟩, ⟨i, w, t - f⟩] j = netF [⟨i, w, t⟩] j := by
  show (if j = i then w * (f : Int) else 0) + ((if j = i then w * ((t - f : Nat) : Int) else 0) + 0) = (if j = i then w * (t : Int) else 0) + 0
  split
  · rcases hw with rfl | rfl <;> omega
  · omega
theorem netF_back {i : Nat} {w : Int} {t : Nat} (j : Nat) : netF [⟨i, w, t⟩] j + netF [⟨i, 0 - w, t⟩] j = 0 := by
  show ((if j = i then w * (t : Int) else 0) + 0) + ((if j = i then (0 - w) * (t : Int) else 0) + 0) = 0
  split
  · rw [Int.sub_mul, Int.zero_mul]
    omega
  · rfl
theorem dp_ins {K : PySem.W.Frag} {H : Hp} {uv : List V} {es : List Deed} {y : V} {d : Deed} (i : Nat) (h : DpAll K H uv (es.map Deed.data)) (hy : Dp K H y d.data) : DpAll K H (uv.take i ++ [y] ++ uv.drop i) ((es.take i ++ [d] ++ es.drop i).map Deed.data) := by
  rw [List.map_append, List.map_append, List.map_take, List.map_drop]
  exact dpAll_app (dpAll_app (dpAll_take i h) (.cons hy .nil)) (dpAll_drop i h)
theorem mem_insL {α : Type} {l : List α} {i : Nat} {x y : α} (h : y ∈ l.take i ++ [x] ++ l.drop i) : y = x ∨ y ∈ l := by
  rcases List.mem_append.mp h with h | h
  · rcases List.mem_append.mp h with h | h
    · exact .inr (List.mem_of_mem_take h)
    · exact .inl (List.mem_singleton.mp h)
  · exact .inr (List.mem_of_mem_drop h)
theorem len_insL {α : Type} (l : List α) (i : Nat) (x : α) : (l.take i ++ [x] ++ l.drop i).length = l.length + 1 := by
  rw [List.length_append, List.length_append, List.length_take, List.length_drop]
  simp only [List.length_cons, List.length_nil]
  omega
theorem deed_dpN {K : PySem.W.Frag} {H : Hp} {g : Addr} {i t : Nat} {w : Int} (h : H g = some (.tup [.int (i : Int), .int w, .int (t : Int)])) : Dp K H (.ref g) (Deed.data ⟨i, w, t⟩) := .tup (.of h) (.cons (.int _) (.cons (.int _) (.cons (.int _) .nil)))
theorem deeds_alike (ds : List Deed) : PySem.W.AllAlike (ds.map Deed.data) := by
  intro d hd e he
  obtain ⟨a, _, rfl⟩ := List.mem_map.mp hd
  obtain ⟨b, _, rfl⟩ := List.mem_map.mp he
  rfl
theorem deeds_sort (ds : List Deed) : PySem.W.Sortable (ds.map Deed.data) := .inl fun d hd => by
  obtain ⟨a, _, rfl⟩ := List.mem_map.mp hd
  exact ⟨_, _, rfl⟩
theorem deeds_of_perm {es : List PyData} {ds : List Deed} (h : es.Perm (ds.map Deed.data)) : ∃ fs : List Deed, es = fs.map Deed.data ∧ fs.Perm ds := by
  have inj : ∀ (es : List PyData), (∀ e ∈ es, ∃ d : Deed, e = d.data) → ∃ fs : List Deed, es = fs.map Deed.data := by
    intro es
    induction es with
    | nil => exact fun _ => ⟨[], rfl⟩
    | cons e es ih =>
      intro hh
      obtain ⟨d, rfl⟩ := hh e List.mem_cons_self
      obtain ⟨fs, rfl⟩ := ih fun x hx => hh x (List.mem_cons_of_mem _ hx)
      exact ⟨d :: fs, rfl⟩
  obtain ⟨fs, rfl⟩ := inj es fun e he => by
    obtain ⟨d, _, rfl⟩ := List.mem_map.mp (h.mem_iff.mp he)
    exact ⟨d, rfl⟩
  let un : PyData → Deed := fun
    | .tuple [.int i, .int w, .int t] => ⟨i.toNat, w, t.toNat⟩
    | _ => ⟨0, 0, 0⟩
  have ud : ∀ d : Deed, un d.data = d := fun d => by
    show (⟨((d.i : Nat) : Int).toNat, d.w, ((d.t : Nat) : Int).toNat⟩ : Deed) = d
    rw [Int.toNat_natCast, Int.toNat_natCast]
  have um : ∀ l : List Deed, (l.map Deed.data).map un = l := fun l => by
    rw [List.map_map]
    exact (List.map_congr_left fun d _ => ud d).trans (List.map_id l)
  have := h.map un
  rw [um, um] at this
  exact ⟨fs, rfl, this⟩
end Ct
namespace Ct
open PySem PySem.Spec PyProof.Rows L2
def Deed.back (d : Deed) : Deed := ⟨d.i, 0 - d.w, d.t⟩
theorem sign_back {w : Int} (h : Sign w) : Sign (0 - w) := by
  rcases h with rfl | rfl
  · exact .inr rfl
  · exact .inl rfl
theorem netF_backs (j : Nat) : ∀ es : List Deed, netF (es.map Deed.back) j = - netF es j
  | [] => rfl
  | d :: es => by
    show (if j = d.i then (0 - d.w) * (d.t : Int) else 0) + netF (es.map Deed.back) j = -((if j = d.i then d.w * d.t else 0) + netF es j)
    rw [netF_backs j es]
    split
    · rw [Int.sub_mul, Int.zero_mul]
      omega
    · omega
section
variable {ws qs : List Part} {xs ys : List Int} {ds es : List Deed}
theorem none_behind (hs2 : StandL qs ys) (l : ws.length = (ws ++ qs).length) : qs = [] ∧ ys = [] := by
  rw [List.length_append] at l
  have q0 : qs = [] := List.eq_nil_of_length_eq_zero (by omega)
  subst q0
  refine ⟨rfl, ?_⟩
  cases ys with
  | nil => rfl
  | cons _ _ => exact hs2.elim
theorem left_take (hw : Wheels ws) (hs : StandL ws xs) (h : ∀ d ∈ es, d.ok (ws ++ qs).length) (e : ∀ j, netF es j = netF ds j) : (rowL (ws ++ qs) es (xs ++ ys, 0)).1.take ws.length = (dueF ws xs (netF ds) 0 0).1 := by
  obtain ⟨ys', ey⟩ := left_head (qs := qs) (ys := ys) hw hs 0 h
  rw [ey, show netF es = netF ds from funext e, List.take_append_of_le_length (by rw [dueF_len _ _ _ hw hs]; omega), List.take_of_length_le (by rw [dueF_len _ _ _ hw hs]; omega)]
theorem left_sum (hw : Wheels ws) (hs : StandL ws xs) (hs2 : StandL qs ys) (h : ∀ d ∈ es, d.ok (ws ++ qs).length) (e : ∀ j, netF es j = netF ds j) (l : ws.length = (ws ++ qs).length) : (rowL (ws ++ qs) es (xs ++ ys, 0)).2 = (dueF ws xs (netF ds) 0 0).2 := by
  obtain ⟨rfl, rfl⟩ := none_behind hs2 l
  rw [List.append_nil] at h
  rw [List.append_nil, List.append_nil, left_net hw hs h, show netF es = netF ds from funext e]
theorem back_take (hw : Wheels ws) (hs : StandL ws xs) (hd : ∀ d ∈ ds, d.ok (ws ++ qs).length) (h : ∀ d ∈ es, d.ok (ws ++ qs).length) (e : ∀ j, netF es j = - netF ds j) : (rowL (ws ++ qs) es ((rowL (ws ++ qs) ds (xs ++ ys, 0)).1, 0)).1.take ws.length = xs := by
  obtain ⟨y1, e1⟩ := left_head (qs := qs) (ys := ys) hw hs 0 hd
  obtain ⟨y2, e2⟩ := row_head (qs := qs) hw hs es (netF ds) y1 0 h
  rw [show (fun j => netF ds j + netF es j) = fun _ => 0 from funext fun j => by rw [e j]; omega, due_zero 0 hw hs] at e2
  rw [e1, e2, List.take_append_of_le_length (by rw [hs.len]; omega), List.take_of_length_le (by rw [hs.len]; omega)]
theorem back_sum (hw : Wheels ws) (hs : StandL ws xs) (hs2 : StandL qs ys) (hd : ∀ d ∈ ds, d.ok (ws ++ qs).length) (h : ∀ d ∈ es, d.ok (ws ++ qs).length) (e : ∀ j, netF es j = - netF ds j) (l : ws.length = (ws ++ qs).length) : (rowL (ws ++ qs) es ((rowL (ws ++ qs) ds (xs ++ ys, 0)).1, 0)).2 = 0 - (dueF ws xs (netF ds) 0 0).2 := by
  obtain ⟨rfl, rfl⟩ := none_behind hs2 l
  rw [List.append_nil] at h hd
  rw [List.append_nil, List.append_nil, left_net hw hs hd]
  have r := row_net hw hs es (netF ds) 0 h
  rw [show (fun j => netF ds j + netF es j) = fun _ => 0 from funext fun j => by rw [e j]; omega, due_zero 0 hw hs] at r
  rw [r]
  omega
end
end Ct
namespace Ct
open PySem PySem.Spec PyProof.Rows L2
theorem w_slAt {K : PySem.W.Frag} {H : Hp} {Q : VK} {g : Addr} {xs : List Int} {n : Nat} (h : SqT K H g (xs.map V.int)) (hn : n ≤ xs.length) (q : ∀ p H', Same H H' → SqT K H' p ((xs.take n).map V.int) → Q (.ref p) H') : rSlA K (.ref g) none (some (n : Int)) H Q := by
  have cut : cutV (xs.map V.int) none (some (n : Int)) = (xs.take n).map V.int := by
    rw [cutV_map, HT.sIx_none, HT.sIx_nat, List.drop_zero, Nat.min_eq_left (by omega), Nat.sub_zero]
  refine ⟨g, _, rfl, h, fun whole => ?_, fun _ p np => q p _ (same_upd np) (.of (by rw [upd_same, cut]))⟩
  refine q g H (Same.refl H) ?_
  rw [← cut, show cutV (xs.map V.int) none (some (n : Int)) = xs.map V.int by unfold cutV; rw [whole.1, whole.2, List.drop_zero, Nat.sub_zero, List.take_length]]
  exact h
end Ct
namespace Ct
open PySem PySem.Spec PyProof.Rows L2
theorem standL_split : ∀ {ws qs : List Part} {zs : List Int}, StandL (ws ++ qs) zs → ∃ xs ys, zs = xs ++ ys ∧ StandL ws xs ∧ StandL qs ys
  | [], qs, zs, h => ⟨[], zs, rfl, trivial, h⟩
  | w :: ws, qs, z :: zs, ⟨ok, h0, h1, h⟩ => by
    obtain ⟨xs, ys, rfl, hx, hy⟩ := standL_split h
    exact ⟨z :: xs, ys, rfl, ⟨ok, h0, h1, hx⟩, hy⟩
  | _ :: _, _, [], h => h.elim
theorem eqvAll_len : ∀ {as bs : List PyData}, PyData.eqvAll as bs = true → as.length = bs.length
  | [], [], _ => rfl
  | a :: as, b :: bs, h => by
    rw [List.length_cons, List.length_cons, eqvAll_len (as := as) (bs := bs) (by
      rw [PyData.eqvAll, Bool.and_eq_true] at h
      exact h.2)]
  | [], _ :: _, h => by simp [PyData.eqvAll] at h
  | _ :: _, [], h => by simp [PyData.eqvAll] at h
theorem eqv_behind {ws qs : List Part} (h : PyData.eqv (.list ((ws ++ qs).map Part.data)) (.list (ws.map Part.data)) = true) : qs = [] := by
  rw [PyData.eqv] at h
  have := eqvAll_len h
  rw [List.length_map, List.length_map, List.length_append] at this
  exact List.eq_nil_of_length_eq_zero (by omega)
end Ct

/-! one step behind the other, many steps at once, a part ahead -/
namespace Ct
section
variable {α : Type} {f a b : α → α} {x : α}
theorem itf_conj (a b : α → α) (x : α) : ∀ n, itf (fun y => a (b y)) n (a x) = a (itf (fun y => b (a y)) n x)
  | 0 => rfl
  | n + 1 => by
    show a (b (itf (fun y => a (b y)) n (a x))) = a (b (a (itf (fun y => b (a y)) n x)))
    rw [itf_conj a b x n]
theorem ring_conj (h : Ring (fun y => b (a y)) x) : Ring (fun y => a (b y)) (a x) := by
  obtain ⟨k, k0, e⟩ := h
  exact ⟨k, k0, by rw [itf_conj, e]⟩
theorem per_conj {c : Nat} (h : Per (fun y => b (a y)) x c) : Per (fun y => a (b y)) (a x) c := by
  obtain ⟨h0, ⟨t, e⟩, least⟩ := h
  refine ⟨h0, ⟨t, by rw [itf_conj, itf_conj, e]⟩, fun c' p lt t e => least c' p lt (t + 1) ?_⟩
  rw [itf_conj, itf_conj] at e
  have e2 := congrArg b e
  rw [show t + 1 + c' = t + c' + 1 by omega]
  exact e2
theorem turns_conj {S : List α} {L M : Nat} (ha : ∀ x ∈ S, a x ∈ S) (hb : ∀ x ∈ S, b x ∈ S) (h : Turns (fun y => b (a y)) S L) (g : Turns (fun y => a (b y)) S M) : L = M :=
  Nat.dvd_antisymm (h.2.2 M fun x hx c hc => g.2.1 (a x) (ha x hx) c (per_conj hc)) (g.2.2 L fun x hx c hc => h.2.1 (b x) (hb x hx) c (per_conj hc))
theorem tail_ex : ∀ (n : Nat) (x : α), Ring f (itf f n x) → ∃ t, t ≤ n ∧ Tail f x t
  | 0, x, h => ⟨0, Nat.le_refl _, tail_zero h⟩
  | n + 1, x, h => by
    by_cases r : Ring f x
    · exact ⟨0, Nat.zero_le _, tail_zero r⟩
    · rw [itf_one] at h
      obtain ⟨t, ht, tt⟩ := tail_ex n (f x) h
      exact ⟨t + 1, by omega, tail_succ r tt⟩
theorem ahead_conj {S : List α} {p q : Nat} (ha : ∀ x ∈ S, a x ∈ S) (h : Ahead (fun y => b (a y)) S p) (g : Ahead (fun y => a (b y)) S q) : p ≤ q + 1 := by
  obtain ⟨⟨x, hx, tx⟩, _⟩ := h
  have r := ring_conj (a := a) (b := b) tx.1
  rw [← itf_conj a b] at r
  obtain ⟨t, _, tt⟩ := tail_ex _ _ r
  have tq := g.2 _ (ha x hx) t tt
  have r2 := tt.1
  rw [itf_conj] at r2
  have r3 := ring_conj (a := b) (b := a) r2
  apply Classical.byContradiction
  intro z
  exact tx.2 (t + 1) (by omega) r3
theorem itf_mul (f : α → α) (n : Nat) (x : α) : ∀ k, itf (itf f n) k x = itf f (n * k) x
  | 0 => by rw [Nat.mul_zero]; rfl
  | k + 1 => by
    show itf f n (itf (itf f n) k x) = _
    rw [itf_mul f n x k, ← itf_add, Nat.mul_succ, Nat.add_comm]
theorem ring_on (h : Ring f x) (n : Nat) : Ring f (itf f n x) := by
  obtain ⟨k, k0, e⟩ := h
  refine ⟨k, k0, ?_⟩
  rw [← itf_add, Nat.add_comm, itf_add, e]
theorem ring_mul {n : Nat} (hn : 0 < n) : Ring (itf f n) x ↔ Ring f x := by
  constructor
  · rintro ⟨k, k0, e⟩
    rw [itf_mul] at e
    exact ⟨n * k, Nat.mul_pos hn k0, e⟩
  · rintro ⟨k, k0, e⟩
    refine ⟨k, k0, ?_⟩
    rw [itf_mul]
    have r := rounds (f := f) (x := x) (j := 0) (k := k) (by rw [Nat.zero_add]; exact e) n
    rw [Nat.zero_add, Nat.mul_comm] at r
    exact r
/-- so many at a time, gone up to a whole number -/
def ups (t n : Nat) : Nat := (t + n - 1) / n
theorem ups_ge {t n : Nat} (hn : 0 < n) : t ≤ n * ups t n := by
  have h := Nat.div_add_mod (t + n - 1) n
  have l := Nat.mod_lt (t + n - 1) hn
  show t ≤ n * ((t + n - 1) / n)
  omega
theorem ups_lt {t n j : Nat} (hn : 0 < n) (h : j < ups t n) : n * j < t := by
  have h1 : j + 1 ≤ (t + n - 1) / n := h
  have h2 := (Nat.le_div_iff_mul_le hn).mp h1
  rw [Nat.add_mul, Nat.one_mul, Nat.mul_comm] at h2
  omega
theorem ups_mono {s t n : Nat} (h : s ≤ t) : ups s n ≤ ups t n := Nat.div_le_div_right (by omega)
theorem tail_mul {n t : Nat} (hn : 0 < n) (h : Tail f x t) : Tail (itf f n) x (ups t n) := by
  constructor
  · rw [itf_mul, ring_mul hn]
    have g := ups_ge (t := t) hn
    rw [show n * ups t n = n * ups t n - t + t by omega, itf_add]
    exact ring_on h.1 _
  · intro j hj
    rw [itf_mul, ring_mul hn]
    exact h.2 _ (ups_lt hn hj)
theorem ahead_mul {S : List α} {n p : Nat} (hn : 0 < n) (h : Ahead f S p) : Ahead (itf f n) S (ups p n) := by
  obtain ⟨⟨x, hx, tx⟩, most⟩ := h
  refine ⟨⟨x, hx, tail_mul hn tx⟩, fun y hy t ht => ?_⟩
  have r := ht.1
  rw [itf_mul, ring_mul hn] at r
  obtain ⟨s, _, ts⟩ := tail_ex _ _ r
  rw [tail_fun ht (tail_mul hn ts)]
  exact ups_mono (most y hy s ts)
theorem dvd_parts {c n m : Nat} (c0 : 0 < c) : c / Nat.gcd c n ∣ m ↔ c ∣ n * m := by
  have g0 : 0 < Nat.gcd c n := Nat.gcd_pos_of_pos_left n c0
  have hc : Nat.gcd c n * (c / Nat.gcd c n) = c := Nat.mul_div_cancel' (Nat.gcd_dvd_left c n)
  have hn : Nat.gcd c n * (n / Nat.gcd c n) = n := Nat.mul_div_cancel' (Nat.gcd_dvd_right c n)
  have cop : Nat.Coprime (c / Nat.gcd c n) (n / Nat.gcd c n) := Nat.coprime_div_gcd_div_gcd g0
  generalize Nat.gcd c n = g at *
  generalize c / g = c1 at *
  generalize n / g = n1 at *
  rw [← hc, ← hn, Nat.mul_assoc, Nat.mul_dvd_mul_iff_left g0]
  constructor
  · intro h
    exact Nat.dvd_trans h (Nat.dvd_mul_left _ _)
  · intro h
    exact cop.dvd_of_dvd_mul_left h
theorem per_ex : ∀ (d : Nat), 0 < d → ∀ t, itf f (t + d) x = itf f t x → ∃ c, Per f x c := fun d => by
  induction d using Nat.strongRecOn with
  | ind d ih =>
    intro d0 t e
    by_cases z : ∃ c, 0 < c ∧ c < d ∧ ∃ t, itf f (t + c) x = itf f t x
    · obtain ⟨c, c0, cd, t', e'⟩ := z
      exact ih c cd c0 t' e'
    · exact ⟨d, d0, ⟨t, e⟩, fun c c0 cd t' e' => z ⟨c, c0, cd, t', e'⟩⟩
theorem per_mul {n c : Nat} (hn : 0 < n) (h : Per f x c) : Per (itf f n) x (c / Nat.gcd c n) := by
  have c0 := h.1
  have g0 : 0 < Nat.gcd c n := Nat.gcd_pos_of_pos_left n c0
  refine ⟨Nat.div_pos (Nat.le_of_dvd c0 (Nat.gcd_dvd_left c n)) g0, ?_, fun c' p lt t e => ?_⟩
  · obtain ⟨t0, e0⟩ := h.2.1
    refine ⟨t0, ?_⟩
    obtain ⟨q, hq⟩ := (dvd_parts (n := n) (m := c / Nat.gcd c n) c0).mp (Nat.dvd_refl _)
    rw [itf_mul, itf_mul, Nat.mul_add, hq]
    have ge : t0 ≤ n * t0 := Nat.le_mul_of_pos_left t0 hn
    have e1 := itf_on (n := n * t0 - t0) (rounds e0 q)
    rw [show n * t0 - t0 + (t0 + c * q) = n * t0 + c * q by omega, show n * t0 - t0 + t0 = n * t0 by omega] at e1
    exact e1
  · rw [itf_mul, itf_mul, Nat.mul_add] at e
    have d := per_dvd h e
    have := Nat.le_of_dvd p ((dvd_parts c0).mpr d)
    omega
theorem turns_mul {S : List α} {n L : Nat} (hn : 0 < n) (h : Turns f S L) : Turns (itf f n) S (L / Nat.gcd L n) := by
  have g0 : 0 < Nat.gcd L n := Nat.gcd_pos_of_pos_left n h.1
  refine ⟨Nat.div_pos (Nat.le_of_dvd h.1 (Nat.gcd_dvd_left L n)) g0, fun y hy c hc => ?_, fun m hm => ?_⟩
  · obtain ⟨t, e⟩ := hc.2.1
    rw [itf_mul, itf_mul, Nat.mul_add] at e
    obtain ⟨c', hc'⟩ := per_ex _ (Nat.mul_pos hn hc.1) _ e
    rw [per_fun hc (per_mul hn hc'), dvd_parts hc'.1]
    exact Nat.dvd_trans (h.2.1 y hy c' hc') ((dvd_parts h.1).mp (Nat.dvd_refl _))
  · rw [dvd_parts h.1]
    refine h.2.2 _ fun y hy c hc => ?_
    exact (dvd_parts hc.1).mp (hm y hy _ (per_mul hn hc))
end
end Ct
namespace Ct
open PySem PySem.Spec PyProof.Rows L2
theorem rowL_then (ps : List Part) (ds es : List Deed) (xs : List Int) (s : Int) : rowL ps (ds ++ es) (xs, s) = ((rowL ps es ((rowL ps ds (xs, 0)).1, 0)).1, s + (rowL ps ds (xs, 0)).2 + (rowL ps es ((rowL ps ds (xs, 0)).1, 0)).2) := by
  rw [rowL_app, rowL_from ps ds xs s, rowL_from ps es]
theorem fR_app (ps : List Part) (ds es : List Deed) : fR ps (ds ++ es) = fun y => fR ps es (fR ps ds y) := by
  funext y
  show (rowL ps (ds ++ es) (y, 0)).1 = _
  rw [rowL_then]
  rfl
def repD (n : Nat) (ds : List Deed) : List Deed := (List.replicate n ds).flatten
theorem repD_succ (n : Nat) (ds : List Deed) : repD (n + 1) ds = ds ++ repD n ds := by
  unfold repD
  rw [List.replicate_succ, List.flatten_cons]
theorem repD_mem {n : Nat} {ds : List Deed} {d : Deed} (h : d ∈ repD n ds) : d ∈ ds := by
  obtain ⟨l, hl, hd⟩ := List.mem_flatten.mp h
  rw [(List.mem_replicate.mp hl).2] at hd
  exact hd
theorem repD_len (n : Nat) (ds : List Deed) : (repD n ds).length = n * ds.length := by
  induction n with
  | zero => rw [Nat.zero_mul]; rfl
  | succ n ih => rw [repD_succ, List.length_append, ih, Nat.add_mul, Nat.one_mul, Nat.add_comm]
theorem rowL_rep (ps : List Part) (ds : List Deed) : ∀ (n : Nat) (xs : List Int), rowL ps (repD n ds) (xs, 0) = itR ps ds n xs
  | 0, xs => rfl
  | n + 1, xs => by
    rw [repD_succ, rowL_then, rowL_rep ps ds n, Nat.add_comm n 1, itR_add 1 xs n]
    rfl
theorem fR_rep (ps : List Part) (ds : List Deed) (n : Nat) : fR ps (repD n ds) = itf (fR ps ds) n := by
  funext y
  show (rowL ps (repD n ds) (y, 0)).1 = _
  rw [rowL_rep, itR_itf]
theorem itR_rep (ps : List Part) (ds : List Deed) (n : Nat) (xs : List Int) : ∀ m, itR ps (repD n ds) m xs = itR ps ds (m * n) xs
  | 0 => by rw [Nat.zero_mul]; rfl
  | m + 1 => by
    show ((rowL ps (repD n ds) ((itR ps (repD n ds) m xs).1, 0)).1, (itR ps (repD n ds) m xs).2 + (rowL ps (repD n ds) ((itR ps (repD n ds) m xs).1, 0)).2) = _
    rw [itR_rep ps ds n xs m, rowL_rep, Nat.add_mul, Nat.one_mul, itR_add]
theorem itR_step (ps : List Part) (ds : List Deed) (n : Nat) (xs : List Int) : itR ps ds (n + 1) xs = rowL ps ds (itR ps ds n xs) := by
  show ((rowL ps ds ((itR ps ds n xs).1, 0)).1, (itR ps ds n xs).2 + (rowL ps ds ((itR ps ds n xs).1, 0)).2) = _
  rw [← rowL_from]
theorem itR_turn (ps : List Part) (ds es : List Deed) (xs : List Int) : ∀ n, rowL ps ds (itR ps (ds ++ es) n xs) = ((itR ps (es ++ ds) n (rowL ps ds (xs, 0)).1).1, (rowL ps ds (xs, 0)).2 + (itR ps (es ++ ds) n (rowL ps ds (xs, 0)).1).2)
  | 0 => by
    show rowL ps ds (xs, 0) = ((rowL ps ds (xs, 0)).1, (rowL ps ds (xs, 0)).2 + 0)
    rw [Int.add_zero]
  | n + 1 => by
    rw [itR_step, rowL_app, itR_turn ps ds es xs n, ← rowL_app]
    rw [rowL_from]
    show _ = ((rowL ps (es ++ ds) ((itR ps (es ++ ds) n (rowL ps ds (xs, 0)).1).1, 0)).1, (rowL ps ds (xs, 0)).2 + ((itR ps (es ++ ds) n (rowL ps ds (xs, 0)).1).2 + (rowL ps (es ++ ds) ((itR ps (es ++ ds) n (rowL ps ds (xs, 0)).1).1, 0)).2))
    rw [Int.add_assoc]
/-- the first, so many times the second and the first, then the second -/
theorem itR_about (ps : List Part) (ds es : List Deed) (xs : List Int) (n : Nat) : itR ps (ds ++ es) (n + 1) xs = ((rowL ps es ((itR ps (es ++ ds) n (rowL ps ds (xs, 0)).1).1, 0)).1, (rowL ps ds (xs, 0)).2 + (itR ps (es ++ ds) n (rowL ps ds (xs, 0)).1).2 + (rowL ps es ((itR ps (es ++ ds) n (rowL ps ds (xs, 0)).1).1, 0)).2) := by
  rw [itR_step, rowL_app, itR_turn, rowL_from]
theorem fR_stands {ps : List Part} {ds : List Deed} (ok : ∀ p ∈ ps, p.ok) (hd : ∀ d ∈ ds, d.ok ps.length) : ∀ x ∈ allS ps, fR ps ds x ∈ allS ps := fun x hx =>
  (allS_mem ok _).mpr (itf_stand (n := 1) ((allS_mem ok x).mp hx) hd)
theorem rounds_about {ps : List Part} {ds es : List Deed} {L M : Nat} (ok : ∀ p ∈ ps, p.ok) (hd : ∀ d ∈ ds, d.ok ps.length) (he : ∀ d ∈ es, d.ok ps.length) (h : Turns (fR ps (ds ++ es)) (allS ps) L) (g : Turns (fR ps (es ++ ds)) (allS ps) M) : L = M := by
  rw [fR_app] at h g
  exact turns_conj (fR_stands ok hd) (fR_stands ok he) h g
theorem aheads_about {ps : List Part} {ds es : List Deed} {x y : Nat} (ok : ∀ p ∈ ps, p.ok) (hd : ∀ d ∈ ds, d.ok ps.length) (h : Ahead (fR ps (ds ++ es)) (allS ps) x) (g : Ahead (fR ps (es ++ ds)) (allS ps) y) : x ≤ y + 1 := by
  rw [fR_app] at h g
  exact ahead_conj (fR_stands ok hd) h g
/-! wheels alone -/
theorem wheels_about {ps : List Part} {ds es : List Deed} {xs : List Int} (hw : Wheels ps) (hs : StandL ps xs) (hd : ∀ d ∈ ds, d.ok ps.length) (he : ∀ d ∈ es, d.ok ps.length) : rowL ps (ds ++ es) (xs, 0) = rowL ps (es ++ ds) (xs, 0) := by
  have a1 : ∀ d ∈ ds ++ es, d.ok ps.length := fun d h => (List.mem_append.mp h).elim (hd d) (he d)
  have a2 : ∀ d ∈ es ++ ds, d.ok ps.length := fun d h => (List.mem_append.mp h).elim (he d) (hd d)
  rw [left_net hw hs a1, left_net hw hs a2]
  exact dueF_congr _ _ _ _ fun j _ => by rw [netF_app, netF_app, Int.add_comm]
theorem wheels_back {ps : List Part} {ds : List Deed} {xs : List Int} (hw : Wheels ps) (hs : StandL ps xs) (hd : ∀ d ∈ ds, d.ok ps.length) : fR ps (ds.map Deed.back) (fR ps ds xs) = xs := by
  have hb : ∀ d ∈ ds.map Deed.back, d.ok ps.length := fun d h => by
    obtain ⟨e, he, rfl⟩ := List.mem_map.mp h
    exact ⟨(hd e he).1, sign_back (hd e he).2⟩
  have a1 : ∀ d ∈ ds ++ ds.map Deed.back, d.ok ps.length := fun d h => (List.mem_append.mp h).elim (hd d) (hb d)
  have e := congrFun (fR_app ps ds (ds.map Deed.back)) xs
  refine e.symm.trans ?_
  show (rowL ps (ds ++ ds.map Deed.back) (xs, 0)).1 = xs
  rw [left_net hw hs a1, dueF_congr (g := fun _ => 0) _ _ _ _ fun j _ => by rw [netF_app, netF_backs, Int.add_right_neg], due_zero 0 hw hs]
theorem wheels_ring {ps : List Part} {ds : List Deed} {xs : List Int} (hw : Wheels ps) (hs : StandL ps xs) (hd : ∀ d ∈ ds, d.ok ps.length) {t : Nat} (h : Tail (fR ps ds) xs t) : t = 0 := by
  cases t with
  | zero => rfl
  | succ t =>
    obtain ⟨k, k0, e⟩ := h.1
    have st := itf_stand hs hd t
    have e2 : fR ps ds (itf (fR ps ds) k (itf (fR ps ds) t xs)) = fR ps ds (itf (fR ps ds) t xs) := by
      rw [show itf (fR ps ds) (t + 1) xs = fR ps ds (itf (fR ps ds) t xs) from rfl, ← itf_one] at e
      exact e
    have e3 := congrArg (fR ps (ds.map Deed.back)) e2
    rw [wheels_back hw (itf_stand st hd k) hd, wheels_back hw st hd] at e3
    exact absurd ⟨k, k0, e3⟩ (h.2 t (Nat.lt_succ_self t))
theorem wheels_ahead {ps : List Part} {ds : List Deed} {x : Nat} (ok : ∀ p ∈ ps, p.ok) (hw : Wheels ps) (hd : ∀ d ∈ ds, d.ok ps.length) (h : Ahead (fR ps ds) (allS ps) x) : x = 0 := by
  obtain ⟨⟨y, hy, ty⟩, _⟩ := h
  exact wheels_ring hw ((allS_mem ok y).mp hy) hd ty
/-! a part ahead -/
def Deed.up (d : Deed) : Deed := ⟨d.i + 1, d.w, d.t⟩
theorem rowL_up (p : Part) (ps : List Part) (x : Int) : ∀ (ds : List Deed) (xs : List Int) (s : Int), rowL (p :: ps) (ds.map Deed.up) (x :: xs, s) = (x :: (rowL ps ds (xs, s)).1, (rowL ps ds (xs, s)).2)
  | [], _, _ => rfl
  | d :: ds, xs, s => rowL_up p ps x ds (deedL ps xs d).1 (s + (deedL ps xs d).2)
theorem itf_up (p : Part) (ps : List Part) (ds : List Deed) (x : Int) (xs : List Int) : ∀ n, itf (fR (p :: ps) (ds.map Deed.up)) n (x :: xs) = x :: itf (fR ps ds) n xs
  | 0 => rfl
  | n + 1 => by
    show fR (p :: ps) (ds.map Deed.up) (itf (fR (p :: ps) (ds.map Deed.up)) n (x :: xs)) = _
    rw [itf_up p ps ds x xs n]
    show (rowL (p :: ps) (ds.map Deed.up) (x :: itf (fR ps ds) n xs, 0)).1 = _
    rw [rowL_up]
    rfl
theorem ring_up {p : Part} {ps : List Part} {ds : List Deed} {x : Int} {xs : List Int} : Ring (fR (p :: ps) (ds.map Deed.up)) (x :: xs) ↔ Ring (fR ps ds) xs := by
  constructor
  · rintro ⟨k, k0, e⟩
    rw [itf_up] at e
    exact ⟨k, k0, (List.cons.inj e).2⟩
  · rintro ⟨k, k0, e⟩
    exact ⟨k, k0, by rw [itf_up, e]⟩
theorem tail_up {p : Part} {ps : List Part} {ds : List Deed} {x : Int} {xs : List Int} {t : Nat} : Tail (fR (p :: ps) (ds.map Deed.up)) (x :: xs) t ↔ Tail (fR ps ds) xs t := by
  unfold Tail
  simp only [itf_up, ring_up]
theorem per_up {p : Part} {ps : List Part} {ds : List Deed} {x : Int} {xs : List Int} {c : Nat} : Per (fR (p :: ps) (ds.map Deed.up)) (x :: xs) c ↔ Per (fR ps ds) xs c := by
  unfold Per
  simp only [itf_up, List.cons.injEq, true_and, ne_eq]
theorem mem_up {p : Part} {ps : List Part} {x : Int} {xs : List Int} (hp : p.ok) (ok : ∀ p ∈ ps, p.ok) (h0 : 0 ≤ x) (h1 : x < p.places) (h : xs ∈ allS ps) : x :: xs ∈ allS (p :: ps) :=
  (allS_mem (fun q hq => (List.mem_cons.mp hq).elim (fun e => e ▸ hp) (ok q)) _).mpr ⟨hp, h0, h1, (allS_mem ok xs).mp h⟩
theorem up_mem {p : Part} {ps : List Part} {ys : List Int} (hp : p.ok) (ok : ∀ p ∈ ps, p.ok) (h : ys ∈ allS (p :: ps)) : ∃ x xs, ys = x :: xs ∧ xs ∈ allS ps := by
  have st := (allS_mem (fun q hq => (List.mem_cons.mp hq).elim (fun e => e ▸ hp) (ok q)) ys).mp h
  match ys, st with
  | x :: xs, ⟨_, _, _, st⟩ => exact ⟨x, xs, rfl, (allS_mem ok xs).mpr st⟩
theorem ahead_up {p : Part} {ps : List Part} {ds : List Deed} {a : Nat} (hp : p.ok) (ok : ∀ p ∈ ps, p.ok) (h : Ahead (fR ps ds) (allS ps) a) : Ahead (fR (p :: ps) (ds.map Deed.up)) (allS (p :: ps)) a := by
  have po := hp.pos.1
  obtain ⟨⟨y, hy, ty⟩, most⟩ := h
  refine ⟨⟨0 :: y, mem_up hp ok (Int.le_refl _) (by omega) hy, tail_up.mpr ty⟩, fun z hz t tz => ?_⟩
  obtain ⟨x, xs, rfl, hxs⟩ := up_mem hp ok hz
  exact most xs hxs t (tail_up.mp tz)
theorem turns_up {p : Part} {ps : List Part} {ds : List Deed} {L : Nat} (hp : p.ok) (ok : ∀ p ∈ ps, p.ok) (h : Turns (fR ps ds) (allS ps) L) : Turns (fR (p :: ps) (ds.map Deed.up)) (allS (p :: ps)) L := by
  have po := hp.pos.1
  refine ⟨h.1, fun z hz c hc => ?_, fun m hm => h.2.2 m fun y hy c hc => hm (0 :: y) (mem_up hp ok (Int.le_refl _) (by omega) hy) c (per_up.mpr hc)⟩
  obtain ⟨x, xs, rfl, hxs⟩ := up_mem hp ok hz
  exact h.2.1 xs hxs c (per_up.mp hc)
theorem fa_up {p : Part} {ps : List Part} {one other : List Deed} (hp : p.ok) (ok : ∀ p ∈ ps, p.ok) (h1 : DeedsOk (0 + ps.length) one) (h2 : DeedsOk (0 + ps.length) other) (g1 : DeedsOk (0 + (p :: ps).length) (one.map Deed.up)) (g2 : DeedsOk (0 + (p :: ps).length) (other.map Deed.up)) : fa (p :: ps) 0 (one.map Deed.up) (other.map Deed.up) = (fa ps 0 one other).map ((0 : Int) :: ·) := by
  have po := hp.pos.1
  rw [fa_spec (p :: ps) 0 _ _ (fun q hq => (List.mem_cons.mp hq).elim (fun e => e ▸ hp) (ok q)) g1 g2, fa_spec ps 0 _ _ ok h1 h2, allS_cons, List.find?_flatMap]
  have each : ∀ x : Nat, List.find? (unl (p :: ps) 0 (one.map Deed.up) (other.map Deed.up)) ((allS ps).map ((x : Int) :: ·)) = (List.find? (unl ps 0 one other) (allS ps)).map ((x : Int) :: ·) := fun x => by
    rw [List.find?_map]
    congr 1
    congr 1
    funext xs
    show unl (p :: ps) 0 (one.map Deed.up) (other.map Deed.up) ((x : Int) :: xs) = _
    rw [unl0, unl0, rowL_up, rowL_up]
    refine decide_eq_decide.mpr (not_congr ?_)
    constructor
    · intro e
      have e1 := congrArg (fun z : List Int × Int => z.1) e
      have e2 := congrArg (fun z : List Int × Int => z.2) e
      exact Prod.ext (List.cons.inj e1).2 e2
    · intro e
      rw [e]
  simp only [each]
  obtain ⟨n, hn⟩ : ∃ n, p.places.toNat = n + 1 := ⟨p.places.toNat - 1, by omega⟩
  rw [hn]
  cases List.find? (unl ps 0 one other) (allS ps) with
  | none =>
    simp only [Option.map_none]
    exact List.findSome?_eq_none_iff.mpr fun x _ => rfl
  | some s =>
    rw [List.range_succ_eq_map, List.findSome?_cons]
    rfl
theorem up_ok {ds : List Deed} {n : Nat} (h : ∀ d ∈ ds, d.ok n ∧ d.t < 2 ^ 200) : ∀ d ∈ ds.map Deed.up, d.ok (n + 1) ∧ d.t < 2 ^ 200 := fun d hd => by
  obtain ⟨e, he, rfl⟩ := List.mem_map.mp hd
  exact ⟨⟨Nat.succ_lt_succ (h e he).1.1, (h e he).1.2⟩, (h e he).2⟩
theorem stands_join : ∀ (ps qs : List Part), stands (ps ++ qs) = stands ps * stands qs
  | [], qs => by show stands qs = 1 * stands qs; rw [Int.one_mul]
  | p :: ps, qs => by
    show p.places * stands (ps ++ qs) = p.places * stands ps * stands qs
    rw [stands_join ps qs, Int.mul_assoc]
theorem stands_ins (ps : List Part) (q : Part) (k : Nat) : stands (ps.take k ++ [q] ++ ps.drop k) = stands ps * q.places := by
  have e : stands ps = stands (ps.take k) * stands (ps.drop k) := by rw [← stands_join, List.take_append_drop]
  rw [stands_join, stands_join, e]
  show stands (ps.take k) * (q.places * 1) * stands (ps.drop k) = stands (ps.take k) * stands (ps.drop k) * q.places
  rw [Int.mul_one, Int.mul_assoc, Int.mul_assoc, Int.mul_comm q.places]
theorem dp_rep {K : PySem.W.Frag} {H : Hp} {vs : List V} {ds : List Deed} (h : DpAll K H vs (ds.map Deed.data)) : ∀ n, DpAll K H (List.replicate n vs).flatten ((repD n ds).map Deed.data)
  | 0 => .nil
  | n + 1 => by
    rw [List.replicate_succ, List.flatten_cons, repD_succ, List.map_append]
    exact dpAll_app h (dp_rep h n)
theorem ups_int {x n : Nat} (h1 : 1 ≤ n) (h5 : n ≤ 5) : (0 : Int) - (0 - (x : Int)) / (n : Int) = ((ups x n : Nat) : Int) := by
  have : n = 1 ∨ n = 2 ∨ n = 3 ∨ n = 4 ∨ n = 5 := by omega
  unfold ups
  rcases this with rfl | rfl | rfl | rfl | rfl <;> omega
/-- what row_round tells, as numbers -/
def rndL (p : Nat × Nat) : List Int := [(p.1 : Int), (p.2 : Int)]
def RndOf (ps : List Part) (ds : List Deed) (p : Nat × Nat) : Prop := Ahead (fR ps ds) (allS ps) p.1 ∧ Turns (fR ps ds) (allS ps) p.2
theorem bools_all : ∀ n : Nat, (List.replicate n true).all id = true
  | 0 => rfl
  | n + 1 => by rw [List.replicate_succ, List.all_cons, bools_all n]; rfl
end Ct

local macro_rules | `(tactic| walk_at "ct") => `(tactic| repeat (first
  | with_reducible refine Ct.w_seq ?_ | with_reducible refine Ct.w_gen ?_ | with_reducible refine Ct.w_asg ?_ | with_reducible refine Ct.w_ret ?_ | with_reducible refine Ct.w_ifS ?_ | with_reducible refine Ct.w_drop ?_ | with_reducible refine Ct.w_next ?_
  | with_reducible refine Ct.w_op ?_ | with_reducible refine Ct.w_c ?_ | with_reducible refine Ct.w_chain ?_ | with_reducible refine Ct.w_un ?_ | with_reducible refine Ct.w_test ?_ | with_reducible refine Ct.w_B ?_ | with_reducible refine Ct.w_and ?_ | with_reducible refine Ct.w_or ?_ | with_reducible refine Ct.w_not ?_ | with_reducible refine Ct.w_if ?_
  | with_reducible refine Ct.w_andV ?_ | with_reducible refine Ct.w_orV ?_ | with_reducible refine Ct.w_notV ?_
  | with_reducible refine Ct.w_nil ?_ | with_reducible refine Ct.w_cons ?_ | with_reducible refine Ct.w_cb ?_ | with_reducible refine Ct.w_call ?_ | with_reducible refine Ct.w_tup ?_ | with_reducible refine Ct.w_lst ?_ | with_reducible refine Ct.w_bm ?_
  | with_reducible refine Ct.w_for ?_ | with_reducible refine Ct.w_rng1 ?_ | with_reducible refine Ct.w_rng2 ?_ | with_reducible refine Ct.w_ilist ?_ | with_reducible refine Ct.w_itup ?_ | with_reducible refine Ct.w_im ?_ | with_reducible refine Ct.w_enum ?_ | with_reducible refine Ct.w_irev ?_ | with_reducible refine Ct.w_dcT ?_ | with_reducible refine Ct.w_bm0 ?_ | with_reducible refine Ct.w_dnewT ?_ | with_reducible refine Ct.w_dnotin ?_ | with_reducible refine Ct.w_dget ?_ | with_reducible refine Ct.w_dput ?_ | with_reducible refine Ct.w_lc ?_ | with_reducible refine Ct.w_lc2 ?_ | with_reducible refine Ct.w_star ?_ | with_reducible refine Ct.w_revL ?_ | with_reducible refine Ct.w_yes ?_
  | with_reducible refine Ct.w_gcons ?_ | with_reducible refine Ct.w_gnil ?_ | with_reducible refine Ct.w_gsub ?_ | with_reducible refine Ct.w_sl ?_ | with_reducible refine Ct.w_nopart ?_ | with_reducible refine Ct.w_part ?_
  | with_reducible refine Ct.w_rI0 ?_ | with_reducible refine Ct.w_rU ?_ | with_reducible refine Ct.w_rEqI ?_ | with_reducible refine Ct.w_rNeI ?_ | with_reducible refine Ct.w_ipI ?_ | with_reducible refine Ct.w_bl ?_ | with_reducible refine Ct.w_in ?_ | with_reducible refine Ct.w_break ?_ | with_reducible refine Ct.w_cont ?_ | with_reducible refine Ct.w_nT ?_ | with_reducible refine Ct.w_nF ?_ | with_reducible refine L2.iteT ?_ | with_reducible refine L2.iteF ?_
  | ((with_reducible refine Ct.w_rEqS (b := true) ?ceq ?_); (case ceq => decide +kernel)) | ((with_reducible refine Ct.w_rEqS (b := false) ?ceq ?_); (case ceq => decide +kernel))
  | with_reducible refine Ct.w_var rfl ?_
  | ((with_reducible refine' Ct.w_ixT ?cas ?cix ?_); (case cas => assumption); (case cix => first | exact Ct.at0 | exact Ct.at1 | exact Ct.at2 | exact rfl))
  | ((with_reducible refine' Ct.w_name ?cnm ?_); (case cnm => simp only [L2.wipe, List.map, List.set_cons_zero, List.set_cons_succ]; exact rfl)) ))
local macro_rules | `(tactic| walk_at "cq") => `(tactic| repeat (first
  | with_reducible refine Ct.w_gen ?_ | with_reducible refine Ct.w_asg ?_ | with_reducible refine Ct.w_ret ?_ | with_reducible refine Ct.w_ifS ?_ | with_reducible refine Ct.w_drop ?_ | with_reducible refine Ct.w_next ?_
  | with_reducible refine Ct.w_op ?_ | with_reducible refine Ct.w_c ?_ | with_reducible refine Ct.w_chain ?_ | with_reducible refine Ct.w_un ?_ | with_reducible refine Ct.w_test ?_ | with_reducible refine Ct.w_B ?_ | with_reducible refine Ct.w_and ?_ | with_reducible refine Ct.w_or ?_ | with_reducible refine Ct.w_not ?_ | with_reducible refine Ct.w_if ?_
  | with_reducible refine Ct.w_andV ?_ | with_reducible refine Ct.w_orV ?_ | with_reducible refine Ct.w_notV ?_
  | with_reducible refine Ct.w_nil ?_ | with_reducible refine Ct.w_cons ?_ | with_reducible refine Ct.w_cb ?_ | with_reducible refine Ct.w_call ?_ | with_reducible refine Ct.w_tup ?_ | with_reducible refine Ct.w_lst ?_ | with_reducible refine Ct.w_bm ?_
  | with_reducible refine Ct.w_for ?_ | with_reducible refine Ct.w_rng1 ?_ | with_reducible refine Ct.w_rng2 ?_ | with_reducible refine Ct.w_ilist ?_ | with_reducible refine Ct.w_itup ?_ | with_reducible refine Ct.w_im ?_ | with_reducible refine Ct.w_enum ?_ | with_reducible refine Ct.w_irev ?_ | with_reducible refine Ct.w_dcT ?_ | with_reducible refine Ct.w_bm0 ?_ | with_reducible refine Ct.w_dnewT ?_ | with_reducible refine Ct.w_dnotin ?_ | with_reducible refine Ct.w_dget ?_ | with_reducible refine Ct.w_dput ?_ | with_reducible refine Ct.w_lc ?_ | with_reducible refine Ct.w_lc2 ?_ | with_reducible refine Ct.w_star ?_ | with_reducible refine Ct.w_revL ?_ | with_reducible refine Ct.w_yes ?_
  | with_reducible refine Ct.w_gcons ?_ | with_reducible refine Ct.w_gnil ?_ | with_reducible refine Ct.w_gsub ?_ | with_reducible refine Ct.w_sl ?_ | with_reducible refine Ct.w_nopart ?_ | with_reducible refine Ct.w_part ?_
  | with_reducible refine Ct.w_rI0 ?_ | with_reducible refine Ct.w_rU ?_ | with_reducible refine Ct.w_rEqI ?_ | with_reducible refine Ct.w_rNeI ?_ | with_reducible refine Ct.w_ipI ?_ | with_reducible refine Ct.w_bl ?_ | with_reducible refine Ct.w_in ?_ | with_reducible refine Ct.w_break ?_ | with_reducible refine Ct.w_cont ?_ | with_reducible refine Ct.w_nT ?_ | with_reducible refine Ct.w_nF ?_ | with_reducible refine L2.iteT ?_ | with_reducible refine L2.iteF ?_
  | ((with_reducible refine Ct.w_rEqS (b := true) ?ceq ?_); (case ceq => decide +kernel)) | ((with_reducible refine Ct.w_rEqS (b := false) ?ceq ?_); (case ceq => decide +kernel))
  | with_reducible refine Ct.w_var rfl ?_
  | ((with_reducible refine' Ct.w_ixT ?cas ?cix ?_); (case cas => assumption); (case cix => first | exact Ct.at0 | exact Ct.at1 | exact Ct.at2 | exact rfl))
  | ((with_reducible refine' Ct.w_name ?cnm ?_); (case cnm => simp only [L2.wipe, List.map, List.set_cons_zero, List.set_cons_succ]; exact rfl)) ))

namespace My
open PySem PySem.Spec PyProof.Rows L2 Ct
def topS (i : Nat) : Stmt := PySem.Challenge.pw_clicktrain_k15_whole_rows_put_together.main.body.getD i (.Pass ⟨0, 0, 0, 0⟩)
section
variable {P : Program} {w : World} {K : PySem.W.Frag} {mg : Str → Option Value} {base : Heap}
abbrev S_is_whole : Stmt := topS 7
theorem sc_is_whole : FnScope ["thing"] ["thing"] (defScope S_is_whole) := ⟨rfl, rfl, rfl, by decide +kernel, rfl, by decide +kernel, by decide +kernel⟩
def sp_is_whole (K : PySem.W.Frag) : Sp := fun vs H Q _ => ∃ (v : V) (d : PyData), vs = [v] ∧ Dp K H v d ∧ Q (.bl (isW d)) H
theorem ok_is_whole {f : Addr} {fd : FuncData} (F : Fun K "is_whole" "is_whole" S_is_whole f fd) (m_isinstance : mg "isinstance" = none) (m_int : mg "int" = none) (m_bool : mg "bool" = none) :
    FnOk P w K mg base CX0 1 f fd ["thing"] (sp_is_whole K) := by
  refine F.ok sc_is_whole (fun vs H Q E h => ?_) (fun cdv A outer s H vs Q E hr h => ?_)
  ·
    obtain ⟨v, d, rfl, _⟩ := h
    rfl
  ·
    obtain ⟨v, d, rfl, hd, q⟩ := h
    refine ⟨_, (pss_one (ps_ret (pe_and (pe_callB (r := rIsi K) call_isi (by rfl) m_isinstance (by decide +kernel) (pa_cons (pv 0) (pa_cons (pe_bltn (v := .ty "int") (u := .type "int") (by rfl) m_int (by decide +kernel) rfl) pa_nil))) (pe_one (pe_not (pe_callB (r := rIsi K) call_isi (by rfl) m_isinstance (by decide +kernel) (pa_cons (pv 0) (pa_cons (pe_bltn (v := .ty "bool") (u := .type "bool") (by rfl) m_bool (by decide +kernel) rfl) pa_nil)))))))), ?_⟩
    refine w_st (σ' := [some v]) rfl ?_
    walk_at "ct"
    cases hd with
    | non =>
      refine w_isi (b := false) (.base .non) (kit_ty (by decide +kernel)) ?_
      walk_at "ct"
      exact q
    | bl b =>
      refine w_isi (b := true) (.base (.bl b)) (kit_ty (by decide +kernel)) ?_
      walk_at "ct"
      refine w_isi (b := true) (.base (.bl b)) (kit_ty (by decide +kernel)) ?_
      walk_at "ct"
      exact q
    | int i =>
      refine w_isi (b := true) (.base (.int i)) (kit_ty (by decide +kernel)) ?_
      walk_at "ct"
      refine w_isi (b := false) (.base (.int i)) (kit_ty (by decide +kernel)) ?_
      walk_at "ct"
      exact q
    | str x =>
      refine w_isi (b := false) (.base (.str x)) (kit_ty (by decide +kernel)) ?_
      walk_at "ct"
      exact q
    | lst hs ht =>
      refine w_isi (b := false) (tyx_L hs) (kit_ty (by decide +kernel)) ?_
      walk_at "ct"
      exact q
    | tup hs ht =>
      refine w_isi (b := false) (tyx_T hs) (kit_ty (by decide +kernel)) ?_
      walk_at "ct"
      exact q
abbrev S_are_marks : Stmt := topS 8
theorem sc_are_marks : FnScope ["thing", "teeth", "last", "mark"] ["thing", "teeth"] (defScope S_are_marks) := ⟨rfl, rfl, rfl, by decide +kernel, rfl, by decide +kernel, by decide +kernel⟩
def sp_are_marks (K : PySem.W.Frag) : Sp := fun vs H Q _ => ∃ (v : V) (d : PyData) (z : Int), vs = [v, .int z] ∧ Dp K H v d ∧ Q (.bl (areM d z)) H
theorem ok_are_marks {f : Addr} {fd : FuncData} {f_is_whole : Addr} {fd_is_whole : FuncData} (F : Fun K "are_marks" "are_marks" S_are_marks f fd)
    (F_is_whole : Fun K "is_whole" "is_whole" S_is_whole f_is_whole fd_is_whole) (b_is_whole : Binds K fd_is_whole ["thing"] []) (g_is_whole : mg "is_whole" = some (.ref f_is_whole)) (G_is_whole : FnOk P w K mg base CX0 1 f_is_whole fd_is_whole ["thing"] (sp_is_whole K)) (m_isinstance : mg "isinstance" = none) (m_tuple : mg "tuple" = none) :
    FnOk P w K mg base CX0 2 f fd ["thing", "teeth"] (sp_are_marks K) := by
  refine F.ok sc_are_marks (fun vs H Q E h => ?_) (fun cdv A outer s H vs Q E hr h => ?_)
  ·
    obtain ⟨v, d, z, rfl, _⟩ := h
    rfl
  ·
    obtain ⟨v, d, z, rfl, hd, q⟩ := h
    refine ⟨_, (pss_cons (ps_if (pt_not (pt_val (pe_callB (r := rIsi K) call_isi (by rfl) m_isinstance (by decide +kernel) (pa_cons (pv 0) (pa_cons (pe_bltn (v := .ty "tuple") (u := .type "tuple") (by rfl) m_tuple (by decide +kernel) rfl) pa_nil))))) (pss_one (ps_ret pe_bl)) pss_nil)
      (pss_cons (ps_set (i := 2) sc_are_marks.nd rfl (.inl rfl) (pe_un un_neg pe_int))
      (pss_cons (ps_for PassesOwn.never rfl (pi_tup (pv 0)) (pg_name (i := 3) sc_are_marks.nd rfl (.inl rfl))
      (pss_cons (ps_if (PW.pt (pw_or (pt_not (pt_val (pe_call G_is_whole (hr.mono (by decide)) (by rfl) g_is_whole F_is_whole.kp b_is_whole .nil pass0 (pa_cons (pv 3) pa_nil)))) (pw_or (pt_cmpR op_le (pv 3) (pv 2) (nomark _)) (pw_or1 (pt_cmpR op_ge (pv 3) (pv 1) (nomark _)))))) (pss_one (ps_ret pe_bl)) pss_nil)
      (pss_one (ps_set (i := 2) sc_are_marks.nd rfl (.inl rfl) (pv 3)))))
      (pss_one (ps_ret pe_bl))))), ?_⟩
    refine w_st (σ' := [some v, some (.int z), none, none]) rfl ?_
    walk_at "ct"
    cases hd with
    | non =>
      refine w_isi (b := false) (.base .non) (kit_ty (by decide +kernel)) ?_
      walk_at "ct"
      exact q
    | bl b =>
      refine w_isi (b := false) (.base (.bl b)) (kit_ty (by decide +kernel)) ?_
      walk_at "ct"
      exact q
    | int i =>
      refine w_isi (b := false) (.base (.int i)) (kit_ty (by decide +kernel)) ?_
      walk_at "ct"
      exact q
    | str x =>
      refine w_isi (b := false) (.base (.str x)) (kit_ty (by decide +kernel)) ?_
      walk_at "ct"
      exact q
    | lst hs ht =>
      refine w_isi (b := false) (tyx_L hs) (kit_ty (by decide +kernel)) ?_
      walk_at "ct"
      exact q
    | @tup a xs ds hs ht =>
      refine w_isi (b := true) (tyx_T hs) (kit_ty (by decide +kernel)) ?_
      walk_at "ct"
      refine w_IT hs ?_
      have hxl := dpAll_len ht
      refine fb_tup xs (fun n σ H' => ∃ (last : Int) (y : Option V), σ = [some (.ref a), some (.int z), some (.int last), y] ∧ H' = H ∧ risesD (-1) z ds = risesD last z (ds.drop n)) ⟨-1, none, rfl, rfl, rfl⟩ ?_ ?_ ?_
      · rintro n σ H' hn ⟨last, y, rfl, rfl, _⟩
        exact hs
      · rintro n x σ H' hx ⟨last, y, rfl, rfl, hr⟩
        have hn : n < xs.length := (List.getElem?_eq_some_iff.mp hx).1
        obtain ⟨e, he⟩ : ∃ e, ds[n]? = some e := ⟨_, List.getElem?_eq_getElem (by omega)⟩
        obtain ⟨x', hx', hde⟩ := dpAll_get ht he
        cases Option.some.inj (hx.symm.trans hx')
        have hdr : ds.drop n = e :: ds.drop (n + 1) := by
          rw [List.drop_eq_getElem_cons (by omega)]
          congr 1
          rw [List.getElem?_eq_getElem (by omega)] at he
          exact Option.some.inj he
        rw [hdr] at hr
        have hq : risesD last z (e :: ds.drop (n + 1)) = false → Q (.bl false) H' := fun z => by
          rw [z] at hr
          rw [show areM (.tuple ds) _ = risesD (-1) _ ds from rfl, hr] at q
          exact q
        walk_at "ct"
        refine ⟨x, e, rfl, hde, ?_⟩
        cases hde with
        | int m =>
          refine w_bl (w_nT ?_)
          walk_at "ct"
          refine w_ite (fun e1 => ?_) (fun e1 => ?_)
          · walk_at "ct"
            exact hq (if_pos (.inl e1))
          · walk_at "ct"
            refine w_ite (fun e2 => ?_) (fun e2 => ?_)
            · walk_at "ct"
              exact hq (if_pos (.inr e2))
            · walk_at "ct"
              exact ⟨m, _, rfl, rfl, hr.trans (if_neg (by omega))⟩
        | non =>
          refine w_bl (w_nF ?_)
          walk_at "ct"
          exact hq rfl
        | bl b =>
          refine w_bl (w_nF ?_)
          walk_at "ct"
          exact hq rfl
        | str s =>
          refine w_bl (w_nF ?_)
          walk_at "ct"
          exact hq rfl
        | lst h1 h2 =>
          refine w_bl (w_nF ?_)
          walk_at "ct"
          exact hq rfl
        | tup h1 h2 =>
          refine w_bl (w_nF ?_)
          walk_at "ct"
          exact hq rfl
      · rintro σ H' ⟨last, y, rfl, rfl, hr⟩
        walk_at "ct"
        rw [show areM (.tuple ds) z = risesD (-1) z ds from rfl, hr, List.drop_of_length_le (by omega)] at q
        exact q
abbrev S_is_part : Stmt := topS 9
theorem sc_is_part : FnScope ["thing"] ["thing"] (defScope S_is_part) := ⟨rfl, rfl, rfl, by decide +kernel, rfl, by decide +kernel, by decide +kernel⟩
def sp_is_part (K : PySem.W.Frag) : Sp := fun vs H Q _ => ∃ (v : V) (d : PyData) (n : Nat), vs = [v] ∧ Dp K H v d ∧ d.canLay0 = true ∧ d.depth ≤ n ∧ n ≤ 60 ∧ ∀ H', Same H H' → Q (.bl (isP d)) H'
theorem ok_is_part {f : Addr} {fd : FuncData} {f_is_whole : Addr} {fd_is_whole : FuncData} {f_are_marks : Addr} {fd_are_marks : FuncData} (F : Fun K "is_part" "is_part" S_is_part f fd)
    (F_is_whole : Fun K "is_whole" "is_whole" S_is_whole f_is_whole fd_is_whole) (b_is_whole : Binds K fd_is_whole ["thing"] []) (g_is_whole : mg "is_whole" = some (.ref f_is_whole)) (G_is_whole : FnOk P w K mg base CX0 1 f_is_whole fd_is_whole ["thing"] (sp_is_whole K))
    (F_are_marks : Fun K "are_marks" "are_marks" S_are_marks f_are_marks fd_are_marks) (b_are_marks : Binds K fd_are_marks ["thing", "teeth"] []) (g_are_marks : mg "are_marks" = some (.ref f_are_marks)) (G_are_marks : FnOk P w K mg base CX0 2 f_are_marks fd_are_marks ["thing", "teeth"] (sp_are_marks K)) (m_isinstance : mg "isinstance" = none) (m_tuple : mg "tuple" = none) (m_len : mg "len" = none) :
    FnOk P w K mg base CX0 3 f fd ["thing"] (sp_is_part K) := by
  refine F.ok sc_is_part (fun vs H Q E h => ?_) (fun cdv A outer s H vs Q E hr h => ?_)
  ·
    obtain ⟨v, d, n, rfl, _⟩ := h
    rfl
  ·
    obtain ⟨v, d, n, rfl, hd, lay, dep, n60, q⟩ := h
    refine ⟨_, (pss_cons (ps_if (PW.pt (pw_or (pt_not (pt_val (pe_callB (r := rIsi K) call_isi (by rfl) m_isinstance (by decide +kernel) (pa_cons (pv 0) (pa_cons (pe_bltn (v := .ty "tuple") (u := .type "tuple") (by rfl) m_tuple (by decide +kernel) rfl) pa_nil))))) (pw_or1 (pt_cmpR op_eq (pe_callB call_len_seq (by rfl) m_len (by decide +kernel) (pa_cons (pv 0) pa_nil)) pe_int (nomark _))))) (pss_one (ps_ret pe_bl)) pss_nil)
      (pss_cons (ps_if (pt_cmpR (r := rEqD K) (op_eqD hr.units) (pe_ix (r := rIxT K) ix_tup (pv 0) pe_int (fun _ _ => rfl)) pe_str (nomark _)) (pss_one (ps_ret (pe_and (pe_cmpR op_eq (pe_callB call_len_seq (by rfl) m_len (by decide +kernel) (pa_cons (pv 0) pa_nil)) pe_int (nomark _)) (pe_and (pe_call G_is_whole (hr.mono (by decide)) (by rfl) g_is_whole F_is_whole.kp b_is_whole .nil pass0 (pa_cons (pe_ix (r := rIxT K) ix_tup (pv 0) pe_int (fun _ _ => rfl)) pa_nil)) (pe_and (pe_cmpR op_ge (pe_ix (r := rIxT K) ix_tup (pv 0) pe_int (fun _ _ => rfl)) pe_int (nomark _)) (pe_one (pe_call G_are_marks (hr.mono (by decide)) (by rfl) g_are_marks F_are_marks.kp b_are_marks .nil pass0 (pa_cons (pe_ix (r := rIxT K) ix_tup (pv 0) pe_int (fun _ _ => rfl)) (pa_cons (pe_ix (r := rIxT K) ix_tup (pv 0) pe_int (fun _ _ => rfl)) pa_nil))))))))) pss_nil)
      (pss_cons (ps_if (pt_cmpR (r := rEqD K) (op_eqD hr.units) (pe_ix (r := rIxT K) ix_tup (pv 0) pe_int (fun _ _ => rfl)) pe_str (nomark _)) (pss_one (ps_ret (pe_and (pe_cmpR op_eq (pe_callB call_len_seq (by rfl) m_len (by decide +kernel) (pa_cons (pv 0) pa_nil)) pe_int (nomark _)) (pe_and (pe_call G_is_whole (hr.mono (by decide)) (by rfl) g_is_whole F_is_whole.kp b_is_whole .nil pass0 (pa_cons (pe_ix (r := rIxT K) ix_tup (pv 0) pe_int (fun _ _ => rfl)) pa_nil)) (pe_one (pe_cmpR op_ge (pe_ix (r := rIxT K) ix_tup (pv 0) pe_int (fun _ _ => rfl)) pe_int (nomark _))))))) pss_nil)
      (pss_one (ps_ret (pe_or (pe_cmpR (r := rEqD K) (op_eqD hr.units) (pv 0) (pe_tup (pa_cons pe_str pa_nil)) (nomark _)) (pe_one (pe_cmpR (r := rEqD K) (op_eqD hr.units) (pv 0) (pe_tup (pa_cons pe_str pa_nil)) (nomark _))))))))), ?_⟩
    refine w_st (σ' := [some v]) rfl ?_
    walk_at "ct"
    cases hd with
    | non =>
      refine w_isi (b := false) (.base .non) (kit_ty (by decide +kernel)) ?_
      walk_at "ct"
      exact q H (Same.refl H)
    | bl b =>
      refine w_isi (b := false) (.base (.bl b)) (kit_ty (by decide +kernel)) ?_
      walk_at "ct"
      exact q H (Same.refl H)
    | int i =>
      refine w_isi (b := false) (.base (.int i)) (kit_ty (by decide +kernel)) ?_
      walk_at "ct"
      exact q H (Same.refl H)
    | str x =>
      refine w_isi (b := false) (.base (.str x)) (kit_ty (by decide +kernel)) ?_
      walk_at "ct"
      exact q H (Same.refl H)
    | lst hs ht =>
      refine w_isi (b := false) (tyx_L hs) (kit_ty (by decide +kernel)) ?_
      walk_at "ct"
      exact q H (Same.refl H)
    | @tup a xs ds hs ht =>
      refine w_isi (b := true) (tyx_T hs) (kit_ty (by decide +kernel)) ?_
      walk_at "ct"
      refine ⟨a, xs, rfl, .inr hs, ?_⟩
      walk_at "ct"
      cases ht with
      | nil =>
        refine w_ite (fun e => ?_) (fun e => absurd rfl e)
        walk_at "ct"
        exact q H (Same.refl H)
      | @cons v0 vs0 d0 ds0 h0 t0 =>
        have hw : SeqAt.shaped (.str "wheel") = true := by decide +kernel
        have hsp : SeqAt.shaped (.str "spring") = true := by decide +kernel
        rw [PyData.canLay0, PyData.canLayAll0, Bool.and_eq_true] at lay
        rw [PyData.depth, PyData.depthAll] at dep
        have sh0 : SeqAt.shaped d0 = true := shaped_of (n := n) ⟨lay.1, by omega⟩ (by omega)
        have hwhole : ∀ H', Same H H' → Dp K H' (.ref a) (.tuple (d0 :: ds0)) := fun H' s => .tup (Same.tup s hs) (.cons (dp_same s h0) (dpAll_same s t0))
        have shw : SeqAt.shaped (.tuple (d0 :: ds0)) = true := shaped_of (n := n) ⟨by rw [PyData.canLay0, PyData.canLayAll0, lay.1, lay.2]; rfl, by rw [PyData.depth, PyData.depthAll]; omega⟩ (by omega)
        refine w_ite (fun e => absurd e (by rw [List.length_cons]; omega)) (fun e => ?_)
        walk_at "ct"
        refine ⟨d0, .str "wheel", h0, .str _, sh0, hw, ?_⟩
        walk_at "ct"
        by_cases e1 : PyData.eqv d0 (.str "wheel") = true
        · rw [if_pos e1]
          have hq : ∀ b : Bool, b = isP (.tuple (d0 :: ds0)) → Q (.bl b) H := fun b hb => by
            rw [hb]
            exact q H (Same.refl H)
          have hP : isP (.tuple (d0 :: ds0)) = wheelT ds0 := by
            simp only [isP, if_pos e1]
          walk_at "ct"
          refine ⟨a, _, rfl, .inr hs, ?_⟩
          walk_at "ct"
          have l0 := dpAll_len t0
          cases t0 with
          | nil =>
            refine w_ite (fun e => absurd e (by show ¬ ((1 : Nat) : Int) = 3; decide)) (fun e => ?_)
            exact hq _ hP.symm
          | @cons v1 vs1 d1 ds1 h1 t1 =>
            cases t1 with
            | nil =>
              refine w_ite (fun e => absurd e (by show ¬ ((2 : Nat) : Int) = 3; decide)) (fun e => ?_)
              exact hq _ (by rw [hP]; cases d1 <;> rfl)
            | @cons v2 vs2 d2 ds2 h2 t2 =>
              cases t2 with
              | nil =>
                refine w_ite (fun e => ?_) (fun e => absurd rfl e)
                walk_at "ct"
                refine ⟨v1, d1, rfl, h1, ?_⟩
                cases h1 with
                | int z =>
                  refine w_bl ?_
                  refine iteT ?_
                  walk_at "ct"
                  refine w_ite (fun e => ?_) (fun e => ?_)
                  · walk_at "ct"
                    refine ⟨v2, d2, z, rfl, h2, ?_⟩
                    exact hq _ (by rw [hP]; show _ = (decide (1 ≤ z) && areM d2 z); rw [decide_eq_true e]; rfl)
                  · exact hq _ (by rw [hP]; show _ = (decide (1 ≤ z) && areM d2 z); rw [decide_eq_false e]; rfl)
                | non => exact w_bl (iteF (hq _ hP.symm))
                | bl b => exact w_bl (iteF (hq _ hP.symm))
                | str s => exact w_bl (iteF (hq _ hP.symm))
                | lst g1 g2 => exact w_bl (iteF (hq _ hP.symm))
                | tup g1 g2 => exact w_bl (iteF (hq _ hP.symm))
              | @cons v3 vs3 d3 ds3 h3 t3 =>
                refine w_ite (fun e => absurd e (by rw [List.length_cons, List.length_cons, List.length_cons, List.length_cons]; omega)) (fun e => ?_)
                exact hq _ (by rw [hP]; cases d1 <;> rfl)
        · rw [if_neg e1]
          walk_at "ct"
          refine ⟨d0, .str "spring", h0, .str _, sh0, hsp, ?_⟩
          walk_at "ct"
          by_cases e2 : PyData.eqv d0 (.str "spring") = true
          · rw [if_pos e2]
            have hq : ∀ b : Bool, b = isP (.tuple (d0 :: ds0)) → Q (.bl b) H := fun b hb => by
              rw [hb]
              exact q H (Same.refl H)
            have hP : isP (.tuple (d0 :: ds0)) = springT ds0 := by
              simp only [isP, if_neg e1, if_pos e2]
            walk_at "ct"
            refine ⟨a, _, rfl, .inr hs, ?_⟩
            walk_at "ct"
            cases t0 with
            | nil =>
              refine w_ite (fun e => absurd e (by show ¬ ((1 : Nat) : Int) = 2; decide)) (fun e => ?_)
              exact hq _ hP.symm
            | @cons v1 vs1 d1 ds1 h1 t1 =>
              cases t1 with
              | nil =>
                refine w_ite (fun e => ?_) (fun e => absurd rfl e)
                walk_at "ct"
                refine ⟨v1, d1, rfl, h1, ?_⟩
                cases h1 with
                | int z =>
                  refine w_bl ?_
                  refine iteT ?_
                  walk_at "ct"
                  exact hq _ hP.symm
                | non => exact w_bl (iteF (hq _ hP.symm))
                | bl b => exact w_bl (iteF (hq _ hP.symm))
                | str s => exact w_bl (iteF (hq _ hP.symm))
                | lst g1 g2 => exact w_bl (iteF (hq _ hP.symm))
                | tup g1 g2 => exact w_bl (iteF (hq _ hP.symm))
              | @cons v2 vs2 d2 ds2 h2 t2 =>
                refine w_ite (fun e => absurd e (by rw [List.length_cons, List.length_cons, List.length_cons]; omega)) (fun e => ?_)
                exact hq _ (by rw [hP]; cases d1 <;> rfl)
          · rw [if_neg e2]
            have hP : isP (.tuple (d0 :: ds0)) = (PyData.eqv (.tuple (d0 :: ds0)) (.tuple [.str "click"]) || PyData.eqv (.tuple (d0 :: ds0)) (.tuple [.str "rocker"])) := by
              simp only [isP, if_neg e1, if_neg e2]
            rw [hP] at q
            walk_at "ct"
            refine ⟨len2 rfl, fun p np => ?_⟩
            have s1 : Same H (upd H p (.tup [.str "click"])) := same_upd np
            refine ⟨.tuple (d0 :: ds0), .tuple [.str "click"], hwhole _ s1, .tup (.of upd_same) (.cons (.str _) .nil), shw, by decide +kernel, ?_⟩
            walk_at "ct"
            by_cases e3 : PyData.eqv (.tuple (d0 :: ds0)) (.tuple [.str "click"]) = true
            · rw [if_pos e3]
              rw [e3] at q
              exact q _ s1
            · rw [if_neg e3]
              rw [Bool.not_eq_true] at e3
              rw [e3] at q
              walk_at "ct"
              refine ⟨len2 rfl, fun p2 np2 => ?_⟩
              have s2 := same_new (o := .tup [.str "rocker"]) s1 (s1.free np2)
              refine ⟨.tuple (d0 :: ds0), .tuple [.str "rocker"], hwhole _ s2, .tup (.of upd_same) (.cons (.str _) .nil), shw, by decide +kernel, ?_⟩
              exact q _ s2
abbrev S_check_train : Stmt := topS 10
theorem sc_check_train : FnScope ["train", "part"] ["train"] (defScope S_check_train) := ⟨rfl, rfl, rfl, by decide +kernel, rfl, by decide +kernel, by decide +kernel⟩
def sp_check_train (K : PySem.W.Frag) : Sp := fun vs H Q _ => ∃ (a : Addr) (ps : List Part), vs = [.ref a] ∧ TrainAt K H a ps ∧ (∀ p ∈ ps, p.ok) ∧ 1 ≤ ps.length ∧ ∀ H', Same H H' → Q .non H'
theorem ok_check_train {f : Addr} {fd : FuncData} {f_is_part : Addr} {fd_is_part : FuncData} (F : Fun K "check_train" "check_train" S_check_train f fd)
    (F_is_part : Fun K "is_part" "is_part" S_is_part f_is_part fd_is_part) (b_is_part : Binds K fd_is_part ["thing"] []) (g_is_part : mg "is_part" = some (.ref f_is_part)) (G_is_part : FnOk P w K mg base CX0 3 f_is_part fd_is_part ["thing"] (sp_is_part K)) (m_isinstance : mg "isinstance" = none) (m_list : mg "list" = none) (m_len : mg "len" = none) :
    FnOk P w K mg base CX0 4 f fd ["train"] (sp_check_train K) := by
  refine F.ok sc_check_train (fun vs H Q E h => ?_) (fun cdv A outer s H vs Q E hr h => ?_)
  ·
    obtain ⟨a, ps, rfl, _⟩ := h
    rfl
  ·
    obtain ⟨a, ps, rfl, ⟨vs, hv, hd⟩, hok, hps, q⟩ := h
    refine ⟨_, (pss_cons (ps_if (PW.pt (pw_or (pt_not (pt_val (pe_callB (r := rIsi K) call_isi (by rfl) m_isinstance (by decide +kernel) (pa_cons (pv 0) (pa_cons (pe_bltn (v := .ty "list") (u := .type "list") (by rfl) m_list (by decide +kernel) rfl) pa_nil))))) (pw_or1 (pt_cmpR op_eq (pe_callB call_len_seq (by rfl) m_len (by decide +kernel) (pa_cons (pv 0) pa_nil)) pe_int (nomark _))))) (pss_one ps_never) pss_nil)
      (pss_one (ps_for PassesOwn.never rfl (pi_list (pv 0)) (pg_name (i := 1) sc_check_train.nd rfl (.inl rfl))
      (pss_one (ps_if (pt_not (pt_val (pe_call G_is_part (hr.mono (by decide)) (by rfl) g_is_part F_is_part.kp b_is_part .nil pass0 (pa_cons (pv 1) pa_nil)))) (pss_one ps_never) pss_nil))))), ?_⟩
    refine w_st (σ' := [some (.ref a), none]) rfl ?_
    have hvl : vs.length = ps.length := by rw [dpAll_len hd, List.length_map]
    walk_at "ct"
    refine w_isi (b := true) (tyx_L hv) (kit_ty (by decide +kernel)) ?_
    walk_at "ct"
    refine ⟨a, vs, rfl, .inl hv, ?_⟩
    walk_at "ct"
    refine w_ite (fun e => absurd e (by omega)) (fun e => ?_)
    walk_at "ct"
    refine w_IL hv ?_
    refine fb_list vs (fun n σ H' => ∃ y, σ = [some (.ref a), y] ∧ Same H H') ⟨none, rfl, Same.refl H⟩ ?_ ?_ ?_
    · rintro n σ H' hn ⟨y, rfl, sm⟩
      exact sm.seq hv
    · rintro n v σ H' hx ⟨y, rfl, sm⟩
      have hn : n < vs.length := (List.getElem?_eq_some_iff.mp hx).1
      obtain ⟨p, hp⟩ : ∃ p, ps[n]? = some p := ⟨_, List.getElem?_eq_getElem (by omega)⟩
      obtain ⟨v', hv1, hd1⟩ := TrainAt.at (a := a) hd hp
      cases Option.some.inj (hx.symm.trans hv1)
      walk_at "ct"
      refine ⟨v, p.data, 2, rfl, dp_same sm hd1, (lay_part p).1, (lay_part p).2, by decide, fun H1 s1 => ?_⟩
      rw [isP_of (hok p (List.mem_of_getElem? hp))]
      walk_at "ct"
      exact ⟨_, rfl, sm.trans s1⟩
    · rintro σ H' ⟨y, rfl, sm⟩
      exact q H' sm
abbrev S_place_count : Stmt := topS 11
theorem sc_place_count : FnScope ["part"] ["part"] (defScope S_place_count) := ⟨rfl, rfl, rfl, by decide +kernel, rfl, by decide +kernel, by decide +kernel⟩
def sp_place_count (K : PySem.W.Frag) : Sp := fun vs H Q _ => ∃ (v : V) (p : Part), vs = [v] ∧ Dp K H v p.data ∧ Q (.int p.places) H
theorem ok_place_count {f : Addr} {fd : FuncData} (F : Fun K "place_count" "place_count" S_place_count f fd) :
    FnOk P w K mg base CX0 1 f fd ["part"] (sp_place_count K) := by
  refine F.ok sc_place_count (fun vs H Q E h => ?_) (fun cdv A outer s H vs Q E hr h => ?_)
  ·
    obtain ⟨v, p, rfl, _⟩ := h
    rfl
  ·
    obtain ⟨v, p, rfl, hp, q⟩ := h
    refine ⟨_, (pss_cons (ps_if (pt_cmpR op_eq (pe_ix (r := rIxT K) ix_tup (pv 0) pe_int (fun _ _ => rfl)) pe_str (nomark _)) (pss_one (ps_ret pe_int)) pss_nil)
      (pss_cons (ps_if (pt_cmpR op_eq (pe_ix (r := rIxT K) ix_tup (pv 0) pe_int (fun _ _ => rfl)) pe_str (nomark _)) (pss_one (ps_ret pe_int)) pss_nil)
      (pss_one (ps_ret (pe_ix (r := rIxT K) ix_tup (pv 0) pe_int (fun _ _ => rfl)))))), ?_⟩
    refine w_st (σ' := [some v]) rfl ?_
    cases p with
    | wheel z ms =>
      obtain ⟨a, b, rfl, ha, hb⟩ := wheel_inv hp
      walk_at "ct"
      exact q
    | click =>
      obtain ⟨a, rfl, ha⟩ := click_inv hp
      walk_at "ct"
      exact q
    | rocker =>
      obtain ⟨a, rfl, ha⟩ := rocker_inv hp
      walk_at "ct"
      exact q
    | spring k =>
      obtain ⟨a, rfl, ha⟩ := spring_inv hp
      walk_at "ct"
      exact q
abbrev S_is_stand : Stmt := topS 12
theorem sc_is_stand : FnScope ["train", "thing", "part", "place"] ["train", "thing"] (defScope S_is_stand) := ⟨rfl, rfl, rfl, by decide +kernel, rfl, by decide +kernel, by decide +kernel⟩
def sp_is_stand (K : PySem.W.Frag) : Sp := fun vs H Q _ => ∃ (a t : Addr) (ps : List Part) (xs : List Int), vs = [.ref a, .ref t] ∧ TrainAt K H a ps ∧ SqT K H t (xs.map V.int) ∧ StandOk ps xs ∧ ∀ H', Same H H' → Q (.bl true) H'
theorem ok_is_stand {f : Addr} {fd : FuncData} {f_place_count : Addr} {fd_place_count : FuncData} {f_is_whole : Addr} {fd_is_whole : FuncData} (F : Fun K "is_stand" "is_stand" S_is_stand f fd)
    (F_place_count : Fun K "place_count" "place_count" S_place_count f_place_count fd_place_count) (b_place_count : Binds K fd_place_count ["part"] []) (g_place_count : mg "place_count" = some (.ref f_place_count)) (G_place_count : FnOk P w K mg base CX0 1 f_place_count fd_place_count ["part"] (sp_place_count K))
    (F_is_whole : Fun K "is_whole" "is_whole" S_is_whole f_is_whole fd_is_whole) (b_is_whole : Binds K fd_is_whole ["thing"] []) (g_is_whole : mg "is_whole" = some (.ref f_is_whole)) (G_is_whole : FnOk P w K mg base CX0 1 f_is_whole fd_is_whole ["thing"] (sp_is_whole K)) (m_zip : mg "zip" = none) (m_isinstance : mg "isinstance" = none) (m_tuple : mg "tuple" = none) (m_len : mg "len" = none) :
    FnOk P w K mg base CX0 2 f fd ["train", "thing"] (sp_is_stand K) := by
  refine F.ok sc_is_stand (fun vs H Q E h => ?_) (fun cdv A outer s H vs Q E hr h => ?_)
  ·
    obtain ⟨a, t, ps, xs, rfl, _⟩ := h
    rfl
  ·
    obtain ⟨a, t, ps, xs, rfl, ⟨vs, hv, hd⟩, hS, hso, q⟩ := h
    have s1 := Same.refl H
    refine ⟨_, (pss_cons (ps_if (PW.pt (pw_or (pt_not (pt_val (pe_callB (r := rIsi K) call_isi (by rfl) m_isinstance (by decide +kernel) (pa_cons (pv 1) (pa_cons (pe_bltn (v := .ty "tuple") (u := .type "tuple") (by rfl) m_tuple (by decide +kernel) rfl) pa_nil))))) (pw_or1 (pt_cmpR op_ne (pe_callB call_len_seq (by rfl) m_len (by decide +kernel) (pa_cons (pv 1) pa_nil)) (pe_callB call_len_seq (by rfl) m_len (by decide +kernel) (pa_cons (pv 0) pa_nil)) (nomark _))))) (pss_one (ps_ret pe_bl)) pss_nil)
      (pss_cons (ps_for PassesOwn.never rfl (pi_zipM (by rfl) m_zip (pa_cons (pv 0) (pa_cons (pv 1) pa_nil))) (pg_tup rfl (pgs_cons (pg_name (i := 2) sc_is_stand.nd rfl (.inl rfl)) (pgs_cons (pg_name (i := 3) sc_is_stand.nd rfl (.inl rfl)) pgs_nil)))
      (pss_one (ps_if (PW.pt (pw_or (pt_not (pt_val (pe_call G_is_whole (hr.mono (by decide)) (by rfl) g_is_whole F_is_whole.kp b_is_whole .nil pass0 (pa_cons (pv 3) pa_nil)))) (pw_or (pt_cmpR op_lt (pv 3) pe_int (nomark _)) (pw_or1 (pt_cmpR op_ge (pv 3) (pe_call G_place_count (hr.mono (by decide)) (by rfl) g_place_count F_place_count.kp b_place_count .nil pass0 (pa_cons (pv 2) pa_nil)) (nomark _)))))) (pss_one (ps_ret pe_bl)) pss_nil)))
      (pss_one (ps_ret pe_bl)))), ?_⟩
    refine w_st (σ' := [some (.ref a), some (.ref t), none, none]) rfl ?_
    have hvl : vs.length = ps.length := by rw [dpAll_len hd, List.length_map]
    have hxl := hso.1
    walk_at "ct"
    refine w_isi (b := true) (tyx_T (Same.tup s1 hS)) (kit_ty (by decide +kernel)) ?_
    walk_at "ct"
    refine ⟨t, _, rfl, .inr (Same.tup s1 hS), ?_⟩
    walk_at "ct"
    refine ⟨a, _, rfl, .inl (s1.seq hv), ?_⟩
    walk_at "ct"
    refine w_iteN (fun e => absurd (by rw [List.length_map, hxl, hvl]) e) (fun e => ?_)
    walk_at "ct"
    refine w_IM (s1.seq hv) (Same.tup s1 hS) ?_
    refine fb_zipM vs (xs.map V.int) (by rw [List.length_map]; omega) (fun n σ H' => ∃ y z, σ = [some (.ref a), some (.ref t), y, z] ∧ Same H H') ⟨none, none, rfl, s1⟩ ?_ ?_ ?_
    · rintro n σ H' hn ⟨y, z, rfl, sm⟩
      exact ⟨sm.seq hv, Same.tup sm hS⟩
    · rintro n v u T σ H' hx hu ⟨y, z, rfl, sm⟩ hT
      have hn : n < vs.length := (List.getElem?_eq_some_iff.mp hx).1
      obtain ⟨p, hp⟩ : ∃ p, ps[n]? = some p := ⟨_, List.getElem?_eq_getElem (by omega)⟩
      obtain ⟨v', hv1, hd1⟩ := TrainAt.at (a := a) hd hp
      cases Option.some.inj (hx.symm.trans hv1)
      obtain ⟨x, hxx⟩ : ∃ x, xs[n]? = some x := ⟨_, List.getElem?_eq_getElem (by omega)⟩
      rw [List.getElem?_map, hxx] at hu
      cases Option.some.inj hu
      have hb := hso.2 n p x hp hxx
      have s2 : Same H (upd H' T (.tup [v, .int x])) := same_new sm (sm.free hT)
      refine w_gtup (.of upd_same) rfl ?_
      walk_at "ct"
      refine ⟨.int x, .int x, rfl, .int x, ?_⟩
      walk_at "ct"
      refine w_nT ?_
      walk_at "ct"
      refine w_ite (fun e => absurd e (by omega)) (fun e => ?_)
      walk_at "ct"
      refine ⟨v, p, rfl, dp_same s2 hd1, ?_⟩
      walk_at "ct"
      refine w_ite (fun e => absurd e (by omega)) (fun e => ?_)
      walk_at "ct"
      exact ⟨_, _, rfl, s2⟩
    · rintro σ H' ⟨y, z, rfl, sm⟩
      walk_at "ct"
      exact q H' sm
abbrev S_check_stand : Stmt := topS 13
theorem sc_check_stand : FnScope ["train", "stand"] ["train", "stand"] (defScope S_check_stand) := ⟨rfl, rfl, rfl, by decide +kernel, rfl, by decide +kernel, by decide +kernel⟩
def sp_check_stand (K : PySem.W.Frag) : Sp := fun vs H Q _ => ∃ (a t : Addr) (ps : List Part) (xs : List Int), vs = [.ref a, .ref t] ∧ TrainAt K H a ps ∧ (∀ p ∈ ps, p.ok) ∧ 1 ≤ ps.length ∧ SqT K H t (xs.map V.int) ∧ StandOk ps xs ∧ ∀ H', Same H H' → Q .non H'
theorem ok_check_stand {f : Addr} {fd : FuncData} {f_is_stand : Addr} {fd_is_stand : FuncData} {f_check_train : Addr} {fd_check_train : FuncData} (F : Fun K "check_stand" "check_stand" S_check_stand f fd)
    (F_is_stand : Fun K "is_stand" "is_stand" S_is_stand f_is_stand fd_is_stand) (b_is_stand : Binds K fd_is_stand ["train", "thing"] []) (g_is_stand : mg "is_stand" = some (.ref f_is_stand)) (G_is_stand : FnOk P w K mg base CX0 2 f_is_stand fd_is_stand ["train", "thing"] (sp_is_stand K))
    (F_check_train : Fun K "check_train" "check_train" S_check_train f_check_train fd_check_train) (b_check_train : Binds K fd_check_train ["train"] []) (g_check_train : mg "check_train" = some (.ref f_check_train)) (G_check_train : FnOk P w K mg base CX0 4 f_check_train fd_check_train ["train"] (sp_check_train K)) :
    FnOk P w K mg base CX0 5 f fd ["train", "stand"] (sp_check_stand K) := by
  refine F.ok sc_check_stand (fun vs H Q E h => ?_) (fun cdv A outer s H vs Q E hr h => ?_)
  ·
    obtain ⟨a, t, ps, xs, rfl, _⟩ := h
    rfl
  ·
    obtain ⟨a, t, ps, xs, rfl, hT, hok, hps, hS, hso, q⟩ := h
    refine ⟨_, (pss_cons (ps_expr (pe_call G_check_train (hr.mono (by decide)) (by rfl) g_check_train F_check_train.kp b_check_train .nil pass0 (pa_cons (pv 0) pa_nil)))
      (pss_one (ps_if (pt_not (pt_val (pe_call G_is_stand (hr.mono (by decide)) (by rfl) g_is_stand F_is_stand.kp b_is_stand .nil pass0 (pa_cons (pv 0) (pa_cons (pv 1) pa_nil))))) (pss_one ps_never) pss_nil))), ?_⟩
    refine w_st (σ' := [some (.ref a), some (.ref t)]) rfl ?_
    walk_at "ct"
    refine ⟨a, ps, rfl, hT, hok, hps, fun H1 s1 => ?_⟩
    walk_at "ct"
    refine ⟨a, t, ps, xs, rfl, hT.same s1, Same.tup s1 hS, hso, fun H2 s2 => ?_⟩
    walk_at "ct"
    exact q H2 (s1.trans s2)
abbrev S_is_way : Stmt := topS 14
theorem sc_is_way : FnScope ["thing"] ["thing"] (defScope S_is_way) := ⟨rfl, rfl, rfl, by decide +kernel, rfl, by decide +kernel, by decide +kernel⟩
def isWay : PyData → Bool
  | .int i => decide (i = 1) || decide (i = -1)
  | _ => false
def sp_is_way (K : PySem.W.Frag) : Sp := fun vs H Q _ => ∃ (v : V) (d : PyData), vs = [v] ∧ Dp K H v d ∧ ∀ H', Same H H' → Q (.bl (isWay d)) H'
theorem ok_is_way {f : Addr} {fd : FuncData} {f_is_whole : Addr} {fd_is_whole : FuncData} (F : Fun K "is_way" "is_way" S_is_way f fd)
    (F_is_whole : Fun K "is_whole" "is_whole" S_is_whole f_is_whole fd_is_whole) (b_is_whole : Binds K fd_is_whole ["thing"] []) (g_is_whole : mg "is_whole" = some (.ref f_is_whole)) (G_is_whole : FnOk P w K mg base CX0 1 f_is_whole fd_is_whole ["thing"] (sp_is_whole K)) :
    FnOk P w K mg base CX0 2 f fd ["thing"] (sp_is_way K) := by
  refine F.ok sc_is_way (fun vs H Q E h => ?_) (fun cdv A outer s H vs Q E hr h => ?_)
  ·
    obtain ⟨v, d, rfl, _⟩ := h
    rfl
  ·
    obtain ⟨v, d, rfl, hd, q⟩ := h
    refine ⟨_, (pss_one (ps_ret (pe_and (pe_call G_is_whole (hr.mono (by decide)) (by rfl) g_is_whole F_is_whole.kp b_is_whole .nil pass0 (pa_cons (pv 0) pa_nil)) (pe_one (pe_cmpR (r := rIn K false) op_in_seq (pv 0) (pe_tup (pa_cons pe_int (pa_cons (pe_un un_neg pe_int) pa_nil))) (by rfl)))))), ?_⟩
    refine w_st (σ' := [some v]) rfl ?_
    walk_at "ct"
    refine ⟨v, d, rfl, hd, ?_⟩
    cases hd with
    | int i =>
      refine w_bl (iteT ?_)
      walk_at "ct"
      refine ⟨len2 rfl, fun p np => ?_⟩
      refine w_inT (ns := [1, -1]) (.of upd_same) ?_
      have e : decide (i ∈ ([1, -1] : List Int)) = isWay (.int i) := by
        rw [Bool.eq_iff_iff, decide_eq_true_iff, isWay, Bool.or_eq_true, decide_eq_true_iff, decide_eq_true_iff]
        simp
      rw [e]
      exact q _ (same_upd np)
    | non =>
      refine w_bl (iteF ?_)
      exact q H (Same.refl H)
    | bl b =>
      refine w_bl (iteF ?_)
      exact q H (Same.refl H)
    | str s =>
      refine w_bl (iteF ?_)
      exact q H (Same.refl H)
    | lst g1 g2 =>
      refine w_bl (iteF ?_)
      exact q H (Same.refl H)
    | tup g1 g2 =>
      refine w_bl (iteF ?_)
      exact q H (Same.refl H)
abbrev S_stands_of : Stmt := topS 15
theorem sc_stands_of : FnScope ["train", "stands", "part", "ahead", "place"] ["train"] (defScope S_stands_of) := ⟨rfl, rfl, rfl, by decide +kernel, rfl, by decide +kernel, by decide +kernel⟩
def sp_stands_of (K : PySem.W.Frag) : Sp := fun vs H Q _ => ∃ (a : Addr) (ps : List Part), vs = [.ref a] ∧ TrainAt K H a ps ∧ (∀ p ∈ ps, p.ok) ∧ 1 ≤ ps.length ∧ ps.length ≤ 1000 ∧ stands ps ≤ 100000 ∧
  ∀ l ws H', Same H H' → H l = none → H' l = some (.lst ws) → TpAll H' ws (allS ps) → Q (.ref l) H'
theorem ok_stands_of {f : Addr} {fd : FuncData} {f_place_count : Addr} {fd_place_count : FuncData} {f_check_train : Addr} {fd_check_train : FuncData} (F : Fun K "stands_of" "stands_of" S_stands_of f fd)
    (F_place_count : Fun K "place_count" "place_count" S_place_count f_place_count fd_place_count) (b_place_count : Binds K fd_place_count ["part"] []) (g_place_count : mg "place_count" = some (.ref f_place_count)) (G_place_count : FnOk P w K mg base CX0 1 f_place_count fd_place_count ["part"] (sp_place_count K))
    (F_check_train : Fun K "check_train" "check_train" S_check_train f_check_train fd_check_train) (b_check_train : Binds K fd_check_train ["train"] []) (g_check_train : mg "check_train" = some (.ref f_check_train)) (G_check_train : FnOk P w K mg base CX0 4 f_check_train fd_check_train ["train"] (sp_check_train K)) (m_range : mg "range" = none) :
    FnOk P w K mg base CX0 5 f fd ["train"] (sp_stands_of K) := by
  refine F.ok sc_stands_of (fun vs H Q E h => ?_) (fun cdv A outer s H vs Q E hr h => ?_)
  ·
    obtain ⟨a, ps, rfl, _⟩ := h
    rfl
  ·
    obtain ⟨a, ps, rfl, ⟨vs, hv, hd⟩, hok, hps, hpl, hst, q⟩ := h
    refine ⟨_, (pss_cons (ps_expr (pe_call G_check_train (hr.mono (by decide)) (by rfl) g_check_train F_check_train.kp b_check_train .nil pass0 (pa_cons (pv 0) pa_nil)))
      (pss_cons (ps_set (i := 1) sc_stands_of.nd rfl (.inl rfl) (pe_lst (pa_cons (pe_tup pa_nil) pa_nil)))
      (pss_cons (ps_for PassesOwn.never rfl (pi_list (pv 0)) (pg_name (i := 2) sc_stands_of.nd rfl (.inr rfl))
      (pss_one (ps_setLc2 (i := 1) (own := [("ahead", 3), ("place", 4)]) (vs1 := [4]) (g := gName 3) (g1 := gName 4)  rfl sc_stands_of.nd rfl rfl (sw_true rfl rfl rfl (by decide +kernel)) (pi_list (pv 1)) (blkOk_by (own := [("ahead", 3), ("place", 4)]) (N := ["train", "stands", "part", "ahead", "place"]) (sc := defScope S_stands_of) (by decide +kernel)) (by decide) (fun _ _ _ _ _ => pg_name (i := 3) sc_stands_of.nd rfl (Or.inl rfl)) (fun _ _ _ _ _ => pts_nil) (fun _ _ _ _ _ => (pi_range1 (by rfl) m_range (pa_cons (pe_call G_place_count (hr.mono (by decide)) (by rfl) g_place_count F_place_count.kp b_place_count .nil pass0 (pa_cons (pv 2) pa_nil)) pa_nil))) (fun _ _ _ _ _ => pg_name (i := 4) sc_stands_of.nd rfl (Or.inl rfl)) (fun _ _ _ _ _ => pts_nil) (fun _ _ _ _ _ => (pe_tup (t := StX.tStar K (tVar 3) (tCons (tVar 4) tNil)) (StX.pa_star (pv 3) (pa_cons (pv 4) pa_nil)))))))
      (pss_one (ps_ret (pv 1)))))), ?_⟩
    refine w_st (σ' := [some (.ref a), none, none, none, none]) rfl ?_
    have hvl : vs.length = ps.length := by rw [dpAll_len hd, List.length_map]
    walk_at "ct"
    refine ⟨a, ps, rfl, ⟨vs, hv, hd⟩, hok, hps, fun H1 s1 => ?_⟩
    walk_at "ct"
    refine ⟨len2 rfl, fun e0 ne0 => ?_⟩
    walk_at "ct"
    refine ⟨len2 rfl, fun l0 nl0 => ?_⟩
    have s2 := s1.trans (same_upd (o := .tup []) ne0)
    have s3 := s2.trans (same_upd (o := .lst [.ref e0]) nl0)
    walk_at "ct"
    refine w_IL (s3.seq hv) ?_
    refine fb_list vs (fun n σ H' => ∃ (l : Addr) (ws : List V) (y : Option V), σ = [some (.ref a), some (.ref l), y, none, none] ∧ Same H H' ∧ H l = none ∧ H' l = some (.lst ws) ∧ TpAll H' ws (allS (ps.take n)))
      ⟨l0, [.ref e0], none, rfl, s3, s2.free nl0, upd_same, .cons (s := []) ((same_upd nl0) _ _ upd_same) .nil⟩ ?_ ?_ ?_
    · rintro n σ H' hn ⟨l, ws, y, rfl, sm, _⟩
      exact sm.seq hv
    · rintro n v σ H2 hx ⟨l, ws, y, rfl, sm, nl, hl, hw⟩
      have hn : n < vs.length := (List.getElem?_eq_some_iff.mp hx).1
      obtain ⟨p, hp⟩ : ∃ p, ps[n]? = some p := ⟨_, List.getElem?_eq_getElem (by omega)⟩
      obtain ⟨v', hv1, hd1⟩ := TrainAt.at (a := a) hd hp
      cases Option.some.inj (hx.symm.trans hv1)
      have po := (hok p (List.mem_of_getElem? hp)).pos
      have pst := place_le hok hp
      have hwl : ws.length = (allS (ps.take n)).length := tp_len hw
      have hsz : ∀ k : Nat, k ≤ (stands ps).toNat → k < sizeLine := fun k hk => Nat.lt_of_le_of_lt (show k ≤ 100000 by omega) (by decide)
      walk_at "ct"
      refine w_IL (.of hl) ?_
      refine lb2_list ws (fun D i H3 => Same H2 H3 ∧ ∃ acc, H3 D = some (.lst acc) ∧ TpAll H3 acc (((allS (ps.take n)).take i).flatMap fun s => rowS s p.places.toNat)) (fun D hD => ⟨same_upd hD, [], upd_same, .nil⟩) (fun D hD i H3 _ h => h.1.seq (.of hl)) ?_ ?_
      · rintro D hD i x H3 hx3 ⟨s4, acc, hacc, hda⟩
        have hi : i < ws.length := (List.getElem?_eq_some_iff.mp hx3).1
        obtain ⟨s, hs⟩ : ∃ s, (allS (ps.take n))[i]? = some s := ⟨_, List.getElem?_eq_getElem (by omega)⟩
        obtain ⟨b, hb1, hb2⟩ := tp_get hw hs
        cases Option.some.inj (hx3.symm.trans hb1)
        have htk : (allS (ps.take n)).take (i + 1) = (allS (ps.take n)).take i ++ [s] := by rw [List.take_add_one, hs]; rfl
        walk_at "ct"
        refine ⟨rfl, ?_⟩
        walk_at "ct"
        refine ⟨v, p, rfl, dp_same (sm.trans s4) hd1, ?_⟩
        walk_at "ct"
        refine w_RG1 (by omega) (by omega) ?_
        refine ib_range (fun j H4 => Same H2 H4 ∧ ∃ acc, H4 D = some (.lst acc) ∧ TpAll H4 acc (((allS (ps.take n)).take i).flatMap (fun s => rowS s p.places.toNat) ++ rowS s j)) ⟨s4, acc, hacc, by rw [show rowS s 0 = [] from rfl, List.append_nil]; exact hda⟩ ?_ ?_
        · rintro j H4 hj ⟨s5, acc, hacc, hda⟩
          have hal : acc.length = (((allS (ps.take n)).take i).flatMap (fun s => rowS s p.places.toNat) ++ rowS s j).length := tp_len hda
          have hle : acc.length ≤ (stands ps).toNat := by
            have g := grow_le hok hp (i := i + 1)
            rw [htk, List.flatMap_append, List.length_append] at g
            rw [hal, List.length_append, rowS_len]
            have e : ([s].flatMap fun s => rowS s p.places.toNat).length = p.places.toNat := by rw [List.flatMap_cons, List.flatMap_nil, List.append_nil, rowS_len]
            rw [e] at g
            omega
          walk_at "ct"
          refine ⟨rfl, ?_⟩
          walk_at "ct"
          refine ⟨b, _, rfl, .inl (.of (s5 _ _ hb2)), ?_⟩
          walk_at "ct"
          have hsl : s.length ≤ 1000 := by
            have := allS_each (ps.take n) s (List.mem_of_getElem? hs)
            rw [this, List.length_take]
            omega
          refine ⟨by rw [List.length_append, List.length_map]; exact Nat.le_trans (show s.length + 1 ≤ 1001 by omega) (by decide), fun c nc => ?_⟩
          have hDc : D ≠ c := ne_of_none hacc nc
          refine ⟨acc, by rw [upd_ne hDc]; exact hacc, hsz _ hle, same_new (s5.trans (same_upd nc)) hD, acc ++ [.ref c], upd_same, ?_⟩
          rw [rowS_succ, ← List.append_assoc]
          refine tp_app (tp_upd (by rw [upd_ne hDc]; exact hacc) (tp_same (same_upd nc) hda)) (.cons ?_ .nil)
          rw [upd_ne hDc.symm, upd_same, List.map_append, Int.zero_add]
          rfl
        · rintro H4 ⟨s5, acc, hacc, hda⟩
          refine ⟨s5, acc, hacc, ?_⟩
          rw [htk, List.flatMap_append, show ([s].flatMap fun s => rowS s p.places.toNat) = rowS s p.places.toNat by rw [List.flatMap_cons, List.flatMap_nil, List.append_nil]]
          exact hda
      · rintro D hD H3 ⟨s4, acc, hacc, hda⟩
        rw [List.take_of_length_le (by omega)] at hda
        walk_at "ct"
        refine ⟨D, acc, _, rfl, sm.trans s4, sm.free hD, hacc, ?_⟩
        rw [allS_take hp]
        exact hda
    · rintro σ H' ⟨l, ws, y, rfl, sm, nl, hl, hw⟩
      rw [List.take_of_length_le (by omega)] at hw
      walk_at "ct"
      exact q l ws H' sm nl hl hw
abbrev S_is_deed : Stmt := topS 17
theorem sc_is_deed : FnScope ["thing", "parts", "i", "way", "times"] ["thing", "parts"] (defScope S_is_deed) := ⟨rfl, rfl, rfl, by decide +kernel, rfl, by decide +kernel, by decide +kernel⟩
def sp_is_deed (K : PySem.W.Frag) : Sp := fun vs H Q _ => ∃ (v : V) (d : PyData) (n : Int), vs = [v, .int n] ∧ Dp K H v d ∧ ∀ H', Same H H' → Q (.bl (isD d n)) H'
theorem ok_is_deed {f : Addr} {fd : FuncData} {f_is_whole : Addr} {fd_is_whole : FuncData} {f_is_way : Addr} {fd_is_way : FuncData} (F : Fun K "is_deed" "is_deed" S_is_deed f fd)
    (F_is_whole : Fun K "is_whole" "is_whole" S_is_whole f_is_whole fd_is_whole) (b_is_whole : Binds K fd_is_whole ["thing"] []) (g_is_whole : mg "is_whole" = some (.ref f_is_whole)) (G_is_whole : FnOk P w K mg base CX0 1 f_is_whole fd_is_whole ["thing"] (sp_is_whole K))
    (F_is_way : Fun K "is_way" "is_way" S_is_way f_is_way fd_is_way) (b_is_way : Binds K fd_is_way ["thing"] []) (g_is_way : mg "is_way" = some (.ref f_is_way)) (G_is_way : FnOk P w K mg base CX0 2 f_is_way fd_is_way ["thing"] (sp_is_way K)) (m_isinstance : mg "isinstance" = none) (m_tuple : mg "tuple" = none) (m_len : mg "len" = none) :
    FnOk P w K mg base CX0 3 f fd ["thing", "parts"] (sp_is_deed K) := by
  refine F.ok sc_is_deed (fun vs H Q E h => ?_) (fun cdv A outer s H vs Q E hr h => ?_)
  ·
    obtain ⟨v, d, n, rfl, _⟩ := h
    rfl
  ·
    obtain ⟨v, d, n, rfl, hd, q⟩ := h
    refine ⟨_, (pss_cons (ps_if (PW.pt (pw_or (pt_not (pt_val (pe_callB (r := rIsi K) call_isi (by rfl) m_isinstance (by decide +kernel) (pa_cons (pv 0) (pa_cons (pe_bltn (v := .ty "tuple") (u := .type "tuple") (by rfl) m_tuple (by decide +kernel) rfl) pa_nil))))) (pw_or1 (pt_cmpR op_ne (pe_callB call_len_seq (by rfl) m_len (by decide +kernel) (pa_cons (pv 0) pa_nil)) pe_int (nomark _))))) (pss_one (ps_ret pe_bl)) pss_nil)
      (pss_cons (ps_asg (pv 0) (pg_tup rfl (pgs_cons (pg_name (i := 2) sc_is_deed.nd rfl (.inl rfl)) (pgs_cons (pg_name (i := 3) sc_is_deed.nd rfl (.inl rfl)) (pgs_cons (pg_name (i := 4) sc_is_deed.nd rfl (.inl rfl)) pgs_nil)))))
      (pss_cons (ps_if (PW.pt (pw_or (pt_not (pt_val (pe_call G_is_whole (hr.mono (by decide)) (by rfl) g_is_whole F_is_whole.kp b_is_whole .nil pass0 (pa_cons (pv 2) pa_nil)))) (pw_or (pt_not (pt_val (pe_call G_is_way (hr.mono (by decide)) (by rfl) g_is_way F_is_way.kp b_is_way .nil pass0 (pa_cons (pv 3) pa_nil)))) (pw_or1 (pt_not (pt_val (pe_call G_is_whole (hr.mono (by decide)) (by rfl) g_is_whole F_is_whole.kp b_is_whole .nil pass0 (pa_cons (pv 4) pa_nil)))))))) (pss_one (ps_ret pe_bl)) pss_nil)
      (pss_one (ps_ret (pe_and (pe_chain op_le op_lt pe_int (pv 2) (pv 1)) (pe_one (pe_cmpR op_ge (pv 4) pe_int (nomark _))))))))), ?_⟩
    refine w_st (σ' := [some v, some (.int n), none, none, none]) rfl ?_
    walk_at "ct"
    cases hd with
    | non =>
      refine w_isi (b := false) (.base .non) (kit_ty (by decide +kernel)) ?_
      walk_at "ct"
      exact q H (Same.refl H)
    | bl b =>
      refine w_isi (b := false) (.base (.bl b)) (kit_ty (by decide +kernel)) ?_
      walk_at "ct"
      exact q H (Same.refl H)
    | int i =>
      refine w_isi (b := false) (.base (.int i)) (kit_ty (by decide +kernel)) ?_
      walk_at "ct"
      exact q H (Same.refl H)
    | str x =>
      refine w_isi (b := false) (.base (.str x)) (kit_ty (by decide +kernel)) ?_
      walk_at "ct"
      exact q H (Same.refl H)
    | lst hs ht =>
      refine w_isi (b := false) (tyx_L hs) (kit_ty (by decide +kernel)) ?_
      walk_at "ct"
      exact q H (Same.refl H)
    | @tup a xs ds hs ht =>
      refine w_isi (b := true) (tyx_T hs) (kit_ty (by decide +kernel)) ?_
      walk_at "ct"
      refine ⟨a, xs, rfl, .inr hs, ?_⟩
      walk_at "ct"
      refine w_iteN (fun e => ?_) (fun e => ?_)
      · walk_at "ct"
        have hF : isD (.tuple ds) n = false := by
          cases ht with
          | nil => rfl
          | @cons v0 vs0 d0 ds0 h0 t0 => cases t0 with
            | nil => cases d0 <;> rfl
            | @cons v1 vs1 d1 ds1 h1 t1 => cases t1 with
              | nil => cases d0 <;> first | rfl | (cases d1 <;> rfl)
              | @cons v2 vs2 d2 ds2 h2 t2 => cases t2 with
                | nil => exact absurd rfl e
                | @cons v3 vs3 d3 ds3 h3 t3 => cases d0 <;> first | rfl | (cases d1 <;> first | rfl | (cases d2 <;> rfl))
        rw [hF] at q
        exact q H (Same.refl H)
      · obtain ⟨v0, v1, v2, rfl⟩ : ∃ v0 v1 v2, xs = [v0, v1, v2] := by
          match xs, e with
          | [a, b, c], _ => exact ⟨a, b, c, rfl⟩
          | [], e => exact absurd e (by decide)
          | [_], e => exact absurd e (by show ¬ ((1 : Nat) : Int) = 3; decide)
          | [_, _], e => exact absurd e (by show ¬ ((2 : Nat) : Int) = 3; decide)
          | _ :: _ :: _ :: _ :: r, e => exact absurd e (by rw [List.length_cons, List.length_cons, List.length_cons, List.length_cons]; omega)
        cases ht with
        | @cons _ _ d0 _ h0 t0 => cases t0 with
          | @cons _ _ d1 _ h1 t1 => cases t1 with
            | @cons _ _ d2 _ h2 t2 =>
              cases t2
              walk_at "ct"
              refine w_gtup hs rfl ?_
              walk_at "ct"
              refine ⟨v0, d0, rfl, h0, ?_⟩
              have bad : isD (.tuple [d0, d1, d2]) n = false → ∀ H', Same H H' → Q (.bl false) H' := fun z H' s => by
                rw [z] at q
                exact q H' s
              have sr := Same.refl H
              cases h0 with
              | int i =>
                refine w_bl (w_nT ?_)
                walk_at "ct"
                refine ⟨v1, d1, rfl, h1, fun H1 s1 => ?_⟩
                cases h1 with
                | int w =>
                  cases hw : isWay (.int w) with
                  | false =>
                    walk_at "ct"
                    refine bad ?_ _ s1
                    have hw' : (decide (w = 1) || decide (w = -1)) = false := hw
                    cases d2 <;> first | rfl | (show (_ && _ && (decide (w = 1) || decide (w = -1)) && _) = false; rw [hw', Bool.and_false, Bool.false_and])
                  | true =>
                    have hw' : (decide (w = 1) || decide (w = -1)) = true := hw
                    walk_at "ct"
                    refine ⟨v2, d2, rfl, dp_same s1 h2, ?_⟩
                    cases h2 with
                    | int t =>
                      refine w_bl (w_nT ?_)
                      walk_at "ct"
                      have hD : isD (.tuple [.int i, .int w, .int t]) n = (decide (0 ≤ i) && decide (i < n) && (decide (w = 1) || decide (w = -1)) && decide (0 ≤ t)) := rfl
                      have go : ∀ b, b = isD (.tuple [.int i, .int w, .int t]) n → ∀ H', Same H H' → Q (.bl b) H' := fun b hb H' s => by
                        rw [hb]
                        exact q H' s
                      rw [hD, hw'] at go
                      refine w_ite (fun e1 => ?_) (fun e1 => ?_)
                      · walk_at "ct"
                        refine w_ite (fun e2 => ?_) (fun e2 => ?_)
                        · walk_at "ct"
                          refine go _ ?_ _ s1
                          rw [decide_eq_true e1, decide_eq_true e2]
                          rfl
                        · walk_at "ct"
                          refine go _ ?_ _ s1
                          rw [decide_eq_false e2, Bool.and_false, Bool.false_and, Bool.false_and]
                      · walk_at "ct"
                        refine go _ ?_ _ s1
                        rw [decide_eq_false e1, Bool.false_and, Bool.false_and, Bool.false_and]
                    | non =>
                      refine w_bl (w_nF ?_)
                      walk_at "ct"
                      exact bad rfl _ s1
                    | bl b =>
                      refine w_bl (w_nF ?_)
                      walk_at "ct"
                      exact bad rfl _ s1
                    | str s =>
                      refine w_bl (w_nF ?_)
                      walk_at "ct"
                      exact bad rfl _ s1
                    | lst g1 g2 =>
                      refine w_bl (w_nF ?_)
                      walk_at "ct"
                      exact bad rfl _ s1
                    | tup g1 g2 =>
                      refine w_bl (w_nF ?_)
                      walk_at "ct"
                      exact bad rfl _ s1
                | non =>
                  refine w_bl (w_nF ?_)
                  walk_at "ct"
                  exact bad rfl _ s1
                | bl b =>
                  refine w_bl (w_nF ?_)
                  walk_at "ct"
                  exact bad rfl _ s1
                | str s =>
                  refine w_bl (w_nF ?_)
                  walk_at "ct"
                  exact bad rfl _ s1
                | lst g1 g2 =>
                  refine w_bl (w_nF ?_)
                  walk_at "ct"
                  exact bad rfl _ s1
                | tup g1 g2 =>
                  refine w_bl (w_nF ?_)
                  walk_at "ct"
                  exact bad rfl _ s1
              | non =>
                refine w_bl (w_nF ?_)
                walk_at "ct"
                exact bad rfl _ sr
              | bl b =>
                refine w_bl (w_nF ?_)
                walk_at "ct"
                exact bad rfl _ sr
              | str s =>
                refine w_bl (w_nF ?_)
                walk_at "ct"
                exact bad rfl _ sr
              | lst g1 g2 =>
                refine w_bl (w_nF ?_)
                walk_at "ct"
                exact bad rfl _ sr
              | tup g1 g2 =>
                refine w_bl (w_nF ?_)
                walk_at "ct"
                exact bad rfl _ sr
abbrev S_check_row : Stmt := topS 18
theorem sc_check_row : FnScope ["train", "row", "deed"] ["train", "row"] (defScope S_check_row) := ⟨rfl, rfl, rfl, by decide +kernel, rfl, by decide +kernel, by decide +kernel⟩
def sp_check_row (K : PySem.W.Frag) : Sp := fun vs H Q _ => ∃ (a b : Addr) (ps : List Part) (ds : List Deed), vs = [.ref a, .ref b] ∧ TrainAt K H a ps ∧ RowAt K H b ds ∧ (∀ d ∈ ds, d.ok ps.length) ∧ ∀ H', Same H H' → Q .non H'
theorem ok_check_row {f : Addr} {fd : FuncData} {f_is_deed : Addr} {fd_is_deed : FuncData} (F : Fun K "check_row" "check_row" S_check_row f fd)
    (F_is_deed : Fun K "is_deed" "is_deed" S_is_deed f_is_deed fd_is_deed) (b_is_deed : Binds K fd_is_deed ["thing", "parts"] []) (g_is_deed : mg "is_deed" = some (.ref f_is_deed)) (G_is_deed : FnOk P w K mg base CX0 3 f_is_deed fd_is_deed ["thing", "parts"] (sp_is_deed K)) (m_isinstance : mg "isinstance" = none) (m_list : mg "list" = none) (m_len : mg "len" = none) :
    FnOk P w K mg base CX0 4 f fd ["train", "row"] (sp_check_row K) := by
  refine F.ok sc_check_row (fun vs H Q E h => ?_) (fun cdv A outer s H vs Q E hr h => ?_)
  ·
    obtain ⟨a, b, ps, ds, rfl, _⟩ := h
    rfl
  ·
    obtain ⟨a, b, ps, ds, rfl, ⟨vs, hv, hd⟩, ⟨us, hu, he⟩, hok, q⟩ := h
    refine ⟨_, (pss_cons (ps_if (pt_not (pt_val (pe_callB (r := rIsi K) call_isi (by rfl) m_isinstance (by decide +kernel) (pa_cons (pv 1) (pa_cons (pe_bltn (v := .ty "list") (u := .type "list") (by rfl) m_list (by decide +kernel) rfl) pa_nil))))) (pss_one ps_never) pss_nil)
      (pss_one (ps_for PassesOwn.never rfl (pi_list (pv 1)) (pg_name (i := 2) sc_check_row.nd rfl (.inl rfl))
      (pss_one (ps_if (pt_not (pt_val (pe_call G_is_deed (hr.mono (by decide)) (by rfl) g_is_deed F_is_deed.kp b_is_deed .nil pass0 (pa_cons (pv 2) (pa_cons (pe_callB call_len_seq (by rfl) m_len (by decide +kernel) (pa_cons (pv 0) pa_nil)) pa_nil))))) (pss_one ps_never) pss_nil))))), ?_⟩
    refine w_st (σ' := [some (.ref a), some (.ref b), none]) rfl ?_
    have hvl : vs.length = ps.length := by rw [dpAll_len hd, List.length_map]
    have hul : us.length = ds.length := by rw [dpAll_len he, List.length_map]
    walk_at "ct"
    refine w_isi (b := true) (tyx_L hu) (kit_ty (by decide +kernel)) ?_
    walk_at "ct"
    refine w_IL hu ?_
    refine fb_list us (fun n σ H' => ∃ y, σ = [some (.ref a), some (.ref b), y] ∧ Same H H') ⟨none, rfl, Same.refl H⟩ ?_ ?_ ?_
    · rintro n σ H' hn ⟨y, rfl, sm⟩
      exact sm.seq hu
    · rintro n v σ H' hx ⟨y, rfl, sm⟩
      have hn : n < us.length := (List.getElem?_eq_some_iff.mp hx).1
      obtain ⟨d, hdn⟩ : ∃ d, ds[n]? = some d := ⟨_, List.getElem?_eq_getElem (by omega)⟩
      obtain ⟨v', hv1, hd1⟩ := deed_get he hdn
      cases Option.some.inj (hx.symm.trans hv1)
      walk_at "ct"
      refine ⟨a, vs, rfl, .inl (sm.seq hv), ?_⟩
      walk_at "ct"
      refine ⟨v, d.data, _, rfl, dp_same sm hd1, fun H1 s1 => ?_⟩
      have ok := hok d (List.mem_of_getElem? hdn)
      have hD : isD d.data (vs.length : Int) = true := by
        show (decide (0 ≤ (d.i : Int)) && decide ((d.i : Int) < (vs.length : Int)) && (decide (d.w = 1) || decide (d.w = -1)) && decide (0 ≤ (d.t : Int))) = true
        have o1 := ok.1
        rw [decide_eq_true (show 0 ≤ (d.i : Int) by omega), decide_eq_true (show (d.i : Int) < (vs.length : Int) by omega), decide_eq_true (show 0 ≤ (d.t : Int) by omega), show (decide (d.w = 1) || decide (d.w = -1)) = true by
          rcases ok.2 with z | z
          · rw [decide_eq_true z]; rfl
          · rw [decide_eq_true z, Bool.or_true]]
        rfl
      rw [hD]
      walk_at "ct"
      exact ⟨_, rfl, sm.trans s1⟩
    · rintro σ H' ⟨y, rfl, sm⟩
      exact q H' sm
abbrev S_marks_up_to : Stmt := topS 19
theorem sc_marks_up_to : FnScope ["marks", "place", "low", "high", "middle"] ["marks", "place"] (defScope S_marks_up_to) := ⟨rfl, rfl, rfl, by decide +kernel, rfl, by decide +kernel, by decide +kernel⟩
def sp_marks_up_to (K : PySem.W.Frag) : Sp := fun vs H Q _ => ∃ (b : Addr) (ms : List Int) (r : Int), vs = [.ref b, .int r] ∧ SqT K H b (ms.map V.int) ∧ ms.Pairwise (· < ·) ∧ ms.length ≤ 1000 ∧ Q (.int (cnt ms r)) H
theorem ok_marks_up_to {f : Addr} {fd : FuncData} (F : Fun K "marks_up_to" "marks_up_to" S_marks_up_to f fd) (m_len : mg "len" = none) :
    FnOk P w K mg base CX0 1 f fd ["marks", "place"] (sp_marks_up_to K) := by
  refine F.ok sc_marks_up_to (fun vs H Q E h => ?_) (fun cdv A outer s H vs Q E hr h => ?_)
  ·
    obtain ⟨b, ms, r, rfl, _⟩ := h
    rfl
  ·
    obtain ⟨b, ms, r, rfl, hb, hp, hl, q⟩ := h
    refine ⟨_, (pss_cons (ps_set (i := 2) sc_marks_up_to.nd rfl (.inl rfl) pe_int)
      (pss_cons (ps_set (i := 3) sc_marks_up_to.nd rfl (.inl rfl) (pe_callB call_len_seq (by rfl) m_len (by decide +kernel) (pa_cons (pv 0) pa_nil)))
      (pss_cons (ps_while PassesOwn.never (pt_cmpR op_lt (pv 2) (pv 3) (nomark _)) (pss_cons (ps_set (i := 4) sc_marks_up_to.nd rfl (.inl rfl) (pe_op op_fdivW (pe_op op_add (pv 2) (pv 3)) pe_int))
      (pss_one (ps_if (pt_cmpR op_le (pe_ix (r := rIxT K) ix_tup (pv 0) (pv 4) (fun _ _ => rfl)) (pv 1) (nomark _)) (pss_one (ps_set (i := 2) sc_marks_up_to.nd rfl (.inl rfl) (pe_op op_add (pv 4) pe_int))) (pss_one (ps_set (i := 3) sc_marks_up_to.nd rfl (.inl rfl) (pv 4)))))))
      (pss_one (ps_ret (pv 2)))))), ?_⟩
    refine w_st (σ' := [some (.ref b), some (.int r), none, none, none]) rfl ?_
    walk_at "ct"
    refine ⟨b, _, rfl, .inr hb, ?_⟩
    walk_at "ct"
    rw [List.length_map]
    refine while_by (fun σ H' => ∃ (lo hi : Nat) (y : Option V), σ = [some (.ref b), some (.int r), some (.int (lo : Int)), some (.int (hi : Int)), y] ∧ H' = H ∧ lo ≤ hi ∧ hi ≤ ms.length ∧ (∀ (j : Nat) (m : Int), j < lo → ms[j]? = some m → m ≤ r) ∧ (∀ (j : Nat) (m : Int), hi ≤ j → ms[j]? = some m → r < m))
      (fun σ _ => match σ with | [_, _, some (.int lo), some (.int hi), _] => (hi - lo).toNat | _ => 0)
      ⟨0, ms.length, none, rfl, rfl, Nat.zero_le _, Nat.le_refl _, (fun j m hj => absurd hj (Nat.not_lt_zero j)), fun j m hj e => by rw [List.getElem?_eq_none hj] at e; cases e⟩ ?_ ?_
    · rintro σ H' ⟨lo, hi, y, rfl, rfl, h1, h2, h3, h4⟩
      walk_at "ct"
      refine w_ite (fun e => ?_) (fun e => ?_)
      · walk_at "ct"
        refine w_rI (div_ok (by decide) (by decide)) ?_
        walk_at "ct"
        obtain ⟨mid, hm, g1, g2⟩ : ∃ mid : Nat, ((lo : Int) + (hi : Int)) / 2 = (mid : Int) ∧ lo ≤ mid ∧ mid < hi := ⟨((lo : Int) + (hi : Int)).toNat / 2, by omega, by omega, by omega⟩
        rw [hm]
        obtain ⟨m, hmm⟩ : ∃ m, ms[mid]? = some m := ⟨_, List.getElem?_eq_getElem (by omega)⟩
        refine w_ixT hb (at_of (j := mid) rfl (by rw [List.getElem?_map, hmm]; rfl)) ?_
        walk_at "ct"
        have mono : ∀ (j k : Nat) (x y : Int), j < k → ms[j]? = some x → ms[k]? = some y → x < y := fun j k x y hjk hx hy => by
          obtain ⟨l1, e1⟩ := List.getElem?_eq_some_iff.mp hx
          obtain ⟨l2, e2⟩ := List.getElem?_eq_some_iff.mp hy
          rw [← e1, ← e2]
          exact List.pairwise_iff_getElem.mp hp j k l1 l2 hjk
        refine w_ite (fun e2 => ?_) (fun e2 => ?_)
        · walk_at "ct"
          refine ⟨⟨mid + 1, hi, _, rfl, rfl, by omega, h2, fun j x hj hx => ?_, h4⟩, ?_⟩
          · by_cases hjm : j = mid
            · subst hjm
              cases Option.some.inj (hmm.symm.trans hx)
              exact e2
            · have := mono j mid x m (by omega) hx hmm
              omega
          · show ((hi : Int) - ((mid : Int) + 1)).toNat < ((hi : Int) - (lo : Int)).toNat
            omega
        · walk_at "ct"
          refine ⟨⟨lo, mid, _, rfl, rfl, g1, by omega, h3, fun j x hj hx => ?_⟩, ?_⟩
          · by_cases hjm : j = mid
            · subst hjm
              cases Option.some.inj (hmm.symm.trans hx)
              omega
            · have := mono mid j m x (by omega) hmm hx
              omega
          · show ((mid : Int) - (lo : Int)).toNat < ((hi : Int) - (lo : Int)).toNat
            omega
      · walk_at "ct"
        have e3 : lo = hi := by omega
        subst e3
        rw [← cnt_split ms lo r h2 h3 h4]
        exact q
    · rintro σ H' Q1 Q2 hQ ⟨v1, e1, v2, e2, i, j, rfl, rfl, k, e3, hq⟩
      exact ⟨_, e1, _, e2, i, j, rfl, rfl, k, e3, hQ _ _ hq⟩
abbrev S_marks_ahead : Stmt := topS 20
theorem sc_marks_ahead : FnScope ["part", "tooth"] ["part", "tooth"] (defScope S_marks_ahead) := ⟨rfl, rfl, rfl, by decide +kernel, rfl, by decide +kernel, by decide +kernel⟩
def sp_marks_ahead (K : PySem.W.Frag) : Sp := fun vs H Q _ => ∃ (v : V) (z : Int) (ms : List Int) (y : Int), vs = [v, .int y] ∧ Dp K H v (Part.wheel z ms).data ∧ (Part.wheel z ms).ok ∧ -(2 ^ 220) < y ∧ y < 2 ^ 220 ∧ Q (.int (mah z ms y)) H
theorem ok_marks_ahead {f : Addr} {fd : FuncData} {f_marks_up_to : Addr} {fd_marks_up_to : FuncData} (F : Fun K "marks_ahead" "marks_ahead" S_marks_ahead f fd)
    (F_marks_up_to : Fun K "marks_up_to" "marks_up_to" S_marks_up_to f_marks_up_to fd_marks_up_to) (b_marks_up_to : Binds K fd_marks_up_to ["marks", "place"] []) (g_marks_up_to : mg "marks_up_to" = some (.ref f_marks_up_to)) (G_marks_up_to : FnOk P w K mg base CX0 1 f_marks_up_to fd_marks_up_to ["marks", "place"] (sp_marks_up_to K)) (m_len : mg "len" = none) :
    FnOk P w K mg base CX0 2 f fd ["part", "tooth"] (sp_marks_ahead K) := by
  refine F.ok sc_marks_ahead (fun vs H Q E h => ?_) (fun cdv A outer s H vs Q E hr h => ?_)
  ·
    obtain ⟨v, z, ms, y, rfl, _⟩ := h
    rfl
  ·
    obtain ⟨v, z, ms, y, rfl, hp, ok, y0, y1, q⟩ := h
    refine ⟨_, (pss_one (ps_ret (pe_op op_add (pe_op op_mulW (pe_op op_fdivW (pv 1) (pe_ix (r := rIxT K) ix_tup (pv 0) pe_int (fun _ _ => rfl))) (pe_callB call_len_seq (by rfl) m_len (by decide +kernel) (pa_cons (pe_ix (r := rIxT K) ix_tup (pv 0) pe_int (fun _ _ => rfl)) pa_nil))) (pe_call G_marks_up_to (hr.mono (by decide)) (by rfl) g_marks_up_to F_marks_up_to.kp b_marks_up_to .nil pass0 (pa_cons (pe_ix (r := rIxT K) ix_tup (pv 0) pe_int (fun _ _ => rfl)) (pa_cons (pe_op op_mod (pv 1) (pe_ix (r := rIxT K) ix_tup (pv 0) pe_int (fun _ _ => rfl))) pa_nil)))))), ?_⟩
    obtain ⟨a, b, rfl, ha, hb⟩ := wheel_inv hp
    refine w_st (σ' := [some (.ref a), some (.int y)]) rfl ?_
    have hz : 1 ≤ z := ok.1
    have hz2 : z < 2 ^ 200 := ok.2.1
    walk_at "ct"
    refine w_rI (div_ok (by omega) (by omega)) ?_
    walk_at "ct"
    refine ⟨b, _, rfl, .inr hb, ?_⟩
    have hl : ms.length ≤ 1000 := ok.2.2.2
    have hq : -(2 ^ 220) ≤ y / z ∧ y / z < 2 ^ 220 := by
      refine ⟨Int.le_ediv_of_mul_le (by omega) ?_, Int.ediv_lt_of_lt_mul (by omega) ?_⟩
      · omega
      · omega
    rw [List.length_map]
    refine w_rI (mul_ok (by omega) (by omega) (by omega) (by omega)) ?_
    walk_at "ct"
    refine w_rI (by omega) ?_
    walk_at "ct"
    refine ⟨b, ms, _, rfl, hb, ok.2.2.1.1, hl, ?_⟩
    walk_at "ct"
    exact q
abbrev S_wheel_turned : Stmt := topS 21
theorem sc_wheel_turned : FnScope ["part", "place", "way", "times", "after", "given"] ["part", "place", "way", "times"] (defScope S_wheel_turned) := ⟨rfl, rfl, rfl, by decide +kernel, rfl, by decide +kernel, by decide +kernel⟩
def sp_wheel_turned (K : PySem.W.Frag) : Sp := fun vs H Q _ => ∃ (v : V) (z : Int) (ms : List Int) (x w : Int) (t : Nat), vs = [v, .int x, .int w, .int t] ∧ Dp K H v (Part.wheel z ms).data ∧ (Part.wheel z ms).ok ∧ 0 ≤ x ∧ x < z ∧ Sign w ∧ t < 2 ^ 200 ∧
  ∀ u H', Same H H' → H u = none → H' u = some (.tup [.int (pt (.wheel z ms) x w t).1, .int (pt (.wheel z ms) x w t).2]) → Q (.ref u) H'
theorem ok_wheel_turned {f : Addr} {fd : FuncData} {f_marks_ahead : Addr} {fd_marks_ahead : FuncData} (F : Fun K "wheel_turned" "wheel_turned" S_wheel_turned f fd)
    (F_marks_ahead : Fun K "marks_ahead" "marks_ahead" S_marks_ahead f_marks_ahead fd_marks_ahead) (b_marks_ahead : Binds K fd_marks_ahead ["part", "tooth"] []) (g_marks_ahead : mg "marks_ahead" = some (.ref f_marks_ahead)) (G_marks_ahead : FnOk P w K mg base CX0 2 f_marks_ahead fd_marks_ahead ["part", "tooth"] (sp_marks_ahead K)) (m_abs : mg "abs" = none) :
    FnOk P w K mg base CX0 3 f fd ["part", "place", "way", "times"] (sp_wheel_turned K) := by
  refine F.ok sc_wheel_turned (fun vs H Q E h => ?_) (fun cdv A outer s H vs Q E hr h => ?_)
  ·
    obtain ⟨v, z, ms, x, w, t, rfl, _⟩ := h
    rfl
  ·
    obtain ⟨v, z, ms, x, w, t, rfl, hp, ok, x0, x1, hw, ht, q⟩ := h
    refine ⟨_, (pss_cons (ps_set (i := 4) sc_wheel_turned.nd rfl (.inl rfl) (pe_op op_add (pv 1) (pe_op op_mulW (pv 2) (pv 3))))
      (pss_cons (ps_set (i := 5) sc_wheel_turned.nd rfl (.inl rfl) (pe_callB call_abs (by rfl) m_abs (by decide +kernel) (pa_cons (pe_op op_sub (pe_call G_marks_ahead (hr.mono (by decide)) (by rfl) g_marks_ahead F_marks_ahead.kp b_marks_ahead .nil pass0 (pa_cons (pv 0) (pa_cons (pv 4) pa_nil))) (pe_call G_marks_ahead (hr.mono (by decide)) (by rfl) g_marks_ahead F_marks_ahead.kp b_marks_ahead .nil pass0 (pa_cons (pv 0) (pa_cons (pv 1) pa_nil)))) pa_nil)))
      (pss_one (ps_ret (pe_tup (pa_cons (pe_op op_mod (pv 4) (pe_ix (r := rIxT K) ix_tup (pv 0) pe_int (fun _ _ => rfl))) (pa_cons (pv 5) pa_nil))))))), ?_⟩
    obtain ⟨a, b, rfl, ha, hb⟩ := wheel_inv hp
    refine w_st (σ' := [some (.ref a), some (.int x), some (.int w), some (.int t), none, none]) rfl ?_
    have hz : 1 ≤ z := ok.1
    have hz2 : z < 2 ^ 200 := ok.2.1
    have hw1 : -1 ≤ w ∧ w ≤ 1 := by rcases hw with rfl | rfl <;> exact ⟨by decide, by decide⟩
    walk_at "ct"
    refine w_rI (mul_ok (by omega) (by omega) (by omega) (by omega)) ?_
    walk_at "ct"
    have hb2 : -(2 ^ 220) < x + w * t ∧ x + w * t < 2 ^ 220 := by rcases hw with rfl | rfl <;> exact ⟨by omega, by omega⟩
    refine ⟨_, z, ms, _, rfl, hp, ok, hb2.1, hb2.2, ?_⟩
    walk_at "ct"
    refine ⟨_, z, ms, _, rfl, hp, ok, by omega, by omega, ?_⟩
    walk_at "ct"
    refine ⟨_, rfl, ?_⟩
    walk_at "ct"
    refine w_rI (by omega) ?_
    walk_at "ct"
    refine ⟨len2 rfl, fun p np => ?_⟩
    exact q _ _ (same_upd np) np upd_same
abbrev S_rocker_turned : Stmt := topS 22
theorem sc_rocker_turned : FnScope ["place", "way", "times"] ["place", "way", "times"] (defScope S_rocker_turned) := ⟨rfl, rfl, rfl, by decide +kernel, rfl, by decide +kernel, by decide +kernel⟩
def sp_rocker_turned (K : PySem.W.Frag) : Sp := fun vs H Q _ => ∃ (x w : Int) (t : Nat), vs = [.int x, .int w, .int t] ∧ ∀ u H', Same H H' → H u = none → H' u = some (.tup [.int (pt .rocker x w t).1, .int (pt .rocker x w t).2]) → Q (.ref u) H'
theorem ok_rocker_turned {f : Addr} {fd : FuncData} (F : Fun K "rocker_turned" "rocker_turned" S_rocker_turned f fd) :
    FnOk P w K mg base CX0 1 f fd ["place", "way", "times"] (sp_rocker_turned K) := by
  refine F.ok sc_rocker_turned (fun vs H Q E h => ?_) (fun cdv A outer s H vs Q E hr h => ?_)
  ·
    obtain ⟨x, w, t, rfl, _⟩ := h
    rfl
  ·
    obtain ⟨x, w, t, rfl, q⟩ := h
    refine ⟨_, (pss_cons (ps_if (pt_cmpR op_eq (pv 2) pe_int (nomark _)) (pss_one (ps_ret (pe_tup (pa_cons (pv 0) (pa_cons pe_int pa_nil))))) pss_nil)
      (pss_cons (ps_if (pt_cmpR op_eq (pv 1) (pe_un un_neg pe_int) (nomark _)) (pss_one (ps_ret (pe_tup (pa_cons pe_int (pa_cons pe_int pa_nil))))) pss_nil)
      (pss_one (ps_ret (pe_tup (pa_cons pe_int (pa_cons (pe_op op_sub pe_int (pv 0)) pa_nil))))))), ?_⟩
    refine w_st (σ' := [some (.int x), some (.int w), some (.int t)]) rfl ?_
    walk_at "ct"
    refine w_ite (fun e => ?_) (fun e => ?_)
    · walk_at "ct"
      refine ⟨len2 rfl, fun p np => q _ _ (same_upd np) np ?_⟩
      rw [upd_same]
      simp only [pt, if_pos e]
    · walk_at "ct"
      refine w_ite (fun e2 => ?_) (fun e2 => ?_)
      · walk_at "ct"
        refine ⟨len2 rfl, fun p np => q _ _ (same_upd np) np ?_⟩
        rw [upd_same]
        simp only [pt, if_neg e, if_pos e2]
      · walk_at "ct"
        refine ⟨len2 rfl, fun p np => q _ _ (same_upd np) np ?_⟩
        rw [upd_same]
        simp only [pt, if_neg e, if_neg e2]
abbrev S_spring_turned : Stmt := topS 23
theorem sc_spring_turned : FnScope ["part", "place", "way", "times"] ["part", "place", "way", "times"] (defScope S_spring_turned) := ⟨rfl, rfl, rfl, by decide +kernel, rfl, by decide +kernel, by decide +kernel⟩
def sp_spring_turned (K : PySem.W.Frag) : Sp := fun vs H Q _ => ∃ (v : V) (k x w : Int) (t : Nat), vs = [v, .int x, .int w, .int t] ∧ Dp K H v (Part.spring k).data ∧ (Part.spring k).ok ∧ ∀ u H', Same H H' → H u = none → H' u = some (.tup [.int (pt (.spring k) x w t).1, .int (pt (.spring k) x w t).2]) → Q (.ref u) H'
theorem ok_spring_turned {f : Addr} {fd : FuncData} (F : Fun K "spring_turned" "spring_turned" S_spring_turned f fd) (m_max : mg "max" = none) :
    FnOk P w K mg base CX0 1 f fd ["part", "place", "way", "times"] (sp_spring_turned K) := by
  refine F.ok sc_spring_turned (fun vs H Q E h => ?_) (fun cdv A outer s H vs Q E hr h => ?_)
  ·
    obtain ⟨v, k, x, w, t, rfl, _⟩ := h
    rfl
  ·
    obtain ⟨v, k, x, w, t, rfl, hp, ok, q⟩ := h
    refine ⟨_, (pss_cons (ps_if (pt_cmpR op_eq (pv 2) (pe_un un_neg pe_int) (nomark _)) (pss_one (ps_ret (pe_tup (pa_cons (pe_callB (call_max2 rfl) (by rfl) m_max (by decide +kernel) (pa_cons pe_int (pa_cons (pe_op op_sub (pv 1) (pv 3)) pa_nil))) (pa_cons pe_int pa_nil))))) pss_nil)
      (pss_one (ps_ret (pe_tup (pa_cons (pe_op op_mod (pe_op op_add (pv 1) (pv 3)) (pe_ix (r := rIxT K) ix_tup (pv 0) pe_int (fun _ _ => rfl))) (pa_cons (pe_op op_fdivW (pe_op op_add (pv 1) (pv 3)) (pe_ix (r := rIxT K) ix_tup (pv 0) pe_int (fun _ _ => rfl))) pa_nil)))))), ?_⟩
    obtain ⟨a, rfl, ha⟩ := spring_inv hp
    refine w_st (σ' := [some (.ref a), some (.int x), some (.int w), some (.int t)]) rfl ?_
    have k0 : 1 ≤ k := ok.1
    have k1 : k < 2 ^ 200 := ok.2
    walk_at "ct"
    refine w_ite (fun e2 => ?_) (fun e2 => ?_)
    · walk_at "ct"
      refine ⟨_, _, rfl, ?_⟩
      walk_at "ct"
      refine ⟨len2 rfl, fun p np => q _ _ (same_upd np) np ?_⟩
      rw [upd_same]
      simp only [pt, if_pos e2]
    · walk_at "ct"
      refine w_rI (by omega) ?_
      walk_at "ct"
      refine w_rI (div_ok (by omega) (by omega)) ?_
      walk_at "ct"
      refine ⟨len2 rfl, fun p np => q _ _ (same_upd np) np ?_⟩
      rw [upd_same]
      simp only [pt, if_neg e2]
abbrev S_part_turned : Stmt := topS 24
theorem sc_part_turned : FnScope ["part", "place", "way", "times"] ["part", "place", "way", "times"] (defScope S_part_turned) := ⟨rfl, rfl, rfl, by decide +kernel, rfl, by decide +kernel, by decide +kernel⟩
def sp_part_turned (K : PySem.W.Frag) : Sp := fun vs H Q _ => ∃ (v : V) (p : Part) (x w : Int) (t : Nat), vs = [v, .int x, .int w, .int t] ∧ Dp K H v p.data ∧ p.ok ∧ 0 ≤ x ∧ x < p.places ∧ Sign w ∧ t < 2 ^ 200 ∧
  ∀ u H', Same H H' → H u = none → H' u = some (.tup [.int (pt p x w t).1, .int (pt p x w t).2]) → Q (.ref u) H'
theorem ok_part_turned {f : Addr} {fd : FuncData} {f_spring_turned : Addr} {fd_spring_turned : FuncData} {f_rocker_turned : Addr} {fd_rocker_turned : FuncData} {f_wheel_turned : Addr} {fd_wheel_turned : FuncData} (F : Fun K "part_turned" "part_turned" S_part_turned f fd)
    (F_spring_turned : Fun K "spring_turned" "spring_turned" S_spring_turned f_spring_turned fd_spring_turned) (b_spring_turned : Binds K fd_spring_turned ["part", "place", "way", "times"] []) (g_spring_turned : mg "spring_turned" = some (.ref f_spring_turned)) (G_spring_turned : FnOk P w K mg base CX0 1 f_spring_turned fd_spring_turned ["part", "place", "way", "times"] (sp_spring_turned K))
    (F_rocker_turned : Fun K "rocker_turned" "rocker_turned" S_rocker_turned f_rocker_turned fd_rocker_turned) (b_rocker_turned : Binds K fd_rocker_turned ["place", "way", "times"] []) (g_rocker_turned : mg "rocker_turned" = some (.ref f_rocker_turned)) (G_rocker_turned : FnOk P w K mg base CX0 1 f_rocker_turned fd_rocker_turned ["place", "way", "times"] (sp_rocker_turned K))
    (F_wheel_turned : Fun K "wheel_turned" "wheel_turned" S_wheel_turned f_wheel_turned fd_wheel_turned) (b_wheel_turned : Binds K fd_wheel_turned ["part", "place", "way", "times"] []) (g_wheel_turned : mg "wheel_turned" = some (.ref f_wheel_turned)) (G_wheel_turned : FnOk P w K mg base CX0 3 f_wheel_turned fd_wheel_turned ["part", "place", "way", "times"] (sp_wheel_turned K)) :
    FnOk P w K mg base CX0 4 f fd ["part", "place", "way", "times"] (sp_part_turned K) := by
  refine F.ok sc_part_turned (fun vs H Q E h => ?_) (fun cdv A outer s H vs Q E hr h => ?_)
  ·
    obtain ⟨v, p, x, w, t, rfl, _⟩ := h
    rfl
  ·
    obtain ⟨v, p, x, w, t, rfl, hp, ok, x0, x1, hw, ht, q⟩ := h
    refine ⟨_, (pss_cons (ps_if (pt_cmpR op_eq (pe_ix (r := rIxT K) ix_tup (pv 0) pe_int (fun _ _ => rfl)) pe_str (nomark _)) (pss_one (ps_ret (pe_call G_wheel_turned (hr.mono (by decide)) (by rfl) g_wheel_turned F_wheel_turned.kp b_wheel_turned .nil pass0 (pa_cons (pv 0) (pa_cons (pv 1) (pa_cons (pv 2) (pa_cons (pv 3) pa_nil))))))) pss_nil)
      (pss_cons (ps_if (pt_cmpR op_eq (pe_ix (r := rIxT K) ix_tup (pv 0) pe_int (fun _ _ => rfl)) pe_str (nomark _)) (pss_one (ps_ret (pe_call G_rocker_turned (hr.mono (by decide)) (by rfl) g_rocker_turned F_rocker_turned.kp b_rocker_turned .nil pass0 (pa_cons (pv 1) (pa_cons (pv 2) (pa_cons (pv 3) pa_nil)))))) pss_nil)
      (pss_cons (ps_if (pt_cmpR op_eq (pe_ix (r := rIxT K) ix_tup (pv 0) pe_int (fun _ _ => rfl)) pe_str (nomark _)) (pss_one (ps_ret (pe_call G_spring_turned (hr.mono (by decide)) (by rfl) g_spring_turned F_spring_turned.kp b_spring_turned .nil pass0 (pa_cons (pv 0) (pa_cons (pv 1) (pa_cons (pv 2) (pa_cons (pv 3) pa_nil))))))) pss_nil)
      (pss_one (ps_ret (pe_tup (pa_cons (pv 1) (pa_cons (pe_ifExp (pt_cmpR op_eq (pv 2) pe_int (nomark _)) (pv 3) pe_int) pa_nil)))))))), ?_⟩
    refine w_st (σ' := [some v, some (.int x), some (.int w), some (.int t)]) rfl ?_
    cases p with
    | wheel z ms =>
      obtain ⟨a, b, rfl, ha, hb⟩ := wheel_inv hp
      walk_at "ct"
      exact ⟨_, z, ms, x, w, t, rfl, hp, ok, x0, x1, hw, ht, q⟩
    | click =>
      obtain ⟨a, rfl, ha⟩ := click_inv hp
      walk_at "ct"
      refine w_ite (fun e => ?_) (fun e => ?_)
      · walk_at "ct"
        refine ⟨len2 rfl, fun p np => q _ _ (same_upd np) np ?_⟩
        rw [upd_same]
        simp only [pt, if_pos e]
      · walk_at "ct"
        refine ⟨len2 rfl, fun p np => q _ _ (same_upd np) np ?_⟩
        rw [upd_same]
        simp only [pt, if_neg e]
    | rocker =>
      obtain ⟨a, rfl, ha⟩ := rocker_inv hp
      walk_at "ct"
      exact ⟨x, w, t, rfl, q⟩
    | spring k =>
      obtain ⟨a, rfl, ha⟩ := spring_inv hp
      walk_at "ct"
      exact ⟨_, k, x, w, t, rfl, hp, ok, q⟩
abbrev S_row_left : Stmt := topS 25
theorem sc_row_left : FnScope ["train", "stand", "row", "places", "total", "i", "way", "times", "given", "number"] ["train", "stand", "row"] (defScope S_row_left) := ⟨rfl, rfl, rfl, by decide +kernel, rfl, by decide +kernel, by decide +kernel⟩
def sp_row_left (K : PySem.W.Frag) : Sp := fun vs H Q _ => ∃ (a t b : Addr) (ps : List Part) (xs : List Int) (ds : List Deed), vs = [.ref a, .ref t, .ref b] ∧ TrainAt K H a ps ∧ StandL ps xs ∧ ps.length ≤ 1000 ∧ SqT K H t (xs.map V.int) ∧ RowAt K H b ds ∧ (∀ d ∈ ds, d.ok ps.length ∧ d.t < 2 ^ 200) ∧
  ∀ q u H', Same H H' → H u = none → H q = none → H' u = some (.tup ((rowL ps ds (xs, 0)).1.map V.int)) → H' q = some (.tup [.ref u, .int (rowL ps ds (xs, 0)).2]) → Q (.ref q) H'
theorem ok_row_left {f : Addr} {fd : FuncData} {f_part_turned : Addr} {fd_part_turned : FuncData} (F : Fun K "row_left" "row_left" S_row_left f fd)
    (F_part_turned : Fun K "part_turned" "part_turned" S_part_turned f_part_turned fd_part_turned) (b_part_turned : Binds K fd_part_turned ["part", "place", "way", "times"] []) (g_part_turned : mg "part_turned" = some (.ref f_part_turned)) (G_part_turned : FnOk P w K mg base CX0 4 f_part_turned fd_part_turned ["part", "place", "way", "times"] (sp_part_turned K)) (m_list : mg "list" = none) (m_range : mg "range" = none) (m_tuple : mg "tuple" = none) (m_len : mg "len" = none) :
    FnOk P w K mg base CX0 5 f fd ["train", "stand", "row"] (sp_row_left K) := by
  refine F.ok sc_row_left (fun vs H Q E h => ?_) (fun cdv A outer s H vs Q E hr h => ?_)
  ·
    obtain ⟨a, t, b, ps, xs, ds, rfl, _⟩ := h
    rfl
  ·
    obtain ⟨a, t, b, ps, xs, ds, rfl, ⟨vs, hv, hd⟩, hst, hps, hS, ⟨us, hu, he⟩, hok, q⟩ := h
    refine ⟨_, (pss_cons (ps_set (i := 3) sc_row_left.nd rfl (.inl rfl) (pe_callTy call_list_of (by rfl) m_list (by decide +kernel) (pa_cons (pv 1) pa_nil)))
      (pss_cons (ps_set (i := 4) sc_row_left.nd rfl (.inl rfl) pe_int)
      (pss_cons (ps_for PassesOwn.never rfl (pi_list (pv 2)) (pg_tup rfl (pgs_cons (pg_name (i := 5) sc_row_left.nd rfl (.inl rfl)) (pgs_cons (pg_name (i := 6) sc_row_left.nd rfl (.inl rfl)) (pgs_cons (pg_name (i := 7) sc_row_left.nd rfl (.inl rfl)) pgs_nil))))
      (pss_cons (ps_set (i := 8) sc_row_left.nd rfl (.inl rfl) (pv 7))
      (pss_cons (ps_for PassesOwn.never rfl (pi_range2 (by rfl) m_range (pa_cons (pv 5) (pa_cons (pe_callB call_len_seq (by rfl) m_len (by decide +kernel) (pa_cons (pv 0) pa_nil)) pa_nil))) (pg_name (i := 9) sc_row_left.nd rfl (.inl rfl))
      (pss_one (ps_asg (pe_call G_part_turned (hr.mono (by decide)) (by rfl) g_part_turned F_part_turned.kp b_part_turned .nil pass0 (pa_cons (pe_ix (r := rIxL K) ix_list (pv 0) (pv 9) (fun _ _ => rfl)) (pa_cons (pe_ix (r := rIxL K) ix_list (pv 3) (pv 9) (fun _ _ => rfl)) (pa_cons (pv 6) (pa_cons (pv 8) pa_nil))))) (pg_tup rfl (pgs_cons (pg_sub (pv 3) (pv 9) set_list) (pgs_cons (pg_name (i := 8) sc_row_left.nd rfl (.inl rfl)) pgs_nil))))))
      (pss_one (ps_aug (i := 4) sc_row_left.nd rfl (.inl rfl) (pe_op op_mulW (pv 6) (pv 8)) ip_add)))))
      (pss_one (ps_ret (pe_tup (pa_cons (pe_callTy call_tuple_of (by rfl) m_tuple (by decide +kernel) (pa_cons (pv 3) pa_nil)) (pa_cons (pv 4) pa_nil)))))))), ?_⟩
    refine w_st (σ' := [some (.ref a), some (.ref t), some (.ref b), none, none, none, none, none, none, none]) rfl ?_
    have hvl : vs.length = ps.length := by rw [dpAll_len hd, List.length_map]
    have hul : us.length = ds.length := by rw [dpAll_len he, List.length_map]
    walk_at "ct"
    refine ⟨t, _, rfl, .inr hS, fun l nl => ?_⟩
    walk_at "ct"
    refine w_IL ((same_upd nl).seq hu) ?_
    refine fb_list us (fun n σ H' => ∃ y4 y5 y6 y7 y8, σ = [some (.ref a), some (.ref t), some (.ref b), some (.ref l), some (.int (rowL ps (ds.take n) (xs, 0)).2), y4, y5, y6, y7, y8] ∧ Same H H' ∧ H' l = some (.lst ((rowL ps (ds.take n) (xs, 0)).1.map V.int)))
      ⟨none, none, none, none, none, rfl, same_upd nl, upd_same⟩ ?_ ?_ ?_
    · rintro n σ H' hn ⟨y4, y5, y6, y7, y8, rfl, sm, _⟩
      exact sm.seq hu
    · rintro n v σ H' hx ⟨y4, y5, y6, y7, y8, rfl, sm, hl⟩
      have hn : n < us.length := (List.getElem?_eq_some_iff.mp hx).1
      obtain ⟨d, hdn⟩ : ∃ d, ds[n]? = some d := ⟨_, List.getElem?_eq_getElem (by omega)⟩
      obtain ⟨v', hv1, hd1⟩ := deed_get he hdn
      cases Option.some.inj (hx.symm.trans hv1)
      obtain ⟨c, rfl, hc⟩ := deed_inv hd1
      have okd := hok d (List.mem_of_getElem? hdn)
      have hi : d.i < ps.length := okd.1.1
      have hw : Sign d.w := okd.1.2
      have ht2 : d.t < 2 ^ 200 := okd.2
      have hw1 : -1 ≤ d.w ∧ d.w ≤ 1 := by rcases hw with z | z <;> rw [z] <;> exact ⟨by decide, by decide⟩
      have hst2 : StandL ps (rowL ps (ds.take n) (xs, 0)).1 := rowL_stand hst fun e he => (hok e (List.mem_of_mem_take he)).1
      have htk : ds.take (n + 1) = ds.take n ++ [d] := by rw [List.take_add_one, hdn]; rfl
      generalize hrw : rowL ps (ds.take n) (xs, 0) = rw0 at *
      obtain ⟨ys, tot⟩ := rw0
      have hst3 : StandL ps ys := hst2
      have hyl : ys.length = ps.length := hst3.len
      refine w_gtup (Same.tup sm hc) rfl ?_
      walk_at "ct"
      refine ⟨a, vs, rfl, .inl (sm.seq hv), ?_⟩
      walk_at "ct"
      refine w_RG2 (by omega) (by omega) (by omega) (by omega) ?_
      rw [show ((vs.length : Int) - (d.i : Int)).toNat = ps.length - d.i by omega]
      refine fb_range (fun m σ H' => ∃ y9, σ = [some (.ref a), some (.ref t), some (.ref b), some (.ref l), some (.int tot), some (.int d.i), some (.int d.w), some (.int d.t), some (.int (rnF (ptw d.w) ps d.i (ys, (d.t : Int)) m).2), y9] ∧ Same H H' ∧ H' l = some (.lst ((rnF (ptw d.w) ps d.i (ys, (d.t : Int)) m).1.map V.int)) ∧ 0 ≤ (rnF (ptw d.w) ps d.i (ys, (d.t : Int)) m).2 ∧ (rnF (ptw d.w) ps d.i (ys, (d.t : Int)) m).2 ≤ d.t)
        ⟨_, rfl, sm, hl, Int.natCast_nonneg _, Int.le_refl _⟩ ?_ ?_
      · rintro m σ H1 hm ⟨y9, rfl, s1, hl1, n0, n1⟩
        obtain ⟨p, hp⟩ : ∃ p, ps[d.i + m]? = some p := ⟨_, List.getElem?_eq_getElem (by omega)⟩
        obtain ⟨v, hv1, hd1⟩ := TrainAt.at (a := a) hd hp
        obtain ⟨x, hx⟩ : ∃ x, ys[d.i + m]? = some x := ⟨_, List.getElem?_eq_getElem (by omega)⟩
        have hx2 : (rnF (ptw d.w) ps d.i (ys, (d.t : Int)) m).1[d.i + m]? = some x := by
          rw [rnF_ahead _ ps d.i _ m (d.i + m) (Nat.le_refl _)]
          exact hx
        have hx0 := hst3.ok.2 _ _ _ hp hx
        have okp : p.ok := hst3.okp p (List.mem_of_getElem? hp)
        obtain ⟨g, hg⟩ : ∃ g : Nat, (rnF (ptw d.w) ps d.i (ys, (d.t : Int)) m).2 = (g : Int) := ⟨_, (Int.toNat_of_nonneg n0).symm⟩
        have er : rnF (ptw d.w) ps d.i (ys, (d.t : Int)) (m + 1) = ((rnF (ptw d.w) ps d.i (ys, (d.t : Int)) m).1.set (d.i + m) (pt p x d.w g).1, (pt p x d.w g).2) := by
          rw [← hg]
          exact stF_at hp hx2
        rw [hg] at n0 n1 ⊢
        walk_at "ct"
        refine w_ixL (s1.seq hv) (at_of (j := d.i + m) (by omega) hv1) ?_
        walk_at "ct"
        refine w_ixL (.of hl1) (at_of (j := d.i + m) (by omega) (by rw [List.getElem?_map, hx2]; rfl)) ?_
        walk_at "ct"
        refine ⟨v, p, x, d.w, g, rfl, dp_same s1 hd1, okp, hx0.1, hx0.2, hw, by omega, fun u H2 s2 nu hu2 => ?_⟩
        refine w_gtup (.of hu2) rfl ?_
        walk_at "ct"
        refine w_setL (s2 _ _ hl1) (ix_at (j := d.i + m) (by omega) (by rw [List.length_map, rnF_len]; show d.i + m < ys.length; omega)) ?_
        walk_at "ct"
        have hle := pt_le okp hx0.1 hx0.2 hw g
        have hnn := pt_nn okp hx0.1 hx0.2 hw g
        refine ⟨some (.int ((d.i : Int) + (m : Int))), ?_, same_new (s1.trans s2) nl, ?_, ?_, ?_⟩
        · rw [er]
        · rw [er, upd_same, List.map_set]
        · rw [er]
          exact hnn
        · rw [er]
          show (pt p x d.w g).2 ≤ _
          omega
      · rintro σ H1 ⟨y9, rfl, s1, hl1, n0, n1⟩
        have hR : rnF (ptw d.w) ps d.i (ys, (d.t : Int)) (ps.length - d.i) = (ys.take d.i ++ (gen (ptw d.w) (ps.drop d.i) (ys.drop d.i) d.t).1, (gen (ptw d.w) (ps.drop d.i) (ys.drop d.i) d.t).2) := rnF_gen _ ps _ _ _ _ hyl (by omega)
        have hD : rowL ps (ds.take (n + 1)) (xs, 0) = ((deedL ps ys d).1, tot + (deedL ps ys d).2) := by
          rw [htk, rowL_app, hrw]
          rfl
        have hl2 : (rnF (ptw d.w) ps d.i (ys, (d.t : Int)) (ps.length - d.i)).1 = (deedL ps ys d).1 := by rw [hR]; rfl
        have hl3 : d.w * (rnF (ptw d.w) ps d.i (ys, (d.t : Int)) (ps.length - d.i)).2 = (deedL ps ys d).2 := by rw [hR]; rfl
        rw [hl2] at hl1
        refine w_aug rfl ?_
        walk_at "ct"
        refine w_rI (mul_ok (by omega) (by omega) (by omega) (by omega)) ?_
        walk_at "ct"
        rw [hl3]
        rw [hD]
        exact ⟨_, _, _, _, _, rfl, s1, hl1⟩
    · rintro σ H' ⟨y4, y5, y6, y7, y8, rfl, sm, hl⟩
      rw [List.take_of_length_le (by omega)] at hl ⊢
      walk_at "ct"
      refine ⟨l, _, rfl, .inl ⟨.of hl, fun u nu => ?_⟩⟩
      walk_at "ct"
      refine ⟨len2 rfl, fun p np => ?_⟩
      have s2 : Same H (upd H' u (.tup ((rowL ps ds (xs, 0)).1.map V.int))) := same_new sm (sm.free nu)
      exact q p u _ (same_new s2 (s2.free np)) (sm.free nu) (s2.free np) (by rw [upd_ne (ne_of_none upd_same np)]; exact upd_same) upd_same
abbrev S_left : Stmt := topS 26
theorem sc_left : FnScope ["train", "stand", "row"] ["train", "stand", "row"] (defScope S_left) := ⟨rfl, rfl, rfl, by decide +kernel, rfl, by decide +kernel, by decide +kernel⟩
def sp_left (K : PySem.W.Frag) : Sp := fun vs H Q _ => ∃ (a t b : Addr) (ps : List Part) (xs : List Int) (ds : List Deed), vs = [.ref a, .ref t, .ref b] ∧ TrainAt K H a ps ∧ StandL ps xs ∧ 1 ≤ ps.length ∧ ps.length ≤ 1000 ∧ SqT K H t (xs.map V.int) ∧ RowAt K H b ds ∧ (∀ d ∈ ds, d.ok ps.length ∧ d.t < 2 ^ 200) ∧
  ∀ q u H', Same H H' → H u = none → H q = none → H' u = some (.tup ((rowL ps ds (xs, 0)).1.map V.int)) → H' q = some (.tup [.ref u, .int (rowL ps ds (xs, 0)).2]) → Q (.ref q) H'
theorem ok_left {f : Addr} {fd : FuncData} {f_row_left : Addr} {fd_row_left : FuncData} {f_check_row : Addr} {fd_check_row : FuncData} {f_check_stand : Addr} {fd_check_stand : FuncData} (F : Fun K "left" "left" S_left f fd)
    (F_row_left : Fun K "row_left" "row_left" S_row_left f_row_left fd_row_left) (b_row_left : Binds K fd_row_left ["train", "stand", "row"] []) (g_row_left : mg "row_left" = some (.ref f_row_left)) (G_row_left : FnOk P w K mg base CX0 5 f_row_left fd_row_left ["train", "stand", "row"] (sp_row_left K))
    (F_check_row : Fun K "check_row" "check_row" S_check_row f_check_row fd_check_row) (b_check_row : Binds K fd_check_row ["train", "row"] []) (g_check_row : mg "check_row" = some (.ref f_check_row)) (G_check_row : FnOk P w K mg base CX0 4 f_check_row fd_check_row ["train", "row"] (sp_check_row K))
    (F_check_stand : Fun K "check_stand" "check_stand" S_check_stand f_check_stand fd_check_stand) (b_check_stand : Binds K fd_check_stand ["train", "stand"] []) (g_check_stand : mg "check_stand" = some (.ref f_check_stand)) (G_check_stand : FnOk P w K mg base CX0 5 f_check_stand fd_check_stand ["train", "stand"] (sp_check_stand K)) :
    FnOk P w K mg base CX0 6 f fd ["train", "stand", "row"] (sp_left K) := by
  refine F.ok sc_left (fun vs H Q E h => ?_) (fun cdv A outer s H vs Q E hr h => ?_)
  ·
    obtain ⟨a, t, b, ps, xs, ds, rfl, _⟩ := h
    rfl
  ·
    obtain ⟨a, t, b, ps, xs, ds, rfl, hT, hst, hp1, hps, hS, hR, hok, q⟩ := h
    refine ⟨_, (pss_cons (ps_expr (pe_call G_check_stand (hr.mono (by decide)) (by rfl) g_check_stand F_check_stand.kp b_check_stand .nil pass0 (pa_cons (pv 0) (pa_cons (pv 1) pa_nil))))
      (pss_cons (ps_expr (pe_call G_check_row (hr.mono (by decide)) (by rfl) g_check_row F_check_row.kp b_check_row .nil pass0 (pa_cons (pv 0) (pa_cons (pv 2) pa_nil))))
      (pss_one (ps_ret (pe_call G_row_left (hr.mono (by decide)) (by rfl) g_row_left F_row_left.kp b_row_left .nil pass0 (pa_cons (pv 0) (pa_cons (pv 1) (pa_cons (pv 2) pa_nil)))))))), ?_⟩
    refine w_st (σ' := [some (.ref a), some (.ref t), some (.ref b)]) rfl ?_
    walk_at "ct"
    refine ⟨a, t, ps, xs, rfl, hT, hst.okp, hp1, hS, hst.ok, fun H1 s1 => ?_⟩
    walk_at "ct"
    refine ⟨a, b, ps, ds, rfl, hT.same s1, hR.same s1, fun d hd => (hok d hd).1, fun H2 s2 => ?_⟩
    have s12 := s1.trans s2
    walk_at "ct"
    exact ⟨a, t, b, ps, xs, ds, rfl, hT.same s12, hst, hps, Same.tup s12 hS, hR.same s12, hok, fun q' u H3 s3 nu nq hu hq => q q' u H3 (s12.trans s3) (s12.free nu) (s12.free nq) hu hq⟩
abbrev S_check_count : Stmt := topS 27
theorem sc_check_count : FnScope ["times"] ["times"] (defScope S_check_count) := ⟨rfl, rfl, rfl, by decide +kernel, rfl, by decide +kernel, by decide +kernel⟩
def sp_check_count (K : PySem.W.Frag) : Sp := fun vs H Q _ => ∃ (n : Nat), vs = [.int n] ∧ Q .non H
theorem ok_check_count {f : Addr} {fd : FuncData} {f_is_whole : Addr} {fd_is_whole : FuncData} (F : Fun K "check_count" "check_count" S_check_count f fd)
    (F_is_whole : Fun K "is_whole" "is_whole" S_is_whole f_is_whole fd_is_whole) (b_is_whole : Binds K fd_is_whole ["thing"] []) (g_is_whole : mg "is_whole" = some (.ref f_is_whole)) (G_is_whole : FnOk P w K mg base CX0 1 f_is_whole fd_is_whole ["thing"] (sp_is_whole K)) :
    FnOk P w K mg base CX0 2 f fd ["times"] (sp_check_count K) := by
  refine F.ok sc_check_count (fun vs H Q E h => ?_) (fun cdv A outer s H vs Q E hr h => ?_)
  ·
    obtain ⟨n, rfl, _⟩ := h
    rfl
  ·
    obtain ⟨n, rfl, q⟩ := h
    refine ⟨_, (pss_one (ps_if (PW.pt (pw_or (pt_not (pt_val (pe_call G_is_whole (hr.mono (by decide)) (by rfl) g_is_whole F_is_whole.kp b_is_whole .nil pass0 (pa_cons (pv 0) pa_nil)))) (pw_or1 (pt_cmpR op_lt (pv 0) pe_int (nomark _))))) (pss_one ps_never) pss_nil)), ?_⟩
    refine w_st (σ' := [some (.int n)]) rfl ?_
    walk_at "ct"
    refine ⟨.int n, .int n, rfl, .int _, ?_⟩
    refine w_bl (w_nT ?_)
    walk_at "ct"
    refine w_ite (fun e => absurd e (by omega)) (fun e => ?_)
    walk_at "ct"
    exact q
abbrev S_left_often : Stmt := topS 28
theorem sc_left_often : FnScope ["train", "stand", "row", "times", "first_met", "stands", "sums", "total", "shown", "start", "rounds", "rest"] ["train", "stand", "row", "times"] (defScope S_left_often) := ⟨rfl, rfl, rfl, by decide +kernel, rfl, by decide +kernel, by decide +kernel⟩
def sp_left_often (K : PySem.W.Frag) : Sp := fun vs H Q _ => ∃ (a t b : Addr) (ps : List Part) (xs : List Int) (ds : List Deed) (n : Nat), vs = [.ref a, .ref t, .ref b, .int n] ∧ TrainAt K H a ps ∧ StandL ps xs ∧ 1 ≤ ps.length ∧ ps.length ≤ 1000 ∧ stands ps ≤ 100000 ∧ H t = some (.tup (xs.map V.int)) ∧ RowAt K H b ds ∧ ds.length ≤ 1000 ∧ (∀ d ∈ ds, d.ok ps.length ∧ d.t < 2 ^ 200) ∧ n < 2 ^ 200 ∧
  ∀ q u H', Same H H' → H q = none → H' u = some (.tup ((itR ps ds n xs).1.map V.int)) → H' q = some (.tup [.ref u, .int (itR ps ds n xs).2]) → Q (.ref q) H'
theorem ok_left_often {f : Addr} {fd : FuncData} {f_row_left : Addr} {fd_row_left : FuncData} {f_check_count : Addr} {fd_check_count : FuncData} {f_check_row : Addr} {fd_check_row : FuncData} {f_check_stand : Addr} {fd_check_stand : FuncData} (F : Fun K "left_often" "left_often" S_left_often f fd)
    (F_row_left : Fun K "row_left" "row_left" S_row_left f_row_left fd_row_left) (b_row_left : Binds K fd_row_left ["train", "stand", "row"] []) (g_row_left : mg "row_left" = some (.ref f_row_left)) (G_row_left : FnOk P w K mg base CX0 5 f_row_left fd_row_left ["train", "stand", "row"] (sp_row_left K))
    (F_check_count : Fun K "check_count" "check_count" S_check_count f_check_count fd_check_count) (b_check_count : Binds K fd_check_count ["times"] []) (g_check_count : mg "check_count" = some (.ref f_check_count)) (G_check_count : FnOk P w K mg base CX0 2 f_check_count fd_check_count ["times"] (sp_check_count K))
    (F_check_row : Fun K "check_row" "check_row" S_check_row f_check_row fd_check_row) (b_check_row : Binds K fd_check_row ["train", "row"] []) (g_check_row : mg "check_row" = some (.ref f_check_row)) (G_check_row : FnOk P w K mg base CX0 4 f_check_row fd_check_row ["train", "row"] (sp_check_row K))
    (F_check_stand : Fun K "check_stand" "check_stand" S_check_stand f_check_stand fd_check_stand) (b_check_stand : Binds K fd_check_stand ["train", "stand"] []) (g_check_stand : mg "check_stand" = some (.ref f_check_stand)) (G_check_stand : FnOk P w K mg base CX0 5 f_check_stand fd_check_stand ["train", "stand"] (sp_check_stand K)) (m_divmod : mg "divmod" = none) (m_len : mg "len" = none) :
    FnOk P w K mg base CX0 6 f fd ["train", "stand", "row", "times"] (sp_left_often K) := by
  refine F.ok sc_left_often (fun vs H Q E h => ?_) (fun cdv A outer s H vs Q E hr h => ?_)
  ·
    obtain ⟨a, t, b, ps, xs, ds, n, rfl, _⟩ := h
    rfl
  ·
    obtain ⟨a, t, b, ps, xs, ds, n, rfl, hT, hst, hp1, hps, hmany, hS, hR, hdl, hok, hn, q⟩ := h
    refine ⟨_, (pss_cons (ps_expr (pe_call G_check_stand (hr.mono (by decide)) (by rfl) g_check_stand F_check_stand.kp b_check_stand .nil pass0 (pa_cons (pv 0) (pa_cons (pv 1) pa_nil))))
      (pss_cons (ps_expr (pe_call G_check_row (hr.mono (by decide)) (by rfl) g_check_row F_check_row.kp b_check_row .nil pass0 (pa_cons (pv 0) (pa_cons (pv 2) pa_nil))))
      (pss_cons (ps_expr (pe_call G_check_count (hr.mono (by decide)) (by rfl) g_check_count F_check_count.kp b_check_count .nil pass0 (pa_cons (pv 3) pa_nil)))
      (pss_cons (ps_set (i := 4) sc_left_often.nd rfl (.inl rfl) pe_dnewT)
      (pss_cons (ps_set (i := 5) sc_left_often.nd rfl (.inl rfl) (pe_lst pa_nil))
      (pss_cons (ps_set (i := 6) sc_left_often.nd rfl (.inl rfl) (pe_lst pa_nil))
      (pss_cons (ps_set (i := 7) sc_left_often.nd rfl (.inl rfl) pe_int)
      (pss_cons (ps_while PassesOwn.never (PW.pt (pw_and (pt_cmpR op_lt (pe_callB call_len_seq (by rfl) m_len (by decide +kernel) (pa_cons (pv 5) pa_nil)) (pv 3) (nomark _)) (pw_and1 (pt_cmp (pc_dnotin (hu_of hr) (pv 1) (pv 4)))))) (pss_cons (ps_dput (hu_of hr) (pv 4) (pv 1) (pe_callB call_len_seq (by rfl) m_len (by decide +kernel) (pa_cons (pv 5) pa_nil)) rfl)
      (pss_cons (ps_expr (pe_bm PySem.F.plainAttrs_list PySem.F.slot_list_append PySem.F.type_list_append mt_append (pv 5) (pa_cons (pv 1) pa_nil)))
      (pss_cons (ps_expr (pe_bm PySem.F.plainAttrs_list PySem.F.slot_list_append PySem.F.type_list_append mt_append (pv 6) (pa_cons (pv 7) pa_nil)))
      (pss_cons (ps_asg (pe_call G_row_left (hr.mono (by decide)) (by rfl) g_row_left F_row_left.kp b_row_left .nil pass0 (pa_cons (pv 0) (pa_cons (pv 1) (pa_cons (pv 2) pa_nil)))) (pg_tup rfl (pgs_cons (pg_name (i := 1) sc_left_often.nd rfl (.inl rfl)) (pgs_cons (pg_name (i := 8) sc_left_often.nd rfl (.inl rfl)) pgs_nil))))
      (pss_one (ps_aug (i := 7) sc_left_often.nd rfl (.inl rfl) (pv 8) ip_add)))))))
      (pss_cons (ps_if (pt_cmpR op_eq (pe_callB call_len_seq (by rfl) m_len (by decide +kernel) (pa_cons (pv 5) pa_nil)) (pv 3) (nomark _)) (pss_one (ps_ret (pe_tup (pa_cons (pv 1) (pa_cons (pv 7) pa_nil))))) pss_nil)
      (pss_cons (ps_set (i := 9) sc_left_often.nd rfl (.inl rfl) (pe_dget (hu_of hr) (pv 4) (pv 1) (fun _ _ => rfl)))
      (pss_cons (ps_asg (pe_callB call_divmod (by rfl) m_divmod (by decide +kernel) (pa_cons (pe_op op_sub (pv 3) (pv 9)) (pa_cons (pe_op op_sub (pe_callB call_len_seq (by rfl) m_len (by decide +kernel) (pa_cons (pv 5) pa_nil)) (pv 9)) pa_nil))) (pg_tup rfl (pgs_cons (pg_name (i := 10) sc_left_often.nd rfl (.inl rfl)) (pgs_cons (pg_name (i := 11) sc_left_often.nd rfl (.inl rfl)) pgs_nil))))
      (pss_one (ps_ret (pe_tup (pa_cons (pe_ix (r := rIxL K) ix_list (pv 5) (pe_op op_add (pv 9) (pv 11)) (fun _ _ => rfl)) (pa_cons (pe_op op_add (pe_ix (r := rIxL K) ix_list (pv 6) (pe_op op_add (pv 9) (pv 11)) (fun _ _ => rfl)) (pe_op op_mulW (pv 10) (pe_op op_sub (pv 7) (pe_ix (r := rIxL K) ix_list (pv 6) (pv 9) (fun _ _ => rfl))))) pa_nil)))))))))))))))), ?_⟩
    refine w_st (σ' := [some (.ref a), some (.ref t), some (.ref b), some (.int n), none, none, none, none, none, none, none, none]) rfl ?_
    have hokd : ∀ d ∈ ds, d.ok ps.length := fun d hd => (hok d hd).1
    walk_at "ct"
    refine ⟨a, t, ps, xs, rfl, hT, hst.okp, hp1, .of hS, hst.ok, fun H1 s1 => ?_⟩
    walk_at "ct"
    refine ⟨a, b, ps, ds, rfl, hT.same s1, hR.same s1, hokd, fun H2 s2 => ?_⟩
    have s12 := s1.trans s2
    walk_at "ct"
    refine ⟨n, rfl, ?_⟩
    walk_at "ct"
    intro d hd0
    have e1 := s12.trans (same_upd (o := .dT []) hd0)
    walk_at "ct"
    refine ⟨len2 rfl, fun S hS0 => ?_⟩
    have e2 := e1.trans (same_upd (o := .lst []) hS0)
    walk_at "ct"
    refine ⟨len2 rfl, fun M hM0 => ?_⟩
    have e3 := e2.trans (same_upd (o := .lst []) hM0)
    have ndH : H d = none := s12.free hd0
    have nSH : H S = none := e1.free hS0
    have nMH : H M = none := e2.free hM0
    have hSM : S ≠ M := ne_of_none upd_same hM0
    have fd : (upd (upd (upd H2 d (.dT [])) S (.lst [])) M (.lst [])) d = some (.dT []) := ((same_upd hS0).trans (same_upd hM0)) _ _ upd_same
    have fS : (upd (upd (upd H2 d (.dT [])) S (.lst [])) M (.lst [])) S = some (.lst []) := (same_upd hM0) _ _ upd_same
    have fM : (upd (upd (upd H2 d (.dT [])) S (.lst [])) M (.lst [])) M = some (.lst []) := upd_same
    clear hd0 hS0 hM0 e1 e2
    generalize upd (upd (upd H2 d _) S _) M _ = H3 at *
    walk_at "ct"
    refine while_by (fun σ H' => ∃ (k : Nat) (tk : Addr) (y : Option V) (kvs : List (List Key × V)) (vs : List V), σ = [some (.ref a), some (.ref tk), some (.ref b), some (.int n), some (.ref d), some (.ref S), some (.ref M), some (.int (itR ps ds k xs).2), y, none, none, none] ∧ k ≤ n ∧ Same H H' ∧ H' tk = some (.tup ((itR ps ds k xs).1.map V.int)) ∧ H' d = some (.dT kvs) ∧ kvs.length = k ∧ H' S = some (.lst vs) ∧ vs.length = k ∧ (∀ i, i < k → ∃ c, vs[i]? = some (.ref c) ∧ H' c = some (.tup ((itR ps ds i xs).1.map V.int))) ∧ H' M = some (.lst ((List.range k).map fun i => V.int (itR ps ds i xs).2)) ∧ (∀ i j, i < j → j < k → (itR ps ds i xs).1 ≠ (itR ps ds j xs).1) ∧ (∀ key v, valV kvs key = some v → ∃ j, j < k ∧ v = .int (j : Nat) ∧ key = (itR ps ds j xs).1.map Sum.inl) ∧ (∀ key, valV kvs key = none → ∀ j, j < k → (itR ps ds j xs).1.map Sum.inl ≠ key))
      (fun σ H' => match H' S with | some (.lst vs) => n - vs.length | _ => 0)
      ⟨0, t, none, [], [], rfl, Nat.zero_le _, e3, e3 _ _ hS, fd, rfl, fS, rfl, (fun i hi => absurd hi (Nat.not_lt_zero i)), fM, (fun i j _ hj => absurd hj (Nat.not_lt_zero j)), (fun key v h => by cases h), fun key _ j hj => absurd hj (Nat.not_lt_zero j)⟩ ?_ ?_
    · rintro σ H4 ⟨k, tk, y, kvs, vs, rfl, hkn, s4, ht4, hd4, hkl, hS4, hvl, hvs, hM4, dist, hsome, hnone⟩
      have few := few_stands hst hokd dist
      have small : k < sizeLine := Nat.lt_of_le_of_lt (show k ≤ 100000 by omega) (by decide)
      have keyk : H4 tk = some (.tup (((itR ps ds k xs).1.map (Sum.inl : Int → Key)).map kV)) := by rw [key_map]; exact ht4
      walk_at "ct"
      refine ⟨S, vs, rfl, .inl (.of hS4), ?_⟩
      rw [hvl]
      walk_at "ct"
      refine w_ite (fun e => ?_) (fun e => ?_)
      · walk_at "ct"
        refine ⟨d, _, rfl, DGet.t hd4 keyk, ?_⟩
        cases hv : valV kvs ((itR ps ds k xs).1.map Sum.inl) with
        | none =>
          refine w_bl ?_
          refine w_nF ?_
          walk_at "ct"
          refine ⟨S, vs, rfl, .inl (.of hS4), ?_⟩
          rw [hvl]
          walk_at "ct"
          refine ⟨d, _, rfl, DPut.t hd4 keyk (by rw [hkl]; exact small), ?_⟩
          rw [putK_new _ hv]
          have tk_d : tk ≠ d := ne_of ht4 hd4 (by intro z; cases z)
          have S_d : S ≠ d := ne_of hS4 hd4 (by intro z; cases z)
          have M_d : M ≠ d := ne_of hM4 hd4 (by intro z; cases z)
          have s5 : Same H (upd H4 d (.dT (kvs ++ [((itR ps ds k xs).1.map Sum.inl, V.int (k : Int))]))) := same_new s4 ndH
          have hS5 : (upd H4 d (.dT (kvs ++ [((itR ps ds k xs).1.map Sum.inl, V.int (k : Int))]))) S = some (.lst vs) := by rw [upd_ne S_d]; exact hS4
          have hM5 : (upd H4 d (.dT (kvs ++ [((itR ps ds k xs).1.map Sum.inl, V.int (k : Int))]))) M = some (.lst ((List.range k).map fun i => V.int (itR ps ds i xs).2)) := by rw [upd_ne M_d]; exact hM4
          have hd5 : (upd H4 d (.dT (kvs ++ [((itR ps ds k xs).1.map Sum.inl, V.int (k : Int))]))) d = some (.dT (kvs ++ [((itR ps ds k xs).1.map Sum.inl, V.int (k : Int))])) := upd_same
          have tup5 : ∀ c zs, H4 c = some (.tup zs) → (upd H4 d (.dT (kvs ++ [((itR ps ds k xs).1.map Sum.inl, V.int (k : Int))]))) c = some (.tup zs) := fun c zs hc => by rw [upd_ne (ne_of hc hd4 (by intro z; cases z))]; exact hc
          generalize upd H4 d _ = H5 at *
          walk_at "ct"
          refine ⟨ty_list hS5, ?_⟩
          walk_at "ct"
          refine w_append hS5 (by rw [hvl]; exact small) ?_
          have s6 : Same H (upd H5 S (.lst (vs ++ [.ref tk]))) := same_new s5 nSH
          have hS6 : (upd H5 S (.lst (vs ++ [.ref tk]))) S = some (.lst (vs ++ [.ref tk])) := upd_same
          have hM6 : (upd H5 S (.lst (vs ++ [.ref tk]))) M = some (.lst ((List.range k).map fun i => V.int (itR ps ds i xs).2)) := by rw [upd_ne hSM.symm]; exact hM5
          have hd6 : (upd H5 S (.lst (vs ++ [.ref tk]))) d = some (.dT (kvs ++ [((itR ps ds k xs).1.map Sum.inl, V.int (k : Int))])) := by rw [upd_ne S_d.symm]; exact hd5
          have tup6 : ∀ c zs, H5 c = some (.tup zs) → (upd H5 S (.lst (vs ++ [.ref tk]))) c = some (.tup zs) := fun c zs hc => by rw [upd_ne (ne_of hc hS5 (by intro z; cases z))]; exact hc
          generalize upd H5 S _ = H6 at *
          walk_at "ct"
          refine ⟨ty_list hM6, ?_⟩
          walk_at "ct"
          refine w_append hM6 (by rw [List.length_map, List.length_range]; exact small) ?_
          rw [show ((List.range k).map fun i => V.int (itR ps ds i xs).2) ++ [V.int (itR ps ds k xs).2] = (List.range (k + 1)).map fun i => V.int (itR ps ds i xs).2 by rw [List.range_succ, List.map_append]; rfl]
          have s7 : Same H (upd H6 M (.lst ((List.range (k + 1)).map fun i => V.int (itR ps ds i xs).2))) := same_new s6 nMH
          have hM7 : (upd H6 M (.lst ((List.range (k + 1)).map fun i => V.int (itR ps ds i xs).2))) M = some (.lst ((List.range (k + 1)).map fun i => V.int (itR ps ds i xs).2)) := upd_same
          have hS7 : (upd H6 M (.lst ((List.range (k + 1)).map fun i => V.int (itR ps ds i xs).2))) S = some (.lst (vs ++ [.ref tk])) := by rw [upd_ne hSM]; exact hS6
          have hd7 : (upd H6 M (.lst ((List.range (k + 1)).map fun i => V.int (itR ps ds i xs).2))) d = some (.dT (kvs ++ [((itR ps ds k xs).1.map Sum.inl, V.int (k : Int))])) := by rw [upd_ne M_d.symm]; exact hd6
          have tup7 : ∀ c zs, H4 c = some (.tup zs) → (upd H6 M (.lst ((List.range (k + 1)).map fun i => V.int (itR ps ds i xs).2))) c = some (.tup zs) := fun c zs hc => by rw [upd_ne (ne_of (tup6 _ _ (tup5 _ _ hc)) hM6 (by intro z; cases z))]; exact tup6 _ _ (tup5 _ _ hc)
          generalize upd H6 M _ = H7 at *
          walk_at "ct"
          refine ⟨a, tk, b, ps, (itR ps ds k xs).1, ds, rfl, hT.same s7, itR_stand hst hokd k, hps, .of (tup7 _ _ ht4), hR.same s7, hok, fun g u H8 s8 nu ng hu hg => ?_⟩
          refine w_gtup (.of hg) rfl ?_
          walk_at "ct"
          refine w_aug rfl ?_
          walk_at "ct"
          refine ⟨⟨k + 1, u, _, kvs ++ [((itR ps ds k xs).1.map Sum.inl, V.int (k : Int))], vs ++ [.ref tk], rfl, by omega, s7.trans s8, hu, s8 _ _ hd7, by rw [List.length_append, hkl]; rfl, s8 _ _ hS7, by rw [List.length_append, hvl]; rfl, fun i hi => ?_, s8 _ _ hM7, fun i j hij hj => ?_, fun key v hkv => ?_, fun key hkv j hj => ?_⟩, ?_⟩
          · by_cases hik : i < k
            · obtain ⟨c, hc1, hc2⟩ := hvs i hik
              exact ⟨c, by rw [List.getElem?_append_left (by omega)]; exact hc1, s8 _ _ (tup7 _ _ hc2)⟩
            · have ei : i = k := by omega
              subst ei
              refine ⟨tk, ?_, s8 _ _ (tup7 _ _ ht4)⟩
              rw [List.getElem?_append_right (by omega), hvl, Nat.sub_self]
              rfl
          · by_cases hjk : j < k
            · exact dist i j hij hjk
            · have ej : j = k := by omega
              subst ej
              exact fun z => hnone _ hv i hij (by rw [z])
          · rw [valV_snoc _ _ _ _ hv] at hkv
            by_cases hk2 : key = (itR ps ds k xs).1.map Sum.inl
            · rw [if_pos hk2] at hkv
              cases Option.some.inj hkv
              exact ⟨k, by omega, rfl, hk2⟩
            · rw [if_neg hk2] at hkv
              obtain ⟨j, hj, hv2, hk3⟩ := hsome key v hkv
              exact ⟨j, by omega, hv2, hk3⟩
          · rw [valV_snoc _ _ _ _ hv] at hkv
            by_cases hk2 : key = (itR ps ds k xs).1.map Sum.inl
            · rw [if_pos hk2] at hkv
              cases hkv
            · rw [if_neg hk2] at hkv
              by_cases hjk : j < k
              · exact hnone key hkv j hjk
              · have ej : j = k := by omega
                subst ej
                exact fun z => hk2 z.symm
          · show (match H8 S with | some (.lst vs) => n - vs.length | _ => 0) < (match H4 S with | some (.lst vs) => n - vs.length | _ => 0)
            rw [s8 _ _ hS7, hS4]
            show n - (vs ++ [V.ref tk]).length < n - vs.length
            rw [List.length_append, hvl]
            show n - (k + 1) < n - k
            omega
        | some v =>
          obtain ⟨j, hj, rfl, hkey⟩ := hsome _ _ hv
          have ej : (itR ps ds j xs).1 = (itR ps ds k xs).1 := (inl_inj hkey).symm
          refine w_bl ?_
          refine w_nT ?_
          walk_at "ct"
          refine ⟨S, vs, rfl, .inl (.of hS4), ?_⟩
          rw [hvl]
          walk_at "ct"
          refine w_ite (fun e2 => absurd e2 (by omega)) (fun e2 => ?_)
          walk_at "ct"
          refine ⟨d, _, rfl, (by have z := DGet.t hd4 keyk; rw [hv] at z; exact z), ?_⟩
          walk_at "ct"
          refine ⟨S, vs, rfl, .inl (.of hS4), ?_⟩
          rw [hvl]
          walk_at "ct"
          refine ⟨_, _, rfl, ⟨by omega, by omega⟩, fun pr npr => ?_⟩
          have s5 := same_upd (o := .tup [.int (((n : Int) - (j : Int)) / ((k : Int) - (j : Int))), .int (((n : Int) - (j : Int)) % ((k : Int) - (j : Int)))]) npr
          obtain ⟨r, hr, hrp⟩ : ∃ r : Nat, ((n : Int) - (j : Int)) % ((k : Int) - (j : Int)) = (r : Int) ∧ r = (n - j) % (k - j) := ⟨_, by rw [show (n : Int) - (j : Int) = ((n - j : Nat) : Int) by omega, show (k : Int) - (j : Int) = ((k - j : Nat) : Int) by omega]; exact (Int.natCast_emod _ _).symm, rfl⟩
          obtain ⟨rr, hrr, hrrp⟩ : ∃ rr : Nat, ((n : Int) - (j : Int)) / ((k : Int) - (j : Int)) = (rr : Int) ∧ rr = (n - j) / (k - j) := ⟨_, by rw [show (n : Int) - (j : Int) = ((n - j : Nat) : Int) by omega, show (k : Int) - (j : Int) = ((k - j : Nat) : Int) by omega]; exact (Int.natCast_ediv _ _).symm, rfl⟩
          have hrk : r < k - j := by rw [hrp]; exact Nat.mod_lt _ (by omega)
          have hrn : rr ≤ n := by rw [hrrp]; exact Nat.le_trans (Nat.div_le_self _ _) (Nat.sub_le _ _)
          rw [hr, hrr] at s5 ⊢
          have h5 : Same H4 (upd H4 pr (.tup [.int (rr : Int), .int (r : Int)])) := s5
          obtain ⟨c, hc1, hc2⟩ := hvs (j + r) (by omega)
          have sum1 : (List.range k)[j + r]? = some (j + r) := List.getElem?_range (by omega)
          have sum2 : (List.range k)[j]? = some j := List.getElem?_range hj
          have b1 := itR_sum hst hok hdl k
          have b2 := itR_sum hst hok hdl j
          refine w_gtup (.of upd_same) rfl ?_
          walk_at "ct"
          refine w_ixL (.of (h5 _ _ hS4)) (at_of (j := j + r) (by omega) hc1) ?_
          walk_at "ct"
          refine w_ixL (.of (h5 _ _ hM4)) (at_of (j := j + r) (by omega) (by rw [List.getElem?_map, sum1]; rfl)) ?_
          walk_at "ct"
          refine w_ixL (.of (h5 _ _ hM4)) (at_of (j := j) rfl (by rw [List.getElem?_map, sum2]; rfl)) ?_
          walk_at "ct"
          refine w_rI (mul_ok (by omega) (by omega) (by omega) (by omega)) ?_
          walk_at "ct"
          refine ⟨len2 rfl, fun p np => ?_⟩
          have hat := itR_at (n := n) hj (by omega) ej
          rw [← hrp, ← hrrp] at hat
          have s6 := h5.trans (same_upd (o := .tup [.ref c, .int ((itR ps ds (j + r) xs).2 + (rr : Int) * ((itR ps ds k xs).2 - (itR ps ds j xs).2))]) np)
          refine q p c _ (s4.trans s6) ((s4.trans h5).free np) ?_ ?_
          · rw [hat]
            exact s6 _ _ hc2
          · rw [hat]
            exact upd_same
      · have ek : k = n := by omega
        subst ek
        walk_at "ct"
        refine ⟨S, vs, rfl, .inl (.of hS4), ?_⟩
        rw [hvl]
        walk_at "ct"
        refine w_ite (fun e2 => ?_) (fun e2 => absurd rfl e2)
        walk_at "ct"
        refine ⟨len2 rfl, fun p np => ?_⟩
        have s5 := same_upd (o := .tup [.ref tk, .int (itR ps ds k xs).2]) np
        exact q p tk _ (s4.trans s5) (s4.free np) (s5 _ _ ht4) upd_same
    · rintro σ H4 Q1 Q2 hQ ⟨v5, e5, p5, ys, z5, hsq, v3, e3, i, j, z1, z2, k, z3, hk⟩
      refine ⟨v5, e5, p5, ys, z5, hsq, v3, e3, i, j, z1, z2, k, z3, ?_⟩
      by_cases hkt : k = true
      · rw [if_pos hkt] at hk ⊢
        obtain ⟨v1, g1, v4, g4, dd, o, g2, g3, kk, g5, g6⟩ := hk
        exact ⟨v1, g1, v4, g4, dd, o, g2, g3, kk, g5, hQ _ _ g6⟩
      · rw [if_neg hkt] at hk ⊢
        exact hQ _ _ hk
abbrev S_passed_on : Stmt := topS 30
theorem sc_passed_on : FnScope ["part", "at", "place", "deeds", "further", "i", "way", "times", "given"] ["part", "at", "place", "deeds"] (defScope S_passed_on) := ⟨rfl, rfl, rfl, by decide +kernel, rfl, by decide +kernel, by decide +kernel⟩
def sp_passed_on (K : PySem.W.Frag) : Sp := fun vs H Q _ => ∃ (v dv : V) (p : Part) (n m : Nat) (x : Int) (ds : List Deed), vs = [v, .int (n : Int), .int x, dv] ∧ Dp K H v p.data ∧ p.ok ∧ 0 ≤ x ∧ x < p.places ∧ Dp K H dv (.tuple (ds.map Deed.data)) ∧ DeedsOk m ds ∧ ds.length ≤ 1000 ∧
  ∀ q u H', Same H H' → H' q = some (.tup [.int (pass p n x ds).1, .ref u]) → Dp K H' (.ref u) (.tuple ((pass p n x ds).2.map Deed.data)) → Q (.ref q) H'
theorem ok_passed_on {f : Addr} {fd : FuncData} {f_part_turned : Addr} {fd_part_turned : FuncData} (F : Fun K "passed_on" "passed_on" S_passed_on f fd)
    (F_part_turned : Fun K "part_turned" "part_turned" S_part_turned f_part_turned fd_part_turned) (b_part_turned : Binds K fd_part_turned ["part", "place", "way", "times"] []) (g_part_turned : mg "part_turned" = some (.ref f_part_turned)) (G_part_turned : FnOk P w K mg base CX0 4 f_part_turned fd_part_turned ["part", "place", "way", "times"] (sp_part_turned K)) (m_tuple : mg "tuple" = none) :
    FnOk P w K mg base CX0 5 f fd ["part", "at", "place", "deeds"] (sp_passed_on K) := by
  refine F.ok sc_passed_on (fun vs H Q E h => ?_) (fun cdv A outer s H vs Q E hr h => ?_)
  ·
    obtain ⟨v, dv, p, n, m, x, ds, rfl, _⟩ := h
    rfl
  ·
    obtain ⟨v, dv, p, n, m, x, ds, rfl, hv, ok, h0, h1, hd0, dok, dl, q⟩ := h
    refine ⟨_, (pss_cons (ps_set (i := 4) sc_passed_on.nd rfl (.inl rfl) (pe_lst pa_nil))
      (pss_cons (ps_for PassesOwn.never rfl (pi_tup (pv 3)) (pg_tup rfl (pgs_cons (pg_name (i := 5) sc_passed_on.nd rfl (.inl rfl)) (pgs_cons (pg_name (i := 6) sc_passed_on.nd rfl (.inl rfl)) (pgs_cons (pg_name (i := 7) sc_passed_on.nd rfl (.inl rfl)) pgs_nil))))
      (pss_cons (ps_set (i := 8) sc_passed_on.nd rfl (.inl rfl) (pv 7))
      (pss_cons (ps_if (pt_cmpR op_le (pv 5) (pv 1) (nomark _)) (pss_one (ps_asg (pe_call G_part_turned (hr.mono (by decide)) (by rfl) g_part_turned F_part_turned.kp b_part_turned .nil pass0 (pa_cons (pv 0) (pa_cons (pv 2) (pa_cons (pv 6) (pa_cons (pv 7) pa_nil))))) (pg_tup rfl (pgs_cons (pg_name (i := 2) sc_passed_on.nd rfl (.inl rfl)) (pgs_cons (pg_name (i := 8) sc_passed_on.nd rfl (.inl rfl)) pgs_nil))))) pss_nil)
      (pss_one (ps_if (pt_cmpR op_gt (pv 8) pe_int (nomark _)) (pss_one (ps_expr (pe_bm PySem.F.plainAttrs_list PySem.F.slot_list_append PySem.F.type_list_append mt_append (pv 4) (pa_cons (pe_tup (pa_cons (pv 5) (pa_cons (pv 6) (pa_cons (pv 8) pa_nil)))) pa_nil)))) pss_nil)))))
      (pss_one (ps_ret (pe_tup (pa_cons (pv 2) (pa_cons (pe_callTy call_tuple_of (by rfl) m_tuple (by decide +kernel) (pa_cons (pv 4) pa_nil)) pa_nil))))))), ?_⟩
    refine w_st (σ' := [some v, some (.int (n : Int)), some (.int x), some dv, none, none, none, none, none]) rfl ?_
    obtain ⟨a, us, rfl, hu, hd⟩ := tup_inv hd0
    have ul : us.length = ds.length := by rw [dpAll_len hd, List.length_map]
    walk_at "ct"
    refine ⟨len2 rfl, fun l nl => ?_⟩
    have s0 : Same H (upd H l (.lst [])) := same_upd nl
    have g0 : (upd H l (.lst [])) l = some (.lst []) := upd_same
    generalize upd H l _ = H0 at *
    walk_at "ct"
    refine w_IT (Same.tup s0 hu) ?_
    refine fb_tup us (fun k σ G => ∃ (y5 y6 y7 y8 : Option V) (ws : List V), σ = [some v, some (.int (n : Int)), some (.int (pass p n x (ds.take k)).1), some (.ref a), some (.ref l), y5, y6, y7, y8] ∧ Same H G ∧ G l = some (.lst ws) ∧ DpAll K G ws ((pass p n x (ds.take k)).2.map Deed.data))
      ⟨none, none, none, none, [], rfl, s0, g0, .nil⟩ ?_ ?_ ?_
    · rintro k σ G _ ⟨y5, y6, y7, y8, ws, rfl, sm, _⟩
      exact Same.tup sm hu
    · rintro k v1 σ G hx ⟨y5, y6, y7, y8, ws, rfl, sm, hl, hws⟩
      have hk : k < us.length := (List.getElem?_eq_some_iff.mp hx).1
      obtain ⟨d, hdn⟩ : ∃ d, ds[k]? = some d := ⟨_, List.getElem?_eq_getElem (by omega)⟩
      obtain ⟨v', hv1, hd1⟩ := deed_get hd hdn
      cases Option.some.inj (hx.symm.trans hv1)
      obtain ⟨c, rfl, hc⟩ := deed_inv hd1
      have dm := List.mem_of_getElem? hdn
      have w1 := dok.w d dm
      have t1 := dok.t d dm
      have tk : ds.take (k + 1) = ds.take k ++ [d] := by rw [List.take_add_one, hdn]; rfl
      have dokk : DeedsOk m (ds.take k) := ⟨fun e he => dok.w e (List.mem_of_mem_take he), fun e he => dok.i e (List.mem_of_mem_take he), fun e he => dok.t e (List.mem_of_mem_take he)⟩
      have pin := pass_in (n := n) ok (ds.take k) x h0 h1 dokk.w
      have plen := (pass_ok (n := n) ok (ds.take k) x h0 h1 dokk).2
      have wl : ws.length = (pass p n x (ds.take k)).2.length := by rw [dpAll_len hws, List.length_map]
      have tl : (ds.take k).length ≤ 1000 := by rw [List.length_take]; omega
      have ps := pass_snoc (p := p) (n := n) d (ds.take k) x
      rw [← tk] at ps
      generalize hy : (pass p n x (ds.take k)) = yf at *
      obtain ⟨y, fs⟩ := yf
      have y0 : 0 ≤ y := pin.1
      have y1 : y < p.places := pin.2
      have wl' : ws.length = fs.length := wl
      have fl : fs.length ≤ 1000 := Nat.le_trans plen tl
      refine w_gtup (Same.tup sm hc) rfl ?_
      walk_at "ct"
      have put : ∀ (G2 : Hp) (e : Deed) (r : Addr), Same H G2 → G2 l = some (.lst ws) → DpAll K G2 ws (fs.map Deed.data) → SqT K G2 r [.int (e.i : Int), .int e.w, .int (e.t : Int)] → DpAll K (upd G2 l (.lst (ws ++ [.ref r]))) (ws ++ [.ref r]) ((fs ++ [e]).map Deed.data) := fun G2 e r s2 hl2 hw2 hr => by
        rw [List.map_append]
        exact dpAll_app (deeds_upd hl2 fs hw2) (.cons (deed_dp (sqT_upd hr hl2)) .nil)
      refine w_ite (fun ci => ?_) (fun ci => ?_)
      · have ci' : d.i ≤ n := by omega
        rw [if_pos ci'] at ps
        walk_at "ct"
        refine ⟨v, p, y, d.w, d.t, rfl, dp_same sm hv, ok, y0, y1, w1, t1, fun u H2 s2 nu hu2 => ?_⟩
        refine w_gtup (.of hu2) rfl ?_
        have nn := pt_nn ok y0 y1 w1 d.t
        walk_at "ct"
        refine w_ite (fun cg => ?_) (fun cg => ?_)
        · rw [if_pos cg] at ps
          walk_at "ct"
          refine ⟨ty_list (s2 _ _ hl), ?_⟩
          walk_at "ct"
          refine ⟨len2 rfl, fun r nr => ?_⟩
          have s3 : Same H2 (upd H2 r (.tup [.int d.i, .int d.w, .int (pt p y d.w d.t).2])) := same_upd nr
          have hr : SqT K (upd H2 r (.tup [.int d.i, .int d.w, .int (pt p y d.w d.t).2])) r [.int (d.i : Int), .int d.w, .int (((pt p y d.w d.t).2.toNat : Nat) : Int)] := by
            rw [Int.toNat_of_nonneg nn]
            exact .of upd_same
          generalize upd H2 r _ = H3 at *
          have hl3 := (s2.trans s3) _ _ hl
          have sH3 := (sm.trans s2).trans s3
          walk_at "ct"
          refine w_append hl3 (small1000 (by omega)) ?_
          rw [ps]
          exact ⟨_, _, _, _, ws ++ [.ref r], rfl, same_new sH3 nl, upd_same, put H3 ⟨d.i, d.w, (pt p y d.w d.t).2.toNat⟩ r sH3 hl3 (dpAll_same (s2.trans s3) hws) hr⟩
        · rw [if_neg cg, List.append_nil] at ps
          walk_at "ct"
          rw [ps]
          exact ⟨_, _, _, _, ws, rfl, sm.trans s2, s2 _ _ hl, dpAll_same s2 hws⟩
      · have ci' : ¬ d.i ≤ n := by omega
        rw [if_neg ci'] at ps
        walk_at "ct"
        refine w_ite (fun cg => ?_) (fun cg => ?_)
        · rw [if_pos (show 0 < d.t by omega)] at ps
          walk_at "ct"
          refine ⟨ty_list hl, ?_⟩
          walk_at "ct"
          refine ⟨len2 rfl, fun r nr => ?_⟩
          have s3 : Same G (upd G r (.tup [.int d.i, .int d.w, .int d.t])) := same_upd nr
          have hr : SqT K (upd G r (.tup [.int d.i, .int d.w, .int d.t])) r [.int (d.i : Int), .int d.w, .int (d.t : Int)] := .of upd_same
          generalize upd G r _ = H3 at *
          have hl3 := s3 _ _ hl
          have sH3 := sm.trans s3
          walk_at "ct"
          refine w_append hl3 (small1000 (by omega)) ?_
          rw [ps]
          exact ⟨_, _, _, _, ws ++ [.ref r], rfl, same_new sH3 nl, upd_same, put H3 d r sH3 hl3 (dpAll_same s3 hws) hr⟩
        · rw [if_neg (show ¬ 0 < d.t by omega), List.append_nil] at ps
          walk_at "ct"
          rw [ps]
          exact ⟨_, _, _, _, ws, rfl, sm, hl, hws⟩
    · rintro σ G ⟨y5, y6, y7, y8, ws, rfl, sm, hl, hws⟩
      rw [List.take_of_length_le (by omega)] at hws ⊢
      walk_at "ct"
      refine ⟨l, _, rfl, .inl ⟨.of hl, fun u nu => ?_⟩⟩
      have s2 : Same G (upd G u (.tup ws)) := same_upd nu
      have hu2 : (upd G u (.tup ws)) u = some (.tup ws) := upd_same
      generalize upd G u _ = G2 at *
      walk_at "ct"
      refine ⟨len2 rfl, fun q2 nq => ?_⟩
      have s3 : Same G2 (upd G2 q2 (.tup [.int (pass p n x ds).1, .ref u])) := same_upd nq
      exact q q2 u _ ((sm.trans s2).trans s3) upd_same (.tup (.of (s3 _ _ hu2)) (dpAll_same (s2.trans s3) hws))
abbrev S_shown_sum : Stmt := topS 31
theorem sc_shown_sum : FnScope ["deeds", "i", "way", "given"] ["deeds"] (defScope S_shown_sum) := ⟨rfl, rfl, rfl, by decide +kernel, rfl, by decide +kernel, by decide +kernel⟩
def sp_shown_sum (K : PySem.W.Frag) : Sp := fun vs H Q _ => ∃ (dv : V) (m : Nat) (ds : List Deed), vs = [dv] ∧ Dp K H dv (.tuple (ds.map Deed.data)) ∧ DeedsOk m ds ∧ ds.length ≤ 1000 ∧ ∀ H', Same H H' → Q (.int (ssum ds)) H'
theorem ok_shown_sum {f : Addr} {fd : FuncData} (F : Fun K "shown_sum" "shown_sum" S_shown_sum f fd) (m_sum : mg "sum" = none) :
    FnOk P w K mg base CX0 1 f fd ["deeds"] (sp_shown_sum K) := by
  refine F.ok sc_shown_sum (fun vs H Q E h => ?_) (fun cdv A outer s H vs Q E hr h => ?_)
  ·
    obtain ⟨dv, m, ds, rfl, _⟩ := h
    rfl
  ·
    obtain ⟨dv, m, ds, rfl, hd0, dok, dl, q⟩ := h
    refine ⟨_, (pss_one (ps_ret (pe_callB (r := rSum K) (cr_sum rfl) (by rfl) m_sum (by decide +kernel) (pa_cons (pe_lc (own := [("i", 1), ("way", 2), ("given", 3)]) (g := gTup K 3 (gCons (gName 1) (gCons (gName 2) (gCons (gName 3) gNil))))  rfl sc_shown_sum.nd  (pi_tup (pv 0)) (blkOk_by (own := [("i", 1), ("way", 2), ("given", 3)]) (N := ["deeds", "i", "way", "given"]) (sc := defScope S_shown_sum) (by decide +kernel)) (fun _ _ _ _ _ => pg_tup rfl (pgs_cons (pg_name (i := 1) sc_shown_sum.nd rfl (Or.inl rfl)) (pgs_cons (pg_name (i := 2) sc_shown_sum.nd rfl (Or.inl rfl)) (pgs_cons (pg_name (i := 3) sc_shown_sum.nd rfl (Or.inl rfl)) pgs_nil)))) (fun _ _ _ _ _ => pts_nil) (fun _ _ _ _ _ => (pe_op op_mulW (pv 2) (pv 3)))) pa_nil)))), ?_⟩
    refine w_st (σ' := [some dv, none, none, none]) rfl ?_
    obtain ⟨a, us, rfl, hu, hd⟩ := tup_inv hd0
    have ul : us.length = ds.length := by rw [dpAll_len hd, List.length_map]
    walk_at "ct"
    refine w_IT hu ?_
    refine lb_tup us (fun D k G => Same H G ∧ G D = some (.lst (((ds.take k).map fun d => d.w * (d.t : Int)).map V.int))) (fun D hD => ⟨same_upd hD, upd_same⟩) (fun D hD k G _ h => Same.tup h.1 hu) ?_ ?_
    · rintro D hD k v G hx ⟨sm, hacc⟩
      have hk : k < us.length := (List.getElem?_eq_some_iff.mp hx).1
      obtain ⟨d, hdn⟩ : ∃ d, ds[k]? = some d := ⟨_, List.getElem?_eq_getElem (by omega)⟩
      obtain ⟨v', hv1, hd1⟩ := deed_get hd hdn
      cases Option.some.inj (hx.symm.trans hv1)
      obtain ⟨c, rfl, hc⟩ := deed_inv hd1
      have dm := List.mem_of_getElem? hdn
      have w1 := dok.w d dm
      have t1 := dok.t d dm
      have hw1 : -1 ≤ d.w ∧ d.w ≤ 1 := by rcases w1 with z | z <;> rw [z] <;> exact ⟨by decide, by decide⟩
      refine w_gtup (Same.tup sm hc) rfl ?_
      walk_at "ct"
      refine ⟨rfl, ?_⟩
      walk_at "ct"
      refine w_rI (mul_ok (by omega) (by omega) (by omega) (by omega)) ?_
      refine ⟨_, hacc, small1000 (by rw [List.length_map, List.length_map, List.length_take]; omega), same_new sm hD, ?_⟩
      rw [upd_same, List.take_add_one, hdn, List.map_append, List.map_append]
      rfl
    · rintro D hD G ⟨sm, hacc⟩
      rw [List.take_of_length_le (by omega)] at hacc
      walk_at "ct"
      refine ⟨D, _, rfl, .of hacc, ?_⟩
      have e : (ds.map fun d => d.w * (d.t : Int)).sum = ssum ds := by
        clear q dok dl hd0 hu hd ul hacc
        induction ds with
        | nil => rfl
        | cons d r ih => rw [List.map_cons, List.sum_cons, ih]; rfl
      rw [e]
      exact q G sm
abbrev S_first_apart : Stmt := topS 32
theorem sc_first_apart : FnScope ["train", "at", "one", "other", "known", "key"] ["train", "at", "one", "other", "known"] (defScope S_first_apart) := ⟨rfl, rfl, rfl, by decide +kernel, rfl, by decide +kernel, by decide +kernel⟩
def sp_first_apart (w : World) (d : Nat) (K : PySem.W.Frag) : Sp := fun vs H Q _ => ∃ (a b c kd : Addr) (ps : List Part) (n : Nat) (one other : List Deed) (kvs : List (NestedKey × V)), vs = [.ref a, .int (n : Int), .ref b, .ref c, .ref kd] ∧ TrainAt K H a ps ∧ (∀ p ∈ ps, p.ok) ∧ ps.length ≤ 100 ∧ stands ps ≤ 100000 ∧ n ≤ ps.length ∧ ps.length ≤ n + d ∧ Dp K H (.ref b) (.tuple (one.map Deed.data)) ∧ Dp K H (.ref c) (.tuple (other.map Deed.data)) ∧ DeedsOk ps.length one ∧ DeedsOk ps.length other ∧ one.length ≤ 1000 ∧ other.length ≤ 1000 ∧ NdAt w K H kd kvs ∧ Known K H ps kvs ∧ kvs.length + cost (ps.drop n) ≤ 16000000 ∧
  ∀ rv H' kvs', But kd H H' → NdAt w K H' kd kvs' → Known K H' ps kvs' → kvs'.length ≤ kvs.length + cost (ps.drop n) → Ahead0 n kvs kvs' → Vis K H' rv (fa (ps.drop n) n one other) → Q rv H'
abbrev S_first_apart_by_place : Stmt := topS 33
theorem sc_first_apart_by_place : FnScope ["train", "at", "one", "other", "known", "place", "left_by_one", "further_one", "left_by_other", "further_other", "rest"] ["train", "at", "one", "other", "known"] (defScope S_first_apart_by_place) := ⟨rfl, rfl, rfl, by decide +kernel, rfl, by decide +kernel, by decide +kernel⟩
def sp_first_apart_by_place (w : World) (d : Nat) (K : PySem.W.Frag) : Sp := fun vs H Q _ => ∃ (a b c kd : Addr) (ps : List Part) (n : Nat) (one other : List Deed) (kvs : List (NestedKey × V)), vs = [.ref a, .int (n : Int), .ref b, .ref c, .ref kd] ∧ TrainAt K H a ps ∧ (∀ p ∈ ps, p.ok) ∧ ps.length ≤ 100 ∧ stands ps ≤ 100000 ∧ n < ps.length ∧ ps.length ≤ n + d ∧ Dp K H (.ref b) (.tuple (one.map Deed.data)) ∧ Dp K H (.ref c) (.tuple (other.map Deed.data)) ∧ DeedsOk ps.length one ∧ DeedsOk ps.length other ∧ one.length ≤ 1000 ∧ other.length ≤ 1000 ∧ NdAt w K H kd kvs ∧ Known K H ps kvs ∧ kvs.length + cost (ps.drop n) ≤ 16000000 ∧
  ∀ rv H' kvs', But kd H H' → NdAt w K H' kd kvs' → Known K H' ps kvs' → kvs'.length + 1 ≤ kvs.length + cost (ps.drop n) → Ahead0 (n + 1) kvs kvs' → Vis K H' rv (fa (ps.drop n) n one other) → Q rv H'
theorem st_first_apart {f : Addr} {fd : FuncData} {f_first_apart_by_place : Addr} {fd_first_apart_by_place : FuncData} {f_shown_sum : Addr} {fd_shown_sum : FuncData} {k d : Nat} (hk : 5 ≤ k) (F : Fun K "first_apart" "first_apart" S_first_apart f fd)
    (F_first_apart_by_place : Fun K "first_apart_by_place" "first_apart_by_place" S_first_apart_by_place f_first_apart_by_place fd_first_apart_by_place) (b_first_apart_by_place : Binds K fd_first_apart_by_place ["train", "at", "one", "other", "known"] []) (g_first_apart_by_place : mg "first_apart_by_place" = some (.ref f_first_apart_by_place)) (G_first_apart_by_place : FnOk P w K mg base CX0 k f_first_apart_by_place fd_first_apart_by_place ["train", "at", "one", "other", "known"] (sp_first_apart_by_place w d K))
    (F_shown_sum : Fun K "shown_sum" "shown_sum" S_shown_sum f_shown_sum fd_shown_sum) (b_shown_sum : Binds K fd_shown_sum ["deeds"] []) (g_shown_sum : mg "shown_sum" = some (.ref f_shown_sum)) (G_shown_sum : FnOk P w K mg base CX0 1 f_shown_sum fd_shown_sum ["deeds"] (sp_shown_sum K)) (m_len : mg "len" = none) :
    FnOk P w K mg base CX0 (k + 1) f fd ["train", "at", "one", "other", "known"] (sp_first_apart w d K) := by
  refine F.ok sc_first_apart (fun vs H Q E h => ?_) (fun cdv A outer s H vs Q E hr h => ?_)
  ·
    obtain ⟨a, b, c, kd, ps, n, one, other, kvs, rfl, _⟩ := h
    rfl
  ·
    obtain ⟨a, b, c, kd, ps, n, one, other, kvs, rfl, ht, hok, hpl, hst, hn, hd, hb, hc, ob, oc, lb, lc, hk, kn, room, q⟩ := h
    refine ⟨_, (pss_cons (ps_if (pt_cmpR (r := rEqD K) (op_eqD hr.units) (pv 2) (pv 3) (nomark _)) (pss_one (ps_ret pe_non)) pss_nil)
      (pss_cons (ps_if (pt_cmpR op_eq (pv 1) (pe_callB call_len_seq (by rfl) m_len (by decide +kernel) (pa_cons (pv 0) pa_nil)) (nomark _)) (pss_one (ps_ret (pe_ifExp (pt_cmpR op_eq (pe_call G_shown_sum (hr.mono (by omega)) (by rfl) g_shown_sum F_shown_sum.kp b_shown_sum .nil pass0 (pa_cons (pv 2) pa_nil)) (pe_call G_shown_sum (hr.mono (by omega)) (by rfl) g_shown_sum F_shown_sum.kp b_shown_sum .nil pass0 (pa_cons (pv 3) pa_nil)) (nomark _)) pe_non (pe_tup pa_nil)))) pss_nil)
      (pss_cons (ps_set (i := 5) sc_first_apart.nd rfl (.inl rfl) (pe_tup (pa_cons (pv 1) (pa_cons (pv 2) (pa_cons (pv 3) pa_nil)))))
      (pss_cons (ps_if (pt_cmp (pc_ndnotin hr.units (pv 5) (pv 4))) (pss_one (ps_ndput hr.units (pv 4) (pv 5) (pe_call G_first_apart_by_place (hr.mono (by omega)) (by rfl) g_first_apart_by_place F_first_apart_by_place.kp b_first_apart_by_place .nil pass0 (pa_cons (pv 0) (pa_cons (pv 1) (pa_cons (pv 2) (pa_cons (pv 3) (pa_cons (pv 4) pa_nil)))))) rfl)) pss_nil)
      (pss_one (ps_ret (pe_ndget hr.units (pv 4) (pv 5) (fun _ _ => rfl)))))))), ?_⟩
    refine w_st (σ' := [some (.ref a), some (.int (n : Int)), some (.ref b), some (.ref c), some (.ref kd), none]) rfl ?_
    have el : n + (ps.drop n).length = ps.length := by rw [List.length_drop]; omega
    have okd : ∀ p ∈ ps.drop n, p.ok := fun p hp => hok p (List.mem_of_mem_drop hp)
    walk_at "ct"
    refine ⟨_, _, hb, hc, shaped_of (lay_deeds one) (by decide), shaped_of (lay_deeds other) (by decide), ?_⟩
    rw [PyData.eqv]
    by_cases e : one = other
    · rw [(eqv_deeds one other).mpr e]
      walk_at "ct"
      subst e
      refine q _ H kvs But.refl hk kn (Nat.le_add_right _ _) (fun _ _ _ _ => rfl) ?_
      rw [fa_refl okd (by rw [el]; exact ob)]
      rfl
    · rw [show PyData.eqvAll (one.map Deed.data) (other.map Deed.data) = false by
        cases z : PyData.eqvAll (one.map Deed.data) (other.map Deed.data) with
        | false => rfl
        | true => exact absurd ((eqv_deeds one other).mp z) e]
      walk_at "ct"
      obtain ⟨vs, hv, hvd⟩ := id ht
      have vl : vs.length = ps.length := by rw [dpAll_len hvd, List.length_map]
      refine ⟨a, vs, rfl, .inl hv, ?_⟩
      walk_at "ct"
      refine w_ite (fun en => ?_) (fun en => ?_)
      · have en' : n = ps.length := by omega
        have dn : ps.drop n = [] := List.drop_eq_nil_of_le (by omega)
        rw [dn] at q
        walk_at "ct"
        refine ⟨_, _, one, rfl, hb, ob, lb, fun H1 s1 => ?_⟩
        walk_at "ct"
        refine ⟨_, _, other, rfl, dp_same s1 hc, oc, lc, fun H2 s2 => ?_⟩
        have s12 := s1.trans s2
        walk_at "ct"
        refine w_ite (fun es => ?_) (fun es => ?_)
        · walk_at "ct"
          refine q _ H2 kvs (but_same s12) (hk.same s12) (kn.same s12) (Nat.le_add_right _ _) (fun _ _ _ _ => rfl) ?_
          rw [fa, if_pos (by omega)]
          rfl
        · walk_at "ct"
          refine ⟨len2 rfl, fun r nr => ?_⟩
          have s3 := s12.trans (same_upd (o := .tup []) nr)
          refine q _ _ kvs (but_same s3) (hk.same s3) (kn.same s3) (Nat.le_add_right _ _) (fun _ _ _ _ => rfl) ?_
          rw [fa, if_neg (by omega)]
          exact .tup (.of upd_same) .nil
      · have en' : n < ps.length := by omega
        obtain ⟨p, hp⟩ : ∃ p, ps[n]? = some p := ⟨_, List.getElem?_eq_getElem en'⟩
        walk_at "ct"
        refine ⟨len2 rfl, fun y ny => ?_⟩
        have s1 : Same H (upd H y (.tup [.int (n : Int), .ref b, .ref c])) := same_upd ny
        have hy : (upd H y (.tup [.int (n : Int), .ref b, .ref c])) y = some (.tup [.int (n : Int), .ref b, .ref c]) := upd_same
        generalize upd H y _ = H1 at *
        have dk : Dp K H1 (.ref y) (nkD (fkey n one other)) := by
          rw [nk_key]
          exact .tup (.of hy) (.cons (.int _) (.cons (dp_same s1 hb) (.cons (dp_same s1 hc) .nil)))
        have hk1 := hk.same s1
        have kn1 := kn.same s1
        walk_at "ct"
        refine w_ndnotin ?_
        walk_at "ct"
        refine ⟨kd, valV kvs (fkey n one other), rfl, ⟨kvs, fkey n one other, y, rfl, hk1, depth_key _ _ _, dk, rfl⟩, ?_⟩
        have done : ∀ (G : Hp) (kvs2 : List (NestedKey × V)) (v : V), But kd H1 G → NdAt w K G kd kvs2 → Known K G ps kvs2 → kvs2.length ≤ kvs.length + cost (ps.drop n) → Ahead0 n kvs kvs2 → Dp K G (.ref y) (nkD (fkey n one other)) → valV kvs2 (fkey n one other) = some v → ∃ (ka : Addr) (v : V), V.ref kd = .ref ka ∧ NdGet w K G ka (.ref y) (some v) ∧ Q v G := fun G kvs2 v b1 k2 n2 l2 a2 dy hv2 => by
          refine ⟨kd, v, rfl, ⟨kvs2, fkey n one other, y, rfl, k2, depth_key _ _ _, dy, hv2.symm⟩, ?_⟩
          exact q v G kvs2 ((but_same s1).trans b1) k2 n2 l2 a2 (n2 n one other v hv2)
        cases hv : valV kvs (fkey n one other) with
        | some v =>
          refine ⟨false, rfl, ?_⟩
          walk_at "ct"
          refine w_ndget ?_
          walk_at "ct"
          exact done H1 kvs v But.refl hk1 kn1 (Nat.le_add_right _ _) (fun _ _ _ _ => rfl) dk hv
        | none =>
          refine ⟨true, rfl, ?_⟩
          walk_at "ct"
          refine w_ndput ?_
          walk_at "ct"
          refine ⟨a, b, c, kd, ps, n, one, other, kvs, rfl, ht.same s1, hok, hpl, hst, en', hd, dp_same s1 hb, dp_same s1 hc, ob, oc, lb, lc, hk1, kn1, room, fun rv H2 kvs2 b2 k2 n2 l2 a2 v2 => ?_⟩
          walk_at "ct"
          have new : valV kvs2 (fkey n one other) = none := by rw [a2 n one other (Nat.lt_succ_self _)]; exact hv
          have dk2 := dp_but hk1.ext b2 dk
          refine ⟨kd, y, kvs2, fkey n one other, rfl, rfl, k2, depth_key _ _ _, dk2, new, by rw [sizeLine_eq]; omega, fun o ko => ?_⟩
          walk_at "ct"
          refine w_ndget ?_
          walk_at "ct"
          refine done _ (kvs2 ++ [(fkey n one other, rv)]) rv (b2.trans but_upd) ko (n2.put k2.ext but_upd new v2) ?_ ?_ (dp_but k2.ext but_upd dk2) ?_
          · rw [List.length_append]
            show kvs2.length + 1 ≤ _
            omega
          · intro m x z hm
            rw [ahead_put new m x z hm]
            exact a2 m x z (by omega)
          · rw [valV_snoc _ _ _ _ new, if_pos rfl]
theorem st_first_apart_by_place {f : Addr} {fd : FuncData} {f_place_count : Addr} {fd_place_count : FuncData} {f_first_apart : Addr} {fd_first_apart : FuncData} {f_passed_on : Addr} {fd_passed_on : FuncData} {k d : Nat} (hk : 5 ≤ k) (F : Fun K "first_apart_by_place" "first_apart_by_place" S_first_apart_by_place f fd)
    (F_place_count : Fun K "place_count" "place_count" S_place_count f_place_count fd_place_count) (b_place_count : Binds K fd_place_count ["part"] []) (g_place_count : mg "place_count" = some (.ref f_place_count)) (G_place_count : FnOk P w K mg base CX0 1 f_place_count fd_place_count ["part"] (sp_place_count K))
    (F_first_apart : Fun K "first_apart" "first_apart" S_first_apart f_first_apart fd_first_apart) (b_first_apart : Binds K fd_first_apart ["train", "at", "one", "other", "known"] []) (g_first_apart : mg "first_apart" = some (.ref f_first_apart)) (G_first_apart : FnOk P w K mg base CX0 k f_first_apart fd_first_apart ["train", "at", "one", "other", "known"] (sp_first_apart w d K))
    (F_passed_on : Fun K "passed_on" "passed_on" S_passed_on f_passed_on fd_passed_on) (b_passed_on : Binds K fd_passed_on ["part", "at", "place", "deeds"] []) (g_passed_on : mg "passed_on" = some (.ref f_passed_on)) (G_passed_on : FnOk P w K mg base CX0 5 f_passed_on fd_passed_on ["part", "at", "place", "deeds"] (sp_passed_on K)) (m_range : mg "range" = none) (m_len : mg "len" = none) :
    FnOk P w K mg base CX0 (k + 1) f fd ["train", "at", "one", "other", "known"] (sp_first_apart_by_place w (d + 1) K) := by
  refine F.ok sc_first_apart_by_place (fun vs H Q E h => ?_) (fun cdv A outer s H vs Q E hr h => ?_)
  ·
    obtain ⟨a, b, c, kd, ps, n, one, other, kvs, rfl, _⟩ := h
    rfl
  ·
    obtain ⟨a, b, c, kd, ps, n, one, other, kvs, rfl, ht, hok, hpl, hst, hn, hd, hb, hc, ob, oc, lb, lc, hk, kn, room, q⟩ := h
    refine ⟨_, (pss_cons (ps_for PassesOwn.never rfl (pi_range1 (by rfl) m_range (pa_cons (pe_call G_place_count (hr.mono (by omega)) (by rfl) g_place_count F_place_count.kp b_place_count .nil pass0 (pa_cons (pe_ix (r := rIxL K) ix_list (pv 0) (pv 1) (fun _ _ => rfl)) pa_nil)) pa_nil)) (pg_name (i := 5) sc_first_apart_by_place.nd rfl (.inl rfl))
      (pss_cons (ps_asg (pe_call G_passed_on (hr.mono (by omega)) (by rfl) g_passed_on F_passed_on.kp b_passed_on .nil pass0 (pa_cons (pe_ix (r := rIxL K) ix_list (pv 0) (pv 1) (fun _ _ => rfl)) (pa_cons (pv 1) (pa_cons (pv 5) (pa_cons (pv 2) pa_nil))))) (pg_tup rfl (pgs_cons (pg_name (i := 6) sc_first_apart_by_place.nd rfl (.inl rfl)) (pgs_cons (pg_name (i := 7) sc_first_apart_by_place.nd rfl (.inl rfl)) pgs_nil))))
      (pss_cons (ps_asg (pe_call G_passed_on (hr.mono (by omega)) (by rfl) g_passed_on F_passed_on.kp b_passed_on .nil pass0 (pa_cons (pe_ix (r := rIxL K) ix_list (pv 0) (pv 1) (fun _ _ => rfl)) (pa_cons (pv 1) (pa_cons (pv 5) (pa_cons (pv 3) pa_nil))))) (pg_tup rfl (pgs_cons (pg_name (i := 8) sc_first_apart_by_place.nd rfl (.inl rfl)) (pgs_cons (pg_name (i := 9) sc_first_apart_by_place.nd rfl (.inl rfl)) pgs_nil))))
      (pss_cons (ps_if (pt_cmpR op_ne (pv 6) (pv 8) (nomark _)) (pss_one (ps_ret (pe_op (r := rCatA K) op_catA (pe_tup (pa_cons (pv 5) pa_nil)) (pe_op (r := rRepZ K) op_repZ (pe_tup (pa_cons pe_int pa_nil)) (pe_op op_sub (pe_op op_sub (pe_callB call_len_seq (by rfl) m_len (by decide +kernel) (pa_cons (pv 0) pa_nil)) (pv 1)) pe_int))))) pss_nil)
      (pss_cons (ps_set (i := 10) sc_first_apart_by_place.nd rfl (.inl rfl) (pe_call G_first_apart (hr.mono (by omega)) (by rfl) g_first_apart F_first_apart.kp b_first_apart .nil pass0 (pa_cons (pv 0) (pa_cons (pe_op op_add (pv 1) pe_int) (pa_cons (pv 7) (pa_cons (pv 9) (pa_cons (pv 4) pa_nil)))))))
      (pss_one (ps_if (pt_cmpR op_notN (pv 10) pe_non (nomark _)) (pss_one (ps_ret (pe_tup (t := (tCons (tVar 5) (StX.tStar K (tVar 10) tNil))) (pa_cons (pv 5) (StX.pa_star (pv 10) pa_nil))))) pss_nil)))))))
      (pss_one (ps_ret pe_non))), ?_⟩
    have el : n + (ps.drop n).length = ps.length := by rw [List.length_drop]; omega
    obtain ⟨p, hp⟩ : ∃ p, ps[n]? = some p := ⟨_, List.getElem?_eq_getElem hn⟩
    have dn := drop_atK hp
    have okp := hok p (List.mem_of_getElem? hp)
    have po := okp.pos
    have pst := place_le hok hp
    have dl : (ps.drop (n + 1)).length = ps.length - n - 1 := by rw [List.length_drop]; omega
    have cst : cost (ps.drop n) = 1 + p.places.toNat * cost (ps.drop (n + 1)) := by rw [dn, cost]
    have fae : fa (ps.drop n) n one other = (List.range p.places.toNat).findSome? fun (x : Nat) => if (pass p n x one).1 ≠ (pass p n x other).1 then some ((x : Int) :: zeros (ps.drop (n + 1)).length) else (fa (ps.drop (n + 1)) (n + 1) (pass p n x one).2 (pass p n x other).2).map ((x : Int) :: ·) := by rw [dn, fa]
    generalize hF : (fun (x : Nat) => if (pass p n x one).1 ≠ (pass p n x other).1 then some ((x : Int) :: zeros (ps.drop (n + 1)).length) else (fa (ps.drop (n + 1)) (n + 1) (pass p n x one).2 (pass p n x other).2).map ((x : Int) :: ·)) = F0 at fae
    have found : ∀ (x : Nat) (r : List Int), x < p.places.toNat → (List.range x).findSome? F0 = none → F0 x = some r → (List.range p.places.toNat).findSome? F0 = some r := fun x r hx h0 h1 => by
      rw [show p.places.toNat = (x + 1) + (p.places.toNat - x - 1) by omega, List.range_add, List.range_succ, List.findSome?_append, List.findSome?_append, h0, List.findSome?_cons, h1]
      rfl
    obtain ⟨vs, hv, hvd⟩ := id ht
    have vl : vs.length = ps.length := by rw [dpAll_len hvd, List.length_map]
    obtain ⟨v, hv1, hd1⟩ := TrainAt.at (a := a) hvd hp
    refine w_st (σ' := [some (.ref a), some (.int (n : Int)), some (.ref b), some (.ref c), some (.ref kd), none, none, none, none, none, none]) rfl ?_
    have x0 := hk.ext
    walk_at "ct"
    refine w_ixL hv (atI_nat hv1) ?_
    walk_at "ct"
    refine ⟨v, p, rfl, hd1, ?_⟩
    walk_at "ct"
    refine w_RG1 (by omega) (by omega) ?_
    refine fb_range (fun j σ G => ∃ (y5 y6 y7 y8 y9 y10 : Option V) (kvs1 : List (NestedKey × V)), σ = [some (.ref a), some (.int (n : Int)), some (.ref b), some (.ref c), some (.ref kd), y5, y6, y7, y8, y9, y10] ∧ But kd H G ∧ NdAt w K G kd kvs1 ∧ Known K G ps kvs1 ∧ kvs1.length ≤ kvs.length + j * cost (ps.drop (n + 1)) ∧ Ahead0 (n + 1) kvs kvs1 ∧ (List.range j).findSome? F0 = none)
      ⟨none, none, none, none, none, none, kvs, rfl, But.refl, hk, kn, by omega, fun _ _ _ _ => rfl, rfl⟩ ?_ ?_
    · rintro j σ G hj ⟨y5, y6, y7, y8, y9, y10, kvs1, rfl, b1, k1, n1, l1, a1, f1⟩
      rw [Int.zero_add (j : Int)]
      walk_at "ct"
      refine w_ixL (but_seq x0 b1 hv) (atI_nat hv1) ?_
      walk_at "ct"
      have j0 : (0 : Int) ≤ (j : Int) := by omega
      have j1 : (j : Int) < p.places := by omega
      have po1 := pass_ok (n := n) okp one j j0 j1 ob
      have po2 := pass_ok (n := n) okp other j j0 j1 oc
      have sF : ∀ r : Option (List Int), F0 j = r → r = none → (List.range (j + 1)).findSome? F0 = none := fun r h1 h2 => by
        rw [List.range_succ, List.findSome?_append, f1, List.findSome?_cons, h1, h2]
        rfl
      have fj : F0 j = if (pass p n j one).1 ≠ (pass p n j other).1 then some ((j : Int) :: zeros (ps.drop (n + 1)).length) else (fa (ps.drop (n + 1)) (n + 1) (pass p n j one).2 (pass p n j other).2).map ((j : Int) :: ·) := by rw [← hF]
      refine ⟨v, .ref b, p, n, ps.length, j, one, rfl, dp_but x0 b1 hd1, okp, j0, j1, dp_but x0 b1 hb, ob, lb, fun q1 u1 G1 s1 hq1 hu1 => ?_⟩
      refine w_gtup (.of hq1) rfl ?_
      have b2 := b1.trans (but_same s1)
      walk_at "ct"
      refine w_ixL (but_seq x0 b2 hv) (atI_nat hv1) ?_
      walk_at "ct"
      refine ⟨v, .ref c, p, n, ps.length, j, other, rfl, dp_but x0 b2 hd1, okp, j0, j1, dp_but x0 b2 hc, oc, lc, fun q2 u2 G2 s2 hq2 hu2 => ?_⟩
      refine w_gtup (.of hq2) rfl ?_
      have b3 := b2.trans (but_same s2)
      have s12 := s1.trans s2
      have hu1' := dp_same s2 hu1
      have k3 := k1.same s12
      have n3 := n1.same s12
      walk_at "ct"
      have mono : j * cost (ps.drop (n + 1)) + cost (ps.drop (n + 1)) ≤ p.places.toNat * cost (ps.drop (n + 1)) := by
        rw [← Nat.succ_mul]
        exact Nat.mul_le_mul_right _ (by omega)
      generalize hy1 : pass p n j one = yf1 at *
      obtain ⟨e1, f1s⟩ := yf1
      generalize hy2 : pass p n j other = yf2 at *
      obtain ⟨e2, f2s⟩ := yf2
      refine w_iteN (fun ce => ?_) (fun ce => ?_)
      · have ce' : e1 ≠ e2 := ce
        rw [if_pos ce'] at fj
        walk_at "ct"
        refine ⟨len2 rfl, fun t nt => ?_⟩
        have s4 := same_upd (o := .tup [.int (j : Int)]) nt
        have ht4 : (upd G2 t (.tup [.int (j : Int)])) t = some (.tup [.int (j : Int)]) := upd_same
        generalize upd G2 t _ = G3 at *
        walk_at "ct"
        refine ⟨len2 rfl, fun z nz => ?_⟩
        have s5 := same_upd (o := .tup [.int (0 : Int)]) nz
        have hz5 : (upd G3 z (.tup [.int (0 : Int)])) z = some (.tup [.int (0 : Int)]) := upd_same
        generalize upd G3 z _ = G4 at *
        have b5 := (b3.trans (but_same s4)).trans (but_same s5)
        walk_at "ct"
        refine ⟨a, vs, rfl, .inl (but_seq x0 b5 hv), ?_⟩
        walk_at "ct"
        refine w_repZ (.of hz5) (fun h => nomatch h) (by omega) (by omega) (by decide) (fun r G5 s6 hr5 => ?_)
        refine w_catZ (.of ((s5.trans s6) _ _ ht4)) hr5 ?_ (fun u G6 s7 hu6 => ?_)
        · have : ((List.replicate (((vs.length : Int) - (n : Int) - 1).toNat) [V.int 0]).flatten).length ≤ 200 := by
            rw [PyProof.Rows.lm_len_rep_flat]
            show _ * 1 ≤ 200
            omega
          show 1 + _ ≤ 1000
          omega
        · have s47 := ((s4.trans s5).trans s6).trans s7
          refine q _ G6 kvs1 (b3.trans (but_same s47)) (k3.same s47) (n3.same s47) (by omega) a1 ?_
          rw [fae, found j _ (by omega) f1 fj]
          refine tupD_dp ?_
          have ez : ∀ m : Nat, (List.replicate m [V.int 0]).flatten = (zeros m).map V.int := fun m => by
            unfold zeros
            induction m with
            | zero => rfl
            | succ m ih => rw [List.replicate_succ, List.flatten_cons, ih, List.replicate_succ]; rfl
          rw [ez, show ((vs.length : Int) - (n : Int) - 1).toNat = (ps.drop (n + 1)).length by omega] at hu6
          exact hu6
      · have ce' : ¬ e1 ≠ e2 := fun z => z ce
        rw [if_neg ce'] at fj
        walk_at "ct"
        refine ⟨a, u1, u2, kd, ps, n + 1, f1s, f2s, kvs1, rfl, ht.but x0 b3, hok, hpl, hst, by omega, by omega, hu1', hu2, po1.1, po2.1, Nat.le_trans po1.2 lb, Nat.le_trans po2.2 lc, k3, n3, by omega, fun rv G3 kvs2 b4 k4 n4 l4 a4 v4 => ?_⟩
        walk_at "ct"
        refine ⟨rfl, ?_⟩
        have b5 := b3.trans b4
        have hlen : kvs2.length ≤ kvs.length + (j + 1) * cost (ps.drop (n + 1)) := by
          rw [Nat.succ_mul]
          omega
        have a5 : Ahead0 (n + 1) kvs kvs2 := fun m x z hm => (a4 m x z hm).trans (a1 m x z hm)
        cases hfa : fa (ps.drop (n + 1)) (n + 1) f1s f2s with
        | none =>
          rw [hfa] at v4 fj
          cases (show rv = V.non from v4)
          refine ⟨false, rfl, ?_⟩
          walk_at "ct"
          exact ⟨_, _, _, _, _, _, kvs2, rfl, b5, k4, n4, hlen, a5, sF _ fj rfl⟩
        | some xs =>
          rw [hfa] at v4 fj
          obtain ⟨r, rfl, hr4⟩ := tupD_inv v4
          have xl := fa_len hfa
          refine ⟨true, rfl, ?_⟩
          walk_at "ct"
          refine ⟨r, _, rfl, .inl hr4, ?_⟩
          walk_at "ct"
          refine ⟨by rw [List.append_nil, List.length_cons, List.length_map, sizeLine_eq]; omega, fun t nt => ?_⟩
          have s6 := same_upd (o := .tup (.int (j : Int) :: (xs.map V.int ++ []))) nt
          refine q _ _ kvs2 (b5.trans (but_same s6)) (k4.same s6) (n4.same s6) (by omega) a5 ?_
          rw [fae, found j _ (by omega) f1 fj]
          refine tupD_dp (.of ?_)
          rw [upd_same, List.append_nil]
          rfl
    · rintro σ G ⟨y5, y6, y7, y8, y9, y10, kvs1, rfl, b1, k1, n1, l1, a1, f1⟩
      walk_at "ct"
      refine q _ G kvs1 b1 k1 n1 (by rw [cst]; omega) a1 ?_
      rw [fae, f1]
      rfl
theorem rec_first_apart {f_first_apart : Addr} {fd_first_apart : FuncData} {f_first_apart_by_place : Addr} {fd_first_apart_by_place : FuncData} {f_shown_sum : Addr} {fd_shown_sum : FuncData} {f_place_count : Addr} {fd_place_count : FuncData} {f_passed_on : Addr} {fd_passed_on : FuncData}
    (F_first_apart : Fun K "first_apart" "first_apart" S_first_apart f_first_apart fd_first_apart) (b_first_apart : Binds K fd_first_apart ["train", "at", "one", "other", "known"] []) (g_first_apart : mg "first_apart" = some (.ref f_first_apart))
    (F_first_apart_by_place : Fun K "first_apart_by_place" "first_apart_by_place" S_first_apart_by_place f_first_apart_by_place fd_first_apart_by_place) (b_first_apart_by_place : Binds K fd_first_apart_by_place ["train", "at", "one", "other", "known"] []) (g_first_apart_by_place : mg "first_apart_by_place" = some (.ref f_first_apart_by_place))
    (F_shown_sum : Fun K "shown_sum" "shown_sum" S_shown_sum f_shown_sum fd_shown_sum) (b_shown_sum : Binds K fd_shown_sum ["deeds"] []) (g_shown_sum : mg "shown_sum" = some (.ref f_shown_sum)) (G_shown_sum : FnOk P w K mg base CX0 1 f_shown_sum fd_shown_sum ["deeds"] (sp_shown_sum K))
    (F_place_count : Fun K "place_count" "place_count" S_place_count f_place_count fd_place_count) (b_place_count : Binds K fd_place_count ["part"] []) (g_place_count : mg "place_count" = some (.ref f_place_count)) (G_place_count : FnOk P w K mg base CX0 1 f_place_count fd_place_count ["part"] (sp_place_count K))
    (F_passed_on : Fun K "passed_on" "passed_on" S_passed_on f_passed_on fd_passed_on) (b_passed_on : Binds K fd_passed_on ["part", "at", "place", "deeds"] []) (g_passed_on : mg "passed_on" = some (.ref f_passed_on)) (G_passed_on : FnOk P w K mg base CX0 5 f_passed_on fd_passed_on ["part", "at", "place", "deeds"] (sp_passed_on K)) (m_len : mg "len" = none) (m_range : mg "range" = none) : ∀ d, FnOk P w K mg base CX0 (5 + 2 * d + 1) f_first_apart fd_first_apart ["train", "at", "one", "other", "known"] (sp_first_apart w d K)
  | 0 => by
    have z : FnOk P w K mg base CX0 5 f_first_apart_by_place fd_first_apart_by_place ["train", "at", "one", "other", "known"] (sp_first_apart_by_place w 0 K) := by
      have no : ∀ vs H Q E, ¬ sp_first_apart_by_place w 0 K vs H Q E := fun vs H Q E h => by
        obtain ⟨a, b, c, kd, ps, n, one, other, kvs, _, _, _, _, _, hn, hd, _⟩ := h
        omega
      exact ⟨fun vs H Q E h => absurd h (no vs H Q E), fun A outer s H args us vs Q E _ _ _ _ h => absurd h (no vs H Q E)⟩
    exact st_first_apart (Nat.le_refl _) F_first_apart F_first_apart_by_place b_first_apart_by_place g_first_apart_by_place z F_shown_sum b_shown_sum g_shown_sum G_shown_sum m_len
  | d + 1 => by
    have ih := rec_first_apart F_first_apart b_first_apart g_first_apart F_first_apart_by_place b_first_apart_by_place g_first_apart_by_place F_shown_sum b_shown_sum g_shown_sum G_shown_sum F_place_count b_place_count g_place_count G_place_count F_passed_on b_passed_on g_passed_on G_passed_on m_len m_range d
    have z := st_first_apart_by_place (k := 5 + 2 * d + 1) (by omega) F_first_apart_by_place F_place_count b_place_count g_place_count G_place_count F_first_apart b_first_apart g_first_apart ih F_passed_on b_passed_on g_passed_on G_passed_on m_range m_len
    exact st_first_apart (k := 5 + 2 * d + 2) (by omega) F_first_apart F_first_apart_by_place b_first_apart_by_place g_first_apart_by_place z F_shown_sum b_shown_sum g_shown_sum G_shown_sum m_len
abbrev S_rows_alike : Stmt := topS 34
theorem sc_rows_alike : FnScope ["train", "one", "other", "stand"] ["train", "one", "other"] (defScope S_rows_alike) := ⟨rfl, rfl, rfl, by decide +kernel, rfl, by decide +kernel, by decide +kernel⟩
def sp_rows_alike (K : PySem.W.Frag) : Sp := fun vs H Q _ => ∃ (a b c : Addr) (ps : List Part) (one other : List Deed), vs = [.ref a, .ref b, .ref c] ∧ TrainAt K H a ps ∧ (∀ p ∈ ps, p.ok) ∧ 1 ≤ ps.length ∧ ps.length ≤ 5 ∧ stands ps ≤ 500 ∧ RowAt K H b one ∧ RowAt K H c other ∧ (∀ d ∈ one, d.ok ps.length ∧ d.t < 2 ^ 200) ∧ (∀ d ∈ other, d.ok ps.length ∧ d.t < 2 ^ 200) ∧ one.length ≤ 1000 ∧ other.length ≤ 1000 ∧
  ∀ q H', Same H H' → Dp K H' (.ref q) (told (fa ps 0 one other)) → Q (.ref q) H'
theorem ok_rows_alike {f : Addr} {fd : FuncData} {f_first_apart : Addr} {fd_first_apart : FuncData} {f_check_row : Addr} {fd_check_row : FuncData} {f_check_train : Addr} {fd_check_train : FuncData} (F : Fun K "rows_alike" "rows_alike" S_rows_alike f fd)
    (F_first_apart : Fun K "first_apart" "first_apart" S_first_apart f_first_apart fd_first_apart) (b_first_apart : Binds K fd_first_apart ["train", "at", "one", "other", "known"] []) (g_first_apart : mg "first_apart" = some (.ref f_first_apart)) (G_first_apart : FnOk P w K mg base CX0 16 f_first_apart fd_first_apart ["train", "at", "one", "other", "known"] (sp_first_apart w 5 K))
    (F_check_row : Fun K "check_row" "check_row" S_check_row f_check_row fd_check_row) (b_check_row : Binds K fd_check_row ["train", "row"] []) (g_check_row : mg "check_row" = some (.ref f_check_row)) (G_check_row : FnOk P w K mg base CX0 4 f_check_row fd_check_row ["train", "row"] (sp_check_row K))
    (F_check_train : Fun K "check_train" "check_train" S_check_train f_check_train fd_check_train) (b_check_train : Binds K fd_check_train ["train"] []) (g_check_train : mg "check_train" = some (.ref f_check_train)) (G_check_train : FnOk P w K mg base CX0 4 f_check_train fd_check_train ["train"] (sp_check_train K)) (m_tuple : mg "tuple" = none) :
    FnOk P w K mg base CX0 17 f fd ["train", "one", "other"] (sp_rows_alike K) := by
  refine F.ok sc_rows_alike (fun vs H Q E h => ?_) (fun cdv A outer s H vs Q E hr h => ?_)
  ·
    obtain ⟨a, b, c, ps, one, other, rfl, _⟩ := h
    rfl
  ·
    obtain ⟨a, b, c, ps, one, other, rfl, hT, hok, l1, l2, few, hb, hc, ob, oc, lb, lc, q⟩ := h
    refine ⟨_, (pss_cons (ps_expr (pe_call G_check_train (hr.mono (by decide)) (by rfl) g_check_train F_check_train.kp b_check_train .nil pass0 (pa_cons (pv 0) pa_nil)))
      (pss_cons (ps_expr (pe_call G_check_row (hr.mono (by decide)) (by rfl) g_check_row F_check_row.kp b_check_row .nil pass0 (pa_cons (pv 0) (pa_cons (pv 1) pa_nil))))
      (pss_cons (ps_expr (pe_call G_check_row (hr.mono (by decide)) (by rfl) g_check_row F_check_row.kp b_check_row .nil pass0 (pa_cons (pv 0) (pa_cons (pv 2) pa_nil))))
      (pss_cons (ps_set (i := 3) sc_rows_alike.nd rfl (.inl rfl) (pe_call G_first_apart (hr.mono (by decide)) (by rfl) g_first_apart F_first_apart.kp b_first_apart .nil pass0 (pa_cons (pv 0) (pa_cons pe_int (pa_cons (pe_callTy call_tuple_of (by rfl) m_tuple (by decide +kernel) (pa_cons (pv 1) pa_nil)) (pa_cons (pe_callTy call_tuple_of (by rfl) m_tuple (by decide +kernel) (pa_cons (pv 2) pa_nil)) (pa_cons pe_dnewN pa_nil)))))))
      (pss_cons (ps_if (pt_cmpR op_isN (pv 3) pe_non (nomark _)) (pss_one (ps_ret (pe_tup (pa_cons pe_str pa_nil)))) pss_nil)
      (pss_one (ps_ret (pe_tup (pa_cons pe_str (pa_cons (pv 3) pa_nil)))))))))), ?_⟩
    refine w_st (σ' := [some (.ref a), some (.ref b), some (.ref c), none]) rfl ?_
    walk_at "ct"
    refine ⟨a, ps, rfl, hT, hok, l1, fun H1 s1 => ?_⟩
    walk_at "ct"
    refine ⟨a, b, ps, one, rfl, hT.same s1, hb.same s1, fun d hd => (ob d hd).1, fun H2 s2 => ?_⟩
    have s12 := s1.trans s2
    walk_at "ct"
    refine ⟨a, c, ps, other, rfl, hT.same s12, hc.same s12, fun d hd => (oc d hd).1, fun H3 s3 => ?_⟩
    have s13 := s12.trans s3
    obtain ⟨us, hu, hud⟩ := hb.same s13
    obtain ⟨zs, hz, hzd⟩ := hc.same s13
    walk_at "ct"
    refine ⟨b, us, rfl, .inl ⟨hu, fun t nt => ?_⟩⟩
    have s4 : Same H3 (upd H3 t (.tup us)) := same_upd nt
    have ht4 : (upd H3 t (.tup us)) t = some (.tup us) := upd_same
    generalize upd H3 t _ = H4 at *
    walk_at "ct"
    refine ⟨c, zs, rfl, .inl ⟨s4.seq hz, fun r nr => ?_⟩⟩
    have s5 : Same H4 (upd H4 r (.tup zs)) := same_upd nr
    have hr5 : (upd H4 r (.tup zs)) r = some (.tup zs) := upd_same
    generalize upd H4 r _ = H5 at *
    walk_at "ct"
    refine w_ndnew fun kd nk o hk => ?_
    have s6 : Same H5 (upd H5 kd o) := same_upd nk
    generalize upd H5 kd o = H6 at *
    have s16 := ((s13.trans s4).trans s5).trans s6
    have nk0 : H kd = none := ((s13.trans s4).trans s5).free nk
    have cl : cost (ps.drop 0) ≤ 16000000 := by
      have h1 := cost_le hok
      have h2 := stands_pos ps hok
      have h3 : ps.length * (stands ps).toNat ≤ 5 * 500 := Nat.mul_le_mul l2 (by omega)
      rw [List.drop_zero]
      omega
    walk_at "ct"
    refine ⟨a, t, r, kd, ps, 0, one, other, [], rfl, hT.same s16, hok, by omega, by omega, by omega, by omega, .tup (.of ((s5.trans s6) _ _ ht4)) (dpAll_same ((s4.trans s5).trans s6) hud), .tup (.of (s6 _ _ hr5)) (dpAll_same ((s4.trans s5).trans s6) hzd), deeds_ok ob, deeds_ok oc, lb, lc, hk, (fun _ _ _ _ h => nomatch h), by simpa using cl, fun rv H7 kvs' b7 _ _ _ _ v7 => ?_⟩
    rw [List.drop_zero] at v7
    have s7 : Same H H7 := But.same nk0 s16 b7
    walk_at "ct"
    refine ⟨rfl, ?_⟩
    cases hf : fa ps 0 one other with
    | none =>
      rw [hf] at v7 q
      cases (show rv = V.non from v7)
      refine ⟨true, rfl, ?_⟩
      walk_at "ct"
      refine ⟨len2 rfl, fun y ny => ?_⟩
      exact q y _ (s7.trans (same_upd ny)) (.tup (.of upd_same) (.cons (.str _) .nil))
    | some xs =>
      rw [hf] at v7 q
      obtain ⟨u, rfl, hu7⟩ := tupD_inv v7
      refine ⟨false, rfl, ?_⟩
      walk_at "ct"
      refine ⟨len2 rfl, fun y ny => ?_⟩
      exact q y _ (s7.trans (same_upd ny)) (.tup (.of upd_same) (.cons (.str _) (.cons (dp_same (same_upd ny) v7) .nil)))
abbrev S_common_multiple : Stmt := topS 35
theorem sc_common_multiple : FnScope ["one", "other", "high", "low"] ["one", "other"] (defScope S_common_multiple) := ⟨rfl, rfl, rfl, by decide +kernel, rfl, by decide +kernel, by decide +kernel⟩
def sp_common_multiple (K : PySem.W.Frag) : Sp := fun vs H Q _ => ∃ (a b : Nat), vs = [.int a, .int b] ∧ 0 < a ∧ 0 < b ∧ a ≤ 2 ^ 30000 ∧ b < 2 ^ 200 ∧ ∀ H', Same H H' → Q (.int (Nat.lcm a b : Nat)) H'
theorem ok_common_multiple {f : Addr} {fd : FuncData} (F : Fun K "common_multiple" "common_multiple" S_common_multiple f fd) :
    FnOk P w K mg base CX0 1 f fd ["one", "other"] (sp_common_multiple K) := by
  refine F.ok sc_common_multiple (fun vs H Q E h => ?_) (fun cdv A outer s H vs Q E hr h => ?_)
  ·
    obtain ⟨a, b, rfl, _⟩ := h
    rfl
  ·
    obtain ⟨a, b, rfl, a0, b0, a1, b1, q⟩ := h
    refine ⟨_, (pss_cons (ps_set (i := 2) sc_common_multiple.nd rfl (.inl rfl) (pv 0))
      (pss_cons (ps_set (i := 3) sc_common_multiple.nd rfl (.inl rfl) (pv 1))
      (pss_cons (ps_while PassesOwn.never (pt_cmpR op_gt (pv 3) pe_int (nomark _)) (pss_one (ps_par (i := 2) (j := 3) (by rfl) sc_common_multiple.nd rfl rfl (by decide) rfl rfl (pa_cons (pv 3) (pa_cons (pe_op op_mod (pv 2) (pv 3)) pa_nil)) (by rfl))))
      (pss_one (ps_ret (pe_op op_mulW (pe_op op_fdivW (pv 0) (pv 2)) (pv 1))))))), ?_⟩
    refine w_st (σ' := [some (.int a), some (.int b), none, none]) rfl ?_
    walk_at "ct"
    refine while_by (fun σ H' => ∃ (x y : Nat), σ = [some (.int a), some (.int b), some (.int x), some (.int y)] ∧ Nat.gcd x y = Nat.gcd a b ∧ Same H H') (fun σ _ => match σ with | [_, _, _, some (.int y)] => y.toNat | _ => 0) ⟨a, b, rfl, rfl, Same.refl H⟩ ?_ ?_
    · rintro σ H' ⟨x, y, rfl, hg, sm⟩
      walk_at "ct"
      refine w_ite (fun e => ?_) (fun e => ?_)
      · walk_at "ct"
        with_reducible refine w_par ?_
        walk_at "ct"
        have em : (x : Int) % (y : Int) = ((x % y : Nat) : Int) := (Int.natCast_emod x y).symm
        refine w_rIv (.int ((x % y : Nat) : Int)) (by show (0 : Int) < (y : Int); omega) (congrArg V.int em) ?_
        walk_at "ct"
        refine ⟨_, _, rfl, ?_⟩
        have y0 : 0 < y := by omega
        refine ⟨⟨y, x % y, rfl, ?_, sm⟩, ?_⟩
        · rw [← hg, Nat.gcd_comm y, ← Nat.gcd_rec y x, Nat.gcd_comm]
        · show ((x % y : Nat) : Int).toNat < ((y : Nat) : Int).toNat
          rw [Int.toNat_natCast, Int.toNat_natCast]
          exact Nat.mod_lt _ y0
      · have y0 : y = 0 := by omega
        subst y0
        rw [Nat.gcd_zero_right] at hg
        subst hg
        have g0 : 0 < Nat.gcd a b := Nat.gcd_pos_of_pos_left b a0
        have g1 : Nat.gcd a b ≤ b := Nat.gcd_le_right a b0
        walk_at "ct"
        refine w_rI (div_ok (by omega) (by omega)) ?_
        have ed : (a : Int) / ((Nat.gcd a b : Nat) : Int) = ((a / Nat.gcd a b : Nat) : Int) := (Int.natCast_ediv _ _).symm
        rw [ed]
        walk_at "ct"
        have da : a / Nat.gcd a b ≤ a := Nat.div_le_self _ _
        refine w_rI (wide_mul (a := 30001) (b := 201) ?_ ?_ (by decide) (by decide) (by decide)) ?_
        · rw [Int.natAbs_natCast]
          exact Nat.lt_of_le_of_lt (Nat.le_trans da a1) (Nat.pow_lt_pow_right (by decide) (by decide))
        · rw [Int.natAbs_natCast]
          exact Nat.lt_trans b1 (Nat.pow_lt_pow_right (by decide) (by decide))
        have el : ((a / Nat.gcd a b : Nat) : Int) * (b : Int) = ((Nat.lcm a b : Nat) : Int) := by
          rw [← Int.natCast_mul]
          congr 1
          unfold Nat.lcm
          rw [Nat.div_mul_right_comm (Nat.gcd_dvd_left a b)]
        rw [el]
        exact q H' sm
    · rintro σ H' Q1 Q2 hQ ⟨v1, e1, i, j, z1, z2, k, e3, hq⟩
      exact ⟨v1, e1, i, j, z1, z2, k, e3, hQ _ _ hq⟩
abbrev S_walk_from : Stmt := topS 36
theorem sc_walk_from : FnScope ["stand", "after", "ahead_of", "walked"] ["stand", "after", "ahead_of"] (defScope S_walk_from) := ⟨rfl, rfl, rfl, by decide +kernel, rfl, by decide +kernel, by decide +kernel⟩
def sp_walk_from (K : PySem.W.Frag) : Sp := fun vs H Q _ => ∃ (b a d : Addr) (ps : List Part) (ds : List Deed) (xs : List Int) (dl : List (List Int × V)), vs = [.ref b, .ref a, .ref d] ∧ H b = some (.tup (xs.map V.int)) ∧ StandL ps xs ∧ (∀ d ∈ ds, d.ok ps.length) ∧ stands ps ≤ 100000 ∧ AfterAt H (fR ps ds) (StandL ps) a ∧ H d = some (.dT (pairsD dl)) ∧
  ∀ (n : Nat) l ws H', Same H H' → H l = none → H' l = some (.lst ws) → TpAll H' ws ((List.range n).map fun i => itf (fR ps ds) i xs) → (∀ i, i < n → itf (fR ps ds) i xs ∉ dl.map (·.1)) → (∀ i j, i < j → j < n → itf (fR ps ds) i xs ≠ itf (fR ps ds) j xs) →
    (itf (fR ps ds) n xs ∈ dl.map (·.1) ∨ ∃ m, m < n ∧ itf (fR ps ds) n xs = itf (fR ps ds) m xs) → Q (.ref l) H'
theorem ok_walk_from {f : Addr} {fd : FuncData} (F : Fun K "walk_from" "walk_from" S_walk_from f fd) (m_list : mg "list" = none) :
    FnOk P w K mg base CX0 1 f fd ["stand", "after", "ahead_of"] (sp_walk_from K) := by
  refine F.ok sc_walk_from (fun vs H Q E h => ?_) (fun cdv A outer s H vs Q E hr h => ?_)
  ·
    obtain ⟨b, a, d, ps, ds, xs, dl, rfl, _⟩ := h
    rfl
  ·
    obtain ⟨b, a, d, ps, ds, xs, dl, rfl, hb, hst, hokd, few, hA, hd, q⟩ := h
    refine ⟨_, (pss_cons (ps_set (i := 3) sc_walk_from.nd rfl (.inl rfl) pe_dnewT)
      (pss_cons (ps_while PassesOwn.never (PW.pt (pw_and (pt_cmp (pc_dnotin (hu_of hr) (pv 0) (pv 2))) (pw_and1 (pt_cmp (pc_dnotin (hu_of hr) (pv 0) (pv 3)))))) (pss_cons (ps_dput (hu_of hr) (pv 3) (pv 0) pe_bl rfl)
      (pss_one (ps_set (i := 0) sc_walk_from.nd rfl (.inl rfl) (pe_dget (hu_of hr) (pv 1) (pv 0) (fun _ _ => rfl))))))
      (pss_one (ps_ret (pe_callTy (r := rListT) (call_listT rfl) (by rfl) m_list (by decide +kernel) (pa_cons (pv 3) pa_nil)))))), ?_⟩
    refine w_st (σ' := [some (.ref b), some (.ref a), some (.ref d), none]) rfl ?_
    walk_at "ct"
    intro W nW
    have s0 : Same H (upd H W (.dT [])) := same_upd nW
    have h0 : (upd H W (.dT [])) W = some (.dT (pairsD [])) := upd_same
    generalize upd H W _ = H0 at *
    refine w_name (σ' := [some (.ref b), some (.ref a), some (.ref d), some (.ref W)]) rfl ?_
    with_reducible refine w_seq ?_
    refine while_by (fun σ H' => ∃ (k : Nat) (t : Addr), σ = [some (.ref t), some (.ref a), some (.ref d), some (.ref W)] ∧ Same H H' ∧ H' t = some (.tup ((itf (fR ps ds) k xs).map V.int)) ∧ H' W = some (.dT (pairsD ((List.range k).map fun i => (itf (fR ps ds) i xs, V.bl true)))) ∧ (∀ i, i < k → itf (fR ps ds) i xs ∉ dl.map (·.1)) ∧ (∀ i j, i < j → j < k → itf (fR ps ds) i xs ≠ itf (fR ps ds) j xs))
      (fun σ H' => match H' W with | some (.dT kvs) => (stands ps).toNat + 1 - kvs.length | _ => 0)
      ⟨0, b, rfl, s0, s0 _ _ hb, h0, fun i hi => absurd hi (Nat.not_lt_zero i), fun i j _ hj => absurd hj (Nat.not_lt_zero j)⟩ ?_ ?_
    · rintro σ H' ⟨k, t, rfl, sm, ht, hW, out, dist⟩
      have kfew := few_itf hst hokd dist
      have kst := itf_stand hst hokd k
      have klen : (pairsD ((List.range k).map fun i => (itf (fR ps ds) i xs, V.bl true))).length = k := by rw [prs_len, List.length_map, List.length_range]
      have keyk : H' t = some (.tup ((keyI (itf (fR ps ds) k xs)).map kV)) := by rw [keyI_kV]; exact ht
      have mem : ∀ ys, ys ∈ ((List.range k).map fun i => (itf (fR ps ds) i xs, V.bl true)).map (·.1) ↔ ∃ m, m < k ∧ ys = itf (fR ps ds) m xs := fun ys => by
        rw [List.map_map, List.mem_map]
        constructor
        · rintro ⟨m, hm, rfl⟩
          exact ⟨m, List.mem_range.mp hm, rfl⟩
        · rintro ⟨m, hm, rfl⟩
          exact ⟨m, List.mem_range.mpr hm, rfl⟩
      have fin : (itf (fR ps ds) k xs ∈ dl.map (·.1) ∨ ∃ m, m < k ∧ itf (fR ps ds) k xs = itf (fR ps ds) m xs) → ∀ bs : List Addr, bs.length = (pairsD ((List.range k).map fun i => (itf (fR ps ds) i xs, V.bl true))).length → (∀ (i : Nat) (b : Addr) (key : List Key) (v : V), bs[i]? = some b → (pairsD ((List.range k).map fun i => (itf (fR ps ds) i xs, V.bl true)))[i]? = some (key, v) → H' b = some (.tup (key.map kV))) → ∀ l, H' l = none → Q (.ref l) (upd H' l (.lst (bs.map V.ref))) := fun hend bs bl hbs l nl => by
        refine q k l _ _ (sm.trans (same_upd nl)) (sm.free nl) upd_same (tp_same (same_upd nl) (tp_of (by rw [bl, klen, List.length_map, List.length_range]) fun i b s hb hs => ?_)) out dist hend
        have hi : i < k := by
          have := (List.getElem?_eq_some_iff.mp hs).1
          rw [List.length_map, List.length_range] at this
          exact this
        have es : s = itf (fR ps ds) i xs := by
          rw [List.getElem?_map, List.getElem?_range hi] at hs
          exact (Option.some.inj hs).symm
        have := hbs i b (keyI (itf (fR ps ds) i xs)) (.bl true) hb (by unfold pairsD; rw [List.getElem?_map, List.getElem?_map, List.getElem?_range hi]; rfl)
        rw [es, this, keyI_kV]
      walk_at "ct"
      refine ⟨d, _, rfl, DGet.t (sm _ _ hd) keyk, ?_⟩
      cases e1 : valV (pairsD dl) (keyI (itf (fR ps ds) k xs)) with
      | some v =>
        refine w_bl (w_nT ?_)
        walk_at "ct"
        have hin : itf (fR ps ds) k xs ∈ dl.map (·.1) := List.mem_map.mpr ⟨_, valV_some e1, rfl⟩
        exact ⟨W, _, rfl, hW, fin (.inl hin)⟩
      | none =>
        have nin := valV_none.mp e1
        refine w_bl (w_nF ?_)
        walk_at "ct"
        refine ⟨W, _, rfl, DGet.t hW keyk, ?_⟩
        cases e2 : valV (pairsD ((List.range k).map fun i => (itf (fR ps ds) i xs, V.bl true))) (keyI (itf (fR ps ds) k xs)) with
        | some v =>
          refine w_bl (w_nT ?_)
          walk_at "ct"
          have hin := (mem _).mp (List.mem_map.mpr ⟨_, valV_some e2, rfl⟩)
          exact ⟨W, _, rfl, hW, fin (.inr hin)⟩
        | none =>
          have nin2 := valV_none.mp e2
          refine w_bl (w_nF ?_)
          walk_at "ct"
          refine ⟨W, _, rfl, DPut.t hW keyk (by rw [klen]; exact Nat.lt_of_le_of_lt (show k ≤ 100000 by omega) (by decide)), ?_⟩
          rw [put_pairs _ nin2]
          have er : (List.range k).map (fun i => (itf (fR ps ds) i xs, V.bl true)) ++ [(itf (fR ps ds) k xs, V.bl true)] = (List.range (k + 1)).map fun i => (itf (fR ps ds) i xs, V.bl true) := by rw [List.range_succ, List.map_append]; rfl
          rw [er]
          obtain ⟨kvs, hA1, hA2⟩ := hA
          obtain ⟨b2, hb2, hb3⟩ := hA2 _ kst
          have tW : t ≠ W := ne_of ht hW (fun z => nomatch z)
          have aW : a ≠ W := ne_of_none hA1 nW
          have s1 : Same H (upd H' W (.dT (pairsD ((List.range (k + 1)).map fun i => (itf (fR ps ds) i xs, V.bl true))))) := same_new sm nW
          walk_at "ct"
          refine ⟨a, _, rfl, (by have z := DGet.t (b := t) (k := keyI (itf (fR ps ds) k xs)) (s1 _ _ hA1) (by rw [upd_ne tW]; exact keyk); rw [hb2] at z; exact z), ?_⟩
          walk_at "ct"
          refine ⟨⟨k + 1, b2, rfl, s1, s1 _ _ hb3, upd_same, fun i hi => ?_, fun i j hij hj => ?_⟩, ?_⟩
          · by_cases hik : i < k
            · exact out i hik
            · rw [show i = k by omega]
              exact nin
          · by_cases hjk : j < k
            · exact dist i j hij hjk
            · rw [show j = k by omega] at hij ⊢
              exact fun z => nin2 ((mem _).mpr ⟨i, hij, z.symm⟩)
          · show (match (upd H' W (.dT (pairsD ((List.range (k + 1)).map fun i => (itf (fR ps ds) i xs, V.bl true))))) W with | some (.dT kvs) => (stands ps).toNat + 1 - kvs.length | _ => 0) < (match H' W with | some (.dT kvs) => (stands ps).toNat + 1 - kvs.length | _ => 0)
            rw [upd_same, hW]
            show (stands ps).toNat + 1 - (pairsD _).length < (stands ps).toNat + 1 - (pairsD _).length
            rw [klen, prs_len, List.length_map, List.length_range]
            omega
    · rintro σ H' Q1 Q2 hQ ⟨v1, e1, v2, e2, a1, o1, z1, g1, k, z2, hk⟩
      refine ⟨v1, e1, v2, e2, a1, o1, z1, g1, k, z2, ?_⟩
      cases k with
      | false => exact hQ _ _ hk
      | true =>
        obtain ⟨v3, e3, v4, e4, a2, o2, z3, g2, k2, z4, hk2⟩ := hk
        exact ⟨v3, e3, v4, e4, a2, o2, z3, g2, k2, z4, hQ _ _ hk2⟩
abbrev S_row_round : Stmt := topS 37
theorem sc_row_round : FnScope ["train", "row", "stands", "stand", "after", "ahead_of", "turn", "walked", "start", "inner"] ["train", "row"] (defScope S_row_round) := ⟨rfl, rfl, rfl, by decide +kernel, rfl, by decide +kernel, by decide +kernel⟩
def sp_row_round (K : PySem.W.Frag) : Sp := fun vs H Q _ => ∃ (a b : Addr) (ps : List Part) (ds : List Deed), vs = [.ref a, .ref b] ∧ TrainAt K H a ps ∧ (∀ p ∈ ps, p.ok) ∧ 1 ≤ ps.length ∧ ps.length ≤ 1000 ∧ stands ps ≤ 2000 ∧ RowAt K H b ds ∧ (∀ d ∈ ds, d.ok ps.length ∧ d.t < 2 ^ 200) ∧
  ∀ (x L : Nat) q H', Same H H' → Ahead (fR ps ds) (allS ps) x → Turns (fR ps ds) (allS ps) L → H' q = some (.tup [.int (x : Int), .int (L : Int)]) → Q (.ref q) H'
theorem ok_row_round {f : Addr} {fd : FuncData} {f_common_multiple : Addr} {fd_common_multiple : FuncData} {f_walk_from : Addr} {fd_walk_from : FuncData} {f_row_left : Addr} {fd_row_left : FuncData} {f_stands_of : Addr} {fd_stands_of : FuncData} {f_check_row : Addr} {fd_check_row : FuncData} {f_check_train : Addr} {fd_check_train : FuncData} (F : Fun K "row_round" "row_round" S_row_round f fd)
    (F_common_multiple : Fun K "common_multiple" "common_multiple" S_common_multiple f_common_multiple fd_common_multiple) (b_common_multiple : Binds K fd_common_multiple ["one", "other"] []) (g_common_multiple : mg "common_multiple" = some (.ref f_common_multiple)) (G_common_multiple : FnOk P w K mg base CX0 1 f_common_multiple fd_common_multiple ["one", "other"] (sp_common_multiple K))
    (F_walk_from : Fun K "walk_from" "walk_from" S_walk_from f_walk_from fd_walk_from) (b_walk_from : Binds K fd_walk_from ["stand", "after", "ahead_of"] []) (g_walk_from : mg "walk_from" = some (.ref f_walk_from)) (G_walk_from : FnOk P w K mg base CX0 1 f_walk_from fd_walk_from ["stand", "after", "ahead_of"] (sp_walk_from K))
    (F_row_left : Fun K "row_left" "row_left" S_row_left f_row_left fd_row_left) (b_row_left : Binds K fd_row_left ["train", "stand", "row"] []) (g_row_left : mg "row_left" = some (.ref f_row_left)) (G_row_left : FnOk P w K mg base CX0 5 f_row_left fd_row_left ["train", "stand", "row"] (sp_row_left K))
    (F_stands_of : Fun K "stands_of" "stands_of" S_stands_of f_stands_of fd_stands_of) (b_stands_of : Binds K fd_stands_of ["train"] []) (g_stands_of : mg "stands_of" = some (.ref f_stands_of)) (G_stands_of : FnOk P w K mg base CX0 5 f_stands_of fd_stands_of ["train"] (sp_stands_of K))
    (F_check_row : Fun K "check_row" "check_row" S_check_row f_check_row fd_check_row) (b_check_row : Binds K fd_check_row ["train", "row"] []) (g_check_row : mg "check_row" = some (.ref f_check_row)) (G_check_row : FnOk P w K mg base CX0 4 f_check_row fd_check_row ["train", "row"] (sp_check_row K))
    (F_check_train : Fun K "check_train" "check_train" S_check_train f_check_train fd_check_train) (b_check_train : Binds K fd_check_train ["train"] []) (g_check_train : mg "check_train" = some (.ref f_check_train)) (G_check_train : FnOk P w K mg base CX0 4 f_check_train fd_check_train ["train"] (sp_check_train K)) (m_reversed : mg "reversed" = none) (m_max : mg "max" = none) (m_len : mg "len" = none) :
    FnOk P w K mg base CX0 6 f fd ["train", "row"] (sp_row_round K) := by
  refine F.ok sc_row_round (fun vs H Q E h => ?_) (fun cdv A outer s H vs Q E hr h => ?_)
  ·
    obtain ⟨a, b, ps, ds, rfl, _⟩ := h
    rfl
  ·
    obtain ⟨a, b, ps, ds, rfl, hT, hok, l1, l2, few, hR, hds, q⟩ := h
    refine ⟨_, (pss_cons (ps_expr (pe_call G_check_train (hr.mono (by decide)) (by rfl) g_check_train F_check_train.kp b_check_train .nil pass0 (pa_cons (pv 0) pa_nil)))
      (pss_cons (ps_expr (pe_call G_check_row (hr.mono (by decide)) (by rfl) g_check_row F_check_row.kp b_check_row .nil pass0 (pa_cons (pv 0) (pa_cons (pv 1) pa_nil))))
      (pss_cons (ps_set (i := 2) sc_row_round.nd rfl (.inl rfl) (pe_call G_stands_of (hr.mono (by decide)) (by rfl) g_stands_of F_stands_of.kp b_stands_of .nil pass0 (pa_cons (pv 0) pa_nil)))
      (pss_cons (ps_setDcT (i := 4) rfl rfl (swD_true rfl rfl rfl (by decide +kernel)) (own := [("stand", 3)]) (g := gName 3) rfl (hu_of hr) sc_row_round.nd (pi_list (pv 2)) (blkOk_by (own := [("stand", 3)]) (N := ["train", "row", "stands", "stand", "after", "ahead_of", "turn", "walked", "start", "inner"]) (sc := defScope S_row_round) (by decide +kernel)) (fun _ _ _ _ _ => pg_name (i := 3) sc_row_round.nd rfl (Or.inl rfl)) (fun _ _ _ _ _ => pts_nil) (fun _ _ _ _ _ => (pv 3)) (fun _ _ _ _ _ => (pe_ix (r := rIxT K) ix_tup (pe_call G_row_left (hr.mono (by decide)) (by rfl) g_row_left F_row_left.kp b_row_left .nil pass0 (pa_cons (pv 0) (pa_cons (pv 3) (pa_cons (pv 1) pa_nil)))) pe_int (fun _ _ => rfl))))
      (pss_cons (ps_set (i := 5) sc_row_round.nd rfl (.inl rfl) pe_dnewT)
      (pss_cons (ps_set (i := 6) sc_row_round.nd rfl (.inl rfl) pe_int)
      (pss_cons (ps_for PassesOwn.never rfl (pi_list (pv 2)) (pg_name (i := 3) sc_row_round.nd rfl (.inl rfl))
      (pss_cons (ps_set (i := 7) sc_row_round.nd rfl (.inl rfl) (pe_call G_walk_from (hr.mono (by decide)) (by rfl) g_walk_from F_walk_from.kp b_walk_from .nil pass0 (pa_cons (pv 3) (pa_cons (pv 4) (pa_cons (pv 5) pa_nil)))))
      (pss_cons (ps_if (PW.pt (pw_and (pt_truth (pv 7) (by intro _; rfl)) (pw_and1 (pt_cmp (pc_dnotin (hu_of hr) (pe_dget (hu_of hr) (pv 4) (pe_ix (r := rIxL K) ix_list (pv 7) (pe_un un_neg pe_int) (fun _ _ => rfl)) (fun _ _ => rfl)) (pv 5)))))) (pss_cons (ps_set (i := 8) sc_row_round.nd rfl (.inl rfl) (pe_bm PySem.F.plainAttrs_list PySem.F.slot_list_index PySem.F.type_list_index (mt_indexD (units65 hr)) (pv 7) (pa_cons (pe_dget (hu_of hr) (pv 4) (pe_ix (r := rIxL K) ix_list (pv 7) (pe_un un_neg pe_int) (fun _ _ => rfl)) (fun _ _ => rfl)) pa_nil)))
      (pss_cons (ps_set (i := 6) sc_row_round.nd rfl (.inl rfl) (pe_call G_common_multiple (hr.mono (by decide)) (by rfl) g_common_multiple F_common_multiple.kp b_common_multiple .nil pass0 (pa_cons (pv 6) (pa_cons (pe_op op_sub (pe_callB call_len_seq (by rfl) m_len (by decide +kernel) (pa_cons (pv 7) pa_nil)) (pv 8)) pa_nil))))
      (pss_cons (ps_for PassesOwn.never rfl (pi_list (pe_slice (r := rSlL K) sl_list (pv 7) (po_some (pv 8)) po_none)) (pg_name (i := 9) sc_row_round.nd rfl (.inl rfl))
      (pss_one (ps_dput (hu_of hr) (pv 5) (pv 9) pe_int rfl)))
      (pss_one (ps_set (i := 7) sc_row_round.nd rfl (.inl rfl) (pe_slice (r := rSlL K) sl_list (pv 7) po_none (po_some (pv 8)))))))) pss_nil)
      (pss_one (ps_for PassesOwn.never rfl (pi_reversed (by rfl) m_reversed (pa_cons (pv 7) pa_nil)) (pg_name (i := 9) sc_row_round.nd rfl (.inl rfl))
      (pss_one (ps_dput (hu_of hr) (pv 5) (pv 9) (pe_op op_add (pe_dget (hu_of hr) (pv 5) (pe_dget (hu_of hr) (pv 4) (pv 9) (fun _ _ => rfl)) (fun _ _ => rfl)) pe_int) rfl)))))))
      (pss_one (ps_ret (pe_tup (pa_cons (pe_callB (r := rMaxT) (cr_maxT rfl) (by rfl) m_max (by decide +kernel) (pa_cons (pe_bm0 PySem.F.plainAttrs_dict PySem.F.slot_dict_values PySem.F.type_dict_values mt_valuesT (pv 5)) pa_nil)) (pa_cons (pv 6) pa_nil)))))))))))), ?_⟩
    refine w_st (σ' := [some (.ref a), some (.ref b), none, none, none, none, none, none, none, none]) rfl ?_
    have hokd : ∀ d ∈ ds, d.ok ps.length := fun d hd => (hds d hd).1
    walk_at "ct"
    refine ⟨a, ps, rfl, hT, hok, l1, fun H1 s1 => ?_⟩
    walk_at "ct"
    refine ⟨a, b, ps, ds, rfl, hT.same s1, hR.same s1, hokd, fun H2 s2 => ?_⟩
    have s12 := s1.trans s2
    walk_at "ct"
    refine ⟨a, ps, rfl, hT.same s12, hok, l1, l2, by omega, fun l ws H3 s3 nl hl htp => ?_⟩
    have s13 := s12.trans s3
    have wl := tp_len htp
    have al : ((allS ps).length : Int) = stands ps := by
      have := allS_len hok ps.length (Nat.le_refl _)
      rw [List.take_length] at this
      exact this
    walk_at "ct"
    refine w_IL (.of hl) ?_
    refine db_list ws (fun D i G => Same H3 G ∧ ∃ kvs, G D = some (.dT kvs) ∧ kvs.length ≤ i ∧ ∀ xs ∈ (allS ps).take i, ∃ b, valV kvs (keyI xs) = some (.ref b) ∧ G b = some (.tup ((fR ps ds xs).map V.int))) (fun D hD => ⟨same_upd hD, [], upd_same, Nat.le_refl _, (fun xs h => nomatch h)⟩) (fun D hD i G _ h => .of (h.1 _ _ hl)) ?_ ?_
    · rintro D hD i x G hx ⟨sm, kvs, hk, klen, all⟩
      have hi : i < ws.length := (List.getElem?_eq_some_iff.mp hx).1
      obtain ⟨xs, hxs⟩ : ∃ xs, (allS ps)[i]? = some xs := ⟨_, List.getElem?_eq_getElem (by omega)⟩
      obtain ⟨c, hc1, hc2⟩ := tp_get htp hxs
      cases Option.some.inj (hx.symm.trans hc1)
      have st : StandL ps xs := (allS_mem hok xs).mp (List.mem_of_getElem? hxs)
      have tk : (allS ps).take (i + 1) = (allS ps).take i ++ [xs] := by rw [List.take_add_one, hxs]; rfl
      walk_at "ct"
      refine ⟨rfl, ?_⟩
      walk_at "ct"
      have s3G := s13.trans sm
      refine ⟨a, c, b, ps, xs, ds, rfl, hT.same s3G, st, l2, .of (sm _ _ hc2), hR.same s3G, hds, fun q2 u H4 s4 nu nq hu hq => ?_⟩
      have hq' : SqT K H4 q2 [.ref u, .int (rowL ps ds (xs, 0)).2] := .of hq
      walk_at "ct"
      have s34 := sm.trans s4
      have uD : u ≠ D := ne_of hu (s4 _ _ hk) (fun z => nomatch z)
      refine ⟨kvs, keyI xs, c, rfl, by rw [keyI_kV]; exact s34 _ _ hc2, s4 _ _ hk, Nat.lt_of_le_of_lt (show kvs.length ≤ 100000 by omega) (by decide), same_new s34 hD, _, upd_same, Nat.le_trans (length_putK _ _ _) (by omega), fun ys hy => ?_⟩
      by_cases e : ys = xs
      · subst e
        refine ⟨u, by rw [valV_put, if_pos rfl], ?_⟩
        rw [upd_ne uD]
        exact hu
      · rw [tk] at hy
        rcases List.mem_append.mp hy with hy | hy
        · obtain ⟨c2, h1, h2⟩ := all ys hy
          refine ⟨c2, by rw [valV_put, if_neg (fun z => e (keyI_inj z))]; exact h1, ?_⟩
          rw [upd_ne (ne_of (s4 _ _ h2) (s4 _ _ hk) (fun z => nomatch z))]
          exact s4 _ _ h2
        · exact absurd (List.mem_singleton.mp hy) e
    rintro A nA HB ⟨sB, kvs, hkA, _, all⟩
    rw [List.take_of_length_le (by omega)] at all
    have hA : AfterAt HB (fR ps ds) (StandL ps) A := ⟨kvs, hkA, fun xs hx => all xs ((allS_mem hok xs).mpr hx)⟩
    clear all hkA nA
    have s1B := s13.trans sB
    have hlB := sB _ _ hl
    have htB := tp_same sB htp
    clear hl htp
    walk_at "ct"
    intro O nO
    have sO : Same HB (upd HB O (.dT [])) := same_upd nO
    have hO0 : (upd HB O (.dT [])) O = some (.dT (pairsD [])) := upd_same
    generalize upd HB O _ = HO at *
    walk_at "ct"
    refine w_IL (.of (sO _ _ hlB)) ?_
    refine fb_list ws (fun i σ G => ∃ (y3 y7 y8 y9 : Option V) (turn : Nat) (dl : List (List Int × V)), σ = [some (.ref a), some (.ref b), some (.ref l), y3, some (.ref A), some (.ref O), some (.int (turn : Int)), y7, y8, y9] ∧ Same HB G ∧ G O = some (.dT (pairsD dl)) ∧ DI ps ds dl turn ∧ ∀ xs ∈ (allS ps).take i, xs ∈ dl.map (·.1))
      ⟨none, none, none, none, 1, [], rfl, sO, hO0, .nil, (fun xs h => nomatch h)⟩ ?_ ?_ ?_
    · rintro i σ G _ ⟨y3, y7, y8, y9, turn, dl, rfl, sm, _⟩
      exact .of (sm _ _ hlB)
    · rintro i x σ G hx ⟨y3, y7, y8, y9, turn, dl, rfl, sm, hO, di, cov⟩
      have hi : i < ws.length := (List.getElem?_eq_some_iff.mp hx).1
      obtain ⟨xs, hxs⟩ : ∃ xs, (allS ps)[i]? = some xs := ⟨_, List.getElem?_eq_getElem (by omega)⟩
      obtain ⟨c, hc1, hc2⟩ := tp_get htB hxs
      cases Option.some.inj (hx.symm.trans hc1)
      have st : StandL ps xs := (allS_mem hok xs).mp (List.mem_of_getElem? hxs)
      have tk : (allS ps).take (i + 1) = (allS ps).take i ++ [xs] := by rw [List.take_add_one, hxs]; rfl
      walk_at "ct"
      refine ⟨c, A, O, ps, ds, xs, dl, rfl, sm _ _ hc2, st, hokd, by omega, hA.same sm, hO, fun n w vs H1 t1 nw hw htw out dist hend => ?_⟩
      have sB1 := sm.trans t1
      have hO1 := t1 _ _ hO
      have nfew := few_itf st hokd dist
      have vlen : vs.length = n := by rw [tp_len htw, List.length_map, List.length_range]
      have gi : ∀ j, j < n → ((List.range n).map fun i => itf (fR ps ds) i xs)[j]? = some (itf (fR ps ds) j xs) := fun j hj => by rw [List.getElem?_map, List.getElem?_range hj]; rfl
      refine w_name (σ' := [some (.ref a), some (.ref b), some (.ref l), some (.ref c), some (.ref A), some (.ref O), some (.int (turn : Int)), some (.ref w), y8, y9]) rfl ?_
      with_reducible refine w_join (fun σ G => ∃ (w' : Addr) (vs' : List V) (m turn' : Nat) (dl' : List (List Int × V)) (z8 z9 : Option V), σ = [some (.ref a), some (.ref b), some (.ref l), some (.ref c), some (.ref A), some (.ref O), some (.int (turn' : Int)), some (.ref w'), z8, z9] ∧ Same HB G ∧ G O = some (.dT (pairsD dl')) ∧ DI ps ds dl' turn' ∧ G w' = some (.lst vs') ∧ TpAll G vs' ((List.range m).map fun i => itf (fR ps ds) i xs) ∧ (∀ i, i < m → itf (fR ps ds) i xs ∉ dl'.map (·.1)) ∧ (∀ i j, i < j → j < m → itf (fR ps ds) i xs ≠ itf (fR ps ds) j xs) ∧ itf (fR ps ds) m xs ∈ dl'.map (·.1) ∧ ∀ y, y ∈ dl.map (·.1) → y ∈ dl'.map (·.1)) ?_ ?_
      · rintro σ G2 ⟨w', vs', m, turn', dl', z8, z9, rfl, sG, hOG, di', hwG, htG, outm, distm, hin, sub⟩
        have vl : vs'.length = m := by rw [tp_len htG, List.length_map, List.length_range]
        walk_at "ct"
        refine w_IV (.of hwG) ?_
        refine fb_rev vs' (fun j σ G3 => ∃ (z9 : Option V) (dm : List (List Int × V)), σ = [some (.ref a), some (.ref b), some (.ref l), some (.ref c), some (.ref A), some (.ref O), some (.int (turn' : Int)), some (.ref w'), z8, z9] ∧ Same HB G3 ∧ G3 O = some (.dT (pairsD dm)) ∧ DI ps ds dm turn' ∧ G3 w' = some (.lst vs') ∧ TpAll G3 vs' ((List.range m).map fun i => itf (fR ps ds) i xs) ∧ (∀ i, i < m - j → itf (fR ps ds) i xs ∉ dm.map (·.1)) ∧ itf (fR ps ds) (m - j) xs ∈ dm.map (·.1) ∧ ∀ y, y ∈ dl.map (·.1) → y ∈ dm.map (·.1))
          ⟨z9, dl', rfl, sG, hOG, di', hwG, htG, outm, hin, sub⟩ ?_ ?_ ?_
        · rintro j σ G3 ⟨z9, dm, rfl, _, _, _, h, _⟩
          exact .of h
        · rintro j v σ G3 hj hv ⟨z9, dm, rfl, s3', hO3, di3, hw3, ht3, out3, in3, sub3⟩
          rw [vl] at hj hv
          obtain ⟨k, hk⟩ : ∃ k, m - j = k + 1 := ⟨m - j - 1, by omega⟩
          have ek : m - 1 - j = k := by omega
          rw [ek] at hv
          rw [hk] at out3 in3
          obtain ⟨e, he1, he2⟩ := tp_get ht3 (i := k) (s := itf (fR ps ds) k xs) (by rw [List.getElem?_map, List.getElem?_range (by omega)]; rfl)
          cases Option.some.inj (hv.symm.trans he1)
          have kst := itf_stand st hokd k
          obtain ⟨kv, hA1, hA2⟩ := hA.same s3'
          obtain ⟨e2, g1, g2⟩ := hA2 _ kst
          obtain ⟨v2, g3, g4⟩ := valV_is in3
          obtain ⟨_, t, g5, tl⟩ := di3.each _ g4
          have g5' : v2 = .int (t : Int) := g5
          subst g5'
          walk_at "ct"
          refine ⟨A, _, rfl, (by have z := DGet.t (b := e) (k := keyI (itf (fR ps ds) k xs)) hA1 (by rw [keyI_kV]; exact he2); rw [g1] at z; exact z), ?_⟩
          refine ⟨O, _, rfl, (by have z := DGet.t (b := e2) (k := keyI (itf (fR ps ds) (k + 1) xs)) hO3 (by rw [keyI_kV]; exact g2); rw [g3] at z; exact z), ?_⟩
          walk_at "ct"
          have klen := di3.len
          refine ⟨O, _, rfl, DPut.t (k := keyI (itf (fR ps ds) k xs)) hO3 (by rw [keyI_kV]; exact he2) (by rw [prs_len]; exact Nat.lt_of_le_of_lt (show dm.length ≤ 100000 by omega) (by decide)), ?_⟩
          have nin : itf (fR ps ds) k xs ∉ dm.map (·.1) := out3 k (by omega)
          rw [put_pairs _ nin, show (t : Int) + 1 = ((t + 1 : Nat) : Int) by omega]
          have em : (dm ++ [(itf (fR ps ds) k xs, V.int ((t + 1 : Nat) : Int))]).map (·.1) = dm.map (·.1) ++ [itf (fR ps ds) k xs] := by rw [List.map_append]; rfl
          refine ⟨_, _, rfl, same_new s3' nO, upd_same, di3.back kst nin in3 tl, by rw [upd_ne (ne_of hw3 hO3 (fun z => nomatch z))]; exact hw3, tp_updD hO3 ht3, fun i hi z => ?_, ?_, fun y hy => ?_⟩
          · rw [em] at z
            rcases List.mem_append.mp z with z | z
            · exact out3 i (by omega) z
            · exact distm i k (by omega) (by omega) (List.mem_singleton.mp z)
          · rw [em, show m - (j + 1) = k by omega]
            exact List.mem_append_right _ (List.mem_singleton.mpr rfl)
          · rw [em]
            exact List.mem_append_left _ (sub3 y hy)
        · rintro σ G3 ⟨z9, dm, rfl, s3', hO3, di3, hw3, ht3, out3, in3, sub3⟩
          rw [vl, Nat.sub_self] at in3
          refine ⟨_, _, _, _, turn', dm, rfl, s3', hO3, di3, fun ys hy => ?_⟩
          rw [tk] at hy
          rcases List.mem_append.mp hy with hy | hy
          · exact sub3 ys (cov ys hy)
          · rw [List.mem_singleton] at hy
            rw [hy]
            exact in3
      · intro N hN
        walk_at "ct"
        refine ⟨decide (0 < n), .inl ⟨vs, .of hw, ?_⟩, ?_⟩
        · cases vs with
          | nil => rw [← vlen]; rfl
          | cons v r => rw [← vlen]; exact decide_eq_true (Nat.succ_pos _)
        refine w_ite (fun n0 => ?_) (fun n0 => ?_)
        · obtain ⟨k, hk⟩ : ∃ k, n = k + 1 := ⟨n - 1, by omega⟩
          have kst := itf_stand st hokd k
          obtain ⟨e, he1, he2⟩ := tp_get htw (gi k (by omega))
          obtain ⟨kv, hA1, hA2⟩ := hA.same sB1
          obtain ⟨e2, g1, g2⟩ := hA2 _ kst
          have g2' : H1 e2 = some (.tup ((itf (fR ps ds) n xs).map V.int)) := by rw [hk]; exact g2
          have last : ∀ G, Same H1 G → DGet G A (.ref e) (some (.ref e2)) := fun G s => by
            have z := DGet.t (b := e) (k := keyI (itf (fR ps ds) k xs)) (s _ _ hA1) (by rw [keyI_kV]; exact s _ _ he2)
            rw [g1] at z
            exact z
          have r1 := Same.refl H1
          walk_at "ct"
          refine w_ixL (.of hw) (at_last (n := k) (by omega) he1) ?_
          walk_at "ct"
          refine ⟨A, _, rfl, last H1 r1, ?_⟩
          walk_at "ct"
          refine ⟨O, _, rfl, DGet.t (k := keyI (itf (fR ps ds) n xs)) hO1 (by rw [keyI_kV]; exact g2'), ?_⟩
          cases e1 : valV (pairsD dl) (keyI (itf (fR ps ds) n xs)) with
          | some v =>
            refine w_bl (w_nT ?_)
            walk_at "ct"
            have hin : itf (fR ps ds) n xs ∈ dl.map (·.1) := List.mem_map.mpr ⟨_, valV_some e1, rfl⟩
            exact hN _ _ ⟨w, vs, n, turn, dl, _, _, rfl, sB1, hO1, di, hw, htw, out, dist, hin, fun y hy => hy⟩
          | none =>
            have nin := valV_none.mp e1
            obtain ⟨m, hm, em⟩ : ∃ m, m < n ∧ itf (fR ps ds) n xs = itf (fR ps ds) m xs := hend.elim (fun z => absurd z nin) id
            refine w_bl (w_nF ?_)
            walk_at "ct"
            refine ⟨ty_list hw, ?_⟩
            walk_at "ct"
            refine w_ixL (.of hw) (at_last (n := k) (by omega) he1) ?_
            walk_at "ct"
            refine ⟨A, _, rfl, last H1 r1, ?_⟩
            refine ⟨w, _, tupD (itf (fR ps ds) n xs), ((List.range n).map fun i => itf (fR ps ds) i xs).map tupD, m, tupD (itf (fR ps ds) m xs), rfl, rfl, .lst (.of hw) (tp_dp htw), tupD_dp (.of g2'), shaped_of (lay_tups _) (by decide), shaped_of (lay_tupD _) (by decide), by rw [List.getElem?_map, gi m hm]; rfl, by rw [eqv_tupD, em]; exact decide_eq_true rfl, fun m' z hm' hz => ?_, ?_⟩
            · rw [List.getElem?_map, gi m' (by omega)] at hz
              cases Option.some.inj hz
              rw [eqv_tupD, em]
              exact decide_eq_false (dist m' m hm' hm)
            walk_at "ct"
            refine ⟨w, vs, rfl, .inl (.of hw), ?_⟩
            rw [vlen]
            walk_at "ct"
            rw [show (n : Int) - (m : Int) = ((n - m : Nat) : Int) by omega]
            refine ⟨turn, n - m, rfl, di.turns.1, by omega, di.small hokd few, Nat.lt_of_le_of_lt (show n - m ≤ 2000 by omega) (by decide), fun H2' t2 => ?_⟩
            have hw2 := t2 _ _ hw
            have hO2 := t2 _ _ hO1
            have ht2 := tp_same t2 htw
            have sB2 := sB1.trans t2
            walk_at "ct"
            refine w_slL (.of hw2) fun p np => ?_
            have ec : cutV vs (some (m : Int)) none = vs.drop m := by
              unfold cutV
              rw [HT.sIx_none, HT.sIx_nat, Nat.min_eq_left (by omega), List.take_of_length_le (by rw [List.length_drop]; omega)]
            rw [ec]
            have u1 : Same H2' (upd H2' p (.lst (vs.drop m))) := same_upd np
            have hp : (upd H2' p (.lst (vs.drop m))) p = some (.lst (vs.drop m)) := upd_same
            generalize upd H2' p _ = G1 at *
            have ed : ((List.range n).map fun i => itf (fR ps ds) i xs).drop m = (List.range (n - m)).map fun j => itf (fR ps ds) (m + j) xs := by
              refine List.ext_getElem? fun j => ?_
              rw [List.getElem?_drop, List.getElem?_map, List.getElem?_map]
              rcases Nat.lt_or_ge j (n - m) with lt | ge
              · rw [List.getElem?_range (by omega), List.getElem?_range lt]
                rfl
              · rw [List.getElem?_eq_none (by rw [List.length_range]; omega), List.getElem?_eq_none (by rw [List.length_range]; omega)]
                rfl
            have htp1 : TpAll G1 (vs.drop m) ((List.range (n - m)).map fun j => itf (fR ps ds) (m + j) xs) := by
              rw [← ed]
              exact tp_drop m (tp_same u1 ht2)
            have dlen := tp_len htp1
            rw [List.length_map, List.length_range] at dlen
            refine w_IL (.of hp) ?_
            refine fb_list (vs.drop m) (fun j σ G => ∃ z9 : Option V, σ = [some (.ref a), some (.ref b), some (.ref l), some (.ref c), some (.ref A), some (.ref O), some (.int ((Nat.lcm turn (n - m) : Nat) : Int)), some (.ref w), some (.int (m : Int)), z9] ∧ Same HB G ∧ G O = some (.dT (pairsD (dl ++ (List.range j).map fun j => (itf (fR ps ds) (m + j) xs, V.int 0)))) ∧ G w = some (.lst vs) ∧ TpAll G vs ((List.range n).map fun i => itf (fR ps ds) i xs) ∧ G p = some (.lst (vs.drop m)) ∧ TpAll G (vs.drop m) ((List.range (n - m)).map fun j => itf (fR ps ds) (m + j) xs))
              ⟨y9, rfl, sB2.trans u1, by rw [List.range_zero, List.map_nil, List.append_nil]; exact u1 _ _ hO2, u1 _ _ hw2, tp_same u1 ht2, hp, htp1⟩ ?_ ?_ ?_
            · rintro j σ G _ ⟨z9, rfl, _, _, _, _, h, _⟩
              exact .of h
            · rintro j v σ G hv ⟨z9, rfl, sj, hOj, hwj, htj, hpj, htpj⟩
              have hj : j < n - m := by
                have := (List.getElem?_eq_some_iff.mp hv).1
                omega
              obtain ⟨e, he1, he2⟩ := tp_get htpj (i := j) (s := itf (fR ps ds) (m + j) xs) (by rw [List.getElem?_map, List.getElem?_range hj]; rfl)
              cases Option.some.inj (hv.symm.trans he1)
              have dlen2 := di.len
              walk_at "ct"
              refine ⟨O, _, rfl, DPut.t (k := keyI (itf (fR ps ds) (m + j) xs)) hOj (by rw [keyI_kV]; exact he2) (by rw [prs_len, List.length_append, List.length_map, List.length_range]; exact Nat.lt_of_le_of_lt (show dl.length + j ≤ 100000 by omega) (by decide)), ?_⟩
              have nin2 : itf (fR ps ds) (m + j) xs ∉ (dl ++ (List.range j).map fun j => (itf (fR ps ds) (m + j) xs, V.int 0)).map (·.1) := fun z => by
                rw [List.map_append, List.map_map] at z
                rcases List.mem_append.mp z with z | z
                · exact out (m + j) (by omega) z
                · obtain ⟨j', hj', z⟩ := List.mem_map.mp z
                  rw [List.mem_range] at hj'
                  exact dist (m + j') (m + j) (by omega) (by omega) z
              rw [put_pairs _ nin2]
              have er : dl ++ (List.range j).map (fun j => (itf (fR ps ds) (m + j) xs, V.int 0)) ++ [(itf (fR ps ds) (m + j) xs, V.int 0)] = dl ++ (List.range (j + 1)).map fun j => (itf (fR ps ds) (m + j) xs, V.int 0) := by
                rw [List.range_succ, List.map_append, List.append_assoc]
                rfl
              rw [er]
              exact ⟨_, rfl, same_new sj nO, upd_same, by rw [upd_ne (ne_of hwj hOj (fun z => nomatch z))]; exact hwj, tp_updD hOj htj, by rw [upd_ne (ne_of hpj hOj (fun z => nomatch z))]; exact hpj, tp_updD hOj htpj⟩
            · rintro σ G ⟨z9, rfl, sj, hOj, hwj, htj, hpj, htpj⟩
              rw [dlen] at hOj
              have dr := di.ring hokd st hm em dist out
              walk_at "ct"
              refine w_slL (.of hwj) fun p3 np3 => ?_
              rw [cut_toN vs m (by omega)]
              have u3 : Same G (upd G p3 (.lst (vs.take m))) := same_upd np3
              have et : ((List.range n).map fun i => itf (fR ps ds) i xs).take m = (List.range m).map fun i => itf (fR ps ds) i xs := by
                rw [← List.map_take, List.take_range, Nat.min_eq_left (by omega)]
              walk_at "ct"
              have em2 : (dl ++ (List.range (n - m)).map fun j => (itf (fR ps ds) (m + j) xs, V.int 0)).map (·.1) = dl.map (·.1) ++ (List.range (n - m)).map fun j => itf (fR ps ds) (m + j) xs := by rw [List.map_append, List.map_map]; rfl
              refine hN _ _ ⟨p3, vs.take m, m, _, _, _, _, rfl, sj.trans u3, u3 _ _ hOj, dr, upd_same, by rw [← et]; exact tp_take m (tp_same u3 htj), fun i hi z => ?_, fun i j hij hj => dist i j hij (by omega), ?_, fun y hy => ?_⟩
              · rw [em2] at z
                rcases List.mem_append.mp z with z | z
                · exact out i (by omega) z
                · obtain ⟨j, hj, z⟩ := List.mem_map.mp z
                  rw [List.mem_range] at hj
                  exact dist i (m + j) (by omega) (by omega) z.symm
              · rw [em2]
                exact List.mem_append_right _ (List.mem_map.mpr ⟨0, List.mem_range.mpr (by omega), rfl⟩)
              · rw [em2]
                exact List.mem_append_left _ hy
        · have n00 : n = 0 := by omega
          subst n00
          walk_at "ct"
          have hin : itf (fR ps ds) 0 xs ∈ dl.map (·.1) := hend.elim id fun ⟨m, hm, _⟩ => absurd hm (Nat.not_lt_zero m)
          exact hN _ _ ⟨w, vs, 0, turn, dl, _, _, rfl, sB1, hO1, di, hw, htw, out, dist, hin, fun y hy => hy⟩
    · rintro σ G ⟨y3, y7, y8, y9, turn, dl, rfl, sm, hO, di, cov⟩
      rw [List.take_of_length_le (by omega)] at cov
      obtain ⟨ns, hns⟩ : ∃ ns : List Nat, dl.map (·.2) = ns.map fun (t : Nat) => V.int (t : Int) := tails_of dl fun p hp => let ⟨t, e, _⟩ := (di.each p hp).2; ⟨t, e⟩
      have some1 : 0 < dl.length := by
        have sp := stands_pos ps hok
        obtain ⟨xs, hxs⟩ : ∃ xs, (allS ps)[0]? = some xs := ⟨_, List.getElem?_eq_getElem (by omega)⟩
        have := cov xs (List.mem_of_getElem? hxs)
        cases dl with
        | nil => exact nomatch this
        | cons _ _ => exact Nat.succ_pos _
      walk_at "ct"
      refine ⟨.inr (.inr (.inl ⟨rfl, .inr ⟨_, hO⟩⟩)), ?_⟩
      refine ⟨O, _, rfl, rfl, hO, fun p np => ?_⟩
      have u1 : Same G (upd G p (valuesO p O)) := same_upd np
      have hp : (upd G p (valuesO p O)) p = some (valuesO p O) := upd_same
      generalize upd G p _ = G1 at *
      walk_at "ct"
      refine ⟨p, O, _, ns.map fun (t : Nat) => (t : Int), rfl, hp, u1 _ _ hO, ?_, ?_, fun m hm hle => ?_⟩
      · unfold pairsD
        rw [List.map_map, List.map_map]
        exact hns
      · have := congrArg List.length hns
        rw [List.length_map, List.length_map] at this
        rw [List.length_map]
        omega
      obtain ⟨m0, hm0, rfl⟩ := List.mem_map.mp hm
      walk_at "ct"
      refine ⟨len2 rfl, fun q2 nq2 => ?_⟩
      have tailIs : ∀ y t, (y, V.int ((t : Nat) : Int)) ∈ dl → Tail (fR ps ds) y t := fun y t hy => by
        obtain ⟨_, t2, e2, tl⟩ := di.each _ hy
        have e3 : (t : Int) = (t2 : Int) := V.int.inj e2
        rw [show t = t2 by omega]
        exact tl
      have memIs : ∀ y, y ∈ allS ps ↔ y ∈ dl.map (·.1) := fun y => ⟨cov y, fun hy => (allS_mem hok y).mpr (di.stand hy)⟩
      refine q m0 turn q2 _ (((s1B.trans sm).trans u1).trans (same_upd nq2)) ⟨?_, fun y hy t ht => ?_⟩ ?_ upd_same
      · have : V.int (m0 : Int) ∈ dl.map (·.2) := by rw [hns]; exact List.mem_map.mpr ⟨m0, hm0, rfl⟩
        obtain ⟨⟨y, v⟩, hy, e⟩ := List.mem_map.mp this
        have e' : v = V.int (m0 : Int) := e
        subst e'
        exact ⟨y, (memIs y).mpr (List.mem_map.mpr ⟨_, hy, rfl⟩), tailIs y m0 hy⟩
      · obtain ⟨⟨y', v⟩, hy', e⟩ := List.mem_map.mp ((memIs y).mp hy)
        have e' : y' = y := e
        subst e'
        obtain ⟨_, t2, e2, tl⟩ := di.each _ hy'
        have e2' : v = .int (t2 : Int) := e2
        subst e2'
        rw [tail_fun ht tl]
        have : V.int (t2 : Int) ∈ ns.map fun t => V.int ((t : Nat) : Int) := by rw [← hns]; exact List.mem_map.mpr ⟨_, hy', rfl⟩
        obtain ⟨t3, ht3, e3⟩ := List.mem_map.mp this
        have := hle (t3 : Int) (List.mem_map.mpr ⟨t3, ht3, rfl⟩)
        have e4 : (t3 : Int) = (t2 : Int) := V.int.inj e3
        omega
      · obtain ⟨u0, u1', u2⟩ := di.turns
        exact ⟨u0, fun y hy => u1' y ((memIs y).mp hy), fun m hm => u2 m fun y hy => hm y ((memIs y).mpr hy)⟩
abbrev S__law_draws : Stmt := topS 39
theorem sc__law_draws : FnScope ["_law_cell"] ["_law_cell"] (defScope S__law_draws) := ⟨rfl, rfl, rfl, by decide +kernel, rfl, by decide +kernel, by decide +kernel⟩
def sp__law_draws (K : PySem.W.Frag) : Sp := fun vs H Q _ => ∃ c : Int, vs = [.int c] ∧ ∀ D H', Same H H' → H D = none → H' D = some (DrO D 0) → Q (.ref D) H'
theorem ok__law_draws {f : Addr} {fd : FuncData} (F : Fun K "_law_draws" "_law_draws" S__law_draws f fd) :
    FnOk P w K mg base CX0 1 f fd ["_law_cell"] (sp__law_draws K) := by
  refine F.ok sc__law_draws (fun vs H Q E h => ?_) (fun cdv A outer s H vs Q E hr h => ?_)
  ·
    obtain ⟨c, rfl, _⟩ := h
    rfl
  ·
    obtain ⟨c, rfl, q⟩ := h
    refine ⟨_, (pss_cons (ps_if (pt_cmpR op_lt (pv 0) (pe_op op_powB pe_int pe_int) (nomark _)) (pss_one (ps_ret (pe_lstDr (pa_cons (pv 0) (pa_cons pe_int (pa_cons pe_bl pa_nil)))))) pss_nil)
      (pss_one (ps_ret (pe_lstDr (pa_cons (pe_op op_mod (pv 0) (pe_op op_powB (pe_op op_powB (pe_op op_powB pe_int pe_int) pe_int) pe_int)) (pa_cons pe_int (pa_cons pe_bl pa_nil))))))), ?_⟩
    refine w_st (σ' := [some (.int c)]) rfl ?_
    walk_at "ct"
    refine w_rIv (.int 1000000000000000000) ⟨by decide, by decide⟩ rfl ?_
    walk_at "ct"
    refine w_ite (fun e => ?_) (fun e => ?_)
    · walk_at "ct"
      refine w_lstDr ?_
      walk_at "ct"
      exact ⟨c, 0, false, rfl, fun p np => q p _ (same_upd np) np upd_same⟩
    · walk_at "ct"
      refine w_lstDr ?_
      walk_at "ct"
      refine w_rI ⟨by decide, by decide +kernel⟩ ?_
      walk_at "ct"
      refine w_rI ⟨by decide, by decide +kernel⟩ ?_
      walk_at "ct"
      refine w_rI ⟨by decide, by decide +kernel⟩ ?_
      refine w_mod (Int.pow_pos (Int.pow_pos (Int.pow_pos (by decide)))) fun r _ _ => ?_
      walk_at "ct"
      exact ⟨r, 0, true, rfl, fun p np => q p _ (same_upd np) np upd_same⟩
abbrev S__law_next : Stmt := topS 40
theorem sc__law_next : FnScope ["_law_draws_here", "_law_k", "_law_number"] ["_law_draws_here"] (defScope S__law_next) := ⟨rfl, rfl, rfl, by decide +kernel, rfl, by decide +kernel, by decide +kernel⟩
def sp__law_next (K : PySem.W.Frag) : Sp := fun vs H Q _ => ∃ (D : Addr) (c : Nat), vs = [.ref D] ∧ H D = some (DrO D c) ∧ c < 1000000 ∧ ∀ n : Int, 0 ≤ n → n < 2147483648 → Q (.int n) (upd H D (DrO D (c + 1)))
theorem ok__law_next {f : Addr} {fd : FuncData} (F : Fun K "_law_next" "_law_next" S__law_next f fd) :
    FnOk P w K mg base CX0 1 f fd ["_law_draws_here"] (sp__law_next K) := by
  refine F.ok sc__law_next (fun vs H Q E h => ?_) (fun cdv A outer s H vs Q E hr h => ?_)
  ·
    obtain ⟨D, c, rfl, _⟩ := h
    rfl
  ·
    obtain ⟨D, c, rfl, hD, hc, q⟩ := h
    refine ⟨_, (pss_cons (ps_asg (pe_op op_add (pe_ix (r := rIxDr) ix_dr (pv 0) pe_int (fun _ _ => rfl)) pe_int) (pg_sub (pv 0) pe_int set_dr))
      (pss_cons (ps_set (i := 1) sc__law_next.nd rfl (.inl rfl) (pe_ix (r := rIxDr) ix_dr (pv 0) pe_int (fun _ _ => rfl)))
      (pss_cons (ps_if (pt_val (pe_ix (r := rIxDr) ix_dr (pv 0) pe_int (fun _ _ => rfl))) (pss_cons (ps_set (i := 2) sc__law_next.nd rfl (.inl rfl) (pe_op op_mod (pe_ix (r := rIxDr) ix_dr (pv 0) pe_int (fun _ _ => rfl)) (pe_op op_powB pe_int pe_int)))
      (pss_cons (ps_asg (pe_op op_fdivW (pe_ix (r := rIxDr) ix_dr (pv 0) pe_int (fun _ _ => rfl)) (pe_op op_powB pe_int pe_int)) (pg_sub (pv 0) pe_int set_dr))
      (pss_one (ps_ret (pv 2))))) pss_nil)
      (pss_cons (ps_set (i := 2) sc__law_next.nd rfl (.inl rfl) (pe_op op_mod (pe_op op_mulW (pe_op op_add (pe_op op_add (pe_op op_mod (pe_ix (r := rIxDr) ix_dr (pv 0) pe_int (fun _ _ => rfl)) pe_int) (pe_op op_mulW (pe_op op_mulW (pv 1) (pv 1)) pe_int)) (pv 1)) pe_int) pe_int))
      (pss_cons (ps_set (i := 2) sc__law_next.nd rfl (.inl rfl) (pe_op op_mod (pe_op op_mulW (pv 2) (pv 2)) pe_int))
      (pss_one (ps_ret (pe_op op_fdivW (pe_op op_mod (pe_op op_mulW (pv 2) (pe_op op_add (pv 2) pe_int)) pe_int) pe_int)))))))), ?_⟩
    refine w_st (σ' := [some (.ref D), none, none]) rfl ?_
    walk_at "ct"
    refine w_dr1 hD ?_
    walk_at "ct"
    refine ⟨D, 1, c, rfl, rfl, hD, .inr ⟨rfl, c + 1, by rw [show ((c + 1 : Nat) : Int) = (c : Int) + 1 by omega], ?_⟩⟩
    have h1 : (upd H D (DrO D (c + 1))) D = some (DrO D (c + 1)) := upd_same
    have e2 : upd (upd H D (DrO D (c + 1))) D (DrO D (c + 1)) = upd H D (DrO D (c + 1)) := by
      funext a
      by_cases z : a = D
      · rw [z, upd_same, upd_same]
      · rw [upd_ne z]
    generalize upd H D (DrO D (c + 1)) = H1 at *
    walk_at "ct"
    refine w_dr1 h1 ?_
    walk_at "ct"
    refine w_dr2 h1 fun b => ?_
    obtain ⟨k, hk⟩ : ∃ k : Int, ((c + 1 : Nat) : Int) = k := ⟨_, rfl⟩
    have k0 : 0 ≤ k := by omega
    have k1 : k ≤ 1000000 := by omega
    rw [hk]
    cases b with
    | true =>
      walk_at "ct"
      refine w_dr0 h1 fun n => ?_
      walk_at "ct"
      refine w_rIv (.int 1000000) ⟨by decide, by decide⟩ rfl ?_
      refine w_mod (by decide) fun r r0 r1 => ?_
      walk_at "ct"
      refine w_dr0 h1 fun n2 => ?_
      walk_at "ct"
      refine w_rIv (.int 1000000) ⟨by decide, by decide⟩ rfl ?_
      refine w_div (div_ok (by decide) (by decide)) fun r' => ?_
      walk_at "ct"
      refine ⟨D, 0, c + 1, rfl, rfl, h1, .inl ⟨rfl, ⟨_, rfl⟩, ?_⟩⟩
      rw [e2]
      walk_at "ct"
      exact q r r0 (by omega)
    | false =>
      walk_at "ct"
      refine w_dr0 h1 fun n => ?_
      walk_at "ct"
      refine w_mod (by decide) fun r0 a0 a1 => ?_
      walk_at "ct"
      have kk : 0 ≤ k * k ∧ k * k ≤ 1000000 * 1000000 := ⟨Int.mul_nonneg k0 k0, Int.mul_le_mul k1 k1 k0 (by decide)⟩
      refine w_rI (mul_ok (by omega) (by omega) (by omega) (by omega)) ?_
      walk_at "ct"
      refine w_rI (mul_ok (by omega) (by omega) (by omega) (by omega)) ?_
      walk_at "ct"
      refine w_rI (mul_ok (by omega) (by omega) (by omega) (by omega)) ?_
      walk_at "ct"
      refine w_mod (by decide) fun r1 b0 b1 => ?_
      walk_at "ct"
      refine w_rI (mul_ok (by omega) (by omega) (by omega) (by omega)) ?_
      walk_at "ct"
      refine w_mod (by decide) fun r2 c0 c1 => ?_
      walk_at "ct"
      refine w_rI (mul_ok (by omega) (by omega) (by omega) (by omega)) ?_
      walk_at "ct"
      refine w_mod (by decide) fun r3 d0 d1 => ?_
      walk_at "ct"
      refine w_rI (div_ok (by decide) (by decide)) ?_
      exact q _ (by omega) (by omega)
abbrev S__law_far : Stmt := topS 41
theorem sc__law_far : FnScope ["_law_draws_here", "_law_most", "_law_told", "_law_k"] ["_law_draws_here", "_law_most"] (defScope S__law_far) := ⟨rfl, rfl, rfl, by decide +kernel, rfl, by decide +kernel, by decide +kernel⟩
def sp__law_far (K : PySem.W.Frag) : Sp := fun vs H Q _ => ∃ (D : Addr) (c : Nat) (most : Int), vs = [.ref D, .int most] ∧ H D = some (DrO D c) ∧ c ≤ 900000 ∧ 1 ≤ most ∧ ∀ n c' H', Dr D c' H H' → c' ≤ c + 9 → 0 ≤ n → n < most → Q (.int n) H'
theorem ok__law_far {f : Addr} {fd : FuncData} {f__law_next : Addr} {fd__law_next : FuncData} (F : Fun K "_law_far" "_law_far" S__law_far f fd)
    (F__law_next : Fun K "_law_next" "_law_next" S__law_next f__law_next fd__law_next) (b__law_next : Binds K fd__law_next ["_law_draws_here"] []) (g__law_next : mg "_law_next" = some (.ref f__law_next)) (G__law_next : FnOk P w K mg base CX0 1 f__law_next fd__law_next ["_law_draws_here"] (sp__law_next K)) (m_range : mg "range" = none) :
    FnOk P w K mg base CX0 2 f fd ["_law_draws_here", "_law_most"] (sp__law_far K) := by
  refine F.ok sc__law_far (fun vs H Q E h => ?_) (fun cdv A outer s H vs Q E hr h => ?_)
  ·
    obtain ⟨D, c, most, rfl, _⟩ := h
    rfl
  ·
    obtain ⟨D, c, most, rfl, hD, hc, m1, q⟩ := h
    refine ⟨_, (pss_cons (ps_set (i := 2) sc__law_far.nd rfl (.inl rfl) pe_int)
      (pss_cons (ps_for PassesOwn.never rfl (pi_range1 (by rfl) m_range (pa_cons (pe_op op_mod (pe_call G__law_next (hr.mono (by decide)) (by rfl) g__law_next F__law_next.kp b__law_next .nil pass0 (pa_cons (pv 0) pa_nil)) pe_int) pa_nil)) (pg_name (i := 3) sc__law_far.nd rfl (.inl rfl))
      (pss_one (ps_set (i := 2) sc__law_far.nd rfl (.inl rfl) (pe_op op_add (pe_op op_mulW (pv 2) (pe_op op_powB pe_int pe_int)) (pe_op op_mod (pe_call G__law_next (hr.mono (by decide)) (by rfl) g__law_next F__law_next.kp b__law_next .nil pass0 (pa_cons (pv 0) pa_nil)) (pe_op op_powB pe_int pe_int))))))
      (pss_one (ps_ret (pe_op op_mod (pv 2) (pv 1)))))), ?_⟩
    refine w_st (σ' := [some (.ref D), some (.int most), none, none]) rfl ?_
    walk_at "ct"
    refine ⟨D, c, rfl, hD, by omega, fun n1 _ _ => ?_⟩
    have d1 := Dr.step hD (c + 1)
    generalize upd H D _ = H1 at *
    walk_at "ct"
    refine w_mod (by decide) fun r r0 r1 => ?_
    walk_at "ct"
    refine w_RG1 (by omega) (by omega) ?_
    refine fb_range (fun i σ G => ∃ (y3 : Option V) (told : Nat), σ = [some (.ref D), some (.int most), some (.int (told : Int)), y3] ∧ Dr D (c + 1 + i) H G ∧ told < 10 ^ (6 * i)) ⟨none, 0, rfl, d1, by decide⟩ ?_ ?_
    · rintro i σ G hi ⟨y3, told, rfl, dG, tl⟩
      have hi8 : i < 8 := by omega
      have tb : told < 2 ^ 160 := Nat.lt_of_lt_of_le tl (Nat.le_trans (Nat.pow_le_pow_right (by decide) (show 6 * i ≤ 48 by omega)) (by decide))
      walk_at "ct"
      refine w_rIv (.int 1000000) ⟨by decide, by decide⟩ rfl ?_
      walk_at "ct"
      obtain ⟨M, hM⟩ : ∃ M : Nat, (told : Int) * 1000000 = (M : Int) ∧ M = told * 1000000 := ⟨told * 1000000, by rw [Int.natCast_mul]; rfl, rfl⟩
      refine w_rIv (.int (M : Int)) (wide_mul (a := 160) (b := 20) (by omega) (by decide) (by decide) (by decide) (by decide)) (congrArg V.int hM.1) ?_
      walk_at "ct"
      refine ⟨D, c + 1 + i, rfl, dG.2, by omega, fun n2 _ _ => ?_⟩
      have d2 := dG.trans (Dr.step dG.2 (c + 1 + i + 1))
      generalize upd G D _ = G2 at *
      walk_at "ct"
      refine w_rIv (.int 1000000) ⟨by decide, by decide⟩ rfl ?_
      refine w_mod (by decide) fun k k0 k1 => ?_
      walk_at "ct"
      refine ⟨some (.int (0 + (i : Int))), told * 1000000 + k.toNat, ?_, d2, ?_⟩
      · rw [show ((told * 1000000 + k.toNat : Nat) : Int) = (M : Int) + k by have := hM.2; omega]
      · rw [show 6 * (i + 1) = 6 * i + 6 by omega, Nat.pow_add]
        have e6 : 10 ^ 6 = 1000000 := by decide
        rw [e6]
        have : (told + 1) * 1000000 ≤ 10 ^ (6 * i) * 1000000 := Nat.mul_le_mul_right _ tl
        omega
    · rintro σ G ⟨y3, told, rfl, dG, tl⟩
      walk_at "ct"
      refine w_mod (by omega) fun n n0 n1 => ?_
      exact q n _ G dG (by omega) n0 n1
abbrev S__law_part : Stmt := topS 42
theorem sc__law_part : FnScope ["_law_draws_here", "_law_teeth", "_law_marks", "_law_some", "_law_mark"] ["_law_draws_here"] (defScope S__law_part) := ⟨rfl, rfl, rfl, by decide +kernel, rfl, by decide +kernel, by decide +kernel⟩
def sp__law_part (K : PySem.W.Frag) : Sp := fun vs H Q _ => ∃ (D : Addr) (c : Nat), vs = [.ref D] ∧ H D = some (DrO D c) ∧ c ≤ 890000 ∧ ∀ v (p : Part) c' H', Dr D c' H H' → c' ≤ c + 10 → Dp K H' v p.data → p.ok → p.places ≤ 7 → Q v H'
theorem ok__law_part {f : Addr} {fd : FuncData} {f__law_next : Addr} {fd__law_next : FuncData} (F : Fun K "_law_part" "_law_part" S__law_part f fd)
    (F__law_next : Fun K "_law_next" "_law_next" S__law_next f__law_next fd__law_next) (b__law_next : Binds K fd__law_next ["_law_draws_here"] []) (g__law_next : mg "_law_next" = some (.ref f__law_next)) (G__law_next : FnOk P w K mg base CX0 1 f__law_next fd__law_next ["_law_draws_here"] (sp__law_next K)) (m_tuple : mg "tuple" = none) (m_range : mg "range" = none) :
    FnOk P w K mg base CX0 2 f fd ["_law_draws_here"] (sp__law_part K) := by
  refine F.ok sc__law_part (fun vs H Q E h => ?_) (fun cdv A outer s H vs Q E hr h => ?_)
  ·
    obtain ⟨D, c, rfl, _⟩ := h
    rfl
  ·
    obtain ⟨D, c, rfl, hD, hc, q⟩ := h
    refine ⟨_, (pss_cons (ps_set (i := 1) sc__law_part.nd rfl (.inl rfl) (pe_op op_add pe_int (pe_op op_mod (pe_call G__law_next (hr.mono (by decide)) (by rfl) g__law_next F__law_next.kp b__law_next .nil pass0 (pa_cons (pv 0) pa_nil)) pe_int)))
      (pss_cons (ps_set (i := 2) sc__law_part.nd rfl (.inl rfl) (pe_callTy call_tuple_of (by rfl) m_tuple (by decide +kernel) (pa_cons (pe_lc (own := [("_law_mark", 4)]) (g := gName 4)  rfl sc__law_part.nd  (pi_range1 (by rfl) m_range (pa_cons (pv 1) pa_nil)) (blkOk_by (own := [("_law_mark", 4)]) (N := ["_law_draws_here", "_law_teeth", "_law_marks", "_law_some", "_law_mark"]) (sc := defScope S__law_part) (by decide +kernel)) (fun _ _ _ _ _ => pg_name (i := 4) sc__law_part.nd rfl (Or.inl rfl)) (fun _ _ _ _ _ => (pts_one (pt_cmpR op_eq (pe_op op_mod (pe_call G__law_next (hr.mono (by decide)) (by rfl) g__law_next F__law_next.kp b__law_next .nil pass0 (pa_cons (pv 0) pa_nil)) pe_int) pe_int (nomark _)))) (fun _ _ _ _ _ => (pv 4))) pa_nil)))
      (pss_cons (ps_set (i := 3) sc__law_part.nd rfl (.inl rfl) (pe_lst (pa_cons (pe_tup (pa_cons pe_str (pa_cons (pv 1) (pa_cons (pv 2) pa_nil)))) (pa_cons (pe_tup (pa_cons pe_str pa_nil)) (pa_cons (pe_tup (pa_cons pe_str pa_nil)) (pa_cons (pe_tup (pa_cons pe_str (pa_cons (pv 1) pa_nil))) pa_nil))))))
      (pss_one (ps_ret (pe_ix (r := rIxL K) ix_list (pv 3) (pe_ix (r := rIxL K) ix_list (pe_lst (pa_cons pe_int (pa_cons pe_int (pa_cons pe_int (pa_cons pe_int (pa_cons pe_int (pa_cons pe_int (pa_cons pe_int (pa_cons pe_int pa_nil))))))))) (pe_op op_mod (pe_call G__law_next (hr.mono (by decide)) (by rfl) g__law_next F__law_next.kp b__law_next .nil pass0 (pa_cons (pv 0) pa_nil)) pe_int) (fun _ _ => rfl)) (fun _ _ => rfl))))))), ?_⟩
    refine w_st (σ' := [some (.ref D), none, none, none, none]) rfl ?_
    walk_at "ct"
    refine ⟨D, c, rfl, hD, by omega, fun n1 _ _ => ?_⟩
    have d1 := Dr.step hD (c + 1)
    generalize upd H D _ = H1 at *
    walk_at "ct"
    refine w_mod (by decide) fun r r0 r1 => ?_
    walk_at "ct"
    obtain ⟨z, hz⟩ : ∃ z : Int, 1 + r = z := ⟨_, rfl⟩
    rw [hz]
    refine w_RG1 (by omega) (by omega) ?_
    refine lb_range (fun A i G => ∃ (cG : Nat) (ms : List Int), Dr D cG H1 G ∧ cG ≤ c + 1 + i ∧ G A = some (.lst (ms.map V.int)) ∧ ms.length ≤ i ∧ Rise (i : Int) ms) (fun A nA => ⟨c + 1, [], (Dr.refl d1.2).same (same_upd nA), by omega, upd_same, Nat.le_refl _, List.Pairwise.nil, fun m hm => by cases hm⟩) ?_ ?_
    · rintro A nA i G hi ⟨cG, ms, dG, cGl, hA, ml, rs⟩
      have hi7 : i < 7 := by omega
      walk_at "ct"
      refine ⟨rfl, ?_⟩
      walk_at "ct"
      refine ⟨D, cG, rfl, dG.2, by omega, fun n2 _ _ => ?_⟩
      have st := Dr.step dG.2 (cG + 1)
      have hA2 := st.at dG.2 hA
      have d2 := dG.trans st
      clear st
      generalize upd G D _ = G2 at *
      walk_at "ct"
      refine w_mod (by decide) fun b _ _ => ?_
      walk_at "ct"
      refine w_ite (fun e2 => ?_) (fun e2 => ?_)
      · walk_at "ct"
        refine ⟨ms.map V.int, hA2, by rw [List.length_map]; exact small1000 (by omega), cG + 1, ms ++ [(i : Int)], d2.put nA hA2, by omega, by rw [upd_same, List.map_append, Int.zero_add]; rfl, ?_, ?_, ?_⟩
        · rw [List.length_append]
          show ms.length + 1 ≤ i + 1
          omega
        · refine List.pairwise_append.mpr ⟨rs.1, List.pairwise_singleton _ _, fun a ha b hb => ?_⟩
          rw [List.mem_singleton] at hb
          rw [hb]
          exact (rs.2 a ha).2
        · intro m hm
          rcases List.mem_append.mp hm with hm | hm
          · have := rs.2 m hm
            omega
          · rw [List.mem_singleton] at hm
            omega
      · exact ⟨cG + 1, ms, d2, by omega, hA2, by omega, rs.1, fun m hm => by have := rs.2 m hm; omega⟩
    rintro A nA G2 ⟨c2, ms, d2, c2l, hA, ml, rs⟩
    have rs2 : Rise z ms := ⟨rs.1, fun m hm => by have := rs.2 m hm; omega⟩
    have e2 := d1.trans d2
    walk_at "ct"
    refine ⟨A, _, rfl, .inl ⟨.of hA, fun b nb => ?_⟩⟩
    have u1 : Same G2 (upd G2 b (.tup (ms.map V.int))) := same_upd nb
    have hb : (upd G2 b (.tup (ms.map V.int))) b = some (.tup (ms.map V.int)) := upd_same
    generalize upd G2 b _ = G3 at *
    have e3 := e2.same u1
    walk_at "ct"
    refine ⟨len2 rfl, fun g0 ng0 => ?_⟩
    have v0 := same_upd (o := .tup [.str "wheel", .int z, .ref b]) ng0
    have h0 : (upd G3 g0 (.tup [.str "wheel", .int z, .ref b])) g0 = some (.tup [.str "wheel", .int z, .ref b]) := upd_same
    generalize upd G3 g0 _ = G4 at *
    walk_at "ct"
    refine ⟨len2 rfl, fun g1 ng1 => ?_⟩
    have v1 := same_upd (o := .tup [.str "click"]) ng1
    have h1 : (upd G4 g1 (.tup [.str "click"])) g1 = some (.tup [.str "click"]) := upd_same
    generalize upd G4 g1 _ = G5 at *
    walk_at "ct"
    refine ⟨len2 rfl, fun g2 ng2 => ?_⟩
    have v2 := same_upd (o := .tup [.str "rocker"]) ng2
    have h2 : (upd G5 g2 (.tup [.str "rocker"])) g2 = some (.tup [.str "rocker"]) := upd_same
    generalize upd G5 g2 _ = G6 at *
    walk_at "ct"
    refine ⟨len2 rfl, fun g3 ng3 => ?_⟩
    have v3 := same_upd (o := .tup [.str "spring", .int z]) ng3
    have h3 : (upd G6 g3 (.tup [.str "spring", .int z])) g3 = some (.tup [.str "spring", .int z]) := upd_same
    generalize upd G6 g3 _ = G7 at *
    walk_at "ct"
    refine ⟨len2 rfl, fun l nl => ?_⟩
    have v4 := same_upd (o := .lst [.ref g0, .ref g1, .ref g2, .ref g3]) nl
    have hl : (upd G7 l (.lst [.ref g0, .ref g1, .ref g2, .ref g3])) l = some (.lst [.ref g0, .ref g1, .ref g2, .ref g3]) := upd_same
    generalize upd G7 l _ = G8 at *
    walk_at "ct"
    refine ⟨len2 rfl, fun k nk => ?_⟩
    have v5 := same_upd (o := .lst [.int 0, .int 0, .int 0, .int 0, .int 0, .int 1, .int 2, .int 3]) nk
    have hk : (upd G8 k (.lst [.int 0, .int 0, .int 0, .int 0, .int 0, .int 1, .int 2, .int 3])) k = some (.lst [.int 0, .int 0, .int 0, .int 0, .int 0, .int 1, .int 2, .int 3]) := upd_same
    generalize upd G8 k _ = G9 at *
    have e9 := e3.same ((((v0.trans v1).trans v2).trans v3).trans (v4.trans v5))
    walk_at "ct"
    refine ⟨D, c2, rfl, e9.2, by omega, fun n3 _ _ => ?_⟩
    have st := Dr.step e9.2 (c2 + 1)
    have k1 := st.at e9.2 hk
    have l1 := st.at e9.2 (v5 _ _ hl)
    have b1 := st.at e9.2 (((((v0.trans v1).trans v2).trans v3).trans (v4.trans v5)) _ _ hb)
    have w0 := st.at e9.2 ((((v1.trans v2).trans v3).trans (v4.trans v5)) _ _ h0)
    have w1 := st.at e9.2 (((v2.trans v3).trans (v4.trans v5)) _ _ h1)
    have w2 := st.at e9.2 ((v3.trans (v4.trans v5)) _ _ h2)
    have w3 := st.at e9.2 ((v4.trans v5) _ _ h3)
    have e10 := e9.trans st
    generalize upd G9 D _ = G10 at *
    walk_at "ct"
    refine w_mod (by decide) fun i i0 i1 => ?_
    have pick : ∀ (v : V) (p : Part), Dp K G10 v p.data → p.ok → p.places ≤ 7 → Q v G10 := fun v p h1 h2 h3 => q v p (c2 + 1) G10 e10 (by omega) h1 h2 h3
    obtain ⟨x, hx, x0, x3⟩ : ∃ x : Int, atI [V.int 0, .int 0, .int 0, .int 0, .int 0, .int 1, .int 2, .int 3] i = some (.int x) ∧ 0 ≤ x ∧ x ≤ 3 := by
      have : i = 0 ∨ i = 1 ∨ i = 2 ∨ i = 3 ∨ i = 4 ∨ i = 5 ∨ i = 6 ∨ i = 7 := by omega
      rcases this with rfl | rfl | rfl | rfl | rfl | rfl | rfl | rfl
      · exact ⟨0, rfl, by decide, by decide⟩
      · exact ⟨0, rfl, by decide, by decide⟩
      · exact ⟨0, rfl, by decide, by decide⟩
      · exact ⟨0, rfl, by decide, by decide⟩
      · exact ⟨0, rfl, by decide, by decide⟩
      · exact ⟨1, rfl, by decide, by decide⟩
      · exact ⟨2, rfl, by decide, by decide⟩
      · exact ⟨3, rfl, by decide, by decide⟩
    refine w_ixL (.of k1) hx ?_
    have : x = 0 ∨ x = 1 ∨ x = 2 ∨ x = 3 := by omega
    rcases this with rfl | rfl | rfl | rfl
    · refine w_ixL (.of l1) at0 ?_
      exact pick _ (.wheel z ms) (wheel_dp (.of w0) (.of b1)) ⟨by omega, by omega, rs2, by omega⟩ (show z ≤ 7 by omega)
    · refine w_ixL (.of l1) at1 ?_
      exact pick _ .click (click_dp (.of w1)) trivial (by decide)
    · refine w_ixL (.of l1) at2 ?_
      exact pick _ .rocker (rocker_dp (.of w2)) trivial (by decide)
    · refine w_ixL (.of l1) rfl ?_
      exact pick _ (.spring z) (spring_dp (.of w3)) ⟨by omega, by omega⟩ (show z ≤ 7 by omega)
abbrev S__law_places : Stmt := topS 43
theorem sc__law_places : FnScope ["_law_part_here"] ["_law_part_here"] (defScope S__law_places) := ⟨rfl, rfl, rfl, by decide +kernel, rfl, by decide +kernel, by decide +kernel⟩
def sp__law_places (K : PySem.W.Frag) : Sp := fun vs H Q _ => ∃ (v : V) (p : Part), vs = [v] ∧ Dp K H v p.data ∧ ∀ H', Same H H' → Q (.int p.places) H'
theorem ok__law_places {f : Addr} {fd : FuncData} (F : Fun K "_law_places" "_law_places" S__law_places f fd) (m_int : mg "int" = none) :
    FnOk P w K mg base CX0 1 f fd ["_law_part_here"] (sp__law_places K) := by
  refine F.ok sc__law_places (fun vs H Q E h => ?_) (fun cdv A outer s H vs Q E hr h => ?_)
  ·
    obtain ⟨v, p, rfl, _⟩ := h
    rfl
  ·
    obtain ⟨v, p, rfl, hp, q⟩ := h
    refine ⟨_, (pss_cons (ps_if (pt_cmpR (r := rIn K false) op_in_seq (pe_ix (r := rIxT K) ix_tup (pv 0) pe_int (fun _ _ => rfl)) (pe_lst (pa_cons pe_str (pa_cons pe_str pa_nil))) (by rfl)) (pss_one (ps_ret (pe_ix (r := rIxT K) ix_tup (pv 0) pe_int (fun _ _ => rfl)))) pss_nil)
      (pss_one (ps_ret (pe_op op_add pe_int (pe_callTy call_int1 (by rfl) m_int (by decide +kernel) (pa_cons (pe_cmpR op_eq (pe_ix (r := rIxT K) ix_tup (pv 0) pe_int (fun _ _ => rfl)) pe_str (nomark _)) pa_nil)))))), ?_⟩
    refine w_st (σ' := [some v]) rfl ?_
    cases p with
    | wheel z ms =>
      obtain ⟨a, b, rfl, ha, hb⟩ := wheel_inv hp
      walk_at "ct"
      refine ⟨len2 rfl, fun l nl => ?_⟩
      have s1 : Same H (upd H l (.lst [.str "wheel", .str "spring"])) := same_upd nl
      refine ⟨l, _, rfl, .inl (.of upd_same), rfl, rfl, ?_⟩
      have ha1 := Same.tup s1 ha
      generalize upd H l _ = H1 at *
      rw [show (if false = true then !inV (.str "wheel") [.str "wheel", .str "spring"] else inV (.str "wheel") [.str "wheel", .str "spring"]) = true by decide +kernel]
      walk_at "ct"
      exact q H1 s1
    | click =>
      obtain ⟨a, rfl, ha⟩ := click_inv hp
      walk_at "ct"
      refine ⟨len2 rfl, fun l nl => ?_⟩
      have s1 : Same H (upd H l (.lst [.str "wheel", .str "spring"])) := same_upd nl
      refine ⟨l, _, rfl, .inl (.of upd_same), rfl, rfl, ?_⟩
      have ha1 := Same.tup s1 ha
      generalize upd H l _ = H1 at *
      rw [show (if false = true then !inV (.str "click") [.str "wheel", .str "spring"] else inV (.str "click") [.str "wheel", .str "spring"]) = false by decide +kernel]
      walk_at "ct"
      refine .inr ⟨_, rfl, ?_⟩
      walk_at "ct"
      exact q H1 s1
    | rocker =>
      obtain ⟨a, rfl, ha⟩ := rocker_inv hp
      walk_at "ct"
      refine ⟨len2 rfl, fun l nl => ?_⟩
      have s1 : Same H (upd H l (.lst [.str "wheel", .str "spring"])) := same_upd nl
      refine ⟨l, _, rfl, .inl (.of upd_same), rfl, rfl, ?_⟩
      have ha1 := Same.tup s1 ha
      generalize upd H l _ = H1 at *
      rw [show (if false = true then !inV (.str "rocker") [.str "wheel", .str "spring"] else inV (.str "rocker") [.str "wheel", .str "spring"]) = false by decide +kernel]
      walk_at "ct"
      refine .inr ⟨_, rfl, ?_⟩
      walk_at "ct"
      exact q H1 s1
    | spring k =>
      obtain ⟨a, rfl, ha⟩ := spring_inv hp
      walk_at "ct"
      refine ⟨len2 rfl, fun l nl => ?_⟩
      have s1 : Same H (upd H l (.lst [.str "wheel", .str "spring"])) := same_upd nl
      refine ⟨l, _, rfl, .inl (.of upd_same), rfl, rfl, ?_⟩
      have ha1 := Same.tup s1 ha
      generalize upd H l _ = H1 at *
      rw [show (if false = true then !inV (.str "spring") [.str "wheel", .str "spring"] else inV (.str "spring") [.str "wheel", .str "spring"]) = true by decide +kernel]
      walk_at "ct"
      exact q H1 s1
abbrev S__law_many : Stmt := topS 44
theorem sc__law_many : FnScope ["_law_train_here", "_law_told", "_law_part_here"] ["_law_train_here"] (defScope S__law_many) := ⟨rfl, rfl, rfl, by decide +kernel, rfl, by decide +kernel, by decide +kernel⟩
def sp__law_many (K : PySem.W.Frag) : Sp := fun vs H Q _ => ∃ (a : Addr) (ps : List Part), vs = [.ref a] ∧ TrainAt K H a ps ∧ (∀ p ∈ ps, p.ok ∧ p.places ≤ 200) ∧ ps.length ≤ 6 ∧ ∀ H', Same H H' → Q (.int (stands ps)) H'
theorem ok__law_many {f : Addr} {fd : FuncData} {f__law_places : Addr} {fd__law_places : FuncData} (F : Fun K "_law_many" "_law_many" S__law_many f fd)
    (F__law_places : Fun K "_law_places" "_law_places" S__law_places f__law_places fd__law_places) (b__law_places : Binds K fd__law_places ["_law_part_here"] []) (g__law_places : mg "_law_places" = some (.ref f__law_places)) (G__law_places : FnOk P w K mg base CX0 1 f__law_places fd__law_places ["_law_part_here"] (sp__law_places K)) :
    FnOk P w K mg base CX0 2 f fd ["_law_train_here"] (sp__law_many K) := by
  refine F.ok sc__law_many (fun vs H Q E h => ?_) (fun cdv A outer s H vs Q E hr h => ?_)
  ·
    obtain ⟨a, ps, rfl, _⟩ := h
    rfl
  ·
    obtain ⟨a, ps, rfl, ⟨vs, hv, hd⟩, hok, l6, q⟩ := h
    refine ⟨_, (pss_cons (ps_set (i := 1) sc__law_many.nd rfl (.inl rfl) pe_int)
      (pss_cons (ps_for PassesOwn.never rfl (pi_list (pv 0)) (pg_name (i := 2) sc__law_many.nd rfl (.inl rfl))
      (pss_one (ps_set (i := 1) sc__law_many.nd rfl (.inl rfl) (pe_op op_mulW (pv 1) (pe_call G__law_places (hr.mono (by decide)) (by rfl) g__law_places F__law_places.kp b__law_places .nil pass0 (pa_cons (pv 2) pa_nil))))))
      (pss_one (ps_ret (pv 1))))), ?_⟩
    refine w_st (σ' := [some (.ref a), none, none]) rfl ?_
    have hvl : vs.length = ps.length := by rw [dpAll_len hd, List.length_map]
    walk_at "ct"
    refine w_IL hv ?_
    refine fb_list vs (fun i σ G => ∃ y, σ = [some (.ref a), some (.int (stands (ps.take i))), y] ∧ Same H G) ⟨none, by rw [List.take_zero]; rfl, Same.refl _⟩ ?_ ?_ ?_
    · rintro i σ G _ ⟨y, rfl, sm⟩
      exact sm.seq hv
    · rintro i x σ G hx ⟨y, rfl, sm⟩
      have hi : i < vs.length := (List.getElem?_eq_some_iff.mp hx).1
      obtain ⟨p, hp⟩ : ∃ p, ps[i]? = some p := ⟨_, List.getElem?_eq_getElem (by omega)⟩
      obtain ⟨x', hx', hdp⟩ := dpAll_get (dpAll_same sm hd) (i := i) (d := p.data) (by rw [List.getElem?_map, hp]; rfl)
      cases Option.some.inj (hx.symm.trans hx')
      have pk := hok p (List.mem_of_getElem? hp)
      have po := pk.1.pos.1
      walk_at "ct"
      refine ⟨_, p, rfl, hdp, fun G2 s2 => ?_⟩
      walk_at "ct"
      have b : ∀ qs : List Part, (∀ p ∈ qs, p.ok ∧ p.places ≤ 200) → (stands qs).natAbs ≤ 200 ^ qs.length := fun qs => by
        induction qs with
        | nil => intro _; decide
        | cons p qs ih =>
          intro h
          have i1 := ih fun q hq => h q (List.mem_cons_of_mem _ hq)
          have p1 := (h p List.mem_cons_self).2
          have p0 := (h p List.mem_cons_self).1.pos.1
          show (p.places * stands qs).natAbs ≤ 200 ^ (qs.length + 1)
          rw [Int.natAbs_mul, Nat.pow_succ, Nat.mul_comm]
          exact Nat.mul_le_mul i1 (by omega)
      have b1 := b (ps.take i) fun p hp => hok p (List.mem_of_mem_take hp)
      have b2 : 200 ^ (ps.take i).length ≤ 200 ^ 6 := Nat.pow_le_pow_right (by decide) (by rw [List.length_take]; omega)
      have e6 : 200 ^ 6 = 64000000000000 := by decide
      refine w_rI (wide_mul (i := stands (ps.take i)) (j := p.places) (a := 60) (b := 60) (by omega) (by omega) (by decide) (by decide) (by decide)) ?_
      walk_at "ct"
      refine ⟨some x, ?_, sm.trans s2⟩
      rw [List.take_add_one, hp, show (some p).toList = [p] from rfl, stands_app]
    · rintro σ G ⟨y, rfl, sm⟩
      rw [List.take_of_length_le (by omega)]
      walk_at "ct"
      exact q G sm
abbrev S__law_train : Stmt := topS 45
theorem sc__law_train : FnScope ["_law_draws_here", "_law_great", "_law_most", "_law_told", "_law_marks", "_law_k", "_law_part_here", "_law_mark"] ["_law_draws_here", "_law_great"] (defScope S__law_train) := ⟨rfl, rfl, rfl, by decide +kernel, rfl, by decide +kernel, by decide +kernel⟩
def sp__law_train (K : PySem.W.Frag) : Sp := fun vs H Q _ => ∃ (D : Addr) (c : Nat) (b : Bool), vs = [.ref D, .bl b] ∧ H D = some (DrO D c) ∧ c ≤ 880000 ∧ ∀ a ws (ps : List Part) c' H', Dr D c' H H' → c' ≤ c + 80 → H a = none → H' a = some (.lst ws) → DpAll K H' ws (ps.map Part.data) → (∀ p ∈ ps, p.ok ∧ p.places ≤ 200) → 1 ≤ ps.length → ps.length ≤ 4 → stands ps ≤ 200 → Q (.ref a) H'
theorem ok__law_train {f : Addr} {fd : FuncData} {f__law_next : Addr} {fd__law_next : FuncData} {f__law_many : Addr} {fd__law_many : FuncData} {f__law_places : Addr} {fd__law_places : FuncData} {f__law_part : Addr} {fd__law_part : FuncData} (F : Fun K "_law_train" "_law_train" S__law_train f fd)
    (F__law_next : Fun K "_law_next" "_law_next" S__law_next f__law_next fd__law_next) (b__law_next : Binds K fd__law_next ["_law_draws_here"] []) (g__law_next : mg "_law_next" = some (.ref f__law_next)) (G__law_next : FnOk P w K mg base CX0 1 f__law_next fd__law_next ["_law_draws_here"] (sp__law_next K))
    (F__law_many : Fun K "_law_many" "_law_many" S__law_many f__law_many fd__law_many) (b__law_many : Binds K fd__law_many ["_law_train_here"] []) (g__law_many : mg "_law_many" = some (.ref f__law_many)) (G__law_many : FnOk P w K mg base CX0 2 f__law_many fd__law_many ["_law_train_here"] (sp__law_many K))
    (F__law_places : Fun K "_law_places" "_law_places" S__law_places f__law_places fd__law_places) (b__law_places : Binds K fd__law_places ["_law_part_here"] []) (g__law_places : mg "_law_places" = some (.ref f__law_places)) (G__law_places : FnOk P w K mg base CX0 1 f__law_places fd__law_places ["_law_part_here"] (sp__law_places K))
    (F__law_part : Fun K "_law_part" "_law_part" S__law_part f__law_part fd__law_part) (b__law_part : Binds K fd__law_part ["_law_draws_here"] []) (g__law_part : mg "_law_part" = some (.ref f__law_part)) (G__law_part : FnOk P w K mg base CX0 2 f__law_part fd__law_part ["_law_draws_here"] (sp__law_part K)) (m_range : mg "range" = none) (m_tuple : mg "tuple" = none) (m_len : mg "len" = none) :
    FnOk P w K mg base CX0 3 f fd ["_law_draws_here", "_law_great"] (sp__law_train K) := by
  refine F.ok sc__law_train (fun vs H Q E h => ?_) (fun cdv A outer s H vs Q E hr h => ?_)
  ·
    obtain ⟨D, c, b, rfl, _⟩ := h
    rfl
  ·
    obtain ⟨D, c, b, rfl, hD, hc, q⟩ := h
    refine ⟨_, (pss_cons (ps_set (i := 2) sc__law_train.nd rfl (.inl rfl) pe_int)
      (pss_cons (ps_set (i := 3) sc__law_train.nd rfl (.inl rfl) (pe_lst (pa_cons (pe_call G__law_part (hr.mono (by decide)) (by rfl) g__law_part F__law_part.kp b__law_part .nil pass0 (pa_cons (pv 0) pa_nil)) pa_nil)))
      (pss_cons (ps_if (pt_val (pv 1)) (pss_cons (ps_set (i := 2) sc__law_train.nd rfl (.inl rfl) pe_int)
      (pss_cons (ps_set (i := 4) sc__law_train.nd rfl (.inl rfl) (pe_callTy call_tuple_of (by rfl) m_tuple (by decide +kernel) (pa_cons (pe_lc (own := [("_law_mark", 7)]) (g := gName 7)  rfl sc__law_train.nd  (pi_range1 (by rfl) m_range (pa_cons pe_int pa_nil)) (blkOk_by (own := [("_law_mark", 7)]) (N := ["_law_draws_here", "_law_great", "_law_most", "_law_told", "_law_marks", "_law_k", "_law_part_here", "_law_mark"]) (sc := defScope S__law_train) (by decide +kernel)) (fun _ _ _ _ _ => pg_name (i := 7) sc__law_train.nd rfl (Or.inl rfl)) (fun _ _ _ _ _ => (pts_one (pt_cmpR op_eq (pe_op op_mod (pe_call G__law_next (hr.mono (by decide)) (by rfl) g__law_next F__law_next.kp b__law_next .nil pass0 (pa_cons (pv 0) pa_nil)) pe_int) pe_int (nomark _)))) (fun _ _ _ _ _ => (pv 7))) pa_nil)))
      (pss_one (ps_set (i := 3) sc__law_train.nd rfl (.inl rfl) (pe_lst (pa_cons (pe_tup (pa_cons pe_str (pa_cons (pe_op op_add pe_int (pe_op op_mod (pe_call G__law_next (hr.mono (by decide)) (by rfl) g__law_next F__law_next.kp b__law_next .nil pass0 (pa_cons (pv 0) pa_nil)) pe_int)) (pa_cons (pv 4) pa_nil)))) pa_nil)))))) pss_nil)
      (pss_cons (ps_for PassesOwn.never rfl (pi_range1 (by rfl) m_range (pa_cons (pe_op op_mod (pe_call G__law_next (hr.mono (by decide)) (by rfl) g__law_next F__law_next.kp b__law_next .nil pass0 (pa_cons (pv 0) pa_nil)) pe_int) pa_nil)) (pg_name (i := 5) sc__law_train.nd rfl (.inl rfl))
      (pss_cons (ps_set (i := 6) sc__law_train.nd rfl (.inl rfl) (pe_call G__law_part (hr.mono (by decide)) (by rfl) g__law_part F__law_part.kp b__law_part .nil pass0 (pa_cons (pv 0) pa_nil)))
      (pss_one (ps_if (pt_cmpR op_le (pe_op op_mulW (pe_call G__law_many (hr.mono (by decide)) (by rfl) g__law_many F__law_many.kp b__law_many .nil pass0 (pa_cons (pv 3) pa_nil)) (pe_call G__law_places (hr.mono (by decide)) (by rfl) g__law_places F__law_places.kp b__law_places .nil pass0 (pa_cons (pv 6) pa_nil))) (pv 2) (nomark _)) (pss_one (ps_expr (pe_bm PySem.F.plainAttrs_list PySem.F.slot_list_insert PySem.F.type_list_insert mt_insert (pv 3) (pa_cons (pe_op op_mod (pe_call G__law_next (hr.mono (by decide)) (by rfl) g__law_next F__law_next.kp b__law_next .nil pass0 (pa_cons (pv 0) pa_nil)) (pe_op op_add (pe_callB call_len_seq (by rfl) m_len (by decide +kernel) (pa_cons (pv 3) pa_nil)) pe_int)) (pa_cons (pv 6) pa_nil))))) pss_nil))))
      (pss_one (ps_ret (pv 3))))))), ?_⟩
    refine w_st (σ' := [some (.ref D), some (.bl b), none, none, none, none, none, none]) rfl ?_
    walk_at "ct"
    refine ⟨D, c, rfl, hD, by omega, fun v p c1 H1 d1 c1l hv pok p7 => ?_⟩
    have po := pok.pos.1
    walk_at "ct"
    refine ⟨len2 rfl, fun l nl => ?_⟩
    have u1 : Same H1 (upd H1 l (.lst [v])) := same_upd nl
    have hl : (upd H1 l (.lst [v])) l = some (.lst [v]) := upd_same
    have hv1 := dp_same u1 hv
    generalize upd H1 l _ = H2 at *
    have d2 := d1.same u1
    have nlH : H l = none := d1.free nl
    walk_at "cq"
    with_reducible refine w_join (fun σ G => ∃ (y5 : Option V) (most : Int) (A : Addr) (w : V) (p : Part) (cG : Nat), σ = [some (.ref D), some (.bl b), some (.int most), some (.ref A), y5, none, none, none] ∧ Dr D cG H G ∧ cG ≤ c + 22 ∧ H A = none ∧ G A = some (.lst [w]) ∧ Dp K G w p.data ∧ p.ok ∧ p.places ≤ most ∧ most ≤ 200) ?_ ?_
    rotate_left
    · intro N hN
      walk_at "ct"
      cases b with
      | false =>
        walk_at "ct"
        exact hN _ _ ⟨none, 60, l, v, p, c1, rfl, d2, by omega, nlH, hl, hv1, pok, by omega, by decide⟩
      | true =>
        walk_at "ct"
        refine w_RG1 (by decide) (by decide) ?_
        refine lb_range (fun A i G => ∃ (cG : Nat) (ms : List Int), Dr D cG H2 G ∧ cG ≤ c1 + i ∧ G A = some (.lst (ms.map V.int)) ∧ ms.length ≤ i ∧ Rise (i : Int) ms) (fun A nA => ⟨c1, [], (Dr.refl d2.2).same (same_upd nA), by omega, upd_same, Nat.le_refl _, List.Pairwise.nil, fun m hm => by cases hm⟩) ?_ ?_
        · rintro A nA i G hi ⟨cG, ms, dG, cGl, hA, ml, rs⟩
          have hi9 : i < 9 := hi
          walk_at "ct"
          refine ⟨rfl, ?_⟩
          walk_at "ct"
          refine ⟨D, cG, rfl, dG.2, by omega, fun n2 _ _ => ?_⟩
          have st := Dr.step dG.2 (cG + 1)
          have hA2 := st.at dG.2 hA
          have d3 := dG.trans st
          clear st
          generalize upd G D _ = G2 at *
          walk_at "ct"
          refine w_mod (by decide) fun b _ _ => ?_
          walk_at "ct"
          refine w_ite (fun e2 => ?_) (fun e2 => ?_)
          · walk_at "ct"
            refine ⟨ms.map V.int, hA2, by rw [List.length_map]; exact small1000 (by omega), cG + 1, ms ++ [(i : Int)], d3.put nA hA2, by omega, by rw [upd_same, List.map_append, Int.zero_add]; rfl, ?_, ?_, ?_⟩
            · rw [List.length_append]
              show ms.length + 1 ≤ i + 1
              omega
            · refine List.pairwise_append.mpr ⟨rs.1, List.pairwise_singleton _ _, fun a ha b hb => ?_⟩
              rw [List.mem_singleton] at hb
              rw [hb]
              exact (rs.2 a ha).2
            · intro m hm
              rcases List.mem_append.mp hm with hm | hm
              · have := rs.2 m hm
                omega
              · rw [List.mem_singleton] at hm
                omega
          · exact ⟨cG + 1, ms, d3, by omega, hA2, by omega, rs.1, fun m hm => by have := rs.2 m hm; omega⟩
        rintro A nA G2 ⟨c2, ms, d3, c2l, hA, ml, rs⟩
        have c2l' : c2 ≤ c1 + 9 := c2l
        have ml' : ms.length ≤ 9 := ml
        have e2 := d2.trans d3
        walk_at "ct"
        refine ⟨A, _, rfl, .inl ⟨.of hA, fun m nm => ?_⟩⟩
        have u2 : Same G2 (upd G2 m (.tup (ms.map V.int))) := same_upd nm
        have hm : (upd G2 m (.tup (ms.map V.int))) m = some (.tup (ms.map V.int)) := upd_same
        generalize upd G2 m _ = G3 at *
        have e3 := e2.same u2
        walk_at "ct"
        refine ⟨D, c2, rfl, e3.2, by omega, fun n4 _ _ => ?_⟩
        have st := Dr.step e3.2 (c2 + 1)
        have hm2 := st.at e3.2 hm
        have e4 := e3.trans st
        clear st
        generalize upd G3 D _ = G4 at *
        walk_at "ct"
        refine w_mod (by decide) fun r r0 r1 => ?_
        walk_at "ct"
        refine ⟨len2 rfl, fun g ng => ?_⟩
        have u5 : Same G4 (upd G4 g (.tup [.str "wheel", .int (70 + r), .ref m])) := same_upd ng
        have hg : (upd G4 g (.tup [.str "wheel", .int (70 + r), .ref m])) g = some (.tup [.str "wheel", .int (70 + r), .ref m]) := upd_same
        have hm5 := u5 _ _ hm2
        generalize upd G4 g _ = G5 at *
        walk_at "ct"
        refine ⟨len2 rfl, fun l2 nl2 => ?_⟩
        have u6 : Same G5 (upd G5 l2 (.lst [.ref g])) := same_upd nl2
        have e6 := e4.same (u5.trans u6)
        have wdp : Dp K (upd G5 l2 (.lst [.ref g])) (.ref g) (Part.wheel (70 + r) ms).data := wheel_dp (.of (u6 _ _ hg)) (.of (u6 _ _ hm5))
        refine hN _ _ ⟨_, 200, l2, .ref g, .wheel (70 + r) ms, c2 + 1, rfl, e6, by omega, (e4.same u5).free nl2, upd_same, wdp, ⟨by omega, by omega, ⟨rs.1, fun x hx => ?_⟩, by omega⟩, show 70 + r ≤ 200 by omega, by decide⟩
        have := rs.2 x hx
        have : ((9 : Int).toNat : Int) = 9 := rfl
        omega
    · rintro σ G ⟨y5, most, A, w, p, cG, rfl, dG, cGl, nA, hA, hw, pok, pm, m2⟩
      walk_at "ct"
      refine ⟨D, cG, rfl, dG.2, by omega, fun n2 _ _ => ?_⟩
      have st := Dr.step dG.2 (cG + 1)
      have hA2 := st.at dG.2 hA
      have hw2 : DpAll K (upd G D (DrO D (cG + 1))) [w] ([p].map Part.data) := st.all dG.2 (.cons hw .nil)
      have d2 := dG.trans st
      clear st hw hA
      generalize upd G D _ = G2 at *
      walk_at "ct"
      refine w_mod (by decide) fun r r0 r1 => ?_
      walk_at "ct"
      refine w_RG1 (by omega) (by omega) ?_
      obtain ⟨N, rfl⟩ : ∃ N : Nat, r = N := ⟨r.toNat, by omega⟩
      rw [Int.toNat_natCast]
      refine fb_range (fun i σ J => ∃ (y6 y7 : Option V) (ws : List V) (ps : List Part) (cJ : Nat), σ = [some (.ref D), some (.bl b), some (.int most), some (.ref A), y5, y6, y7, none] ∧ Dr D cJ H J ∧ cJ ≤ cG + 1 + 12 * i ∧ J A = some (.lst ws) ∧ DpAll K J ws (ps.map Part.data) ∧ (∀ p ∈ ps, p.ok ∧ p.places ≤ 200) ∧ 1 ≤ ps.length ∧ ps.length ≤ i + 1 ∧ stands ps ≤ most) ⟨none, none, [w], [p], cG + 1, rfl, d2, by omega, hA2, hw2, (fun q hq => by rw [List.mem_singleton.mp hq]; exact ⟨pok, by omega⟩), Nat.le_refl 1, Nat.le_refl 1, by show p.places * 1 ≤ most; omega⟩ ?_ ?_
      · rintro i σ J hi ⟨y6, y7, ws, ps, cJ, rfl, dJ, cJl, hA, hws, hps, pl1, pli, smost⟩
        have hi4 : i < 3 := by omega
        have wl : ws.length = ps.length := by rw [dpAll_len hws, List.length_map]
        walk_at "ct"
        refine ⟨D, cJ, rfl, dJ.2, by omega, fun v q c3 J2 d3 c3l hv qok q7 => ?_⟩
        have qo := qok.pos.1
        have hA3 := d3.at dJ.2 hA
        have hws3 := d3.all dJ.2 hws
        have dJ3 := dJ.trans d3
        walk_at "ct"
        refine ⟨A, ps, rfl, ⟨ws, .of hA3, hws3⟩, hps, by omega, fun J4 s4 => ?_⟩
        walk_at "ct"
        refine ⟨v, q, rfl, dp_same s4 hv, fun J5 s5 => ?_⟩
        have s45 := s4.trans s5
        have sp1 := stands_pos ps fun p hp => (hps p hp).1
        walk_at "ct"
        refine w_rI (mul_ok (by omega) (by omega) (by omega) (by omega)) ?_
        walk_at "ct"
        refine w_ite (fun few => ?_) (fun _ => ?_)
        · have hA5 := s45 _ _ hA3
          walk_at "ct"
          refine ⟨ty_list hA5, ?_⟩
          have dJ5 := dJ3.same s45
          walk_at "ct"
          refine ⟨D, c3, rfl, dJ5.2, by omega, fun n6 _ _ => ?_⟩
          have st := Dr.step dJ5.2 (c3 + 1)
          have hA6 := st.at dJ5.2 hA5
          have hws6 := st.all dJ5.2 (dpAll_same s45 hws3)
          have hv6 : DpAll K (upd J5 D (DrO D (c3 + 1))) [v] ([q].map Part.data) := st.all dJ5.2 (.cons (dp_same s45 hv) .nil)
          have dJ6 := dJ5.trans st
          clear st
          generalize upd J5 D _ = J6 at *
          walk_at "ct"
          refine ⟨A, ws, rfl, .inl (.of hA6), ?_⟩
          walk_at "ct"
          refine w_mod (by omega) fun k k0 k1 => ?_
          walk_at "ct"
          obtain ⟨kn, rfl⟩ : ∃ kn : Nat, k = kn := ⟨k.toNat, by omega⟩
          refine ⟨A, ws, (kn : Int), v, rfl, rfl, hA6, small1000 (by omega), k0, by omega, ?_⟩
          rw [Int.toNat_natCast]
          walk_at "ct"
          refine ⟨_, _, ws.take kn ++ [v] ++ ws.drop kn, ps.take kn ++ [q] ++ ps.drop kn, c3 + 1, rfl, dJ6.put nA hA6, by omega, upd_same, ?_, fun p hp => ?_, by rw [len_insL]; omega, by rw [len_insL]; omega, ?_⟩
          · have h1 := parts_upd hA6 _ hws6 (o := .lst (ws.take kn ++ [v] ++ ws.drop kn))
            have h2 := parts_upd hA6 [q] hv6 (o := .lst (ws.take kn ++ [v] ++ ws.drop kn))
            rw [List.map_append, List.map_append, List.map_take, List.map_drop]
            exact dpAll_app (dpAll_app (dpAll_take kn h1) h2) (dpAll_drop kn h1)
          · rcases mem_insL hp with rfl | hp
            · exact ⟨qok, by omega⟩
            · exact hps p hp
          · have e1 : stands (ps.take kn ++ [q] ++ ps.drop kn) = stands ps * q.places := by
              rw [stands_ins]
            rw [e1]
            exact few
        · exact ⟨_, _, ws, ps, c3, rfl, dJ3.same s45, by omega, s45 _ _ hA3, dpAll_same s45 hws3, hps, pl1, by omega, smost⟩
      · rintro σ J ⟨y6, y7, ws, ps, cJ, rfl, dJ, cJl, hA, hws, hps, pl1, pli, smost⟩
        walk_at "ct"
        exact q A ws ps cJ J dJ (by omega) nA hA hws hps pl1 (by omega) (by omega)
abbrev S__law_row : Stmt := topS 46
theorem sc__law_row : FnScope ["_law_draws_here", "_law_train_here", "_law_most", "_law_told", "_law_k", "_law_times"] ["_law_draws_here", "_law_train_here", "_law_most"] (defScope S__law_row) := ⟨rfl, rfl, rfl, by decide +kernel, rfl, by decide +kernel, by decide +kernel⟩
def sp__law_row (K : PySem.W.Frag) : Sp := fun vs H Q _ => ∃ (D a : Addr) (c : Nat) (most : Int) (ps : List Part) (tv : List V), vs = [.ref D, .ref a, .int most] ∧ H D = some (DrO D c) ∧ c ≤ 880000 ∧ 0 ≤ most ∧ most ≤ 3 ∧ H a = some (.lst tv) ∧ tv.length = ps.length ∧ 1 ≤ ps.length ∧ ps.length ≤ 100 ∧ ∀ l ws (ds : List Deed) c' H', Dr D c' H H' → c' ≤ c + 80 → H l = none → H' l = some (.lst ws) → DpAll K H' ws (ds.map Deed.data) → (∀ d ∈ ds, d.ok ps.length ∧ d.t < 2 ^ 100) → ds.length ≤ 3 → Q (.ref l) H'
theorem ok__law_row {f : Addr} {fd : FuncData} {f__law_next : Addr} {fd__law_next : FuncData} {f__law_far : Addr} {fd__law_far : FuncData} (F : Fun K "_law_row" "_law_row" S__law_row f fd)
    (F__law_next : Fun K "_law_next" "_law_next" S__law_next f__law_next fd__law_next) (b__law_next : Binds K fd__law_next ["_law_draws_here"] []) (g__law_next : mg "_law_next" = some (.ref f__law_next)) (G__law_next : FnOk P w K mg base CX0 1 f__law_next fd__law_next ["_law_draws_here"] (sp__law_next K))
    (F__law_far : Fun K "_law_far" "_law_far" S__law_far f__law_far fd__law_far) (b__law_far : Binds K fd__law_far ["_law_draws_here", "_law_most"] []) (g__law_far : mg "_law_far" = some (.ref f__law_far)) (G__law_far : FnOk P w K mg base CX0 2 f__law_far fd__law_far ["_law_draws_here", "_law_most"] (sp__law_far K)) (m_range : mg "range" = none) (m_len : mg "len" = none) :
    FnOk P w K mg base CX0 3 f fd ["_law_draws_here", "_law_train_here", "_law_most"] (sp__law_row K) := by
  refine F.ok sc__law_row (fun vs H Q E h => ?_) (fun cdv A outer s H vs Q E hr h => ?_)
  ·
    obtain ⟨D, a, c, most, ps, tv, rfl, _⟩ := h
    rfl
  ·
    obtain ⟨D, a, c, most, ps, tv, rfl, hD, hc, m0, m3, ha, tvl, l1, l2, q⟩ := h
    refine ⟨_, (pss_cons (ps_set (i := 3) sc__law_row.nd rfl (.inl rfl) (pe_lst pa_nil))
      (pss_cons (ps_for PassesOwn.never rfl (pi_range1 (by rfl) m_range (pa_cons (pe_op op_mod (pe_call G__law_next (hr.mono (by decide)) (by rfl) g__law_next F__law_next.kp b__law_next .nil pass0 (pa_cons (pv 0) pa_nil)) (pe_op op_add (pv 2) pe_int)) pa_nil)) (pg_name (i := 4) sc__law_row.nd rfl (.inl rfl))
      (pss_cons (ps_set (i := 5) sc__law_row.nd rfl (.inl rfl) (pe_op op_mod (pe_call G__law_next (hr.mono (by decide)) (by rfl) g__law_next F__law_next.kp b__law_next .nil pass0 (pa_cons (pv 0) pa_nil)) pe_int))
      (pss_cons (ps_if (pt_cmpR op_eq (pe_op op_mod (pe_call G__law_next (hr.mono (by decide)) (by rfl) g__law_next F__law_next.kp b__law_next .nil pass0 (pa_cons (pv 0) pa_nil)) pe_int) pe_int (nomark _)) (pss_one (ps_set (i := 5) sc__law_row.nd rfl (.inl rfl) (pe_call G__law_far (hr.mono (by decide)) (by rfl) g__law_far F__law_far.kp b__law_far .nil pass0 (pa_cons (pv 0) (pa_cons (pe_op op_powB pe_int pe_int) pa_nil))))) pss_nil)
      (pss_one (ps_expr (pe_bm PySem.F.plainAttrs_list PySem.F.slot_list_append PySem.F.type_list_append mt_append (pv 3) (pa_cons (pe_tup (pa_cons (pe_op op_mod (pe_call G__law_next (hr.mono (by decide)) (by rfl) g__law_next F__law_next.kp b__law_next .nil pass0 (pa_cons (pv 0) pa_nil)) (pe_callB call_len_seq (by rfl) m_len (by decide +kernel) (pa_cons (pv 1) pa_nil))) (pa_cons (pe_ix (r := rIxL K) ix_list (pe_lst (pa_cons pe_int (pa_cons (pe_op op_sub pe_int pe_int) pa_nil))) (pe_op op_mod (pe_call G__law_next (hr.mono (by decide)) (by rfl) g__law_next F__law_next.kp b__law_next .nil pass0 (pa_cons (pv 0) pa_nil)) pe_int) (fun _ _ => rfl)) (pa_cons (pv 5) pa_nil)))) pa_nil)))))))
      (pss_one (ps_ret (pv 3))))), ?_⟩
    refine w_st (σ' := [some (.ref D), some (.ref a), some (.int most), none, none, none]) rfl ?_
    walk_at "ct"
    refine ⟨len2 rfl, fun l nl => ?_⟩
    have u1 : Same H (upd H l (.lst [])) := same_upd nl
    have hl : (upd H l (.lst [])) l = some (.lst []) := upd_same
    have ha1 := u1 _ _ ha
    have dR := (Dr.refl hD).same u1
    generalize upd H l _ = H1 at *
    walk_at "ct"
    refine ⟨D, c, rfl, dR.2, by omega, fun n1 _ _ => ?_⟩
    have st := Dr.step dR.2 (c + 1)
    have hl2 := st.at dR.2 hl
    have d2 := dR.trans st
    clear st
    generalize upd H1 D _ = H2 at *
    walk_at "ct"
    refine w_mod (by omega) fun r r0 r1 => ?_
    walk_at "ct"
    refine w_RG1 (by omega) (by omega) ?_
    obtain ⟨N, rfl⟩ : ∃ N : Nat, r = N := ⟨r.toNat, by omega⟩
    rw [Int.toNat_natCast]
    refine fb_range (fun i σ J => ∃ (y4 y5 : Option V) (ws : List V) (ds : List Deed) (cJ : Nat), σ = [some (.ref D), some (.ref a), some (.int most), some (.ref l), y4, y5] ∧ Dr D cJ H J ∧ cJ ≤ c + 1 + 14 * i ∧ J l = some (.lst ws) ∧ DpAll K J ws (ds.map Deed.data) ∧ (∀ d ∈ ds, d.ok ps.length ∧ d.t < 2 ^ 100) ∧ ds.length = i) ⟨none, none, [], [], c + 1, rfl, d2, by omega, hl2, .nil, (fun _ h => nomatch h), rfl⟩ ?_ ?_
    · rintro i σ J hi ⟨y4, y5, ws, ds, cJ, rfl, dJ, cJl, hJ, hws, hds, dl⟩
      have hi4 : i < 4 := by omega
      have wl : ws.length = ds.length := by rw [dpAll_len hws, List.length_map]
      walk_at "ct"
      refine ⟨D, cJ, rfl, dJ.2, by omega, fun n2 _ _ => ?_⟩
      have st := Dr.step dJ.2 (cJ + 1)
      have hJ2 := st.at dJ.2 hJ
      have hws2 := st.all dJ.2 hws
      have dJ2 := dJ.trans st
      clear st hJ hws
      generalize upd J D _ = J2 at *
      walk_at "ct"
      refine w_mod (by decide) fun t t0 t1 => ?_
      walk_at "cq"
      with_reducible refine w_join (fun σ G => ∃ (t : Int) (cG : Nat), σ = [some (.ref D), some (.ref a), some (.int most), some (.ref l), some (.int (0 + (i : Int))), some (.int t)] ∧ Dr D cG J2 G ∧ cG ≤ cJ + 11 ∧ 0 ≤ t ∧ t < 10 ^ 30) ?_ ?_
      rotate_left
      · intro NN hNN
        walk_at "ct"
        refine ⟨D, cJ + 1, rfl, dJ2.2, by omega, fun n3 _ _ => ?_⟩
        have st := Dr.step dJ2.2 (cJ + 1 + 1)
        generalize upd J2 D _ = J3 at *
        walk_at "ct"
        refine w_mod (by decide) fun k k0 k1 => ?_
        walk_at "ct"
        refine w_ite (fun _ => ?_) (fun _ => ?_)
        · walk_at "ct"
          refine w_rIv (.int (10 ^ 30)) ⟨by decide, by decide⟩ rfl ?_
          walk_at "ct"
          refine ⟨D, cJ + 1 + 1, _, rfl, st.2, by omega, by decide, fun t c4 H4 d4 c4l t0 t1 => ?_⟩
          walk_at "ct"
          exact hNN _ _ ⟨t, c4, rfl, st.trans d4, by omega, t0, t1⟩
        · walk_at "ct"
          exact hNN _ _ ⟨t, cJ + 1 + 1, rfl, st, by omega, t0, by omega⟩
      · rintro σ G ⟨t, cG, rfl, dG, cGl, t0, t1⟩
        have hG := dG.at dJ2.2 hJ2
        have hwsG := dG.all dJ2.2 hws2
        have eG := dJ2.trans dG
        clear hJ2 hws2
        walk_at "ct"
        refine ⟨ty_list hG, ?_⟩
        walk_at "ct"
        refine ⟨D, cG, rfl, eG.2, by omega, fun n4 _ _ => ?_⟩
        have st := Dr.step eG.2 (cG + 1)
        have hG2 := st.at eG.2 hG
        have hwsG2 := st.all eG.2 hwsG
        have eG2 := eG.trans st
        clear st hG hwsG
        generalize upd G D _ = G2 at *
        walk_at "ct"
        refine ⟨a, tv, rfl, .inl (.of (eG2.at hD ha)), ?_⟩
        walk_at "ct"
        refine w_mod (by omega) fun x x0 x1 => ?_
        walk_at "ct"
        refine ⟨len2 rfl, fun g1 ng1 => ?_⟩
        have u3 : Same G2 (upd G2 g1 (.lst [.int 1, .int (0 - 1)])) := same_upd ng1
        have hg1 : (upd G2 g1 (.lst [.int 1, .int (0 - 1)])) g1 = some (.lst [.int 1, .int (0 - 1)]) := upd_same
        have hG3 := u3 _ _ hG2
        have hwsG3 := dpAll_same u3 hwsG2
        generalize upd G2 g1 _ = G3 at *
        have eG3 := eG2.same u3
        walk_at "ct"
        refine ⟨D, cG + 1, rfl, eG3.2, by omega, fun n5 _ _ => ?_⟩
        have st := Dr.step eG3.2 (cG + 2)
        have hg14 := st.at eG3.2 hg1
        have hG4 := st.at eG3.2 hG3
        have hwsG4 := st.all eG3.2 hwsG3
        have eG4 := eG3.trans st
        clear st hG2 hwsG2 hG3 hwsG3 hg1
        generalize upd G3 D _ = G4 at *
        walk_at "ct"
        refine w_mod (by decide) fun r r0 r1 => ?_
        obtain ⟨w1, hw1, sw1⟩ : ∃ w1 : Int, atI [V.int 1, .int (0 - 1)] r = some (.int w1) ∧ Sign w1 := by
          have : r = 0 ∨ r = 1 := by omega
          rcases this with rfl | rfl
          · exact ⟨1, at0, .inl rfl⟩
          · exact ⟨-1, at1, .inr rfl⟩
        refine w_ixL (.of hg14) hw1 ?_
        walk_at "ct"
        refine ⟨len2 rfl, fun g ng => ?_⟩
        walk_at "ct"
        obtain ⟨xn, rfl⟩ : ∃ n : Nat, x = n := ⟨x.toNat, by omega⟩
        obtain ⟨tn, rfl⟩ : ∃ n : Nat, t = n := ⟨t.toNat, by omega⟩
        have u5 : Same G4 (upd G4 g (.tup [.int (xn : Int), .int w1, .int (tn : Int)])) := same_upd ng
        have hg : (upd G4 g (.tup [.int (xn : Int), .int w1, .int (tn : Int)])) g = some (.tup [.int (xn : Int), .int w1, .int (tn : Int)]) := upd_same
        have hG5 := u5 _ _ hG4
        have hwsG5 := dpAll_same u5 hwsG4
        generalize upd G4 g _ = G5 at *
        have eG5 := eG4.same u5
        refine w_append hG5 (small1000 (by omega)) ?_
        walk_at "ct"
        refine ⟨_, _, ws ++ [.ref g], ds ++ [⟨xn, w1, tn⟩], cG + 2, rfl, eG5.put nl hG5, by omega, upd_same, ?_, fun d hd => ?_, by rw [List.length_append, dl]; rfl⟩
        · rw [List.map_append]
          refine dpAll_app (deeds_upd hG5 ds hwsG5) (deeds_upd hG5 [⟨xn, w1, tn⟩] (.cons (deed_dp (.of hg)) .nil))
        · rcases List.mem_append.mp hd with hd | hd
          · exact hds d hd
          · rw [List.mem_singleton.mp hd]
            exact ⟨⟨show xn < ps.length by omega, sw1⟩, show tn < 2 ^ 100 by omega⟩
    · rintro σ J ⟨y4, y5, ws, ds, cJ, rfl, dJ, cJl, hJ, hws, hds, dl⟩
      walk_at "ct"
      exact q l ws ds cJ J dJ (by omega) nl hJ hws hds (by omega)
abbrev S__law_common : Stmt := topS 47
theorem sc__law_common : FnScope ["_law_one", "_law_other"] ["_law_one", "_law_other"] (defScope S__law_common) := ⟨rfl, rfl, rfl, by decide +kernel, rfl, by decide +kernel, by decide +kernel⟩
def sp__law_common (K : PySem.W.Frag) : Sp := fun vs H Q _ => ∃ (a b : Nat), vs = [.int a, .int b] ∧ ∀ H', Same H H' → Q (.int (Nat.gcd a b : Nat)) H'
theorem ok__law_common {f : Addr} {fd : FuncData} (F : Fun K "_law_common" "_law_common" S__law_common f fd) :
    FnOk P w K mg base CX0 1 f fd ["_law_one", "_law_other"] (sp__law_common K) := by
  refine F.ok sc__law_common (fun vs H Q E h => ?_) (fun cdv A outer s H vs Q E hr h => ?_)
  ·
    obtain ⟨a, b, rfl, _⟩ := h
    rfl
  ·
    obtain ⟨a, b, rfl, q⟩ := h
    refine ⟨_, (pss_cons (ps_while PassesOwn.never (pt_cmpR op_ne (pv 1) pe_int (nomark _)) (pss_one (ps_par (i := 0) (j := 1) (by rfl) sc__law_common.nd rfl rfl (by decide) rfl rfl (pa_cons (pv 1) (pa_cons (pe_op op_mod (pv 0) (pv 1)) pa_nil)) (by rfl))))
      (pss_one (ps_ret (pv 0)))), ?_⟩
    refine w_st (σ' := [some (.int a), some (.int b)]) rfl ?_
    with_reducible refine w_seq ?_
    refine while_by (fun σ H' => ∃ (x y : Nat), σ = [some (.int x), some (.int y)] ∧ Nat.gcd x y = Nat.gcd a b ∧ Same H H') (fun σ _ => match σ with | [_, some (.int y)] => y.toNat | _ => 0) ⟨a, b, rfl, rfl, Same.refl H⟩ ?_ ?_
    · rintro σ H' ⟨x, y, rfl, hg, sm⟩
      walk_at "ct"
      refine w_iteN (fun e => ?_) (fun e => ?_)
      · walk_at "ct"
        with_reducible refine w_par ?_
        walk_at "ct"
        have em : (x : Int) % (y : Int) = ((x % y : Nat) : Int) := (Int.natCast_emod x y).symm
        refine w_rIv (.int ((x % y : Nat) : Int)) (by show (0 : Int) < (y : Int); omega) (congrArg V.int em) ?_
        walk_at "ct"
        refine ⟨_, _, rfl, ?_⟩
        have y0 : 0 < y := by omega
        refine ⟨⟨y, x % y, rfl, ?_, sm⟩, ?_⟩
        · rw [← hg, Nat.gcd_comm y, ← Nat.gcd_rec y x, Nat.gcd_comm]
        · show ((x % y : Nat) : Int).toNat < ((y : Nat) : Int).toNat
          rw [Int.toNat_natCast, Int.toNat_natCast]
          exact Nat.mod_lt _ y0
      · have y0 : y = 0 := by omega
        subst y0
        walk_at "ct"
        rw [Nat.gcd_zero_right] at hg
        rw [hg]
        exact q H' sm
    · rintro σ H' Q1 Q2 hQ ⟨v1, e1, hs, k, e3, hq⟩
      exact ⟨v1, e1, hs, k, e3, hQ _ _ hq⟩
abbrev S__law_is_round : Stmt := topS 48
theorem sc__law_is_round : FnScope ["_law_told", "_law_number"] ["_law_told"] (defScope S__law_is_round) := ⟨rfl, rfl, rfl, by decide +kernel, rfl, by decide +kernel, by decide +kernel⟩
def sp__law_is_round (K : PySem.W.Frag) : Sp := fun vs H Q _ => ∃ (a : Addr) (x L : Nat), vs = [.ref a] ∧ SqT K H a [.int (x : Int), .int (L : Int)] ∧ 0 < L ∧ ∀ H', Same H H' → Q (.bl true) H'
theorem ok__law_is_round {f : Addr} {fd : FuncData} (F : Fun K "_law_is_round" "_law_is_round" S__law_is_round f fd) (m_isinstance : mg "isinstance" = none) (m_tuple : mg "tuple" = none) (m_len : mg "len" = none) (m_bool : mg "bool" = none) (m_int : mg "int" = none) :
    FnOk P w K mg base CX0 1 f fd ["_law_told"] (sp__law_is_round K) := by
  refine F.ok sc__law_is_round (fun vs H Q E h => ?_) (fun cdv A outer s H vs Q E hr h => ?_)
  ·
    obtain ⟨a, x, L, rfl, _⟩ := h
    rfl
  ·
    obtain ⟨a, x, L, rfl, ha, L0, q⟩ := h
    refine ⟨_, (pss_cons (ps_if (PW.pt (pw_or (pt_not (pt_val (pe_callB (r := rIsi K) call_isi (by rfl) m_isinstance (by decide +kernel) (pa_cons (pv 0) (pa_cons (pe_bltn (v := .ty "tuple") (u := .type "tuple") (by rfl) m_tuple (by decide +kernel) rfl) pa_nil))))) (pw_or1 (pt_cmpR op_ne (pe_callB call_len_seq (by rfl) m_len (by decide +kernel) (pa_cons (pv 0) pa_nil)) pe_int (nomark _))))) (pss_one (ps_ret pe_bl)) pss_nil)
      (pss_cons (ps_for PassesOwn.never rfl (pi_tup (pv 0)) (pg_name (i := 1) sc__law_is_round.nd rfl (.inl rfl))
      (pss_one (ps_if (PW.pt (pw_or (pt_not (pt_val (pe_callB (r := rIsi K) call_isi (by rfl) m_isinstance (by decide +kernel) (pa_cons (pv 1) (pa_cons (pe_bltn (v := .ty "int") (u := .type "int") (by rfl) m_int (by decide +kernel) rfl) pa_nil))))) (pw_or1 (pt_val (pe_callB (r := rIsi K) call_isi (by rfl) m_isinstance (by decide +kernel) (pa_cons (pv 1) (pa_cons (pe_bltn (v := .ty "bool") (u := .type "bool") (by rfl) m_bool (by decide +kernel) rfl) pa_nil))))))) (pss_one (ps_ret pe_bl)) pss_nil)))
      (pss_one (ps_ret (pe_and (pe_cmpR op_ge (pe_ix (r := rIxT K) ix_tup (pv 0) pe_int (fun _ _ => rfl)) pe_int (nomark _)) (pe_one (pe_cmpR op_ge (pe_ix (r := rIxT K) ix_tup (pv 0) pe_int (fun _ _ => rfl)) pe_int (nomark _)))))))), ?_⟩
    refine w_st (σ' := [some (.ref a), none]) rfl ?_
    walk_at "ct"
    refine w_isi (b := true) (tyx_T ha) (kit_ty (by decide +kernel)) ?_
    walk_at "ct"
    refine ⟨a, _, rfl, .inr ha, ?_⟩
    walk_at "ct"
    refine w_iteN (fun z => absurd rfl z) (fun _ => ?_)
    walk_at "ct"
    refine w_IT ha ?_
    refine fb_tup [V.int (x : Int), .int (L : Int)] (fun i σ J => ∃ y1 : Option V, σ = [some (.ref a), y1] ∧ J = H) ⟨_, rfl, rfl⟩ ?_ ?_ ?_
    · rintro i σ J _ ⟨y4, rfl, rfl⟩
      exact ha
    · rintro i v σ J hv ⟨y4, rfl, rfl⟩
      obtain ⟨n, rfl⟩ : ∃ n : Int, v = .int n := by
        have := List.mem_of_getElem? hv
        rcases List.mem_cons.mp this with rfl | hm
        · exact ⟨_, rfl⟩
        · rw [List.mem_singleton] at hm
          exact ⟨_, hm⟩
      walk_at "ct"
      refine w_isi (b := true) (.base (.int n)) (kit_ty (by decide +kernel)) ?_
      walk_at "ct"
      refine w_isi (b := false) (.base (.int n)) (kit_ty (by decide +kernel)) ?_
      walk_at "ct"
      exact ⟨_, rfl, rfl⟩
    · rintro σ J ⟨y4, rfl, rfl⟩
      walk_at "ct"
      refine w_ite (fun _ => ?_) (fun z => absurd z (by omega))
      walk_at "ct"
      rw [show decide (1 ≤ (L : Int)) = true from decide_eq_true (by omega)]
      exact q _ (Same.refl _)
abbrev S__law_rounds_right : Stmt := topS 49
theorem sc__law_rounds_right : FnScope ["_law_train_here", "_law_one", "_law_other", "_law_often", "_law_told", "_law_ahead", "_law_around", "_law_row_here", "_law_part_here", "_law_each"] ["_law_train_here", "_law_one", "_law_other", "_law_often"] (defScope S__law_rounds_right) := ⟨rfl, rfl, rfl, by decide +kernel, rfl, by decide +kernel, by decide +kernel⟩
def sp__law_rounds_right (K : PySem.W.Frag) : Sp := fun vs H Q _ => ∃ (a b c : Addr) (ps : List Part) (one other : List Deed) (n : Nat), vs = [.ref a, .ref b, .ref c, .int (n : Int)] ∧ TrainAt K H a ps ∧ (∀ p ∈ ps, p.ok) ∧ 1 ≤ ps.length ∧ ps.length ≤ 4 ∧ stands ps ≤ 200 ∧ RowL K H b one ∧ RowL K H c other ∧ (∀ d ∈ one, d.ok ps.length ∧ d.t < 2 ^ 200) ∧ (∀ d ∈ other, d.ok ps.length ∧ d.t < 2 ^ 200) ∧ one.length ≤ 3 ∧ other.length ≤ 3 ∧ 1 ≤ n ∧ n ≤ 5 ∧ ∀ H', Same H H' → Q (.bl true) H'
theorem ok__law_rounds_right {f : Addr} {fd : FuncData} {f__law_common : Addr} {fd__law_common : FuncData} {f_rows_alike : Addr} {fd_rows_alike : FuncData} {f__law_is_round : Addr} {fd__law_is_round : FuncData} {f_row_round : Addr} {fd_row_round : FuncData} (F : Fun K "_law_rounds_right" "_law_rounds_right" S__law_rounds_right f fd)
    (F__law_common : Fun K "_law_common" "_law_common" S__law_common f__law_common fd__law_common) (b__law_common : Binds K fd__law_common ["_law_one", "_law_other"] []) (g__law_common : mg "_law_common" = some (.ref f__law_common)) (G__law_common : FnOk P w K mg base CX0 1 f__law_common fd__law_common ["_law_one", "_law_other"] (sp__law_common K))
    (F_rows_alike : Fun K "rows_alike" "rows_alike" S_rows_alike f_rows_alike fd_rows_alike) (b_rows_alike : Binds K fd_rows_alike ["train", "one", "other"] []) (g_rows_alike : mg "rows_alike" = some (.ref f_rows_alike)) (G_rows_alike : FnOk P w K mg base CX0 17 f_rows_alike fd_rows_alike ["train", "one", "other"] (sp_rows_alike K))
    (F__law_is_round : Fun K "_law_is_round" "_law_is_round" S__law_is_round f__law_is_round fd__law_is_round) (b__law_is_round : Binds K fd__law_is_round ["_law_told"] []) (g__law_is_round : mg "_law_is_round" = some (.ref f__law_is_round)) (G__law_is_round : FnOk P w K mg base CX0 1 f__law_is_round fd__law_is_round ["_law_told"] (sp__law_is_round K))
    (F_row_round : Fun K "row_round" "row_round" S_row_round f_row_round fd_row_round) (b_row_round : Binds K fd_row_round ["train", "row"] []) (g_row_round : mg "row_round" = some (.ref f_row_round)) (G_row_round : FnOk P w K mg base CX0 6 f_row_round fd_row_round ["train", "row"] (sp_row_round K)) (m_all : mg "all" = none) (m_abs : mg "abs" = none) :
    FnOk P w K mg base CX0 18 f fd ["_law_train_here", "_law_one", "_law_other", "_law_often"] (sp__law_rounds_right K) := by
  refine F.ok sc__law_rounds_right (fun vs H Q E h => ?_) (fun cdv A outer s H vs Q E hr h => ?_)
  ·
    obtain ⟨a, b, c, ps, one, other, n, rfl, _⟩ := h
    rfl
  ·
    obtain ⟨a, b, c, ps, one, other, n, rfl, hT, hok, l1, l4, few, hb, hc, ob, oc, lb, lc, n1, n5, q⟩ := h
    refine ⟨_, (pss_cons (ps_setLc (i := 4) (own := [("_law_row_here", 7)]) (g := gName 7)  rfl sc__law_rounds_right.nd rfl rfl (sw_true rfl rfl rfl (by decide +kernel)) (pi_list (pe_lst (pa_cons (pe_op op_cat (pv 1) (pv 2)) (pa_cons (pe_op op_cat (pv 2) (pv 1)) (pa_cons (pv 1) (pa_cons (pe_op op_rep (pv 1) (pv 3)) pa_nil)))))) (blkOk_by (own := [("_law_row_here", 7)]) (N := ["_law_train_here", "_law_one", "_law_other", "_law_often", "_law_told", "_law_ahead", "_law_around", "_law_row_here", "_law_part_here", "_law_each"]) (sc := defScope S__law_rounds_right) (by decide +kernel)) (fun _ _ _ _ _ => pg_name (i := 7) sc__law_rounds_right.nd rfl (Or.inl rfl)) (fun _ _ _ _ _ => pts_nil) (fun _ _ _ _ _ => (pe_call G_row_round (hr.mono (by decide)) (by rfl) g_row_round F_row_round.kp b_row_round .nil pass0 (pa_cons (pv 0) (pa_cons (pv 7) pa_nil)))))
      (pss_cons (ps_if (pt_not (pt_val (pe_callB (r := rAll K) (cr_all rfl) (by rfl) m_all (by decide +kernel) (pa_cons (pe_lc (own := [("_law_each", 9)]) (g := gName 9)  rfl sc__law_rounds_right.nd  (pi_list (pv 4)) (blkOk_by (own := [("_law_each", 9)]) (N := ["_law_train_here", "_law_one", "_law_other", "_law_often", "_law_told", "_law_ahead", "_law_around", "_law_row_here", "_law_part_here", "_law_each"]) (sc := defScope S__law_rounds_right) (by decide +kernel)) (fun _ _ _ _ _ => pg_name (i := 9) sc__law_rounds_right.nd rfl (Or.inl rfl)) (fun _ _ _ _ _ => pts_nil) (fun _ _ _ _ _ => (pe_call G__law_is_round (hr.mono (by decide)) (by rfl) g__law_is_round F__law_is_round.kp b__law_is_round .nil pass0 (pa_cons (pv 9) pa_nil)))) pa_nil)))) (pss_one (ps_ret pe_bl)) pss_nil)
      (pss_cons (ps_if (PW.pt (pw_or (pt_cmpR op_ne (pe_ix (r := rIxT K) ix_tup (pe_ix (r := rIxL K) ix_list (pv 4) pe_int (fun _ _ => rfl)) pe_int (fun _ _ => rfl)) (pe_ix (r := rIxT K) ix_tup (pe_ix (r := rIxL K) ix_list (pv 4) pe_int (fun _ _ => rfl)) pe_int (fun _ _ => rfl)) (nomark _)) (pw_or1 (pt_cmpR op_gt (pe_callB call_abs (by rfl) m_abs (by decide +kernel) (pa_cons (pe_op op_sub (pe_ix (r := rIxT K) ix_tup (pe_ix (r := rIxL K) ix_list (pv 4) pe_int (fun _ _ => rfl)) pe_int (fun _ _ => rfl)) (pe_ix (r := rIxT K) ix_tup (pe_ix (r := rIxL K) ix_list (pv 4) pe_int (fun _ _ => rfl)) pe_int (fun _ _ => rfl))) pa_nil)) pe_int (nomark _))))) (pss_one (ps_ret pe_bl)) pss_nil)
      (pss_cons (ps_if (pt_val (pe_callB (r := rAll K) (cr_all rfl) (by rfl) m_all (by decide +kernel) (pa_cons (pe_lc (own := [("_law_part_here", 8)]) (g := gName 8)  rfl sc__law_rounds_right.nd  (pi_list (pv 0)) (blkOk_by (own := [("_law_part_here", 8)]) (N := ["_law_train_here", "_law_one", "_law_other", "_law_often", "_law_told", "_law_ahead", "_law_around", "_law_row_here", "_law_part_here", "_law_each"]) (sc := defScope S__law_rounds_right) (by decide +kernel)) (fun _ _ _ _ _ => pg_name (i := 8) sc__law_rounds_right.nd rfl (Or.inl rfl)) (fun _ _ _ _ _ => pts_nil) (fun _ _ _ _ _ => (pe_cmpR op_eq (pe_ix (r := rIxT K) ix_tup (pv 8) pe_int (fun _ _ => rfl)) pe_str (nomark _)))) pa_nil))) (pss_one (ps_if (PW.pt (pw_or (pt_cmpR op_ne (pe_ix (r := rIxT K) ix_tup (pe_ix (r := rIxL K) ix_list (pv 4) pe_int (fun _ _ => rfl)) pe_int (fun _ _ => rfl)) pe_int (nomark _)) (pw_or (pt_cmpR op_ne (pe_ix (r := rIxT K) ix_tup (pe_ix (r := rIxL K) ix_list (pv 4) pe_int (fun _ _ => rfl)) pe_int (fun _ _ => rfl)) pe_int (nomark _)) (pw_or1 (pt_cmpR (r := rNeD K) (op_neD hr.units) (pe_call G_rows_alike (hr.mono (by decide)) (by rfl) g_rows_alike F_rows_alike.kp b_rows_alike .nil pass0 (pa_cons (pv 0) (pa_cons (pe_op op_cat (pv 1) (pv 2)) (pa_cons (pe_op op_cat (pv 2) (pv 1)) pa_nil)))) (pe_tup (pa_cons pe_str pa_nil)) (nomark _)))))) (pss_one (ps_ret pe_bl)) pss_nil)) pss_nil)
      (pss_cons (ps_asg (pe_ix (r := rIxL K) ix_list (pv 4) pe_int (fun _ _ => rfl)) (pg_tup rfl (pgs_cons (pg_name (i := 5) sc__law_rounds_right.nd rfl (.inl rfl)) (pgs_cons (pg_name (i := 6) sc__law_rounds_right.nd rfl (.inl rfl)) pgs_nil))))
      (pss_one (ps_ret (pe_cmpR (r := rEqD K) (op_eqD hr.units) (pe_ix (r := rIxL K) ix_list (pv 4) pe_int (fun _ _ => rfl)) (pe_tup (pa_cons (pe_op op_sub pe_int (pe_op op_fdivW (pe_op op_sub pe_int (pv 5)) (pv 3))) (pa_cons (pe_op op_fdivW (pv 6) (pe_call G__law_common (hr.mono (by decide)) (by rfl) g__law_common F__law_common.kp b__law_common .nil pass0 (pa_cons (pv 6) (pa_cons (pv 3) pa_nil)))) pa_nil))) (nomark _))))))))), ?_⟩
    refine w_st (σ' := [some (.ref a), some (.ref b), some (.ref c), some (.int (n : Int)), none, none, none, none, none, none]) rfl ?_
    have ab : ∀ {o e : List Deed}, (∀ d ∈ o, d.ok ps.length ∧ d.t < 2 ^ 200) → (∀ d ∈ e, d.ok ps.length ∧ d.t < 2 ^ 200) → ∀ d ∈ o ++ e, d.ok ps.length ∧ d.t < 2 ^ 200 := fun h1 h2 d hd => (List.mem_append.mp hd).elim (h1 d) (h2 d)
    walk_at "ct"
    refine w_catR hb hc (by omega) fun k1 H1 s1 nk1 hk1 => ?_
    walk_at "ct"
    refine w_catR (hc.same s1) (hb.same s1) (by omega) fun k2 H2 s2 nk2 hk2 => ?_
    have s12 := s1.trans s2
    walk_at "ct"
    obtain ⟨vb, hvb, dvb⟩ := hb.same s12
    have vbl : vb.length = one.length := by rw [dpAll_len dvb, List.length_map]
    have vbn : vb.length * n ≤ 15 := Nat.le_trans (Nat.mul_le_mul (show vb.length ≤ 3 by omega) n5) (by decide)
    refine ⟨b, (n : Int), vb, rfl, rfl, hvb, by omega, by omega, by rw [Int.toNat_natCast]; exact Nat.le_trans vbn (by decide), fun k3 nk3 => ?_⟩
    rw [Int.toNat_natCast]
    have s3 : Same H2 (upd H2 k3 (.lst (List.replicate n vb).flatten)) := same_upd nk3
    have hk3 : RowL K (upd H2 k3 (.lst (List.replicate n vb).flatten)) k3 (repD n one) := ⟨_, upd_same, dpAll_same s3 (dp_rep dvb n)⟩
    generalize upd H2 k3 _ = H3 at *
    have s13 := s12.trans s3
    walk_at "ct"
    refine ⟨len2 rfl, fun l nl => ?_⟩
    have s4 : Same H3 (upd H3 l (.lst [.ref k1, .ref k2, .ref b, .ref k3])) := same_upd nl
    have hl : (upd H3 l (.lst [.ref k1, .ref k2, .ref b, .ref k3])) l = some (.lst [.ref k1, .ref k2, .ref b, .ref k3]) := upd_same
    generalize upd H3 l _ = H4 at *
    have s14 := s13.trans s4
    have or : ∀ d ∈ repD n one, d.ok ps.length ∧ d.t < 2 ^ 200 := fun d hd => ob d (repD_mem hd)
    have rl : (repD n one).length ≤ 15 := by rw [repD_len, Nat.mul_comm]; exact Nat.le_trans (Nat.mul_le_mul lb n5) (by decide)
    have rows : ∀ (i : Nat) (v : V), [V.ref k1, .ref k2, .ref b, .ref k3][i]? = some v → ∃ (g : Addr) (ds : List Deed), v = .ref g ∧ RowL K H4 g ds ∧ (∀ d ∈ ds, d.ok ps.length ∧ d.t < 2 ^ 200) ∧ [one ++ other, other ++ one, one, repD n one][i]? = some ds := fun i v hv => by
      match i, hv with
      | 0, hv => cases hv; exact ⟨k1, _, rfl, hk1.same ((s2.trans s3).trans s4), ab ob oc, rfl⟩
      | 1, hv => cases hv; exact ⟨k2, _, rfl, hk2.same (s3.trans s4), ab oc ob, rfl⟩
      | 2, hv => cases hv; exact ⟨b, _, rfl, hb.same s14, ob, rfl⟩
      | 3, hv => cases hv; exact ⟨k3, _, rfl, hk3.same s4, or, rfl⟩
    walk_at "ct"
    refine w_IL (.of hl) ?_
    refine lb_list [V.ref k1, .ref k2, .ref b, .ref k3] (fun A i G => ∃ (ws : List V) (rs : List (Nat × Nat)), Same H4 G ∧ G A = some (.lst ws) ∧ TpAll G ws (rs.map rndL) ∧ rs.length = i ∧ ∀ (k : Nat) (p : Nat × Nat) (ds : List Deed), rs[k]? = some p → [one ++ other, other ++ one, one, repD n one][k]? = some ds → RndOf ps ds p) (fun A nA => ⟨[], [], same_upd nA, upd_same, .nil, rfl, (fun _ _ _ h => nomatch h)⟩) (fun A nA i G _ h => by obtain ⟨ws, rs, sm, _⟩ := h; exact .of (sm _ _ hl)) ?_ ?_
    · rintro A nA i v G hv ⟨ws, rs, sm, hA, hws, rl', all⟩
      obtain ⟨g, ds, rfl, hg, ods, hi⟩ := rows i v hv
      have i4 : i < 4 := (List.getElem?_eq_some_iff.mp hv).1
      have wl : ws.length = i := by rw [tp_len hws, List.length_map, rl']
      walk_at "ct"
      refine ⟨rfl, ?_⟩
      walk_at "ct"
      have sG := s14.trans sm
      refine ⟨a, g, ps, ds, rfl, hT.same sG, hok, l1, by omega, by omega, (hg.same sm).at, ods, fun x L t G2 t2 hx hL ht => ?_⟩
      have hA2 := t2 _ _ hA
      refine ⟨ws, hA2, small1000 (by omega), ws ++ [.ref t], rs ++ [(x, L)], same_new (sm.trans t2) nA, upd_same, ?_, by rw [List.length_append, rl']; rfl, fun k p es hk he => ?_⟩
      · rw [List.map_append]
        refine tp_app (tp_upd hA2 (tp_same t2 hws)) (.cons ?_ .nil)
        rw [upd_ne (ne_of ht hA2 (fun z => nomatch z))]
        exact ht
      · rcases Nat.lt_or_ge k rs.length with lt | ge
        · rw [List.getElem?_append_left lt] at hk
          exact all k p es hk he
        · rw [List.getElem?_append_right ge] at hk
          have k0 : k = i := by
            have := (List.getElem?_eq_some_iff.mp hk).1
            have e1 : [(x, L)].length = 1 := rfl
            omega
          subst k0
          rw [rl', Nat.sub_self] at hk
          cases hk
          cases Option.some.inj (hi.symm.trans he)
          exact ⟨hx, hL⟩
    rintro A nA H5 ⟨ws, rs, s5, hA, hws, rsl, all⟩
    have s15 := s14.trans s5
    clear hk1 hk2 hk3 hl rows hvb dvb
    match rs, rsl, hws, all with
    | [(x0, L0), (x1, L1), (x2, L2), (x3, L3)], _, hws, all =>
      have r0 := all 0 _ _ rfl rfl
      have r1 := all 1 _ _ rfl rfl
      have r2 := all 2 _ _ rfl rfl
      have r3 := all 3 _ _ rfl rfl
      clear all
      have okd : ∀ {o : List Deed}, (∀ d ∈ o, d.ok ps.length ∧ d.t < 2 ^ 200) → ∀ d ∈ o, d.ok ps.length := fun h d hd => (h d hd).1
      have eL : L0 = L1 := rounds_about hok (okd ob) (okd oc) r0.2 r1.2
      have a01 := aheads_about hok (okd ob) r0.1 r1.1
      have a10 := aheads_about hok (okd oc) r1.1 r0.1
      have b0 := ahead_60 hok (okd (ab ob oc)) r0.1
      have b1 := ahead_60 hok (okd (ab oc ob)) r1.1
      have b2 := ahead_60 hok (okd ob) r2.1
      have e3 : x3 = ups x2 n := by
        have h3 := r3.1
        rw [fR_rep] at h3
        exact ahead_fun h3 (ahead_mul n1 r2.1)
      have f3 : L3 = L2 / Nat.gcd L2 n := by
        have h3 := r3.2
        rw [fR_rep] at h3
        exact turns_fun h3 (turns_mul n1 r2.2)
      have L20 := r2.2.1
      have L30 := r3.2.1
      have L10 := r1.2.1
      obtain ⟨g0, g1, g2, g3, rfl, h0, h1, h2, h3⟩ : ∃ g0 g1 g2 g3 : Addr, ws = [.ref g0, .ref g1, .ref g2, .ref g3] ∧ H5 g0 = some (.tup [.int (x0 : Int), .int (L0 : Int)]) ∧ H5 g1 = some (.tup [.int (x1 : Int), .int (L1 : Int)]) ∧ H5 g2 = some (.tup [.int (x2 : Int), .int (L2 : Int)]) ∧ H5 g3 = some (.tup [.int (x3 : Int), .int (L3 : Int)]) := by
        cases hws with
        | cons c0 hws =>
          cases hws with
          | cons c1 hws =>
            cases hws with
            | cons c2 hws =>
              cases hws with
              | cons c3 hws =>
                cases hws
                exact ⟨_, _, _, _, rfl, c0, c1, c2, c3⟩
      walk_at "ct"
      refine w_IL (.of hA) ?_
      have each : ∀ (i : Nat) (v : V), [V.ref g0, .ref g1, .ref g2, .ref g3][i]? = some v → ∃ (g : Addr) (x L : Nat), v = .ref g ∧ H5 g = some (.tup [.int (x : Int), .int (L : Int)]) ∧ 0 < L := fun i v hv => by
        match i, hv with
        | 0, hv => cases hv; exact ⟨g0, _, _, rfl, h0, by omega⟩
        | 1, hv => cases hv; exact ⟨g1, _, _, rfl, h1, L10⟩
        | 2, hv => cases hv; exact ⟨g2, _, _, rfl, h2, L20⟩
        | 3, hv => cases hv; exact ⟨g3, _, _, rfl, h3, L30⟩
      refine lb_list [V.ref g0, .ref g1, .ref g2, .ref g3] (fun B i G => Same H5 G ∧ G B = some (.lst ((List.replicate i true).map V.bl))) (fun B nB => ⟨same_upd nB, upd_same⟩) (fun B nB i G _ h => .of (h.1 _ _ hA)) ?_ ?_
      · rintro B nB i v G hv ⟨sm, hB⟩
        obtain ⟨g, x, L, rfl, hg, L0'⟩ := each i v hv
        have i4 : i < 4 := (List.getElem?_eq_some_iff.mp hv).1
        walk_at "ct"
        refine ⟨rfl, ?_⟩
        walk_at "ct"
        refine ⟨g, x, L, rfl, .of (sm _ _ hg), L0', fun G2 t2 => ?_⟩
        have hB2 := t2 _ _ hB
        refine ⟨_, hB2, by rw [List.length_map, List.length_replicate]; exact small1000 (by omega), same_new (sm.trans t2) nB, ?_⟩
        rw [upd_same, List.replicate_succ', List.map_append]
        rfl
      rintro B nB H6 ⟨s6, hB⟩
      have s16 := s15.trans s6
      walk_at "ct"
      refine ⟨B, List.replicate 4 true, rfl, .of hB, ?_⟩
      rw [bools_all]
      walk_at "ct"
      have v0 : SqT K H6 g0 [.int (x0 : Int), .int (L0 : Int)] := .of (s6 _ _ h0)
      have v1 : SqT K H6 g1 [.int (x1 : Int), .int (L1 : Int)] := .of (s6 _ _ h1)
      have v2 : SqT K H6 g2 [.int (x2 : Int), .int (L2 : Int)] := .of (s6 _ _ h2)
      have v3 : SqT K H6 g3 [.int (x3 : Int), .int (L3 : Int)] := .of (s6 _ _ h3)
      have hA6 := s6 _ _ hA
      refine w_ixL (.of hA6) at0 ?_
      walk_at "ct"
      refine w_ixL (.of hA6) at1 ?_
      walk_at "ct"
      refine w_iteN (fun z => absurd (by omega) z) (fun _ => ?_)
      walk_at "ct"
      refine w_ixL (.of hA6) at0 ?_
      walk_at "ct"
      refine w_ixL (.of hA6) at1 ?_
      walk_at "ct"
      refine ⟨_, rfl, ?_⟩
      walk_at "ct"
      refine w_ite (fun z => absurd z (by split <;> omega)) (fun _ => ?_)
      refine w_next ?_
      with_reducible refine w_join (fun σ G => ∃ z8 z9, σ = [some (.ref a), some (.ref b), some (.ref c), some (.int (n : Int)), some (.ref A), none, none, none, z8, z9] ∧ Same H6 G) ?_ ?_
      rotate_left
      · intro N hN
        walk_at "ct"
        obtain ⟨tv, htv, dtv⟩ := hT.same s16
        have tvl : tv.length = ps.length := by rw [dpAll_len dtv, List.length_map]
        refine w_IL htv ?_
        refine lb_list tv (fun B i G => Same H6 G ∧ G B = some (.lst (((ps.take i).map isWh).map V.bl))) (fun B nB => ⟨same_upd nB, by rw [List.take_zero]; exact upd_same⟩) (fun B nB i G _ h => h.1.seq htv) ?_ ?_
        · rintro B nB i v G hv ⟨sm, hB⟩
          have hi : i < tv.length := (List.getElem?_eq_some_iff.mp hv).1
          obtain ⟨p, hp⟩ : ∃ p, ps[i]? = some p := ⟨_, List.getElem?_eq_getElem (by omega)⟩
          obtain ⟨v', hv', hdp⟩ := dpAll_get (dpAll_same sm dtv) (i := i) (d := p.data) (by rw [List.getElem?_map, hp]; rfl)
          cases Option.some.inj (hv.symm.trans hv')
          walk_at "ct"
          refine ⟨rfl, ?_⟩
          walk_at "ct"
          have fin : ∃ acc, G B = some (.lst acc) ∧ acc.length < sizeLine ∧ Same H6 (upd G B (.lst (acc ++ [V.bl (isWh p)]))) ∧ (upd G B (.lst (acc ++ [V.bl (isWh p)]))) B = some (.lst (((ps.take (i + 1)).map isWh).map V.bl)) := by
            refine ⟨_, hB, by rw [List.length_map, List.length_map, List.length_take]; exact small1000 (by omega), same_new sm nB, ?_⟩
            rw [upd_same, List.take_add_one, hp, List.map_append, List.map_append]
            rfl
          cases p with
          | wheel z ms =>
            obtain ⟨g, m, rfl, hg, hm⟩ := wheel_inv hdp
            walk_at "ct"
            exact fin
          | click =>
            obtain ⟨g, rfl, hg⟩ := click_inv hdp
            walk_at "ct"
            exact fin
          | rocker =>
            obtain ⟨g, rfl, hg⟩ := rocker_inv hdp
            walk_at "ct"
            exact fin
          | spring z =>
            obtain ⟨g, rfl, hg⟩ := spring_inv hdp
            walk_at "ct"
            exact fin
        rintro B nB H7 ⟨s7, hB7⟩
        rw [List.take_of_length_le (by omega)] at hB7
        walk_at "ct"
        refine ⟨B, ps.map isWh, rfl, .of hB7, ?_⟩
        walk_at "ct"
        have s17 := s16.trans s7
        cases wh : (ps.map isWh).all id with
        | false =>
          walk_at "ct"
          exact hN _ _ ⟨_, _, rfl, s7⟩
        | true =>
          have hw : Wheels ps := fun p hp => by
            have := List.all_eq_true.mp wh (isWh p) (List.mem_map.mpr ⟨p, hp, rfl⟩)
            exact this
          have z0 := wheels_ahead hok hw (okd (ab ob oc)) r0.1
          have z2 := wheels_ahead hok hw (okd ob) r2.1
          have hA7 := s7 _ _ hA6
          walk_at "ct"
          refine w_ixL (.of hA7) at0 ?_
          walk_at "ct"
          refine w_ixT (Same.tup s7 v0) at0 ?_
          walk_at "ct"
          refine w_iteN (fun z => absurd (by omega) z) (fun _ => ?_)
          walk_at "ct"
          refine w_ixL (.of hA7) at2 ?_
          walk_at "ct"
          refine w_ixT (Same.tup s7 v2) at0 ?_
          walk_at "ct"
          refine w_iteN (fun z => absurd (by omega) z) (fun _ => ?_)
          walk_at "ct"
          refine w_catR (hb.same s17) (hc.same s17) (by omega) fun p1 H8 s8 np1 hp1 => ?_
          walk_at "ct"
          refine w_catR ((hc.same s17).same s8) ((hb.same s17).same s8) (by omega) fun p2 H9 s9 np2 hp2 => ?_
          have s19 := (s17.trans s8).trans s9
          walk_at "ct"
          refine ⟨a, p1, p2, ps, one ++ other, other ++ one, rfl, hT.same s19, hok, l1, by omega, by omega, (hp1.same s9).at, hp2.at, ab ob oc, ab oc ob, by rw [List.length_append]; omega, by rw [List.length_append]; omega, fun t H10 s10 ht => ?_⟩
          have none1 : fa ps 0 (one ++ other) (other ++ one) = none := by
            rw [fa_spec ps 0 _ _ hok (by rw [Nat.zero_add]; exact deeds_ok (ab ob oc)) (by rw [Nat.zero_add]; exact deeds_ok (ab oc ob))]
            exact all_alike fun xs hx => wheels_about hw ((allS_mem hok xs).mp hx) (okd ob) (okd oc)
          rw [none1] at ht
          walk_at "ct"
          refine ⟨len2 rfl, fun e ne => ?_⟩
          have s11 : Same H10 (upd H10 e (.tup [.str "alike"])) := same_upd ne
          have he : Dp K (upd H10 e (.tup [.str "alike"])) (.ref e) (told none) := .tup (.of upd_same) (.cons (.str _) .nil)
          generalize upd H10 e _ = H11 at *
          refine w_neSame (told none) (dp_same s11 ht) he (lay_saysO none) (by decide) ?_
          walk_at "ct"
          exact hN _ _ ⟨_, _, rfl, (((s7.trans s8).trans s9).trans s10).trans s11⟩
      · rintro σ G ⟨z8, z9, rfl, sG⟩
        have hAG := sG _ _ hA6
        have vG2 := Same.tup sG v2
        have vG3 := Same.tup sG v3
        walk_at "ct"
        refine w_ixL (.of hAG) at2 ?_
        refine w_gtup vG2 rfl ?_
        walk_at "ct"
        refine w_ixL (.of hAG) rfl ?_
        walk_at "ct"
        refine w_rI (div_ok (by omega) (by omega)) ?_
        walk_at "ct"
        rw [ups_int n1 n5]
        refine ⟨L2, n, rfl, fun G2 t2 => ?_⟩
        walk_at "ct"
        have g0 : 0 < Nat.gcd L2 n := Nat.gcd_pos_of_pos_left n L20
        have gn : Nat.gcd L2 n ≤ n := Nat.le_of_dvd n1 (Nat.gcd_dvd_right L2 n)
        refine w_rIv (.int ((L2 / Nat.gcd L2 n : Nat) : Int)) (div_ok (by omega) (by omega)) (congrArg V.int (Int.natCast_ediv _ _).symm) ?_
        walk_at "ct"
        refine ⟨len2 rfl, fun e ne => ?_⟩
        rw [← e3, ← f3]
        have s11 : Same G2 (upd G2 e (.tup [.int (x3 : Int), .int (L3 : Int)])) := same_upd ne
        exact w_eqSame (.tuple [.int x3, .int L3]) (.tup (Same.tup (t2.trans s11) vG3) (.cons (.int _) (.cons (.int _) .nil))) (.tup (.of upd_same) (.cons (.int _) (.cons (.int _) .nil))) (lay_tup (lay_ints [(x3 : Int), (L3 : Int)] 0)) (by decide) (q _ (((s16.trans sG).trans t2).trans s11))
abbrev S__law_often_right : Stmt := topS 50
theorem sc__law_often_right : FnScope ["_law_train_here", "_law_stand", "_law_one", "_law_other", "_law_counts", "_law_many_here", "_law_more", "_law_often", "_law_ahead", "_law_around", "_law_here", "_law_first", "_law_there", "_law_then", "_law_end", "_law_last"] ["_law_train_here", "_law_stand", "_law_one", "_law_other", "_law_counts"] (defScope S__law_often_right) := ⟨rfl, rfl, rfl, by decide +kernel, rfl, by decide +kernel, by decide +kernel⟩
def sp__law_often_right (K : PySem.W.Frag) : Sp := fun vs H Q _ => ∃ (a t b c k : Addr) (ps : List Part) (xs : List Int) (one other : List Deed) (m r n : Nat), vs = [.ref a, .ref t, .ref b, .ref c, .ref k] ∧ TrainAt K H a ps ∧ (∀ p ∈ ps, p.ok) ∧ 1 ≤ ps.length ∧ ps.length ≤ 4 ∧ stands ps ≤ 200 ∧ StandL ps xs ∧ H t = some (.tup (xs.map V.int)) ∧ RowL K H b one ∧ RowL K H c other ∧ (∀ d ∈ one, d.ok ps.length ∧ d.t < 2 ^ 200) ∧ (∀ d ∈ other, d.ok ps.length ∧ d.t < 2 ^ 200) ∧ one.length ≤ 3 ∧ other.length ≤ 3 ∧ H k = some (.tup [.int (m : Int), .int (r : Int), .int (n : Int)]) ∧ m < 10 ^ 38 ∧ r < 10 ^ 38 ∧ 1 ≤ n ∧ n ≤ 5 ∧ ∀ H', Same H H' → Q (.bl true) H'
theorem ok__law_often_right {f : Addr} {fd : FuncData} {f_left_often : Addr} {fd_left_often : FuncData} {f_left : Addr} {fd_left : FuncData} {f_row_round : Addr} {fd_row_round : FuncData} (F : Fun K "_law_often_right" "_law_often_right" S__law_often_right f fd)
    (F_left_often : Fun K "left_often" "left_often" S_left_often f_left_often fd_left_often) (b_left_often : Binds K fd_left_often ["train", "stand", "row", "times"] []) (g_left_often : mg "left_often" = some (.ref f_left_often)) (G_left_often : FnOk P w K mg base CX0 6 f_left_often fd_left_often ["train", "stand", "row", "times"] (sp_left_often K))
    (F_left : Fun K "left" "left" S_left f_left fd_left) (b_left : Binds K fd_left ["train", "stand", "row"] []) (g_left : mg "left" = some (.ref f_left)) (G_left : FnOk P w K mg base CX0 6 f_left fd_left ["train", "stand", "row"] (sp_left K))
    (F_row_round : Fun K "row_round" "row_round" S_row_round f_row_round fd_row_round) (b_row_round : Binds K fd_row_round ["train", "row"] []) (g_row_round : mg "row_round" = some (.ref f_row_round)) (G_row_round : FnOk P w K mg base CX0 6 f_row_round fd_row_round ["train", "row"] (sp_row_round K)) :
    FnOk P w K mg base CX0 7 f fd ["_law_train_here", "_law_stand", "_law_one", "_law_other", "_law_counts"] (sp__law_often_right K) := by
  refine F.ok sc__law_often_right (fun vs H Q E h => ?_) (fun cdv A outer s H vs Q E hr h => ?_)
  ·
    obtain ⟨a, t, b, c, k, ps, xs, one, other, m, r, n, rfl, _⟩ := h
    rfl
  ·
    obtain ⟨a, t, b, c, k, ps, xs, one, other, m, r, n, rfl, hT, hok, l1, l4, few, hst, ht, hb, hc, ob, oc, lb, lc, hk, hm, hr', n1, n5, q⟩ := h
    refine ⟨_, (pss_cons (ps_asg (pv 4) (pg_tup rfl (pgs_cons (pg_name (i := 5) sc__law_often_right.nd rfl (.inl rfl)) (pgs_cons (pg_name (i := 6) sc__law_often_right.nd rfl (.inl rfl)) (pgs_cons (pg_name (i := 7) sc__law_often_right.nd rfl (.inl rfl)) pgs_nil)))))
      (pss_cons (ps_asg (pe_call G_row_round (hr.mono (by decide)) (by rfl) g_row_round F_row_round.kp b_row_round .nil pass0 (pa_cons (pv 0) (pa_cons (pv 2) pa_nil))) (pg_tup rfl (pgs_cons (pg_name (i := 8) sc__law_often_right.nd rfl (.inl rfl)) (pgs_cons (pg_name (i := 9) sc__law_often_right.nd rfl (.inl rfl)) pgs_nil))))
      (pss_cons (ps_if (pt_cmpR op_lt (pv 9) (pe_op op_powB pe_int pe_int) (nomark _)) (pss_one (ps_if (pt_cmpR (r := rNeD K) (op_neD hr.units) (pe_ix (r := rIxT K) ix_tup (pe_call G_left_often (hr.mono (by decide)) (by rfl) g_left_often F_left_often.kp b_left_often .nil pass0 (pa_cons (pv 0) (pa_cons (pv 1) (pa_cons (pv 2) (pa_cons (pe_op op_add (pv 8) (pv 9)) pa_nil))))) pe_int (fun _ _ => rfl)) (pe_ix (r := rIxT K) ix_tup (pe_call G_left_often (hr.mono (by decide)) (by rfl) g_left_often F_left_often.kp b_left_often .nil pass0 (pa_cons (pv 0) (pa_cons (pv 1) (pa_cons (pv 2) (pa_cons (pv 8) pa_nil))))) pe_int (fun _ _ => rfl)) (nomark _)) (pss_one (ps_ret pe_bl)) pss_nil)) pss_nil)
      (pss_cons (ps_asg (pe_call G_left (hr.mono (by decide)) (by rfl) g_left F_left.kp b_left .nil pass0 (pa_cons (pv 0) (pa_cons (pv 1) (pa_cons (pv 2) pa_nil)))) (pg_tup rfl (pgs_cons (pg_name (i := 10) sc__law_often_right.nd rfl (.inl rfl)) (pgs_cons (pg_name (i := 11) sc__law_often_right.nd rfl (.inl rfl)) pgs_nil))))
      (pss_cons (ps_asg (pe_call G_left_often (hr.mono (by decide)) (by rfl) g_left_often F_left_often.kp b_left_often .nil pass0 (pa_cons (pv 0) (pa_cons (pv 10) (pa_cons (pe_op op_cat (pv 3) (pv 2)) (pa_cons (pv 5) pa_nil))))) (pg_tup rfl (pgs_cons (pg_name (i := 12) sc__law_often_right.nd rfl (.inl rfl)) (pgs_cons (pg_name (i := 13) sc__law_often_right.nd rfl (.inl rfl)) pgs_nil))))
      (pss_cons (ps_asg (pe_call G_left (hr.mono (by decide)) (by rfl) g_left F_left.kp b_left .nil pass0 (pa_cons (pv 0) (pa_cons (pv 12) (pa_cons (pv 3) pa_nil)))) (pg_tup rfl (pgs_cons (pg_name (i := 14) sc__law_often_right.nd rfl (.inl rfl)) (pgs_cons (pg_name (i := 15) sc__law_often_right.nd rfl (.inl rfl)) pgs_nil))))
      (pss_cons (ps_if (pt_cmpR (r := rNeD K) (op_neD hr.units) (pe_call G_left_often (hr.mono (by decide)) (by rfl) g_left_often F_left_often.kp b_left_often .nil pass0 (pa_cons (pv 0) (pa_cons (pv 1) (pa_cons (pe_op op_cat (pv 2) (pv 3)) (pa_cons (pe_op op_add (pv 5) pe_int) pa_nil))))) (pe_tup (pa_cons (pv 14) (pa_cons (pe_op op_add (pe_op op_add (pv 11) (pv 13)) (pv 15)) pa_nil))) (nomark _)) (pss_one (ps_ret pe_bl)) pss_nil)
      (pss_cons (ps_asg (pe_call G_left_often (hr.mono (by decide)) (by rfl) g_left_often F_left_often.kp b_left_often .nil pass0 (pa_cons (pv 0) (pa_cons (pv 1) (pa_cons (pv 2) (pa_cons (pv 6) pa_nil))))) (pg_tup rfl (pgs_cons (pg_name (i := 10) sc__law_often_right.nd rfl (.inl rfl)) (pgs_cons (pg_name (i := 11) sc__law_often_right.nd rfl (.inl rfl)) pgs_nil))))
      (pss_cons (ps_asg (pe_call G_left_often (hr.mono (by decide)) (by rfl) g_left_often F_left_often.kp b_left_often .nil pass0 (pa_cons (pv 0) (pa_cons (pv 10) (pa_cons (pv 2) (pa_cons (pv 5) pa_nil))))) (pg_tup rfl (pgs_cons (pg_name (i := 12) sc__law_often_right.nd rfl (.inl rfl)) (pgs_cons (pg_name (i := 13) sc__law_often_right.nd rfl (.inl rfl)) pgs_nil))))
      (pss_cons (ps_if (pt_cmpR (r := rNeD K) (op_neD hr.units) (pe_call G_left_often (hr.mono (by decide)) (by rfl) g_left_often F_left_often.kp b_left_often .nil pass0 (pa_cons (pv 0) (pa_cons (pv 1) (pa_cons (pv 2) (pa_cons (pe_op op_add (pv 6) (pv 5)) pa_nil))))) (pe_tup (pa_cons (pv 12) (pa_cons (pe_op op_add (pv 11) (pv 13)) pa_nil))) (nomark _)) (pss_one (ps_ret pe_bl)) pss_nil)
      (pss_one (ps_ret (pe_cmpR (r := rEqD K) (op_eqD hr.units) (pe_call G_left_often (hr.mono (by decide)) (by rfl) g_left_often F_left_often.kp b_left_often .nil pass0 (pa_cons (pv 0) (pa_cons (pv 1) (pa_cons (pe_op op_rep (pv 2) (pv 7)) (pa_cons (pv 5) pa_nil))))) (pe_call G_left_often (hr.mono (by decide)) (by rfl) g_left_often F_left_often.kp b_left_often .nil pass0 (pa_cons (pv 0) (pa_cons (pv 1) (pa_cons (pv 2) (pa_cons (pe_op op_mulW (pv 5) (pv 7)) pa_nil))))) (nomark _)))))))))))))), ?_⟩
    refine w_st (σ' := [some (.ref a), some (.ref t), some (.ref b), some (.ref c), some (.ref k), none, none, none, none, none, none, none, none, none, none, none]) rfl ?_
    have ab : ∀ {o e : List Deed}, (∀ d ∈ o, d.ok ps.length ∧ d.t < 2 ^ 200) → (∀ d ∈ e, d.ok ps.length ∧ d.t < 2 ^ 200) → ∀ d ∈ o ++ e, d.ok ps.length ∧ d.t < 2 ^ 200 := fun h1 h2 d hd => (List.mem_append.mp hd).elim (h1 d) (h2 d)
    have okd : ∀ {o : List Deed}, (∀ d ∈ o, d.ok ps.length ∧ d.t < 2 ^ 200) → ∀ d ∈ o, d.ok ps.length := fun h d hd => (h d hd).1
    walk_at "ct"
    refine w_gtup (.of hk) rfl ?_
    walk_at "ct"
    refine ⟨a, b, ps, one, rfl, hT, hok, l1, by omega, by omega, hb.at, ob, fun x L e H1 s1 hx hL he => ?_⟩
    have x60 := ahead_60 hok (okd ob) hx
    have L0 := hL.1
    walk_at "cq"
    refine w_gtup (.of he) rfl ?_
    walk_at "cq"
    with_reducible refine w_join (fun σ G => σ = [some (.ref a), some (.ref t), some (.ref b), some (.ref c), some (.ref k), some (.int (m : Int)), some (.int (r : Int)), some (.int (n : Int)), some (.int (x : Int)), some (.int (L : Int)), none, none, none, none, none, none] ∧ Same H G) ?_ ?_
    rotate_left
    · intro N hN
      walk_at "ct"
      obtain ⟨B, hB⟩ : ∃ B : Int, (10 : Int) ^ 30 = B := ⟨_, rfl⟩
      refine w_rIv (.int B) ⟨by decide, by decide⟩ (congrArg V.int hB) ?_
      walk_at "ct"
      refine w_ite (fun lt => ?_) (fun _ => ?_)
      · walk_at "ct"
        refine ⟨a, t, b, ps, xs, one, x + L, by rw [show ((x + L : Nat) : Int) = (x : Int) + (L : Int) by omega]; rfl, hT.same s1, hst, l1, by omega, by omega, s1 _ _ ht, (hb.same s1).at, by omega, ob, by omega, fun q1 u1 H2 s2 nq1 hu1 hq1 => ?_⟩
        have s12 := s1.trans s2
        walk_at "ct"
        refine w_ixT (.of hq1) at0 ?_
        walk_at "ct"
        refine ⟨a, t, b, ps, xs, one, x, rfl, hT.same s12, hst, l1, by omega, by omega, s12 _ _ ht, (hb.same s12).at, by omega, ob, by omega, fun q2 u2 H3 s3 nq2 hu2 hq2 => ?_⟩
        walk_at "ct"
        refine w_ixT (.of hq2) at0 ?_
        have rs := round_same (s := x) (q := 1) hok (okd ob) hx hL (Nat.le_refl _) xs ((allS_mem hok xs).mpr hst)
        rw [Nat.mul_one] at rs
        rw [itR_itf] at hu1 hu2
        rw [← rs] at hu1
        refine w_neSame (tupD _) (tupD_dp (.of (s3 _ _ hu1))) (tupD_dp (.of hu2)) (lay_tupD _) (by decide) ?_
        walk_at "ct"
        exact hN _ _ ⟨rfl, s12.trans s3⟩
      · walk_at "ct"
        exact hN _ _ ⟨rfl, s1⟩
    rintro σ G ⟨rfl, s2⟩
    clear he s1 hx hL x60 L0 hk
    walk_at "ct"
    refine ⟨a, t, b, ps, xs, one, rfl, hT.same s2, hst, l1, by omega, .of (s2 _ _ ht), (hb.same s2).at, ob, fun q1 u1 H3 s3 nu1 nq1 hu1 hq1 => ?_⟩
    refine w_gtup (.of hq1) rfl ?_
    have s13 := s2.trans s3
    have st1 : StandL ps (rowL ps one (xs, 0)).1 := rowL_stand (s := (xs, 0)) hst (okd ob)
    walk_at "ct"
    refine w_catR (hc.same s13) (hb.same s13) (by omega) fun k1 H4 s4 nk1 hk1 => ?_
    have s14 := s13.trans s4
    walk_at "ct"
    refine ⟨a, u1, k1, ps, (rowL ps one (xs, 0)).1, other ++ one, m, rfl, hT.same s14, st1, l1, by omega, by omega, s4 _ _ hu1, hk1.at, by rw [List.length_append]; omega, ab oc ob, by omega, fun q2 u2 H5 s5 nq2 hu2 hq2 => ?_⟩
    refine w_gtup (.of hq2) rfl ?_
    have s15 := s14.trans s5
    have st2 := itR_stand st1 (okd (ab oc ob)) m
    walk_at "ct"
    refine ⟨a, u2, c, ps, _, other, rfl, hT.same s15, st2, l1, by omega, .of hu2, (hc.same s15).at, oc, fun q3 u3 H6 s6 nu3 nq3 hu3 hq3 => ?_⟩
    refine w_gtup (.of hq3) rfl ?_
    have s16 := s15.trans s6
    walk_at "ct"
    refine w_catR (hb.same s16) (hc.same s16) (by omega) fun k2 H7 s7 nk2 hk2 => ?_
    have s17 := s16.trans s7
    walk_at "ct"
    refine ⟨a, t, k2, ps, xs, one ++ other, m + 1, rfl, hT.same s17, hst, l1, by omega, by omega, s17 _ _ ht, hk2.at, by rw [List.length_append]; omega, ab ob oc, by omega, fun q4 u4 H8 s8 nq4 hu4 hq4 => ?_⟩
    have s18 := s17.trans s8
    walk_at "ct"
    refine ⟨len2 rfl, fun g ng => ?_⟩
    rw [itR_about] at hu4 hq4
    have s9 := same_upd (o := .tup [.ref u3, .int ((rowL ps one (xs, 0)).2 + (itR ps (other ++ one) m (rowL ps one (xs, 0)).1).2 + (rowL ps other ((itR ps (other ++ one) m (rowL ps one (xs, 0)).1).1, 0)).2)]) ng
    have hg : (upd H8 g (.tup [.ref u3, .int ((rowL ps one (xs, 0)).2 + (itR ps (other ++ one) m (rowL ps one (xs, 0)).1).2 + (rowL ps other ((itR ps (other ++ one) m (rowL ps one (xs, 0)).1).1, 0)).2)])) g = some (.tup [.ref u3, .int ((rowL ps one (xs, 0)).2 + (itR ps (other ++ one) m (rowL ps one (xs, 0)).1).2 + (rowL ps other ((itR ps (other ++ one) m (rowL ps one (xs, 0)).1).1, 0)).2)]) := upd_same
    generalize upd H8 g _ = H9 at *
    have s19 := s18.trans s9
    refine w_neSame _ (told_dp (.of (s9 _ _ hq4)) (.of (s9 _ _ hu4))) (told_dp (.of hg) (.of (((s7.trans s8).trans s9) _ _ hu3))) (lay_told _ _) (by decide) ?_
    walk_at "ct"
    clear hg hq4 hu4 hq3 hu3 hq2 hu2 hq1 hu1 hk1 hk2 st1 st2
    refine ⟨a, t, b, ps, xs, one, r, rfl, hT.same s19, hst, l1, by omega, by omega, s19 _ _ ht, (hb.same s19).at, by omega, ob, by omega, fun q5 u5 H10 s10 nq5 hu5 hq5 => ?_⟩
    refine w_gtup (.of hq5) rfl ?_
    have s20 := s19.trans s10
    have st5 := itR_stand hst (okd ob) r
    walk_at "ct"
    refine ⟨a, u5, b, ps, _, one, m, rfl, hT.same s20, st5, l1, by omega, by omega, hu5, (hb.same s20).at, by omega, ob, by omega, fun q6 u6 H11 s11 nq6 hu6 hq6 => ?_⟩
    refine w_gtup (.of hq6) rfl ?_
    have s21 := s20.trans s11
    walk_at "ct"
    refine ⟨a, t, b, ps, xs, one, r + m, by rw [show ((r + m : Nat) : Int) = (r : Int) + (m : Int) by omega]; rfl, hT.same s21, hst, l1, by omega, by omega, s21 _ _ ht, (hb.same s21).at, by omega, ob, by omega, fun q7 u7 H12 s12 nq7 hu7 hq7 => ?_⟩
    have s22 := s21.trans s12
    walk_at "ct"
    refine ⟨len2 rfl, fun g ng => ?_⟩
    rw [itR_add] at hu7 hq7
    have s13 := same_upd (o := .tup [.ref u6, .int ((itR ps one r xs).2 + (itR ps one m (itR ps one r xs).1).2)]) ng
    have hg : (upd H12 g (.tup [.ref u6, .int ((itR ps one r xs).2 + (itR ps one m (itR ps one r xs).1).2)])) g = some (.tup [.ref u6, .int ((itR ps one r xs).2 + (itR ps one m (itR ps one r xs).1).2)]) := upd_same
    generalize upd H12 g _ = H13 at *
    have s23 := s22.trans s13
    refine w_neSame _ (told_dp (.of (s13 _ _ hq7)) (.of (s13 _ _ hu7))) (told_dp (.of hg) (.of ((s12.trans s13) _ _ hu6))) (lay_told _ _) (by decide) ?_
    walk_at "ct"
    clear hg hq7 hu7 hq6 hu6 hq5 hu5 st5
    obtain ⟨vb, hvb, dvb⟩ := hb.same s23
    have vbl : vb.length = one.length := by rw [dpAll_len dvb, List.length_map]
    have vbn : vb.length * n ≤ 15 := Nat.le_trans (Nat.mul_le_mul (show vb.length ≤ 3 by omega) n5) (by decide)
    refine ⟨b, (n : Int), vb, rfl, rfl, hvb, by omega, by omega, by rw [Int.toNat_natCast]; exact Nat.le_trans vbn (by decide), fun k3 nk3 => ?_⟩
    rw [Int.toNat_natCast]
    have s24 : Same H13 (upd H13 k3 (.lst (List.replicate n vb).flatten)) := same_upd nk3
    have hk3 : RowL K (upd H13 k3 (.lst (List.replicate n vb).flatten)) k3 (repD n one) := ⟨_, upd_same, dpAll_same s24 (dp_rep dvb n)⟩
    generalize upd H13 k3 _ = H14 at *
    have s25 := s23.trans s24
    have or : ∀ d ∈ repD n one, d.ok ps.length ∧ d.t < 2 ^ 200 := fun d hd => ob d (repD_mem hd)
    have rl : (repD n one).length ≤ 15 := by rw [repD_len, Nat.mul_comm]; exact Nat.le_trans (Nat.mul_le_mul lb n5) (by decide)
    walk_at "ct"
    refine ⟨a, t, k3, ps, xs, repD n one, m, rfl, hT.same s25, hst, l1, by omega, by omega, s25 _ _ ht, hk3.at, by omega, or, by omega, fun q8 u8 H15 s15' nq8 hu8 hq8 => ?_⟩
    have s26 := s25.trans s15'
    walk_at "ct"
    have mn : m * n < 2 ^ 200 := Nat.lt_of_le_of_lt (Nat.mul_le_mul (Nat.le_of_lt hm) n5) (by decide)
    refine w_rIv (.int ((m * n : Nat) : Int)) (wide_mul (i := (m : Int)) (j := (n : Int)) (a := 200) (b := 10) (by omega) (by omega) (by decide) (by decide) (by decide)) (congrArg V.int (Int.natCast_mul m n).symm) ?_
    walk_at "ct"
    refine ⟨a, t, b, ps, xs, one, m * n, rfl, hT.same s26, hst, l1, by omega, by omega, s26 _ _ ht, (hb.same s26).at, by omega, ob, mn, fun q9 u9 H16 s16' nq9 hu9 hq9 => ?_⟩
    rw [itR_rep] at hu8 hq8
    exact w_eqSame _ (told_dp (.of (s16' _ _ hq8)) (.of (s16' _ _ hu8))) (told_dp (.of hq9) (.of hu9)) (lay_told _ _) (by decide) (q _ (s26.trans s16'))
abbrev S__law_behind_right : Stmt := topS 51
theorem sc__law_behind_right : FnScope ["_law_front", "_law_train_here", "_law_one", "_law_other", "_law_moved", "_law_row_here", "_law_due", "_law_i", "_law_way", "_law_times"] ["_law_front", "_law_train_here", "_law_one", "_law_other"] (defScope S__law_behind_right) := ⟨rfl, rfl, rfl, by decide +kernel, rfl, by decide +kernel, by decide +kernel⟩
def sp__law_behind_right (K : PySem.W.Frag) : Sp := fun vs H Q _ => ∃ (v : V) (a b c : Addr) (p : Part) (ps : List Part) (tv : List V) (one other : List Deed), vs = [v, .ref a, .ref b, .ref c] ∧ Dp K H v p.data ∧ p.ok ∧ H a = some (.lst tv) ∧ DpAll K H tv (ps.map Part.data) ∧ (∀ p ∈ ps, p.ok) ∧ 1 ≤ ps.length ∧ ps.length ≤ 4 ∧ stands ps ≤ 200 ∧ stands (p :: ps) ≤ 400 ∧ RowL K H b one ∧ RowL K H c other ∧ (∀ d ∈ one, d.ok ps.length ∧ d.t < 2 ^ 190) ∧ (∀ d ∈ other, d.ok ps.length ∧ d.t < 2 ^ 190) ∧ one.length ≤ 3 ∧ other.length ≤ 3 ∧ ∀ H', Same H H' → Q (.bl true) H'
theorem ok__law_behind_right {f : Addr} {fd : FuncData} {f_rows_alike : Addr} {fd_rows_alike : FuncData} {f_row_round : Addr} {fd_row_round : FuncData} (F : Fun K "_law_behind_right" "_law_behind_right" S__law_behind_right f fd)
    (F_rows_alike : Fun K "rows_alike" "rows_alike" S_rows_alike f_rows_alike fd_rows_alike) (b_rows_alike : Binds K fd_rows_alike ["train", "one", "other"] []) (g_rows_alike : mg "rows_alike" = some (.ref f_rows_alike)) (G_rows_alike : FnOk P w K mg base CX0 17 f_rows_alike fd_rows_alike ["train", "one", "other"] (sp_rows_alike K))
    (F_row_round : Fun K "row_round" "row_round" S_row_round f_row_round fd_row_round) (b_row_round : Binds K fd_row_round ["train", "row"] []) (g_row_round : mg "row_round" = some (.ref f_row_round)) (G_row_round : FnOk P w K mg base CX0 6 f_row_round fd_row_round ["train", "row"] (sp_row_round K)) :
    FnOk P w K mg base CX0 18 f fd ["_law_front", "_law_train_here", "_law_one", "_law_other"] (sp__law_behind_right K) := by
  refine F.ok sc__law_behind_right (fun vs H Q E h => ?_) (fun cdv A outer s H vs Q E hr h => ?_)
  ·
    obtain ⟨v, a, b, c, p, ps, tv, one, other, rfl, _⟩ := h
    rfl
  ·
    obtain ⟨v, a, b, c, p, ps, tv, one, other, rfl, hv, pok, ha, htv, hok, l1, l4, few, few2, hb, hc, ob', oc', lb, lc, q⟩ := h
    refine ⟨_, (pss_cons (ps_set (i := 4) sc__law_behind_right.nd rfl (.inl rfl) (pe_lst pa_nil))
      (pss_cons (ps_for PassesOwn.never rfl (pi_list (pe_lst (pa_cons (pv 2) (pa_cons (pv 3) pa_nil)))) (pg_name (i := 5) sc__law_behind_right.nd rfl (.inl rfl))
      (pss_one (ps_expr (pe_bm PySem.F.plainAttrs_list PySem.F.slot_list_append PySem.F.type_list_append mt_append (pv 4) (pa_cons (pe_lc (own := [("_law_i", 7), ("_law_way", 8), ("_law_times", 9)]) (g := gTup K 3 (gCons (gName 7) (gCons (gName 8) (gCons (gName 9) gNil))))  rfl sc__law_behind_right.nd  (pi_list (pv 5)) (blkOk_by (own := [("_law_i", 7), ("_law_way", 8), ("_law_times", 9)]) (N := ["_law_front", "_law_train_here", "_law_one", "_law_other", "_law_moved", "_law_row_here", "_law_due", "_law_i", "_law_way", "_law_times"]) (sc := defScope S__law_behind_right) (by decide +kernel)) (fun _ _ _ _ _ => pg_tup rfl (pgs_cons (pg_name (i := 7) sc__law_behind_right.nd rfl (Or.inl rfl)) (pgs_cons (pg_name (i := 8) sc__law_behind_right.nd rfl (Or.inl rfl)) (pgs_cons (pg_name (i := 9) sc__law_behind_right.nd rfl (Or.inl rfl)) pgs_nil)))) (fun _ _ _ _ _ => pts_nil) (fun _ _ _ _ _ => (pe_tup (pa_cons (pe_op op_add (pv 7) pe_int) (pa_cons (pv 8) (pa_cons (pv 9) pa_nil)))))) pa_nil)))))
      (pss_cons (ps_if (pt_cmpR (r := rNeD K) (op_neD hr.units) (pe_call G_row_round (hr.mono (by decide)) (by rfl) g_row_round F_row_round.kp b_row_round .nil pass0 (pa_cons (pe_op op_cat (pe_lst (pa_cons (pv 0) pa_nil)) (pv 1)) (pa_cons (pe_ix (r := rIxL K) ix_list (pv 4) pe_int (fun _ _ => rfl)) pa_nil))) (pe_call G_row_round (hr.mono (by decide)) (by rfl) g_row_round F_row_round.kp b_row_round .nil pass0 (pa_cons (pv 1) (pa_cons (pv 2) pa_nil))) (nomark _)) (pss_one (ps_ret pe_bl)) pss_nil)
      (pss_cons (ps_set (i := 6) sc__law_behind_right.nd rfl (.inl rfl) (pe_call G_rows_alike (hr.mono (by decide)) (by rfl) g_rows_alike F_rows_alike.kp b_rows_alike .nil pass0 (pa_cons (pv 1) (pa_cons (pv 2) (pa_cons (pv 3) pa_nil)))))
      (pss_cons (ps_if (pt_cmpR (r := rNeD K) (op_neD hr.units) (pv 6) (pe_tup (pa_cons pe_str pa_nil)) (nomark _)) (pss_one (ps_set (i := 6) sc__law_behind_right.nd rfl (.inl rfl) (pe_tup (pa_cons pe_str (pa_cons (pe_op (r := rCatA K) op_catA (pe_tup (pa_cons pe_int pa_nil)) (pe_ix (r := rIxT K) ix_tup (pv 6) pe_int (fun _ _ => rfl))) pa_nil))))) pss_nil)
      (pss_one (ps_ret (pe_cmpR (r := rEqD K) (op_eqD hr.units) (pe_call G_rows_alike (hr.mono (by decide)) (by rfl) g_rows_alike F_rows_alike.kp b_rows_alike .nil pass0 (pa_cons (pe_op op_cat (pe_lst (pa_cons (pv 0) pa_nil)) (pv 1)) (pa_cons (pe_ix (r := rIxL K) ix_list (pv 4) pe_int (fun _ _ => rfl)) (pa_cons (pe_ix (r := rIxL K) ix_list (pv 4) pe_int (fun _ _ => rfl)) pa_nil)))) (pv 6) (nomark _))))))))), ?_⟩
    refine w_st (σ' := [some v, some (.ref a), some (.ref b), some (.ref c), none, none, none, none, none, none]) rfl ?_
    have ob : ∀ d ∈ one, d.ok ps.length ∧ d.t < 2 ^ 200 := fun d hd => ⟨(ob' d hd).1, by have := (ob' d hd).2; omega⟩
    have oc : ∀ d ∈ other, d.ok ps.length ∧ d.t < 2 ^ 200 := fun d hd => ⟨(oc' d hd).1, by have := (oc' d hd).2; omega⟩
    have hok2 : ∀ q ∈ p :: ps, q.ok := fun q hq => (List.mem_cons.mp hq).elim (fun e => e ▸ pok) (hok q)
    have hT : TrainAt K H a ps := ⟨tv, .of ha, htv⟩
    have pl : (p :: ps).length = ps.length + 1 := rfl
    have ub := up_ok ob
    have uc := up_ok oc
    have tvl : tv.length = ps.length := by rw [dpAll_len htv, List.length_map]
    walk_at "ct"
    refine ⟨len2 rfl, fun l nl => ?_⟩
    have s1 : Same H (upd H l (.lst [])) := same_upd nl
    have hl : (upd H l (.lst [])) l = some (.lst []) := upd_same
    generalize upd H l _ = H1 at *
    walk_at "ct"
    refine ⟨len2 rfl, fun l2 nl2 => ?_⟩
    have s2 : Same H1 (upd H1 l2 (.lst [.ref b, .ref c])) := same_upd nl2
    have hl2 : (upd H1 l2 (.lst [.ref b, .ref c])) l2 = some (.lst [.ref b, .ref c]) := upd_same
    have hlm := s2 _ _ hl
    generalize upd H1 l2 _ = H2 at *
    have s12 := s1.trans s2
    have ll : l ≠ l2 := fun z => by rw [z, hl2] at hlm; cases hlm
    walk_at "ct"
    refine w_IL (.of hl2) ?_
    refine fb_list [.ref b, .ref c] (fun i σ G => ∃ (y5 : Option V) (us : List V) (rs : List (List Deed)), σ = [some v, some (.ref a), some (.ref b), some (.ref c), some (.ref l), y5, none, none, none, none] ∧ Same H G ∧ G l2 = some (.lst [.ref b, .ref c]) ∧ G l = some (.lst us) ∧ us.length = i ∧ (∀ (k : Nat) (u : V), us[k]? = some u → ∃ g ds, u = .ref g ∧ g ≠ l ∧ RowL K G g (ds.map Deed.up) ∧ [one, other][k]? = some ds)) ⟨none, [], [], rfl, s12, hl2, hlm, rfl, fun _ _ h => nomatch h⟩ ?_ ?_ ?_
    · rintro i σ G _ ⟨y5, us, rs, rfl, sm, h2, _⟩
      exact .of h2
    · rintro i x σ G hx ⟨y5, us, rs, rfl, sm, h2, hG, ul, all⟩
      have hi : i < 2 := (List.getElem?_eq_some_iff.mp hx).1
      obtain ⟨g, ds, rfl, ⟨dv, hdv, ddv⟩, dsl, ho⟩ : ∃ g ds, x = .ref g ∧ RowL K G g ds ∧ ds.length ≤ 3 ∧ [one, other][i]? = some ds := by
        match i, hx with
        | 0, hx => cases hx; exact ⟨b, one, rfl, hb.same sm, lb, rfl⟩
        | 1, hx => cases hx; exact ⟨c, other, rfl, hc.same sm, lc, rfl⟩
      have dvl : dv.length = ds.length := by rw [dpAll_len ddv, List.length_map]
      walk_at "ct"
      refine ⟨ty_list hG, ?_⟩
      walk_at "ct"
      refine w_IL (.of hdv) ?_
      refine lb_list dv (fun A j J => ∃ ws : List V, Same G J ∧ J A = some (.lst ws) ∧ DpAll K J ws (((ds.take j).map Deed.up).map Deed.data) ∧ ws.length = j) (fun A nA => ⟨[], same_upd nA, upd_same, by rw [List.take_zero]; exact .nil, rfl⟩) (fun A nA j J _ h => by obtain ⟨ws, sj, _⟩ := h; exact .of (sj _ _ hdv)) ?_ ?_
      · rintro A nA j w J hw ⟨ws, sj, hA, hws, wl⟩
        have hj : j < dv.length := (List.getElem?_eq_some_iff.mp hw).1
        obtain ⟨d, hdn⟩ : ∃ d, ds[j]? = some d := ⟨_, List.getElem?_eq_getElem (by omega)⟩
        obtain ⟨w', hw1, hd1⟩ := deed_get (dpAll_same sj ddv) hdn
        cases Option.some.inj (hw.symm.trans hw1)
        obtain ⟨e, rfl, he⟩ := deed_inv hd1
        refine w_gtup he rfl ?_
        walk_at "ct"
        refine ⟨rfl, ?_⟩
        walk_at "ct"
        refine ⟨len2 rfl, fun t nt => ?_⟩
        have u1 : Same J (upd J t (.tup [.int ((d.i : Int) + 1), .int d.w, .int (d.t : Int)])) := same_upd nt
        have ht : (upd J t (.tup [.int ((d.i : Int) + 1), .int d.w, .int (d.t : Int)])) t = some (.tup [.int ((d.i : Int) + 1), .int d.w, .int (d.t : Int)]) := upd_same
        have hA2 := u1 _ _ hA
        have hws2 := dpAll_same u1 hws
        generalize upd J t _ = J2 at *
        refine ⟨ws, hA2, small1000 (by omega), ws ++ [.ref t], same_new (sj.trans u1) nA, upd_same, ?_, by rw [List.length_append, wl]; rfl⟩
        rw [List.take_add_one, hdn, show (some d).toList = [d] from rfl, List.map_append, List.map_append]
        refine dpAll_app (deeds_upd hA2 _ hws2) (deeds_upd hA2 [d.up] (.cons (deed_dp (.of ?_)) .nil))
        rw [ht]
        show some (HO.tup [.int ((d.i : Int) + 1), .int d.w, .int (d.t : Int)]) = some (HO.tup [.int ((d.i + 1 : Nat) : Int), .int d.w, .int (d.t : Int)])
        rw [show ((d.i + 1 : Nat) : Int) = (d.i : Int) + 1 by omega]
      rintro A nA J ⟨ws, sj, hA, hws, wl⟩
      rw [List.take_of_length_le (by omega)] at hws
      walk_at "ct"
      have hJ := sj _ _ hG
      have lA : l ≠ A := fun z => by rw [← z, hG] at nA; cases nA
      refine w_append hJ (small1000 (by omega)) ?_
      walk_at "ct"
      have sH := sm.trans sj
      refine ⟨_, us ++ [.ref A], [], rfl, same_new sH nl, by rw [upd_ne ll.symm]; exact sj _ _ h2, upd_same, by rw [List.length_append, ul]; rfl, fun k u hu => ?_⟩
      have keep : ∀ {g : Addr} {es : List Deed}, g ≠ l → RowL K J g es → RowL K (upd J l (.lst (us ++ [.ref A]))) g es := fun {g es} ne h => by
        obtain ⟨ws, h1, h2⟩ := h
        exact ⟨ws, by rw [upd_ne ne]; exact h1, deeds_upd hJ _ h2⟩
      rcases Nat.lt_or_ge k us.length with lt | ge
      · rw [List.getElem?_append_left lt] at hu
        obtain ⟨g', es, rfl, ne, hr1, hr2⟩ := all k u hu
        exact ⟨g', es, rfl, ne, keep ne (hr1.same sj), hr2⟩
      · rw [List.getElem?_append_right ge] at hu
        have k0 : k = i := by
          have := (List.getElem?_eq_some_iff.mp hu).1
          have e1 : [V.ref A].length = 1 := rfl
          omega
        subst k0
        rw [ul, Nat.sub_self] at hu
        cases hu
        exact ⟨A, ds, rfl, lA.symm, keep lA.symm ⟨ws, hA, hws⟩, ho⟩
    · rintro σ G ⟨y5, us, rs, rfl, sm, h2, hG, ul, all⟩
      have ul2 : us.length = 2 := ul
      obtain ⟨m0, m1, rfl⟩ : ∃ m0 m1 : V, us = [m0, m1] := by
        match us, ul2 with
        | [m0, m1], _ => exact ⟨m0, m1, rfl⟩
      obtain ⟨g0, e0, rfl, _, hm0, he0⟩ := all 0 _ rfl
      obtain ⟨g1, e1, rfl, _, hm1, he1⟩ := all 1 _ rfl
      cases he0
      cases he1
      clear all hl hlm hl2 h2
      walk_at "ct"
      refine ⟨len2 rfl, fun f nf => ?_⟩
      have t1 : Same G (upd G f (.lst [v])) := same_upd nf
      have hf : (upd G f (.lst [v])) f = some (.lst [v]) := upd_same
      generalize upd G f _ = G1 at *
      have sG1 := sm.trans t1
      walk_at "ct"
      refine ⟨f, a, [v], tv, rfl, rfl, hf, sG1 _ _ ha, Nat.le_of_lt (small1000 (show 1 + tv.length ≤ 1000 by omega)), fun f2 nf2 => ?_⟩
      have t2 : Same G1 (upd G1 f2 (.lst ([v] ++ tv))) := same_upd nf2
      have hT2 : TrainAt K (upd G1 f2 (.lst ([v] ++ tv))) f2 (p :: ps) := ⟨_, .of upd_same, .cons (dp_same (sG1.trans t2) hv) (dpAll_same (sG1.trans t2) htv)⟩
      generalize upd G1 f2 _ = G2 at *
      have sG2 := sG1.trans t2
      have t12 := t1.trans t2
      walk_at "ct"
      refine w_ixL (.of (t12 _ _ hG)) at0 ?_
      walk_at "ct"
      refine ⟨f2, g0, p :: ps, one.map Deed.up, rfl, hT2, hok2, by omega, by omega, by omega, (hm0.same t12).at, ub, fun x L q1 G3 t3 hx hL hq1 => ?_⟩
      have sG3 := sG2.trans t3
      walk_at "ct"
      refine ⟨a, b, ps, one, rfl, hT.same sG3, hok, l1, by omega, by omega, (hb.same sG3).at, ob, fun x' L' q2 G4 t4 hx' hL' hq2 => ?_⟩
      have ex := ahead_fun hx (ahead_up pok hok hx')
      have eL := turns_fun hL (turns_up pok hok hL')
      subst ex eL
      have sG4 := sG3.trans t4
      refine w_neSame (.tuple [.int x, .int L]) (.tup (.of (t4 _ _ hq1)) (.cons (.int _) (.cons (.int _) .nil))) (.tup (.of hq2) (.cons (.int _) (.cons (.int _) .nil))) (lay_tup (lay_ints [(x : Int), (L : Int)] 0)) (by decide) ?_
      walk_at "ct"
      refine ⟨a, b, c, ps, one, other, rfl, hT.same sG4, hok, l1, by omega, by omega, (hb.same sG4).at, (hc.same sG4).at, ob, oc, by omega, by omega, fun q3 G5 t5 hq3 => ?_⟩
      have sG5 := sG4.trans t5
      have t25 := (t12.trans t3).trans (t4.trans t5)
      have faU := fa_up pok hok (by rw [Nat.zero_add]; exact deeds_ok ob) (by rw [Nat.zero_add]; exact deeds_ok oc) (by rw [Nat.zero_add]; exact deeds_ok ub) (by rw [Nat.zero_add]; exact deeds_ok uc)
      refine w_next ?_
      with_reducible refine w_join (fun σ J => ∃ (u : Addr), σ = [some v, some (.ref a), some (.ref b), some (.ref c), some (.ref l), y5, some (.ref u), none, none, none] ∧ Same G5 J ∧ Dp K J (.ref u) (told (fa (p :: ps) 0 (one.map Deed.up) (other.map Deed.up)))) ?_ ?_
      rotate_left
      · intro N hN
        walk_at "ct"
        refine ⟨len2 rfl, fun w nw => ?_⟩
        have t6 : Same G5 (upd G5 w (.tup [.str "alike"])) := same_upd nw
        have hw : Dp K (upd G5 w (.tup [.str "alike"])) (.ref w) (told none) := .tup (.of upd_same) (.cons (.str _) .nil)
        generalize upd G5 w _ = G6 at *
        cases hfa : fa ps 0 one other with
        | none =>
          rw [hfa] at faU hq3
          refine w_neSame (told none) (dp_same t6 hq3) hw (lay_saysO none) (by decide) ?_
          walk_at "ct"
          refine hN _ _ ⟨q3, rfl, t6, ?_⟩
          rw [faU]
          exact dp_same t6 hq3
        | some ys =>
          rw [hfa] at faU hq3
          have hq6 := dp_same t6 hq3
          refine ⟨_, _, hq6, hw, shaped_of (lay_saysO (some ys)) (by decide), shaped_of (lay_saysO none) (by decide), ?_⟩
          rw [show PyData.eqv (told (some ys)) (told none) = false from rfl]
          obtain ⟨g, hg1, hg2⟩ : ∃ g, SqT K G6 q3 [.str "apart", .ref g] ∧ SqT K G6 g (ys.map V.int) := by
            cases hq6 with
            | tup hs hall =>
              cases hall with
              | cons h1 hall =>
                cases hall with
                | cons h2 hall =>
                  cases hall
                  obtain ⟨g, rfl, hg⟩ := tupD_inv h2
                  cases h1
                  exact ⟨g, hs, hg⟩
          have yl : ys.length = ps.length := by
            have fs := fa_spec ps 0 one other hok (by rw [Nat.zero_add]; exact deeds_ok ob) (by rw [Nat.zero_add]; exact deeds_ok oc)
            rw [hfa] at fs
            exact allS_each ps ys (List.mem_of_find?_eq_some fs.symm)
          walk_at "ct"
          refine ⟨len2 rfl, fun z nz => ?_⟩
          have t7 : Same G6 (upd G6 z (.tup [.int 0])) := same_upd nz
          have hz : (upd G6 z (.tup [.int 0])) z = some (.tup [.int 0]) := upd_same
          generalize upd G6 z _ = G7 at *
          walk_at "ct"
          refine w_ixT (Same.tup t7 hg1) at1 ?_
          refine w_catA (.of hz) (Same.tup t7 hg2) (show 1 + (ys.map V.int).length ≤ 1000 by rw [List.length_map]; omega) fun z2 G8 t8 hz2 => ?_
          walk_at "ct"
          refine ⟨len2 rfl, fun z3 nz3 => ?_⟩
          have t9 : Same G8 (upd G8 z3 (.tup [.str "apart", .ref z2])) := same_upd nz3
          have hz3 : Dp K (upd G8 z3 (.tup [.str "apart", .ref z2])) (.ref z3) (told (some (0 :: ys))) := .tup (.of upd_same) (.cons (.str _) (.cons (tupD_dp (Same.tup t9 hz2)) .nil))
          generalize upd G8 z3 _ = G9 at *
          walk_at "ct"
          refine hN _ _ ⟨z3, rfl, (t6.trans t7).trans (t8.trans t9), ?_⟩
          rw [faU]
          exact hz3
      · rintro σ J ⟨u, rfl, t6, hu⟩
        have t26 := t25.trans t6
        have sJ := sG5.trans t6
        walk_at "ct"
        refine ⟨len2 rfl, fun f3 nf3 => ?_⟩
        have t7 : Same J (upd J f3 (.lst [v])) := same_upd nf3
        have hf3 : (upd J f3 (.lst [v])) f3 = some (.lst [v]) := upd_same
        generalize upd J f3 _ = J1 at *
        have sJ1 := sJ.trans t7
        walk_at "ct"
        refine ⟨f3, a, [v], tv, rfl, rfl, hf3, sJ1 _ _ ha, Nat.le_of_lt (small1000 (show 1 + tv.length ≤ 1000 by omega)), fun f4 nf4 => ?_⟩
        have t8 : Same J1 (upd J1 f4 (.lst ([v] ++ tv))) := same_upd nf4
        have hT4 : TrainAt K (upd J1 f4 (.lst ([v] ++ tv))) f4 (p :: ps) := ⟨_, .of upd_same, .cons (dp_same (sJ1.trans t8) hv) (dpAll_same (sJ1.trans t8) htv)⟩
        generalize upd J1 f4 _ = J2 at *
        have t28 := t26.trans (t7.trans t8)
        have sJ2 := sJ1.trans t8
        walk_at "ct"
        refine w_ixL (.of ((((t12.trans t3).trans (t4.trans t5)).trans (t6.trans (t7.trans t8))) _ _ hG)) at0 ?_
        walk_at "ct"
        refine w_ixL (.of ((((t12.trans t3).trans (t4.trans t5)).trans (t6.trans (t7.trans t8))) _ _ hG)) at1 ?_
        walk_at "ct"
        have tm := (((t12.trans t3).trans (t4.trans t5)).trans (t6.trans (t7.trans t8)))
        refine ⟨f4, g0, g1, p :: ps, one.map Deed.up, other.map Deed.up, rfl, hT4, hok2, by omega, by omega, by omega, (hm0.same tm).at, (hm1.same tm).at, ub, uc, by rw [List.length_map]; omega, by rw [List.length_map]; omega, fun q9 J3 t9 hq9 => ?_⟩
        walk_at "ct"
        exact w_eqSame _ hq9 (dp_same ((t7.trans t8).trans t9) hu) (lay_saysO _) (by decide) (q _ (sJ2.trans t9))
abbrev S_law : Stmt := topS 52
theorem sc_law : FnScope ["_law_script", "_law_k", "_law_cell", "_law_draws_here", "_law_great", "_law_train_here", "_law_stand", "_law_one", "_law_other", "_law_counts", "_law_front", "_law_kept", "_law_part_here"] ["_law_script"] (defScope S_law) := ⟨rfl, rfl, rfl, by decide +kernel, rfl, by decide +kernel, by decide +kernel⟩
def sp_law (K : PySem.W.Frag) : Sp := fun vs H Q _ => ∃ (a : Addr) (ns : List Int), vs = [.ref a] ∧ SqL K H a (ns.map V.int) ∧ ns.length ≤ 63 ∧ ∀ H', Q (.bl true) H'
theorem ok_law {f : Addr} {fd : FuncData} {f__law_behind_right : Addr} {fd__law_behind_right : FuncData} {f__law_often_right : Addr} {fd__law_often_right : FuncData} {f__law_rounds_right : Addr} {fd__law_rounds_right : FuncData} {f__law_many : Addr} {fd__law_many : FuncData} {f__law_part : Addr} {fd__law_part : FuncData} {f__law_next : Addr} {fd__law_next : FuncData} {f__law_far : Addr} {fd__law_far : FuncData} {f__law_row : Addr} {fd__law_row : FuncData} {f__law_places : Addr} {fd__law_places : FuncData} {f__law_train : Addr} {fd__law_train : FuncData} {f__law_draws : Addr} {fd__law_draws : FuncData} (F : Fun K "law" "law" S_law f fd)
    (F__law_behind_right : Fun K "_law_behind_right" "_law_behind_right" S__law_behind_right f__law_behind_right fd__law_behind_right) (b__law_behind_right : Binds K fd__law_behind_right ["_law_front", "_law_train_here", "_law_one", "_law_other"] []) (g__law_behind_right : mg "_law_behind_right" = some (.ref f__law_behind_right)) (G__law_behind_right : FnOk P w K mg base CX0 18 f__law_behind_right fd__law_behind_right ["_law_front", "_law_train_here", "_law_one", "_law_other"] (sp__law_behind_right K))
    (F__law_often_right : Fun K "_law_often_right" "_law_often_right" S__law_often_right f__law_often_right fd__law_often_right) (b__law_often_right : Binds K fd__law_often_right ["_law_train_here", "_law_stand", "_law_one", "_law_other", "_law_counts"] []) (g__law_often_right : mg "_law_often_right" = some (.ref f__law_often_right)) (G__law_often_right : FnOk P w K mg base CX0 7 f__law_often_right fd__law_often_right ["_law_train_here", "_law_stand", "_law_one", "_law_other", "_law_counts"] (sp__law_often_right K))
    (F__law_rounds_right : Fun K "_law_rounds_right" "_law_rounds_right" S__law_rounds_right f__law_rounds_right fd__law_rounds_right) (b__law_rounds_right : Binds K fd__law_rounds_right ["_law_train_here", "_law_one", "_law_other", "_law_often"] []) (g__law_rounds_right : mg "_law_rounds_right" = some (.ref f__law_rounds_right)) (G__law_rounds_right : FnOk P w K mg base CX0 18 f__law_rounds_right fd__law_rounds_right ["_law_train_here", "_law_one", "_law_other", "_law_often"] (sp__law_rounds_right K))
    (F__law_many : Fun K "_law_many" "_law_many" S__law_many f__law_many fd__law_many) (b__law_many : Binds K fd__law_many ["_law_train_here"] []) (g__law_many : mg "_law_many" = some (.ref f__law_many)) (G__law_many : FnOk P w K mg base CX0 2 f__law_many fd__law_many ["_law_train_here"] (sp__law_many K))
    (F__law_part : Fun K "_law_part" "_law_part" S__law_part f__law_part fd__law_part) (b__law_part : Binds K fd__law_part ["_law_draws_here"] []) (g__law_part : mg "_law_part" = some (.ref f__law_part)) (G__law_part : FnOk P w K mg base CX0 2 f__law_part fd__law_part ["_law_draws_here"] (sp__law_part K))
    (F__law_next : Fun K "_law_next" "_law_next" S__law_next f__law_next fd__law_next) (b__law_next : Binds K fd__law_next ["_law_draws_here"] []) (g__law_next : mg "_law_next" = some (.ref f__law_next)) (G__law_next : FnOk P w K mg base CX0 1 f__law_next fd__law_next ["_law_draws_here"] (sp__law_next K))
    (F__law_far : Fun K "_law_far" "_law_far" S__law_far f__law_far fd__law_far) (b__law_far : Binds K fd__law_far ["_law_draws_here", "_law_most"] []) (g__law_far : mg "_law_far" = some (.ref f__law_far)) (G__law_far : FnOk P w K mg base CX0 2 f__law_far fd__law_far ["_law_draws_here", "_law_most"] (sp__law_far K))
    (F__law_row : Fun K "_law_row" "_law_row" S__law_row f__law_row fd__law_row) (b__law_row : Binds K fd__law_row ["_law_draws_here", "_law_train_here", "_law_most"] []) (g__law_row : mg "_law_row" = some (.ref f__law_row)) (G__law_row : FnOk P w K mg base CX0 3 f__law_row fd__law_row ["_law_draws_here", "_law_train_here", "_law_most"] (sp__law_row K))
    (F__law_places : Fun K "_law_places" "_law_places" S__law_places f__law_places fd__law_places) (b__law_places : Binds K fd__law_places ["_law_part_here"] []) (g__law_places : mg "_law_places" = some (.ref f__law_places)) (G__law_places : FnOk P w K mg base CX0 1 f__law_places fd__law_places ["_law_part_here"] (sp__law_places K))
    (F__law_train : Fun K "_law_train" "_law_train" S__law_train f__law_train fd__law_train) (b__law_train : Binds K fd__law_train ["_law_draws_here", "_law_great"] []) (g__law_train : mg "_law_train" = some (.ref f__law_train)) (G__law_train : FnOk P w K mg base CX0 3 f__law_train fd__law_train ["_law_draws_here", "_law_great"] (sp__law_train K))
    (F__law_draws : Fun K "_law_draws" "_law_draws" S__law_draws f__law_draws fd__law_draws) (b__law_draws : Binds K fd__law_draws ["_law_cell"] []) (g__law_draws : mg "_law_draws" = some (.ref f__law_draws)) (G__law_draws : FnOk P w K mg base CX0 1 f__law_draws fd__law_draws ["_law_cell"] (sp__law_draws K)) (m_enumerate : mg "enumerate" = none) (m_tuple : mg "tuple" = none) (m_list : mg "list" = none) (m_int : mg "int" = none) :
    FnOk P w K mg base CX0 19 f fd ["_law_script"] (sp_law K) := by
  refine F.ok sc_law (fun vs H Q E h => ?_) (fun cdv A outer s H vs Q E hr h => ?_)
  ·
    obtain ⟨a, ns, rfl, _⟩ := h
    rfl
  ·
    obtain ⟨a, ns, rfl, hS, hlen, q⟩ := h
    refine ⟨_, (pss_cons (ps_for PassesOwn.never rfl (pi_enum (by rfl) m_enumerate (pa_cons (pe_op op_cat (pe_slice (r := rSlL K) sl_list (pv 0) po_none (po_some pe_int)) (pe_lst (pa_cons pe_int pa_nil))) pa_nil)) (pg_tup rfl (pgs_cons (pg_name (i := 1) sc_law.nd rfl (.inl rfl)) (pgs_cons (pg_name (i := 2) sc_law.nd rfl (.inl rfl)) pgs_nil)))
      (pss_cons (ps_set (i := 3) sc_law.nd rfl (.inr rfl) (pe_call G__law_draws (hr.mono (by decide)) (by rfl) g__law_draws F__law_draws.kp b__law_draws .nil pass0 (pa_cons (pv 2) pa_nil)))
      (pss_cons (ps_set (i := 4) sc_law.nd rfl (.inl rfl) (pe_and (pe_cmpR op_eq (pe_op op_mod (pe_call G__law_next (hr.mono (by decide)) (by rfl) g__law_next F__law_next.kp b__law_next .nil pass0 (pa_cons (pv 3) pa_nil)) pe_int) pe_int (nomark _)) (pe_one (pe_cmpR op_eq (pv 1) pe_int (nomark _)))))
      (pss_cons (ps_set (i := 5) sc_law.nd rfl (.inl rfl) (pe_call G__law_train (hr.mono (by decide)) (by rfl) g__law_train F__law_train.kp b__law_train .nil pass0 (pa_cons (pv 3) (pa_cons (pv 4) pa_nil))))
      (pss_cons (ps_set (i := 6) sc_law.nd rfl (.inl rfl) (pe_callTy call_tuple_of (by rfl) m_tuple (by decide +kernel) (pa_cons (pe_lc (own := [("_law_part_here", 12)]) (g := gName 12)  rfl sc_law.nd  (pi_list (pv 5)) (blkOk_by (own := [("_law_part_here", 12)]) (N := ["_law_script", "_law_k", "_law_cell", "_law_draws_here", "_law_great", "_law_train_here", "_law_stand", "_law_one", "_law_other", "_law_counts", "_law_front", "_law_kept", "_law_part_here"]) (sc := defScope S_law) (by decide +kernel)) (fun _ _ _ _ _ => pg_name (i := 12) sc_law.nd rfl (Or.inl rfl)) (fun _ _ _ _ _ => pts_nil) (fun _ _ _ _ _ => (pe_op op_mod (pe_call G__law_next (hr.mono (by decide)) (by rfl) g__law_next F__law_next.kp b__law_next .nil pass0 (pa_cons (pv 3) pa_nil)) (pe_call G__law_places (hr.mono (by decide)) (by rfl) g__law_places F__law_places.kp b__law_places .nil pass0 (pa_cons (pv 12) pa_nil))))) pa_nil)))
      (pss_cons (ps_set (i := 7) sc_law.nd rfl (.inl rfl) (pe_call G__law_row (hr.mono (by decide)) (by rfl) g__law_row F__law_row.kp b__law_row .nil pass0 (pa_cons (pv 3) (pa_cons (pv 5) (pa_cons (pe_ix (r := rIxL K) ix_list (pe_lst (pa_cons pe_int (pa_cons pe_int pa_nil))) (pe_callTy call_int1 (by rfl) m_int (by decide +kernel) (pa_cons (pv 4) pa_nil)) (fun _ _ => rfl)) pa_nil)))))
      (pss_cons (ps_set (i := 8) sc_law.nd rfl (.inl rfl) (pe_call G__law_row (hr.mono (by decide)) (by rfl) g__law_row F__law_row.kp b__law_row .nil pass0 (pa_cons (pv 3) (pa_cons (pv 5) (pa_cons (pe_ix (r := rIxL K) ix_list (pe_lst (pa_cons pe_int (pa_cons pe_int pa_nil))) (pe_callTy call_int1 (by rfl) m_int (by decide +kernel) (pa_cons (pv 4) pa_nil)) (fun _ _ => rfl)) pa_nil)))))
      (pss_cons (ps_set (i := 9) sc_law.nd rfl (.inl rfl) (pe_tup (pa_cons (pe_call G__law_far (hr.mono (by decide)) (by rfl) g__law_far F__law_far.kp b__law_far .nil pass0 (pa_cons (pv 3) (pa_cons (pe_op op_powB pe_int pe_int) pa_nil))) (pa_cons (pe_call G__law_far (hr.mono (by decide)) (by rfl) g__law_far F__law_far.kp b__law_far .nil pass0 (pa_cons (pv 3) (pa_cons (pe_op op_powB pe_int pe_int) pa_nil))) (pa_cons (pe_op op_add pe_int (pe_op op_mod (pe_call G__law_next (hr.mono (by decide)) (by rfl) g__law_next F__law_next.kp b__law_next .nil pass0 (pa_cons (pv 3) pa_nil)) pe_int)) pa_nil)))))
      (pss_cons (ps_set (i := 10) sc_law.nd rfl (.inl rfl) (pe_call G__law_part (hr.mono (by decide)) (by rfl) g__law_part F__law_part.kp b__law_part .nil pass0 (pa_cons (pv 3) pa_nil)))
      (pss_cons (ps_if (pt_cmpR op_gt (pe_call G__law_many (hr.mono (by decide)) (by rfl) g__law_many F__law_many.kp b__law_many .nil pass0 (pa_cons (pe_op op_cat (pe_lst (pa_cons (pv 10) pa_nil)) (pv 5)) pa_nil)) pe_int (nomark _)) (pss_one (ps_set (i := 10) sc_law.nd rfl (.inl rfl) (pe_tup (pa_cons pe_str pa_nil)))) pss_nil)
      (pss_cons (ps_set (i := 11) sc_law.nd rfl (.inl rfl) (pe_tup (pa_cons (pe_callTy call_list_of (by rfl) m_list (by decide +kernel) (pa_cons (pv 5) pa_nil)) (pa_cons (pe_callTy call_list_of (by rfl) m_list (by decide +kernel) (pa_cons (pv 7) pa_nil)) (pa_cons (pe_callTy call_list_of (by rfl) m_list (by decide +kernel) (pa_cons (pv 8) pa_nil)) pa_nil)))))
      (pss_cons (ps_if (pt_not (pt_val (pe_call G__law_rounds_right (hr.mono (by decide)) (by rfl) g__law_rounds_right F__law_rounds_right.kp b__law_rounds_right .nil pass0 (pa_cons (pv 5) (pa_cons (pv 7) (pa_cons (pv 8) (pa_cons (pe_ix (r := rIxT K) ix_tup (pv 9) pe_int (fun _ _ => rfl)) pa_nil))))))) (pss_one (ps_ret pe_bl)) pss_nil)
      (pss_cons (ps_if (pt_not (pt_val (pe_call G__law_often_right (hr.mono (by decide)) (by rfl) g__law_often_right F__law_often_right.kp b__law_often_right .nil pass0 (pa_cons (pv 5) (pa_cons (pv 6) (pa_cons (pv 7) (pa_cons (pv 8) (pa_cons (pv 9) pa_nil)))))))) (pss_one (ps_ret pe_bl)) pss_nil)
      (pss_one (ps_if (PW.pt (pw_or (pt_not (pt_val (pe_call G__law_behind_right (hr.mono (by decide)) (by rfl) g__law_behind_right F__law_behind_right.kp b__law_behind_right .nil pass0 (pa_cons (pv 10) (pa_cons (pv 5) (pa_cons (pv 7) (pa_cons (pv 8) pa_nil))))))) (pw_or1 (pt_cmpR (r := rNeD K) (op_neD hr.units) (pe_tup (pa_cons (pv 5) (pa_cons (pv 7) (pa_cons (pv 8) pa_nil)))) (pv 11) (nomark _))))) (pss_one (ps_ret pe_bl)) pss_nil)))))))))))))))
      (pss_one (ps_ret pe_bl))), ?_⟩
    refine w_st (σ' := [some (.ref a), none, none, none, none, none, none, none, none, none, none, none, none]) rfl ?_
    walk_at "ct"
    refine w_slL hS fun p np => ?_
    walk_at "ct"
    refine ⟨len2 rfl, fun p2 np2 => ?_⟩
    obtain ⟨cs, hcs, cl⟩ : ∃ cs : List Int, cutV (ns.map V.int) none (some 3) = cs.map V.int ∧ cs.length ≤ 63 := by
      refine ⟨_, cutV_map ns none (some 3), ?_⟩
      have := cutV_length (ns.map V.int) none (some 3)
      rw [cutV_map, List.length_map, List.length_map] at this
      omega
    rw [hcs] at np2 ⊢
    refine ⟨p, p2, _, _, rfl, rfl, by rw [upd_ne (ne_of_none upd_same np2)]; exact upd_same, upd_same, ?_, fun p3 np3 => ?_⟩
    · rw [List.length_map]
      exact Nat.le_trans (show cs.length + 1 ≤ 64 by omega) (by decide)
    walk_at "ct"
    have hx : (cs.map V.int ++ [V.int 0]) = (cs ++ [0]).map V.int := by rw [List.map_append]; rfl
    rw [hx] at *
    refine w_IE (.of upd_same) ?_
    have hL : SqL K (upd (upd (upd H p (.lst (cs.map V.int))) p2 (.lst [.int 0])) p3 (.lst ((cs ++ [0]).map V.int))) p3 ((cs ++ [0]).map V.int) := .of upd_same
    generalize upd (upd (upd H p _) p2 _) p3 _ = HH at *
    refine fb_enumL ((cs ++ [0]).map V.int) (fun n σ H' => ∃ y1 y2 y3 y4 y5 y6 y7 y8 y9 y10 y11, σ = [some (.ref a), y1, y2, y3, y4, y5, y6, y7, y8, y9, y10, y11, none] ∧ Same HH H') ⟨none, none, none, none, none, none, none, none, none, none, none, rfl, Same.refl _⟩ ?_ ?_ ?_
    · rintro n σ H' hn ⟨y1, y2, y3, y4, y5, y6, y7, y8, y9, y10, y11, rfl, sm⟩
      exact sm.seq hL
    · rintro n x Tp σ H' hx ⟨y1, y2, y3, y4, y5, y6, y7, y8, y9, y10, y11, rfl, sm⟩ nT
      obtain ⟨c, rfl⟩ : ∃ c : Int, x = .int c := by
        obtain ⟨k, _, rfl⟩ := List.mem_map.mp (List.mem_of_getElem? hx)
        exact ⟨k, rfl⟩
      have sT : Same H' (upd H' Tp (.tup [.int (n : Nat), .int c])) := same_upd nT
      have hT : (upd H' Tp (.tup [.int (n : Nat), .int c])) Tp = some (.tup [.int (n : Nat), .int c]) := upd_same
      generalize upd H' Tp _ = H0 at *
      refine w_gtup (.of hT) rfl ?_
      walk_at "cq"
      with_reducible refine w_seq ?_
      walk_at "cq"
      refine ⟨c, rfl, fun D H1 s1 nD hD => ?_⟩
      have sm1 := sm.trans sT
      walk_at "cq"
      with_reducible refine w_join (fun σ G => ∃ b : Bool, σ = [some (.ref a), some (.int (n : Int)), some (.int c), some (.ref D), some (.bl b), y5, y6, y7, y8, y9, y10, y11, none] ∧ Dr D 1 H1 G) ?_ ?_
      rotate_left
      · intro N hN
        walk_at "ct"
        refine ⟨D, 0, rfl, hD, by omega, fun n1 _ _ => ?_⟩
        have d1 := Dr.step hD (0 + 1)
        generalize upd H1 D _ = H2 at *
        walk_at "ct"
        refine w_mod (by decide) fun r r0 r1 => ?_
        walk_at "ct"
        refine w_ite (fun _ => ?_) (fun _ => ?_)
        · walk_at "ct"
          exact hN _ _ ⟨_, rfl, d1⟩
        · walk_at "ct"
          exact hN _ _ ⟨_, rfl, d1⟩
      rintro σ H2 ⟨b, rfl, d1⟩
      walk_at "ct"
      refine ⟨D, 1, b, rfl, d1.2, by omega, fun A tv ps c3 H3 d3 c3l nA hA htv hps l1 l4 few => ?_⟩
      have tvl : tv.length = ps.length := by rw [dpAll_len htv, List.length_map]
      have e3 := d1.trans d3
      clear d1 d3
      walk_at "ct"
      refine w_IL (.of hA) ?_
      refine lb_list tv (fun B k G => ∃ (cG : Nat) (zs : List Int), Dr D cG H3 G ∧ cG ≤ c3 + k ∧ G B = some (.lst (zs.map V.int)) ∧ StandL (ps.take k) zs) (fun B nB => ⟨c3, [], (Dr.refl e3.2).same (same_upd nB), by omega, upd_same, by rw [List.take_zero]; trivial⟩) ?_ ?_ ?_
      · rintro B nB k G _ ⟨cG, zs, dG, _⟩
        exact .of (dG.at e3.2 hA)
      · rintro B nB k x G hx ⟨cG, zs, dG, cGl, hB, hzs⟩
        have hk : k < tv.length := (List.getElem?_eq_some_iff.mp hx).1
        obtain ⟨p, hp⟩ : ∃ p, ps[k]? = some p := ⟨_, List.getElem?_eq_getElem (by omega)⟩
        obtain ⟨x', hx', hdp⟩ := dpAll_get (dG.all e3.2 htv) (i := k) (d := p.data) (by rw [List.getElem?_map, hp]; rfl)
        cases Option.some.inj (hx.symm.trans hx')
        have pk := hps p (List.mem_of_getElem? hp)
        have zl : zs.length = k := by rw [hzs.len, List.length_take]; omega
        walk_at "ct"
        refine ⟨rfl, ?_⟩
        walk_at "ct"
        refine ⟨D, cG, rfl, dG.2, by omega, fun n4 _ _ => ?_⟩
        have st := Dr.step dG.2 (cG + 1)
        have hB2 := st.at dG.2 hB
        have hx2 : DpAll K (upd G D (DrO D (cG + 1))) [x] ([p].map Part.data) := st.all dG.2 (.cons hdp .nil)
        have dG2 := dG.trans st
        clear st
        generalize upd G D _ = G2 at *
        obtain ⟨hx3, _⟩ : Dp K G2 x p.data ∧ True := by cases hx2 with | cons h _ => exact ⟨h, trivial⟩
        walk_at "ct"
        refine ⟨_, p, rfl, hx3, fun J s6 => ?_⟩
        have dJ := dG2.same s6
        have po := pk.1.pos.1
        walk_at "ct"
        refine w_mod (by omega) fun z z0 z1 => ?_
        have hB6 := s6 _ _ hB2
        refine ⟨_, hB6, by rw [List.length_map]; exact small1000 (by omega), cG + 1, zs ++ [z], dJ.put nB hB6, by omega, by rw [upd_same, List.map_append]; rfl, ?_⟩
        rw [List.take_add_one, hp]
        exact standL_app hzs ⟨pk.1, z0, z1, trivial⟩
      rintro B nB G4 ⟨c4, zs, d4, c4l, hB, hzs⟩
      rw [List.take_of_length_le (by omega)] at hzs
      have hA4 := d4.at e3.2 hA
      have htv4 := d4.all e3.2 htv
      have e4 := e3.trans d4
      clear d4 hA htv e3
      walk_at "ct"
      refine ⟨B, _, rfl, .inl ⟨.of hB, fun t nt => ?_⟩⟩
      have u5 : Same G4 (upd G4 t (.tup (zs.map V.int))) := same_upd nt
      have ht : (upd G4 t (.tup (zs.map V.int))) t = some (.tup (zs.map V.int)) := upd_same
      have hA5 := u5 _ _ hA4
      have htv5 := dpAll_same u5 htv4
      generalize upd G4 t _ = G5 at *
      have e5 := e4.same u5
      clear e4 hA4 htv4 hB nB u5
      walk_at "ct"
      refine ⟨len2 rfl, fun g6 ng6 => ?_⟩
      have u6 : Same G5 (upd G5 g6 (.lst [.int 3, .int 1])) := same_upd ng6
      have hg6 : (upd G5 g6 (.lst [.int 3, .int 1])) g6 = some (.lst [.int 3, .int 1]) := upd_same
      have hA6 := u6 _ _ hA5
      have ht6 := u6 _ _ ht
      have htv6 := dpAll_same u6 htv5
      generalize upd G5 g6 _ = G6 at *
      have e6 := e5.same u6
      clear e5 hA5 ht htv5 u6
      have pick : ∃ m : Int, atI [V.int 3, .int 1] (if b = true then 1 else 0) = some (.int m) ∧ 0 ≤ m ∧ m ≤ 3 := by
        cases b with
        | false => exact ⟨3, rfl, by decide, by decide⟩
        | true => exact ⟨1, rfl, by decide, by decide⟩
      obtain ⟨m, hm, m0, m3⟩ := pick
      walk_at "ct"
      refine .inr ⟨b, rfl, ?_⟩
      refine w_ixL (.of hg6) hm ?_
      walk_at "ct"
      refine ⟨D, A, c4, m, ps, tv, rfl, e6.2, by omega, m0, m3, hA6, tvl, l1, by omega, fun b1 ws1 one c7 G7 d7 c7l nb1 hb1 hd1 ok1 dl1 => ?_⟩
      have hA7 := d7.at e6.2 hA6
      have ht7 := d7.at e6.2 ht6
      have htv7 := d7.all e6.2 htv6
      have e7 := e6.trans d7
      clear e6 hA6 ht6 htv6 d7 hg6
      walk_at "ct"
      refine ⟨len2 rfl, fun g8 ng8 => ?_⟩
      have u8 : Same G7 (upd G7 g8 (.lst [.int 3, .int 1])) := same_upd ng8
      have hg8 : (upd G7 g8 (.lst [.int 3, .int 1])) g8 = some (.lst [.int 3, .int 1]) := upd_same
      have hA8 := u8 _ _ hA7
      have ht8 := u8 _ _ ht7
      have htv8 := dpAll_same u8 htv7
      have hb18 := u8 _ _ hb1
      have hd18 := dpAll_same u8 hd1
      generalize upd G7 g8 _ = G8 at *
      have e8 := e7.same u8
      clear e7 hA7 ht7 htv7 hb1 hd1 u8
      walk_at "ct"
      refine .inr ⟨b, rfl, ?_⟩
      refine w_ixL (.of hg8) hm ?_
      walk_at "ct"
      refine ⟨D, A, c7, m, ps, tv, rfl, e8.2, by omega, m0, m3, hA8, tvl, l1, by omega, fun b2 ws2 other c9 G9 d9 c9l nb2 hb2 hd2 ok2 dl2 => ?_⟩
      have hA9 := d9.at e8.2 hA8
      have ht9 := d9.at e8.2 ht8
      have htv9 := d9.all e8.2 htv8
      have hb19 := d9.at e8.2 hb18
      have hd19 := d9.all e8.2 hd18
      have e9 := e8.trans d9
      clear e8 hA8 ht8 htv8 hb18 hd18 d9 hg8
      walk_at "ct"
      refine w_rIv (.int (10 ^ 38)) ⟨by decide, by decide⟩ rfl ?_
      walk_at "ct"
      refine ⟨D, c9, _, rfl, e9.2, by omega, by decide, fun k1 c10 G10 d10 c10l k10 k11 => ?_⟩
      have f10 := (Dr.refl e9.2).trans d10
      walk_at "ct"
      refine w_rIv (.int (10 ^ 38)) ⟨by decide, by decide⟩ rfl ?_
      walk_at "ct"
      refine ⟨D, c10, _, rfl, f10.2, by omega, by decide, fun k2 c11 G11 d11 c11l k20 k21 => ?_⟩
      have f11 := f10.trans d11
      walk_at "ct"
      refine ⟨D, c11, rfl, f11.2, by omega, fun n12 _ _ => ?_⟩
      have f12 := f11.trans (Dr.step f11.2 (c11 + 1))
      clear f10 f11 d10 d11
      generalize upd G11 D _ = G12 at *
      walk_at "ct"
      refine w_mod (by decide) fun k3 k30 k31 => ?_
      walk_at "ct"
      refine ⟨len2 rfl, fun g13 ng13 => ?_⟩
      have f13 := f12.same (same_upd (o := .tup [.int k1, .int k2, .int (1 + k3)]) ng13)
      have hk13 : (upd G12 g13 (.tup [.int k1, .int k2, .int (1 + k3)])) g13 = some (.tup [.int k1, .int k2, .int (1 + k3)]) := upd_same
      generalize upd G12 g13 _ = G13 at *
      walk_at "ct"
      refine ⟨D, c11 + 1, rfl, f13.2, by omega, fun v p c14 G14 d14 c14l hv pok p7 => ?_⟩
      have f14 := f13.trans d14
      have hk14 := d14.at f13.2 hk13
      have hA14 := f14.at e9.2 hA9
      have ht14 := f14.at e9.2 ht9
      have htv14 := f14.all e9.2 htv9
      have hb114 := f14.at e9.2 hb19
      have hd114 := f14.all e9.2 hd19
      have hb214 := f14.at e9.2 hb2
      have hd214 := f14.all e9.2 hd2
      have sH14 : Same HH G14 := sm1.trans ((e9.trans f14).1.same nD s1)
      clear hA9 ht9 htv9 hb19 hd19 hb2 hd2 hk13 f13 f12 f14 e9 d14
      obtain ⟨kn1, rfl⟩ : ∃ n : Nat, k1 = n := ⟨k1.toNat, by omega⟩
      obtain ⟨kn2, rfl⟩ : ∃ n : Nat, k2 = n := ⟨k2.toNat, by omega⟩
      obtain ⟨kn3, hk3⟩ : ∃ n : Nat, 1 + k3 = n := ⟨(1 + k3).toNat, by omega⟩
      rw [hk3] at hk14
      have hok : ∀ p ∈ ps, p.ok := fun p hp => (hps p hp).1
      have sps := stands_pos ps hok
      have ppos := pok.pos.1
      walk_at "cq"
      with_reducible refine w_join (fun σ G => ∃ (v : V) (p : Part), σ = [some (.ref a), some (.int (n : Int)), some (.int c), some (.ref D), some (.bl b), some (.ref A), some (.ref t), some (.ref b1), some (.ref b2), some (.ref g13), some v, y11, none] ∧ Same G14 G ∧ Dp K G v p.data ∧ p.ok ∧ stands (p :: ps) ≤ 400) ?_ ?_
      rotate_left
      · intro N hN
        walk_at "ct"
        refine ⟨len2 rfl, fun f nf => ?_⟩
        have t1 : Same G14 (upd G14 f (.lst [v])) := same_upd nf
        have hf : (upd G14 f (.lst [v])) f = some (.lst [v]) := upd_same
        generalize upd G14 f _ = J1 at *
        walk_at "ct"
        refine ⟨f, A, [v], tv, rfl, rfl, hf, t1 _ _ hA14, Nat.le_of_lt (small1000 (show 1 + tv.length ≤ 1000 by omega)), fun f2 nf2 => ?_⟩
        have t2 : Same J1 (upd J1 f2 (.lst ([v] ++ tv))) := same_upd nf2
        have hT2 : TrainAt K (upd J1 f2 (.lst ([v] ++ tv))) f2 (p :: ps) := ⟨_, .of upd_same, .cons (dp_same (t1.trans t2) hv) (dpAll_same (t1.trans t2) htv14)⟩
        generalize upd J1 f2 _ = J2 at *
        walk_at "ct"
        refine ⟨f2, p :: ps, rfl, hT2, fun q hq => (List.mem_cons.mp hq).elim (fun e => e ▸ ⟨pok, by omega⟩) (hps q), by rw [List.length_cons]; omega, fun J3 t3 => ?_⟩
        have t13 := (t1.trans t2).trans t3
        walk_at "ct"
        refine w_ite (fun _ => ?_) (fun few2 => ?_)
        · walk_at "ct"
          refine ⟨len2 rfl, fun g ng => ?_⟩
          have t4 := same_upd (o := .tup [.str "click"]) ng
          walk_at "ct"
          exact hN _ _ ⟨.ref g, .click, rfl, t13.trans t4, click_dp (.of upd_same), trivial, by show 1 * stands ps ≤ 400; omega⟩
        · walk_at "ct"
          exact hN _ _ ⟨v, p, rfl, t13, dp_same t13 hv, pok, by omega⟩
      · rintro σ G15 ⟨v, p, rfl, s15, hv, pok, few2⟩
        clear ppos
        have hA15 := s15 _ _ hA14
        have htv15 := dpAll_same s15 htv14
        have ht15 := s15 _ _ ht14
        have hk15 := s15 _ _ hk14
        have r1 : RowL K G15 b1 one := ⟨ws1, s15 _ _ hb114, dpAll_same s15 hd114⟩
        have r2 : RowL K G15 b2 other := ⟨ws2, s15 _ _ hb214, dpAll_same s15 hd214⟩
        have hv1 := s15 _ _ hb114
        have hv2 := s15 _ _ hb214
        have hw1 := dpAll_same s15 hd114
        have hw2 := dpAll_same s15 hd214
        have sH15 := sH14.trans s15
        clear hA14 htv14 ht14 hk14 hb114 hd114 hb214 hd214 sH14 s15
        walk_at "ct"
        refine ⟨A, tv, rfl, .inl (.of hA15), fun h1 nh1 => ?_⟩
        have v1 := same_upd (o := .lst tv) nh1
        have g1 : (upd G15 h1 (.lst tv)) h1 = some (.lst tv) := upd_same
        generalize upd G15 h1 _ = G16 at *
        walk_at "ct"
        refine ⟨b1, ws1, rfl, .inl (.of (v1 _ _ hv1)), fun h2 nh2 => ?_⟩
        have v2 := same_upd (o := .lst ws1) nh2
        have g2 : (upd G16 h2 (.lst ws1)) h2 = some (.lst ws1) := upd_same
        generalize upd G16 h2 _ = G17 at *
        walk_at "ct"
        refine ⟨b2, ws2, rfl, .inl (.of ((v1.trans v2) _ _ hv2)), fun h3 nh3 => ?_⟩
        have v3 := same_upd (o := .lst ws2) nh3
        have g3 : (upd G17 h3 (.lst ws2)) h3 = some (.lst ws2) := upd_same
        generalize upd G17 h3 _ = G18 at *
        walk_at "ct"
        refine ⟨len2 rfl, fun kp nkp => ?_⟩
        have v4 := same_upd (o := .tup [.ref h1, .ref h2, .ref h3]) nkp
        have g4 : (upd G18 kp (.tup [.ref h1, .ref h2, .ref h3])) kp = some (.tup [.ref h1, .ref h2, .ref h3]) := upd_same
        generalize upd G18 kp _ = G19 at *
        have v14 := (v1.trans v2).trans (v3.trans v4)
        have kdp : Dp K G19 (.ref kp) (.tuple [.list (ps.map Part.data), .list (one.map Deed.data), .list (other.map Deed.data)]) := .tup (.of g4) (.cons (.lst (.of ((v2.trans (v3.trans v4)) _ _ g1)) (dpAll_same v14 htv15)) (.cons (.lst (.of ((v3.trans v4) _ _ g2)) (dpAll_same v14 hw1)) (.cons (.lst (.of (v4 _ _ g3)) (dpAll_same v14 hw2)) .nil)))
        have sH19 := sH15.trans v14
        have hA19 := v14 _ _ hA15
        have htv19 := dpAll_same v14 htv15
        have ht19 := v14 _ _ ht15
        have hk19 := v14 _ _ hk15
        have r119 := r1.same v14
        have r219 := r2.same v14
        have hv119 := v14 _ _ hv1
        have hv219 := v14 _ _ hv2
        have hw119 := dpAll_same v14 hw1
        have hw219 := dpAll_same v14 hw2
        have hvd := dp_same v14 hv
        clear hA15 htv15 ht15 hk15 r1 r2 hv1 hv2 hw1 hw2 hv v1 v2 v3 v4 v14 g1 g2 g3 g4 sH15
        have o1 : ∀ d ∈ one, d.ok ps.length ∧ d.t < 2 ^ 190 := fun d hd => ⟨(ok1 d hd).1, by have := (ok1 d hd).2; omega⟩
        have o2 : ∀ d ∈ other, d.ok ps.length ∧ d.t < 2 ^ 190 := fun d hd => ⟨(ok2 d hd).1, by have := (ok2 d hd).2; omega⟩
        have p1 : ∀ d ∈ one, d.ok ps.length ∧ d.t < 2 ^ 200 := fun d hd => ⟨(ok1 d hd).1, by have := (ok1 d hd).2; omega⟩
        have p2 : ∀ d ∈ other, d.ok ps.length ∧ d.t < 2 ^ 200 := fun d hd => ⟨(ok2 d hd).1, by have := (ok2 d hd).2; omega⟩
        walk_at "ct"
        refine w_ixT (.of hk19) at2 ?_
        walk_at "ct"
        refine ⟨A, b1, b2, ps, one, other, kn3, rfl, ⟨tv, .of hA19, htv19⟩, hok, l1, l4, few, r119, r219, p1, p2, dl1, dl2, by omega, by omega, fun G20 s20 => ?_⟩
        walk_at "ct"
        refine ⟨A, t, b1, b2, g13, ps, zs, one, other, kn1, kn2, kn3, rfl, TrainAt.same s20 ⟨tv, .of hA19, htv19⟩, hok, l1, l4, few, hzs, s20 _ _ ht19, r119.same s20, r219.same s20, p1, p2, dl1, dl2, s20 _ _ hk19, by omega, by omega, by omega, by omega, fun G21 s21 => ?_⟩
        have s1921 := s20.trans s21
        walk_at "ct"
        refine ⟨v, A, b1, b2, p, ps, tv, one, other, rfl, dp_same s1921 hvd, pok, s1921 _ _ hA19, dpAll_same s1921 htv19, hok, l1, l4, few, few2, r119.same s1921, r219.same s1921, o1, o2, dl1, dl2, fun G22 s22 => ?_⟩
        have s1922 := s1921.trans s22
        walk_at "ct"
        refine ⟨len2 rfl, fun e ne => ?_⟩
        have v5 := same_upd (o := .tup [.ref A, .ref b1, .ref b2]) ne
        have g5 : (upd G22 e (.tup [.ref A, .ref b1, .ref b2])) e = some (.tup [.ref A, .ref b1, .ref b2]) := upd_same
        generalize upd G22 e _ = G23 at *
        have s1923 := s1922.trans v5
        have edp : Dp K G23 (.ref e) (.tuple [.list (ps.map Part.data), .list (one.map Deed.data), .list (other.map Deed.data)]) := .tup (.of g5) (.cons (.lst (.of (s1923 _ _ hA19)) (dpAll_same s1923 htv19)) (.cons (.lst (.of (s1923 _ _ hv119)) (dpAll_same s1923 hw119)) (.cons (.lst (.of (s1923 _ _ hv219)) (dpAll_same s1923 hw219)) .nil)))
        walk_at "ct"
        refine w_neSame _ edp (dp_same s1923 kdp) (n := 4) (lay_tup (n := 3) fun d hd => by
          rcases List.mem_cons.mp hd with rfl | hd
          · exact lay_train ps
          rcases List.mem_cons.mp hd with rfl | hd
          · exact lay_mono (lay_row one) (by decide)
          · rw [List.mem_singleton.mp hd]
            exact lay_mono (lay_row other) (by decide)) (by decide) ?_
        walk_at "ct"
        exact ⟨_, _, _, _, _, _, _, _, _, _, _, rfl, sH19.trans s1923⟩
    · rintro σ G ⟨y1, y2, y3, y4, y5, y6, y7, y8, y9, y10, y11, rfl, _⟩
      walk_at "ct"
      exact q G
end
theorem all_mk {l : PySem.W.OpenLaw} {w : World} {K : PySem.W.Frag} {h : Heap} {mg : Str → Option Value} {fa : Addr} (X : K.In h) (G : h.Ns mainGlobals mg) (hfa : mg "law" = some (.ref fa))
    {f_is_whole : Addr} {od0 an0 : Option Addr} {sl0 : Array (Option Value)} {oc0 kV0 dc0 pm0 cd0 ct0 : Value}
    (a0 : PySem.W.nsIn K mainGlobals "is_whole" = some (some (.ref f_is_whole))) (l0 : K.lookup f_is_whole = some ⟨oc0, od0, .func (PySem.W.fnOf "is_whole" "is_whole" (defArgs S_is_whole) (defBody S_is_whole) (defScope S_is_whole) .none kV0 dc0 pm0 an0 cd0 ct0), sl0⟩) (c0 : PySem.W.codeIn K cd0 "is_whole" = true) (k0 : PySem.W.keepIn K (.ref f_is_whole) = true)
    {f_are_marks : Addr} {od1 an1 : Option Addr} {sl1 : Array (Option Value)} {oc1 kV1 dc1 pm1 cd1 ct1 : Value}
    (a1 : PySem.W.nsIn K mainGlobals "are_marks" = some (some (.ref f_are_marks))) (l1 : K.lookup f_are_marks = some ⟨oc1, od1, .func (PySem.W.fnOf "are_marks" "are_marks" (defArgs S_are_marks) (defBody S_are_marks) (defScope S_are_marks) .none kV1 dc1 pm1 an1 cd1 ct1), sl1⟩) (c1 : PySem.W.codeIn K cd1 "are_marks" = true) (k1 : PySem.W.keepIn K (.ref f_are_marks) = true)
    {f_is_part : Addr} {od2 an2 : Option Addr} {sl2 : Array (Option Value)} {oc2 kV2 dc2 pm2 cd2 ct2 : Value}
    (a2 : PySem.W.nsIn K mainGlobals "is_part" = some (some (.ref f_is_part))) (l2 : K.lookup f_is_part = some ⟨oc2, od2, .func (PySem.W.fnOf "is_part" "is_part" (defArgs S_is_part) (defBody S_is_part) (defScope S_is_part) .none kV2 dc2 pm2 an2 cd2 ct2), sl2⟩) (c2 : PySem.W.codeIn K cd2 "is_part" = true) (k2 : PySem.W.keepIn K (.ref f_is_part) = true)
    {f_check_train : Addr} {od3 an3 : Option Addr} {sl3 : Array (Option Value)} {oc3 kV3 dc3 pm3 cd3 ct3 : Value}
    (a3 : PySem.W.nsIn K mainGlobals "check_train" = some (some (.ref f_check_train))) (l3 : K.lookup f_check_train = some ⟨oc3, od3, .func (PySem.W.fnOf "check_train" "check_train" (defArgs S_check_train) (defBody S_check_train) (defScope S_check_train) .none kV3 dc3 pm3 an3 cd3 ct3), sl3⟩) (c3 : PySem.W.codeIn K cd3 "check_train" = true) (k3 : PySem.W.keepIn K (.ref f_check_train) = true)
    {f_place_count : Addr} {od4 an4 : Option Addr} {sl4 : Array (Option Value)} {oc4 kV4 dc4 pm4 cd4 ct4 : Value}
    (a4 : PySem.W.nsIn K mainGlobals "place_count" = some (some (.ref f_place_count))) (l4 : K.lookup f_place_count = some ⟨oc4, od4, .func (PySem.W.fnOf "place_count" "place_count" (defArgs S_place_count) (defBody S_place_count) (defScope S_place_count) .none kV4 dc4 pm4 an4 cd4 ct4), sl4⟩) (c4 : PySem.W.codeIn K cd4 "place_count" = true) (k4 : PySem.W.keepIn K (.ref f_place_count) = true)
    {f_is_stand : Addr} {od5 an5 : Option Addr} {sl5 : Array (Option Value)} {oc5 kV5 dc5 pm5 cd5 ct5 : Value}
    (a5 : PySem.W.nsIn K mainGlobals "is_stand" = some (some (.ref f_is_stand))) (l5 : K.lookup f_is_stand = some ⟨oc5, od5, .func (PySem.W.fnOf "is_stand" "is_stand" (defArgs S_is_stand) (defBody S_is_stand) (defScope S_is_stand) .none kV5 dc5 pm5 an5 cd5 ct5), sl5⟩) (c5 : PySem.W.codeIn K cd5 "is_stand" = true) (k5 : PySem.W.keepIn K (.ref f_is_stand) = true)
    {f_check_stand : Addr} {od6 an6 : Option Addr} {sl6 : Array (Option Value)} {oc6 kV6 dc6 pm6 cd6 ct6 : Value}
    (a6 : PySem.W.nsIn K mainGlobals "check_stand" = some (some (.ref f_check_stand))) (l6 : K.lookup f_check_stand = some ⟨oc6, od6, .func (PySem.W.fnOf "check_stand" "check_stand" (defArgs S_check_stand) (defBody S_check_stand) (defScope S_check_stand) .none kV6 dc6 pm6 an6 cd6 ct6), sl6⟩) (c6 : PySem.W.codeIn K cd6 "check_stand" = true) (k6 : PySem.W.keepIn K (.ref f_check_stand) = true)
    {f_is_way : Addr} {od7 an7 : Option Addr} {sl7 : Array (Option Value)} {oc7 kV7 dc7 pm7 cd7 ct7 : Value}
    (a7 : PySem.W.nsIn K mainGlobals "is_way" = some (some (.ref f_is_way))) (l7 : K.lookup f_is_way = some ⟨oc7, od7, .func (PySem.W.fnOf "is_way" "is_way" (defArgs S_is_way) (defBody S_is_way) (defScope S_is_way) .none kV7 dc7 pm7 an7 cd7 ct7), sl7⟩) (c7 : PySem.W.codeIn K cd7 "is_way" = true) (k7 : PySem.W.keepIn K (.ref f_is_way) = true)
    {f_stands_of : Addr} {od8 an8 : Option Addr} {sl8 : Array (Option Value)} {oc8 kV8 dc8 pm8 cd8 ct8 : Value}
    (a8 : PySem.W.nsIn K mainGlobals "stands_of" = some (some (.ref f_stands_of))) (l8 : K.lookup f_stands_of = some ⟨oc8, od8, .func (PySem.W.fnOf "stands_of" "stands_of" (defArgs S_stands_of) (defBody S_stands_of) (defScope S_stands_of) .none kV8 dc8 pm8 an8 cd8 ct8), sl8⟩) (c8 : PySem.W.codeIn K cd8 "stands_of" = true) (k8 : PySem.W.keepIn K (.ref f_stands_of) = true)
    {f_is_deed : Addr} {od9 an9 : Option Addr} {sl9 : Array (Option Value)} {oc9 kV9 dc9 pm9 cd9 ct9 : Value}
    (a9 : PySem.W.nsIn K mainGlobals "is_deed" = some (some (.ref f_is_deed))) (l9 : K.lookup f_is_deed = some ⟨oc9, od9, .func (PySem.W.fnOf "is_deed" "is_deed" (defArgs S_is_deed) (defBody S_is_deed) (defScope S_is_deed) .none kV9 dc9 pm9 an9 cd9 ct9), sl9⟩) (c9 : PySem.W.codeIn K cd9 "is_deed" = true) (k9 : PySem.W.keepIn K (.ref f_is_deed) = true)
    {f_check_row : Addr} {od10 an10 : Option Addr} {sl10 : Array (Option Value)} {oc10 kV10 dc10 pm10 cd10 ct10 : Value}
    (a10 : PySem.W.nsIn K mainGlobals "check_row" = some (some (.ref f_check_row))) (l10 : K.lookup f_check_row = some ⟨oc10, od10, .func (PySem.W.fnOf "check_row" "check_row" (defArgs S_check_row) (defBody S_check_row) (defScope S_check_row) .none kV10 dc10 pm10 an10 cd10 ct10), sl10⟩) (c10 : PySem.W.codeIn K cd10 "check_row" = true) (k10 : PySem.W.keepIn K (.ref f_check_row) = true)
    {f_marks_up_to : Addr} {od11 an11 : Option Addr} {sl11 : Array (Option Value)} {oc11 kV11 dc11 pm11 cd11 ct11 : Value}
    (a11 : PySem.W.nsIn K mainGlobals "marks_up_to" = some (some (.ref f_marks_up_to))) (l11 : K.lookup f_marks_up_to = some ⟨oc11, od11, .func (PySem.W.fnOf "marks_up_to" "marks_up_to" (defArgs S_marks_up_to) (defBody S_marks_up_to) (defScope S_marks_up_to) .none kV11 dc11 pm11 an11 cd11 ct11), sl11⟩) (c11 : PySem.W.codeIn K cd11 "marks_up_to" = true) (k11 : PySem.W.keepIn K (.ref f_marks_up_to) = true)
    {f_marks_ahead : Addr} {od12 an12 : Option Addr} {sl12 : Array (Option Value)} {oc12 kV12 dc12 pm12 cd12 ct12 : Value}
    (a12 : PySem.W.nsIn K mainGlobals "marks_ahead" = some (some (.ref f_marks_ahead))) (l12 : K.lookup f_marks_ahead = some ⟨oc12, od12, .func (PySem.W.fnOf "marks_ahead" "marks_ahead" (defArgs S_marks_ahead) (defBody S_marks_ahead) (defScope S_marks_ahead) .none kV12 dc12 pm12 an12 cd12 ct12), sl12⟩) (c12 : PySem.W.codeIn K cd12 "marks_ahead" = true) (k12 : PySem.W.keepIn K (.ref f_marks_ahead) = true)
    {f_wheel_turned : Addr} {od13 an13 : Option Addr} {sl13 : Array (Option Value)} {oc13 kV13 dc13 pm13 cd13 ct13 : Value}
    (a13 : PySem.W.nsIn K mainGlobals "wheel_turned" = some (some (.ref f_wheel_turned))) (l13 : K.lookup f_wheel_turned = some ⟨oc13, od13, .func (PySem.W.fnOf "wheel_turned" "wheel_turned" (defArgs S_wheel_turned) (defBody S_wheel_turned) (defScope S_wheel_turned) .none kV13 dc13 pm13 an13 cd13 ct13), sl13⟩) (c13 : PySem.W.codeIn K cd13 "wheel_turned" = true) (k13 : PySem.W.keepIn K (.ref f_wheel_turned) = true)
    {f_rocker_turned : Addr} {od14 an14 : Option Addr} {sl14 : Array (Option Value)} {oc14 kV14 dc14 pm14 cd14 ct14 : Value}
    (a14 : PySem.W.nsIn K mainGlobals "rocker_turned" = some (some (.ref f_rocker_turned))) (l14 : K.lookup f_rocker_turned = some ⟨oc14, od14, .func (PySem.W.fnOf "rocker_turned" "rocker_turned" (defArgs S_rocker_turned) (defBody S_rocker_turned) (defScope S_rocker_turned) .none kV14 dc14 pm14 an14 cd14 ct14), sl14⟩) (c14 : PySem.W.codeIn K cd14 "rocker_turned" = true) (k14 : PySem.W.keepIn K (.ref f_rocker_turned) = true)
    {f_spring_turned : Addr} {od15 an15 : Option Addr} {sl15 : Array (Option Value)} {oc15 kV15 dc15 pm15 cd15 ct15 : Value}
    (a15 : PySem.W.nsIn K mainGlobals "spring_turned" = some (some (.ref f_spring_turned))) (l15 : K.lookup f_spring_turned = some ⟨oc15, od15, .func (PySem.W.fnOf "spring_turned" "spring_turned" (defArgs S_spring_turned) (defBody S_spring_turned) (defScope S_spring_turned) .none kV15 dc15 pm15 an15 cd15 ct15), sl15⟩) (c15 : PySem.W.codeIn K cd15 "spring_turned" = true) (k15 : PySem.W.keepIn K (.ref f_spring_turned) = true)
    {f_part_turned : Addr} {od16 an16 : Option Addr} {sl16 : Array (Option Value)} {oc16 kV16 dc16 pm16 cd16 ct16 : Value}
    (a16 : PySem.W.nsIn K mainGlobals "part_turned" = some (some (.ref f_part_turned))) (l16 : K.lookup f_part_turned = some ⟨oc16, od16, .func (PySem.W.fnOf "part_turned" "part_turned" (defArgs S_part_turned) (defBody S_part_turned) (defScope S_part_turned) .none kV16 dc16 pm16 an16 cd16 ct16), sl16⟩) (c16 : PySem.W.codeIn K cd16 "part_turned" = true) (k16 : PySem.W.keepIn K (.ref f_part_turned) = true)
    {f_row_left : Addr} {od17 an17 : Option Addr} {sl17 : Array (Option Value)} {oc17 kV17 dc17 pm17 cd17 ct17 : Value}
    (a17 : PySem.W.nsIn K mainGlobals "row_left" = some (some (.ref f_row_left))) (l17 : K.lookup f_row_left = some ⟨oc17, od17, .func (PySem.W.fnOf "row_left" "row_left" (defArgs S_row_left) (defBody S_row_left) (defScope S_row_left) .none kV17 dc17 pm17 an17 cd17 ct17), sl17⟩) (c17 : PySem.W.codeIn K cd17 "row_left" = true) (k17 : PySem.W.keepIn K (.ref f_row_left) = true)
    {f_left : Addr} {od18 an18 : Option Addr} {sl18 : Array (Option Value)} {oc18 kV18 dc18 pm18 cd18 ct18 : Value}
    (a18 : PySem.W.nsIn K mainGlobals "left" = some (some (.ref f_left))) (l18 : K.lookup f_left = some ⟨oc18, od18, .func (PySem.W.fnOf "left" "left" (defArgs S_left) (defBody S_left) (defScope S_left) .none kV18 dc18 pm18 an18 cd18 ct18), sl18⟩) (c18 : PySem.W.codeIn K cd18 "left" = true) (k18 : PySem.W.keepIn K (.ref f_left) = true)
    {f_check_count : Addr} {od19 an19 : Option Addr} {sl19 : Array (Option Value)} {oc19 kV19 dc19 pm19 cd19 ct19 : Value}
    (a19 : PySem.W.nsIn K mainGlobals "check_count" = some (some (.ref f_check_count))) (l19 : K.lookup f_check_count = some ⟨oc19, od19, .func (PySem.W.fnOf "check_count" "check_count" (defArgs S_check_count) (defBody S_check_count) (defScope S_check_count) .none kV19 dc19 pm19 an19 cd19 ct19), sl19⟩) (c19 : PySem.W.codeIn K cd19 "check_count" = true) (k19 : PySem.W.keepIn K (.ref f_check_count) = true)
    {f_left_often : Addr} {od20 an20 : Option Addr} {sl20 : Array (Option Value)} {oc20 kV20 dc20 pm20 cd20 ct20 : Value}
    (a20 : PySem.W.nsIn K mainGlobals "left_often" = some (some (.ref f_left_often))) (l20 : K.lookup f_left_often = some ⟨oc20, od20, .func (PySem.W.fnOf "left_often" "left_often" (defArgs S_left_often) (defBody S_left_often) (defScope S_left_often) .none kV20 dc20 pm20 an20 cd20 ct20), sl20⟩) (c20 : PySem.W.codeIn K cd20 "left_often" = true) (k20 : PySem.W.keepIn K (.ref f_left_often) = true)
    {f_passed_on : Addr} {od21 an21 : Option Addr} {sl21 : Array (Option Value)} {oc21 kV21 dc21 pm21 cd21 ct21 : Value}
    (a21 : PySem.W.nsIn K mainGlobals "passed_on" = some (some (.ref f_passed_on))) (l21 : K.lookup f_passed_on = some ⟨oc21, od21, .func (PySem.W.fnOf "passed_on" "passed_on" (defArgs S_passed_on) (defBody S_passed_on) (defScope S_passed_on) .none kV21 dc21 pm21 an21 cd21 ct21), sl21⟩) (c21 : PySem.W.codeIn K cd21 "passed_on" = true) (k21 : PySem.W.keepIn K (.ref f_passed_on) = true)
    {f_shown_sum : Addr} {od22 an22 : Option Addr} {sl22 : Array (Option Value)} {oc22 kV22 dc22 pm22 cd22 ct22 : Value}
    (a22 : PySem.W.nsIn K mainGlobals "shown_sum" = some (some (.ref f_shown_sum))) (l22 : K.lookup f_shown_sum = some ⟨oc22, od22, .func (PySem.W.fnOf "shown_sum" "shown_sum" (defArgs S_shown_sum) (defBody S_shown_sum) (defScope S_shown_sum) .none kV22 dc22 pm22 an22 cd22 ct22), sl22⟩) (c22 : PySem.W.codeIn K cd22 "shown_sum" = true) (k22 : PySem.W.keepIn K (.ref f_shown_sum) = true)
    {f_first_apart : Addr} {od23 an23 : Option Addr} {sl23 : Array (Option Value)} {oc23 kV23 dc23 pm23 cd23 ct23 : Value}
    (a23 : PySem.W.nsIn K mainGlobals "first_apart" = some (some (.ref f_first_apart))) (l23 : K.lookup f_first_apart = some ⟨oc23, od23, .func (PySem.W.fnOf "first_apart" "first_apart" (defArgs S_first_apart) (defBody S_first_apart) (defScope S_first_apart) .none kV23 dc23 pm23 an23 cd23 ct23), sl23⟩) (c23 : PySem.W.codeIn K cd23 "first_apart" = true) (k23 : PySem.W.keepIn K (.ref f_first_apart) = true)
    {f_first_apart_by_place : Addr} {od24 an24 : Option Addr} {sl24 : Array (Option Value)} {oc24 kV24 dc24 pm24 cd24 ct24 : Value}
    (a24 : PySem.W.nsIn K mainGlobals "first_apart_by_place" = some (some (.ref f_first_apart_by_place))) (l24 : K.lookup f_first_apart_by_place = some ⟨oc24, od24, .func (PySem.W.fnOf "first_apart_by_place" "first_apart_by_place" (defArgs S_first_apart_by_place) (defBody S_first_apart_by_place) (defScope S_first_apart_by_place) .none kV24 dc24 pm24 an24 cd24 ct24), sl24⟩) (c24 : PySem.W.codeIn K cd24 "first_apart_by_place" = true) (k24 : PySem.W.keepIn K (.ref f_first_apart_by_place) = true)
    {f_rows_alike : Addr} {od25 an25 : Option Addr} {sl25 : Array (Option Value)} {oc25 kV25 dc25 pm25 cd25 ct25 : Value}
    (a25 : PySem.W.nsIn K mainGlobals "rows_alike" = some (some (.ref f_rows_alike))) (l25 : K.lookup f_rows_alike = some ⟨oc25, od25, .func (PySem.W.fnOf "rows_alike" "rows_alike" (defArgs S_rows_alike) (defBody S_rows_alike) (defScope S_rows_alike) .none kV25 dc25 pm25 an25 cd25 ct25), sl25⟩) (c25 : PySem.W.codeIn K cd25 "rows_alike" = true) (k25 : PySem.W.keepIn K (.ref f_rows_alike) = true)
    {f_common_multiple : Addr} {od26 an26 : Option Addr} {sl26 : Array (Option Value)} {oc26 kV26 dc26 pm26 cd26 ct26 : Value}
    (a26 : PySem.W.nsIn K mainGlobals "common_multiple" = some (some (.ref f_common_multiple))) (l26 : K.lookup f_common_multiple = some ⟨oc26, od26, .func (PySem.W.fnOf "common_multiple" "common_multiple" (defArgs S_common_multiple) (defBody S_common_multiple) (defScope S_common_multiple) .none kV26 dc26 pm26 an26 cd26 ct26), sl26⟩) (c26 : PySem.W.codeIn K cd26 "common_multiple" = true) (k26 : PySem.W.keepIn K (.ref f_common_multiple) = true)
    {f_walk_from : Addr} {od27 an27 : Option Addr} {sl27 : Array (Option Value)} {oc27 kV27 dc27 pm27 cd27 ct27 : Value}
    (a27 : PySem.W.nsIn K mainGlobals "walk_from" = some (some (.ref f_walk_from))) (l27 : K.lookup f_walk_from = some ⟨oc27, od27, .func (PySem.W.fnOf "walk_from" "walk_from" (defArgs S_walk_from) (defBody S_walk_from) (defScope S_walk_from) .none kV27 dc27 pm27 an27 cd27 ct27), sl27⟩) (c27 : PySem.W.codeIn K cd27 "walk_from" = true) (k27 : PySem.W.keepIn K (.ref f_walk_from) = true)
    {f_row_round : Addr} {od28 an28 : Option Addr} {sl28 : Array (Option Value)} {oc28 kV28 dc28 pm28 cd28 ct28 : Value}
    (a28 : PySem.W.nsIn K mainGlobals "row_round" = some (some (.ref f_row_round))) (l28 : K.lookup f_row_round = some ⟨oc28, od28, .func (PySem.W.fnOf "row_round" "row_round" (defArgs S_row_round) (defBody S_row_round) (defScope S_row_round) .none kV28 dc28 pm28 an28 cd28 ct28), sl28⟩) (c28 : PySem.W.codeIn K cd28 "row_round" = true) (k28 : PySem.W.keepIn K (.ref f_row_round) = true)
    {f__law_draws : Addr} {od29 an29 : Option Addr} {sl29 : Array (Option Value)} {oc29 kV29 dc29 pm29 cd29 ct29 : Value}
    (a29 : PySem.W.nsIn K mainGlobals "_law_draws" = some (some (.ref f__law_draws))) (l29 : K.lookup f__law_draws = some ⟨oc29, od29, .func (PySem.W.fnOf "_law_draws" "_law_draws" (defArgs S__law_draws) (defBody S__law_draws) (defScope S__law_draws) .none kV29 dc29 pm29 an29 cd29 ct29), sl29⟩) (c29 : PySem.W.codeIn K cd29 "_law_draws" = true) (k29 : PySem.W.keepIn K (.ref f__law_draws) = true)
    {f__law_next : Addr} {od30 an30 : Option Addr} {sl30 : Array (Option Value)} {oc30 kV30 dc30 pm30 cd30 ct30 : Value}
    (a30 : PySem.W.nsIn K mainGlobals "_law_next" = some (some (.ref f__law_next))) (l30 : K.lookup f__law_next = some ⟨oc30, od30, .func (PySem.W.fnOf "_law_next" "_law_next" (defArgs S__law_next) (defBody S__law_next) (defScope S__law_next) .none kV30 dc30 pm30 an30 cd30 ct30), sl30⟩) (c30 : PySem.W.codeIn K cd30 "_law_next" = true) (k30 : PySem.W.keepIn K (.ref f__law_next) = true)
    {f__law_far : Addr} {od31 an31 : Option Addr} {sl31 : Array (Option Value)} {oc31 kV31 dc31 pm31 cd31 ct31 : Value}
    (a31 : PySem.W.nsIn K mainGlobals "_law_far" = some (some (.ref f__law_far))) (l31 : K.lookup f__law_far = some ⟨oc31, od31, .func (PySem.W.fnOf "_law_far" "_law_far" (defArgs S__law_far) (defBody S__law_far) (defScope S__law_far) .none kV31 dc31 pm31 an31 cd31 ct31), sl31⟩) (c31 : PySem.W.codeIn K cd31 "_law_far" = true) (k31 : PySem.W.keepIn K (.ref f__law_far) = true)
    {f__law_part : Addr} {od32 an32 : Option Addr} {sl32 : Array (Option Value)} {oc32 kV32 dc32 pm32 cd32 ct32 : Value}
    (a32 : PySem.W.nsIn K mainGlobals "_law_part" = some (some (.ref f__law_part))) (l32 : K.lookup f__law_part = some ⟨oc32, od32, .func (PySem.W.fnOf "_law_part" "_law_part" (defArgs S__law_part) (defBody S__law_part) (defScope S__law_part) .none kV32 dc32 pm32 an32 cd32 ct32), sl32⟩) (c32 : PySem.W.codeIn K cd32 "_law_part" = true) (k32 : PySem.W.keepIn K (.ref f__law_part) = true)
    {f__law_places : Addr} {od33 an33 : Option Addr} {sl33 : Array (Option Value)} {oc33 kV33 dc33 pm33 cd33 ct33 : Value}
    (a33 : PySem.W.nsIn K mainGlobals "_law_places" = some (some (.ref f__law_places))) (l33 : K.lookup f__law_places = some ⟨oc33, od33, .func (PySem.W.fnOf "_law_places" "_law_places" (defArgs S__law_places) (defBody S__law_places) (defScope S__law_places) .none kV33 dc33 pm33 an33 cd33 ct33), sl33⟩) (c33 : PySem.W.codeIn K cd33 "_law_places" = true) (k33 : PySem.W.keepIn K (.ref f__law_places) = true)
    {f__law_many : Addr} {od34 an34 : Option Addr} {sl34 : Array (Option Value)} {oc34 kV34 dc34 pm34 cd34 ct34 : Value}
    (a34 : PySem.W.nsIn K mainGlobals "_law_many" = some (some (.ref f__law_many))) (l34 : K.lookup f__law_many = some ⟨oc34, od34, .func (PySem.W.fnOf "_law_many" "_law_many" (defArgs S__law_many) (defBody S__law_many) (defScope S__law_many) .none kV34 dc34 pm34 an34 cd34 ct34), sl34⟩) (c34 : PySem.W.codeIn K cd34 "_law_many" = true) (k34 : PySem.W.keepIn K (.ref f__law_many) = true)
    {f__law_train : Addr} {od35 an35 : Option Addr} {sl35 : Array (Option Value)} {oc35 kV35 dc35 pm35 cd35 ct35 : Value}
    (a35 : PySem.W.nsIn K mainGlobals "_law_train" = some (some (.ref f__law_train))) (l35 : K.lookup f__law_train = some ⟨oc35, od35, .func (PySem.W.fnOf "_law_train" "_law_train" (defArgs S__law_train) (defBody S__law_train) (defScope S__law_train) .none kV35 dc35 pm35 an35 cd35 ct35), sl35⟩) (c35 : PySem.W.codeIn K cd35 "_law_train" = true) (k35 : PySem.W.keepIn K (.ref f__law_train) = true)
    {f__law_row : Addr} {od36 an36 : Option Addr} {sl36 : Array (Option Value)} {oc36 kV36 dc36 pm36 cd36 ct36 : Value}
    (a36 : PySem.W.nsIn K mainGlobals "_law_row" = some (some (.ref f__law_row))) (l36 : K.lookup f__law_row = some ⟨oc36, od36, .func (PySem.W.fnOf "_law_row" "_law_row" (defArgs S__law_row) (defBody S__law_row) (defScope S__law_row) .none kV36 dc36 pm36 an36 cd36 ct36), sl36⟩) (c36 : PySem.W.codeIn K cd36 "_law_row" = true) (k36 : PySem.W.keepIn K (.ref f__law_row) = true)
    {f__law_common : Addr} {od37 an37 : Option Addr} {sl37 : Array (Option Value)} {oc37 kV37 dc37 pm37 cd37 ct37 : Value}
    (a37 : PySem.W.nsIn K mainGlobals "_law_common" = some (some (.ref f__law_common))) (l37 : K.lookup f__law_common = some ⟨oc37, od37, .func (PySem.W.fnOf "_law_common" "_law_common" (defArgs S__law_common) (defBody S__law_common) (defScope S__law_common) .none kV37 dc37 pm37 an37 cd37 ct37), sl37⟩) (c37 : PySem.W.codeIn K cd37 "_law_common" = true) (k37 : PySem.W.keepIn K (.ref f__law_common) = true)
    {f__law_is_round : Addr} {od38 an38 : Option Addr} {sl38 : Array (Option Value)} {oc38 kV38 dc38 pm38 cd38 ct38 : Value}
    (a38 : PySem.W.nsIn K mainGlobals "_law_is_round" = some (some (.ref f__law_is_round))) (l38 : K.lookup f__law_is_round = some ⟨oc38, od38, .func (PySem.W.fnOf "_law_is_round" "_law_is_round" (defArgs S__law_is_round) (defBody S__law_is_round) (defScope S__law_is_round) .none kV38 dc38 pm38 an38 cd38 ct38), sl38⟩) (c38 : PySem.W.codeIn K cd38 "_law_is_round" = true) (k38 : PySem.W.keepIn K (.ref f__law_is_round) = true)
    {f__law_rounds_right : Addr} {od39 an39 : Option Addr} {sl39 : Array (Option Value)} {oc39 kV39 dc39 pm39 cd39 ct39 : Value}
    (a39 : PySem.W.nsIn K mainGlobals "_law_rounds_right" = some (some (.ref f__law_rounds_right))) (l39 : K.lookup f__law_rounds_right = some ⟨oc39, od39, .func (PySem.W.fnOf "_law_rounds_right" "_law_rounds_right" (defArgs S__law_rounds_right) (defBody S__law_rounds_right) (defScope S__law_rounds_right) .none kV39 dc39 pm39 an39 cd39 ct39), sl39⟩) (c39 : PySem.W.codeIn K cd39 "_law_rounds_right" = true) (k39 : PySem.W.keepIn K (.ref f__law_rounds_right) = true)
    {f__law_often_right : Addr} {od40 an40 : Option Addr} {sl40 : Array (Option Value)} {oc40 kV40 dc40 pm40 cd40 ct40 : Value}
    (a40 : PySem.W.nsIn K mainGlobals "_law_often_right" = some (some (.ref f__law_often_right))) (l40 : K.lookup f__law_often_right = some ⟨oc40, od40, .func (PySem.W.fnOf "_law_often_right" "_law_often_right" (defArgs S__law_often_right) (defBody S__law_often_right) (defScope S__law_often_right) .none kV40 dc40 pm40 an40 cd40 ct40), sl40⟩) (c40 : PySem.W.codeIn K cd40 "_law_often_right" = true) (k40 : PySem.W.keepIn K (.ref f__law_often_right) = true)
    {f__law_behind_right : Addr} {od41 an41 : Option Addr} {sl41 : Array (Option Value)} {oc41 kV41 dc41 pm41 cd41 ct41 : Value}
    (a41 : PySem.W.nsIn K mainGlobals "_law_behind_right" = some (some (.ref f__law_behind_right))) (l41 : K.lookup f__law_behind_right = some ⟨oc41, od41, .func (PySem.W.fnOf "_law_behind_right" "_law_behind_right" (defArgs S__law_behind_right) (defBody S__law_behind_right) (defScope S__law_behind_right) .none kV41 dc41 pm41 an41 cd41 ct41), sl41⟩) (c41 : PySem.W.codeIn K cd41 "_law_behind_right" = true) (k41 : PySem.W.keepIn K (.ref f__law_behind_right) = true)
    {f_law : Addr} {od42 an42 : Option Addr} {sl42 : Array (Option Value)} {oc42 kV42 dc42 pm42 cd42 ct42 : Value}
    (a42 : PySem.W.nsIn K mainGlobals "law" = some (some (.ref f_law))) (l42 : K.lookup f_law = some ⟨oc42, od42, .func (PySem.W.fnOf "law" "law" (defArgs S_law) (defBody S_law) (defScope S_law) .none kV42 dc42 pm42 an42 cd42 ct42), sl42⟩) (c42 : PySem.W.codeIn K cd42 "law" = true) (k42 : PySem.W.keepIn K (.ref f_law) = true)
    (z0 : PySem.W.nsIn K mainGlobals "isinstance" = some none)
    (z1 : PySem.W.nsIn K mainGlobals "int" = some none)
    (z2 : PySem.W.nsIn K mainGlobals "bool" = some none)
    (z3 : PySem.W.nsIn K mainGlobals "tuple" = some none)
    (z4 : PySem.W.nsIn K mainGlobals "len" = some none)
    (z5 : PySem.W.nsIn K mainGlobals "list" = some none)
    (z6 : PySem.W.nsIn K mainGlobals "zip" = some none)
    (z7 : PySem.W.nsIn K mainGlobals "range" = some none)
    (z8 : PySem.W.nsIn K mainGlobals "abs" = some none)
    (z9 : PySem.W.nsIn K mainGlobals "max" = some none)
    (z10 : PySem.W.nsIn K mainGlobals "divmod" = some none)
    (z11 : PySem.W.nsIn K mainGlobals "sum" = some none)
    (z12 : PySem.W.nsIn K mainGlobals "reversed" = some none)
    (z13 : PySem.W.nsIn K mainGlobals "all" = some none)
    (z14 : PySem.W.nsIn K mainGlobals "enumerate" = some none)
    : ∃ fd : FuncData, (∀ (s : Shared) (v : Value), BindsTo s fd ⟨[v], []⟩ [("_law_script", v)]) ∧ ∀ base : Heap, K.In base → base.Ns mainGlobals mg → FnOk l.prog w K mg base CX0 19 fa fd ["_law_script"] (sp_law K) := by
  have e := hfa.symm.trans (PySem.W.mg_of X G a42)
  cases e
  have F_is_whole := fun_mk (st := S_is_whole) l0 c0 k0
  have F_are_marks := fun_mk (st := S_are_marks) l1 c1 k1
  have F_is_part := fun_mk (st := S_is_part) l2 c2 k2
  have F_check_train := fun_mk (st := S_check_train) l3 c3 k3
  have F_place_count := fun_mk (st := S_place_count) l4 c4 k4
  have F_is_stand := fun_mk (st := S_is_stand) l5 c5 k5
  have F_check_stand := fun_mk (st := S_check_stand) l6 c6 k6
  have F_is_way := fun_mk (st := S_is_way) l7 c7 k7
  have F_stands_of := fun_mk (st := S_stands_of) l8 c8 k8
  have F_is_deed := fun_mk (st := S_is_deed) l9 c9 k9
  have F_check_row := fun_mk (st := S_check_row) l10 c10 k10
  have F_marks_up_to := fun_mk (st := S_marks_up_to) l11 c11 k11
  have F_marks_ahead := fun_mk (st := S_marks_ahead) l12 c12 k12
  have F_wheel_turned := fun_mk (st := S_wheel_turned) l13 c13 k13
  have F_rocker_turned := fun_mk (st := S_rocker_turned) l14 c14 k14
  have F_spring_turned := fun_mk (st := S_spring_turned) l15 c15 k15
  have F_part_turned := fun_mk (st := S_part_turned) l16 c16 k16
  have F_row_left := fun_mk (st := S_row_left) l17 c17 k17
  have F_left := fun_mk (st := S_left) l18 c18 k18
  have F_check_count := fun_mk (st := S_check_count) l19 c19 k19
  have F_left_often := fun_mk (st := S_left_often) l20 c20 k20
  have F_passed_on := fun_mk (st := S_passed_on) l21 c21 k21
  have F_shown_sum := fun_mk (st := S_shown_sum) l22 c22 k22
  have F_first_apart := fun_mk (st := S_first_apart) l23 c23 k23
  have F_first_apart_by_place := fun_mk (st := S_first_apart_by_place) l24 c24 k24
  have F_rows_alike := fun_mk (st := S_rows_alike) l25 c25 k25
  have F_common_multiple := fun_mk (st := S_common_multiple) l26 c26 k26
  have F_walk_from := fun_mk (st := S_walk_from) l27 c27 k27
  have F_row_round := fun_mk (st := S_row_round) l28 c28 k28
  have F__law_draws := fun_mk (st := S__law_draws) l29 c29 k29
  have F__law_next := fun_mk (st := S__law_next) l30 c30 k30
  have F__law_far := fun_mk (st := S__law_far) l31 c31 k31
  have F__law_part := fun_mk (st := S__law_part) l32 c32 k32
  have F__law_places := fun_mk (st := S__law_places) l33 c33 k33
  have F__law_many := fun_mk (st := S__law_many) l34 c34 k34
  have F__law_train := fun_mk (st := S__law_train) l35 c35 k35
  have F__law_row := fun_mk (st := S__law_row) l36 c36 k36
  have F__law_common := fun_mk (st := S__law_common) l37 c37 k37
  have F__law_is_round := fun_mk (st := S__law_is_round) l38 c38 k38
  have F__law_rounds_right := fun_mk (st := S__law_rounds_right) l39 c39 k39
  have F__law_often_right := fun_mk (st := S__law_often_right) l40 c40 k40
  have F__law_behind_right := fun_mk (st := S__law_behind_right) l41 c41 k41
  have F_law := fun_mk (st := S_law) l42 c42 k42
  have m_isinstance := PySem.W.mg_none_of X G z0
  have m_int := PySem.W.mg_none_of X G z1
  have m_bool := PySem.W.mg_none_of X G z2
  have m_tuple := PySem.W.mg_none_of X G z3
  have m_len := PySem.W.mg_none_of X G z4
  have m_list := PySem.W.mg_none_of X G z5
  have m_zip := PySem.W.mg_none_of X G z6
  have m_range := PySem.W.mg_none_of X G z7
  have m_abs := PySem.W.mg_none_of X G z8
  have m_max := PySem.W.mg_none_of X G z9
  have m_divmod := PySem.W.mg_none_of X G z10
  have m_sum := PySem.W.mg_none_of X G z11
  have m_reversed := PySem.W.mg_none_of X G z12
  have m_all := PySem.W.mg_none_of X G z13
  have m_enumerate := PySem.W.mg_none_of X G z14
  have b_is_whole := F_is_whole.binds (ps := ["thing"]) fun _ _ _ _ _ _ us hl => match us, hl with | [_], _ => rfl
  have g_is_whole := PySem.W.mg_of X G a0
  have b_are_marks := F_are_marks.binds (ps := ["thing", "teeth"]) fun _ _ _ _ _ _ us hl => match us, hl with | [_, _], _ => rfl
  have g_are_marks := PySem.W.mg_of X G a1
  have b_is_part := F_is_part.binds (ps := ["thing"]) fun _ _ _ _ _ _ us hl => match us, hl with | [_], _ => rfl
  have g_is_part := PySem.W.mg_of X G a2
  have b_check_train := F_check_train.binds (ps := ["train"]) fun _ _ _ _ _ _ us hl => match us, hl with | [_], _ => rfl
  have g_check_train := PySem.W.mg_of X G a3
  have b_place_count := F_place_count.binds (ps := ["part"]) fun _ _ _ _ _ _ us hl => match us, hl with | [_], _ => rfl
  have g_place_count := PySem.W.mg_of X G a4
  have b_is_stand := F_is_stand.binds (ps := ["train", "thing"]) fun _ _ _ _ _ _ us hl => match us, hl with | [_, _], _ => rfl
  have g_is_stand := PySem.W.mg_of X G a5
  have b_check_stand := F_check_stand.binds (ps := ["train", "stand"]) fun _ _ _ _ _ _ us hl => match us, hl with | [_, _], _ => rfl
  have g_check_stand := PySem.W.mg_of X G a6
  have b_is_way := F_is_way.binds (ps := ["thing"]) fun _ _ _ _ _ _ us hl => match us, hl with | [_], _ => rfl
  have g_is_way := PySem.W.mg_of X G a7
  have b_stands_of := F_stands_of.binds (ps := ["train"]) fun _ _ _ _ _ _ us hl => match us, hl with | [_], _ => rfl
  have g_stands_of := PySem.W.mg_of X G a8
  have b_is_deed := F_is_deed.binds (ps := ["thing", "parts"]) fun _ _ _ _ _ _ us hl => match us, hl with | [_, _], _ => rfl
  have g_is_deed := PySem.W.mg_of X G a9
  have b_check_row := F_check_row.binds (ps := ["train", "row"]) fun _ _ _ _ _ _ us hl => match us, hl with | [_, _], _ => rfl
  have g_check_row := PySem.W.mg_of X G a10
  have b_marks_up_to := F_marks_up_to.binds (ps := ["marks", "place"]) fun _ _ _ _ _ _ us hl => match us, hl with | [_, _], _ => rfl
  have g_marks_up_to := PySem.W.mg_of X G a11
  have b_marks_ahead := F_marks_ahead.binds (ps := ["part", "tooth"]) fun _ _ _ _ _ _ us hl => match us, hl with | [_, _], _ => rfl
  have g_marks_ahead := PySem.W.mg_of X G a12
  have b_wheel_turned := F_wheel_turned.binds (ps := ["part", "place", "way", "times"]) fun _ _ _ _ _ _ us hl => match us, hl with | [_, _, _, _], _ => rfl
  have g_wheel_turned := PySem.W.mg_of X G a13
  have b_rocker_turned := F_rocker_turned.binds (ps := ["place", "way", "times"]) fun _ _ _ _ _ _ us hl => match us, hl with | [_, _, _], _ => rfl
  have g_rocker_turned := PySem.W.mg_of X G a14
  have b_spring_turned := F_spring_turned.binds (ps := ["part", "place", "way", "times"]) fun _ _ _ _ _ _ us hl => match us, hl with | [_, _, _, _], _ => rfl
  have g_spring_turned := PySem.W.mg_of X G a15
  have b_part_turned := F_part_turned.binds (ps := ["part", "place", "way", "times"]) fun _ _ _ _ _ _ us hl => match us, hl with | [_, _, _, _], _ => rfl
  have g_part_turned := PySem.W.mg_of X G a16
  have b_row_left := F_row_left.binds (ps := ["train", "stand", "row"]) fun _ _ _ _ _ _ us hl => match us, hl with | [_, _, _], _ => rfl
  have g_row_left := PySem.W.mg_of X G a17
  have b_left := F_left.binds (ps := ["train", "stand", "row"]) fun _ _ _ _ _ _ us hl => match us, hl with | [_, _, _], _ => rfl
  have g_left := PySem.W.mg_of X G a18
  have b_check_count := F_check_count.binds (ps := ["times"]) fun _ _ _ _ _ _ us hl => match us, hl with | [_], _ => rfl
  have g_check_count := PySem.W.mg_of X G a19
  have b_left_often := F_left_often.binds (ps := ["train", "stand", "row", "times"]) fun _ _ _ _ _ _ us hl => match us, hl with | [_, _, _, _], _ => rfl
  have g_left_often := PySem.W.mg_of X G a20
  have b_passed_on := F_passed_on.binds (ps := ["part", "at", "place", "deeds"]) fun _ _ _ _ _ _ us hl => match us, hl with | [_, _, _, _], _ => rfl
  have g_passed_on := PySem.W.mg_of X G a21
  have b_shown_sum := F_shown_sum.binds (ps := ["deeds"]) fun _ _ _ _ _ _ us hl => match us, hl with | [_], _ => rfl
  have g_shown_sum := PySem.W.mg_of X G a22
  have b_first_apart := F_first_apart.binds (ps := ["train", "at", "one", "other", "known"]) fun _ _ _ _ _ _ us hl => match us, hl with | [_, _, _, _, _], _ => rfl
  have g_first_apart := PySem.W.mg_of X G a23
  have b_first_apart_by_place := F_first_apart_by_place.binds (ps := ["train", "at", "one", "other", "known"]) fun _ _ _ _ _ _ us hl => match us, hl with | [_, _, _, _, _], _ => rfl
  have g_first_apart_by_place := PySem.W.mg_of X G a24
  have b_rows_alike := F_rows_alike.binds (ps := ["train", "one", "other"]) fun _ _ _ _ _ _ us hl => match us, hl with | [_, _, _], _ => rfl
  have g_rows_alike := PySem.W.mg_of X G a25
  have b_common_multiple := F_common_multiple.binds (ps := ["one", "other"]) fun _ _ _ _ _ _ us hl => match us, hl with | [_, _], _ => rfl
  have g_common_multiple := PySem.W.mg_of X G a26
  have b_walk_from := F_walk_from.binds (ps := ["stand", "after", "ahead_of"]) fun _ _ _ _ _ _ us hl => match us, hl with | [_, _, _], _ => rfl
  have g_walk_from := PySem.W.mg_of X G a27
  have b_row_round := F_row_round.binds (ps := ["train", "row"]) fun _ _ _ _ _ _ us hl => match us, hl with | [_, _], _ => rfl
  have g_row_round := PySem.W.mg_of X G a28
  have b__law_draws := F__law_draws.binds (ps := ["_law_cell"]) fun _ _ _ _ _ _ us hl => match us, hl with | [_], _ => rfl
  have g__law_draws := PySem.W.mg_of X G a29
  have b__law_next := F__law_next.binds (ps := ["_law_draws_here"]) fun _ _ _ _ _ _ us hl => match us, hl with | [_], _ => rfl
  have g__law_next := PySem.W.mg_of X G a30
  have b__law_far := F__law_far.binds (ps := ["_law_draws_here", "_law_most"]) fun _ _ _ _ _ _ us hl => match us, hl with | [_, _], _ => rfl
  have g__law_far := PySem.W.mg_of X G a31
  have b__law_part := F__law_part.binds (ps := ["_law_draws_here"]) fun _ _ _ _ _ _ us hl => match us, hl with | [_], _ => rfl
  have g__law_part := PySem.W.mg_of X G a32
  have b__law_places := F__law_places.binds (ps := ["_law_part_here"]) fun _ _ _ _ _ _ us hl => match us, hl with | [_], _ => rfl
  have g__law_places := PySem.W.mg_of X G a33
  have b__law_many := F__law_many.binds (ps := ["_law_train_here"]) fun _ _ _ _ _ _ us hl => match us, hl with | [_], _ => rfl
  have g__law_many := PySem.W.mg_of X G a34
  have b__law_train := F__law_train.binds (ps := ["_law_draws_here", "_law_great"]) fun _ _ _ _ _ _ us hl => match us, hl with | [_, _], _ => rfl
  have g__law_train := PySem.W.mg_of X G a35
  have b__law_row := F__law_row.binds (ps := ["_law_draws_here", "_law_train_here", "_law_most"]) fun _ _ _ _ _ _ us hl => match us, hl with | [_, _, _], _ => rfl
  have g__law_row := PySem.W.mg_of X G a36
  have b__law_common := F__law_common.binds (ps := ["_law_one", "_law_other"]) fun _ _ _ _ _ _ us hl => match us, hl with | [_, _], _ => rfl
  have g__law_common := PySem.W.mg_of X G a37
  have b__law_is_round := F__law_is_round.binds (ps := ["_law_told"]) fun _ _ _ _ _ _ us hl => match us, hl with | [_], _ => rfl
  have g__law_is_round := PySem.W.mg_of X G a38
  have b__law_rounds_right := F__law_rounds_right.binds (ps := ["_law_train_here", "_law_one", "_law_other", "_law_often"]) fun _ _ _ _ _ _ us hl => match us, hl with | [_, _, _, _], _ => rfl
  have g__law_rounds_right := PySem.W.mg_of X G a39
  have b__law_often_right := F__law_often_right.binds (ps := ["_law_train_here", "_law_stand", "_law_one", "_law_other", "_law_counts"]) fun _ _ _ _ _ _ us hl => match us, hl with | [_, _, _, _, _], _ => rfl
  have g__law_often_right := PySem.W.mg_of X G a40
  have b__law_behind_right := F__law_behind_right.binds (ps := ["_law_front", "_law_train_here", "_law_one", "_law_other"]) fun _ _ _ _ _ _ us hl => match us, hl with | [_, _, _, _], _ => rfl
  have g__law_behind_right := PySem.W.mg_of X G a41
  refine ⟨PySem.W.fnOf "law" "law" (defArgs S_law) (defBody S_law) (defScope S_law) .none kV42 dc42 pm42 an42 cd42 ct42, fun s v => .of_eq rfl, fun base _ _ => ?_⟩
  have G_is_whole : FnOk l.prog w K mg base CX0 1 _ _ ["thing"] (sp_is_whole K) := ok_is_whole F_is_whole  m_isinstance m_int m_bool   
  have G_are_marks : FnOk l.prog w K mg base CX0 2 _ _ ["thing", "teeth"] (sp_are_marks K) := ok_are_marks F_are_marks F_is_whole b_is_whole g_is_whole G_is_whole m_isinstance m_tuple   
  have G_is_part : FnOk l.prog w K mg base CX0 3 _ _ ["thing"] (sp_is_part K) := ok_is_part F_is_part F_is_whole b_is_whole g_is_whole G_is_whole F_are_marks b_are_marks g_are_marks G_are_marks m_isinstance m_tuple m_len   
  have G_check_train : FnOk l.prog w K mg base CX0 4 _ _ ["train"] (sp_check_train K) := ok_check_train F_check_train F_is_part b_is_part g_is_part G_is_part m_isinstance m_list m_len   
  have G_place_count : FnOk l.prog w K mg base CX0 1 _ _ ["part"] (sp_place_count K) := ok_place_count F_place_count     
  have G_is_stand : FnOk l.prog w K mg base CX0 2 _ _ ["train", "thing"] (sp_is_stand K) := ok_is_stand F_is_stand F_place_count b_place_count g_place_count G_place_count F_is_whole b_is_whole g_is_whole G_is_whole m_zip m_isinstance m_tuple m_len   
  have G_check_stand : FnOk l.prog w K mg base CX0 5 _ _ ["train", "stand"] (sp_check_stand K) := ok_check_stand F_check_stand F_is_stand b_is_stand g_is_stand G_is_stand F_check_train b_check_train g_check_train G_check_train    
  have G_is_way : FnOk l.prog w K mg base CX0 2 _ _ ["thing"] (sp_is_way K) := ok_is_way F_is_way F_is_whole b_is_whole g_is_whole G_is_whole    
  have G_stands_of : FnOk l.prog w K mg base CX0 5 _ _ ["train"] (sp_stands_of K) := ok_stands_of F_stands_of F_place_count b_place_count g_place_count G_place_count F_check_train b_check_train g_check_train G_check_train m_range   
  have G_is_deed : FnOk l.prog w K mg base CX0 3 _ _ ["thing", "parts"] (sp_is_deed K) := ok_is_deed F_is_deed F_is_whole b_is_whole g_is_whole G_is_whole F_is_way b_is_way g_is_way G_is_way m_isinstance m_tuple m_len   
  have G_check_row : FnOk l.prog w K mg base CX0 4 _ _ ["train", "row"] (sp_check_row K) := ok_check_row F_check_row F_is_deed b_is_deed g_is_deed G_is_deed m_isinstance m_list m_len   
  have G_marks_up_to : FnOk l.prog w K mg base CX0 1 _ _ ["marks", "place"] (sp_marks_up_to K) := ok_marks_up_to F_marks_up_to  m_len   
  have G_marks_ahead : FnOk l.prog w K mg base CX0 2 _ _ ["part", "tooth"] (sp_marks_ahead K) := ok_marks_ahead F_marks_ahead F_marks_up_to b_marks_up_to g_marks_up_to G_marks_up_to m_len   
  have G_wheel_turned : FnOk l.prog w K mg base CX0 3 _ _ ["part", "place", "way", "times"] (sp_wheel_turned K) := ok_wheel_turned F_wheel_turned F_marks_ahead b_marks_ahead g_marks_ahead G_marks_ahead m_abs   
  have G_rocker_turned : FnOk l.prog w K mg base CX0 1 _ _ ["place", "way", "times"] (sp_rocker_turned K) := ok_rocker_turned F_rocker_turned     
  have G_spring_turned : FnOk l.prog w K mg base CX0 1 _ _ ["part", "place", "way", "times"] (sp_spring_turned K) := ok_spring_turned F_spring_turned  m_max   
  have G_part_turned : FnOk l.prog w K mg base CX0 4 _ _ ["part", "place", "way", "times"] (sp_part_turned K) := ok_part_turned F_part_turned F_spring_turned b_spring_turned g_spring_turned G_spring_turned F_rocker_turned b_rocker_turned g_rocker_turned G_rocker_turned F_wheel_turned b_wheel_turned g_wheel_turned G_wheel_turned    
  have G_row_left : FnOk l.prog w K mg base CX0 5 _ _ ["train", "stand", "row"] (sp_row_left K) := ok_row_left F_row_left F_part_turned b_part_turned g_part_turned G_part_turned m_list m_range m_tuple m_len   
  have G_left : FnOk l.prog w K mg base CX0 6 _ _ ["train", "stand", "row"] (sp_left K) := ok_left F_left F_row_left b_row_left g_row_left G_row_left F_check_row b_check_row g_check_row G_check_row F_check_stand b_check_stand g_check_stand G_check_stand    
  have G_check_count : FnOk l.prog w K mg base CX0 2 _ _ ["times"] (sp_check_count K) := ok_check_count F_check_count F_is_whole b_is_whole g_is_whole G_is_whole    
  have G_left_often : FnOk l.prog w K mg base CX0 6 _ _ ["train", "stand", "row", "times"] (sp_left_often K) := ok_left_often F_left_often F_row_left b_row_left g_row_left G_row_left F_check_count b_check_count g_check_count G_check_count F_check_row b_check_row g_check_row G_check_row F_check_stand b_check_stand g_check_stand G_check_stand m_divmod m_len   
  have G_passed_on : FnOk l.prog w K mg base CX0 5 _ _ ["part", "at", "place", "deeds"] (sp_passed_on K) := ok_passed_on F_passed_on F_part_turned b_part_turned g_part_turned G_part_turned m_tuple   
  have G_shown_sum : FnOk l.prog w K mg base CX0 1 _ _ ["deeds"] (sp_shown_sum K) := ok_shown_sum F_shown_sum  m_sum   
  have G_first_apart : FnOk l.prog w K mg base CX0 16 _ _ ["train", "at", "one", "other", "known"] (sp_first_apart w 5 K) := rec_first_apart F_first_apart b_first_apart g_first_apart F_first_apart_by_place b_first_apart_by_place g_first_apart_by_place F_shown_sum b_shown_sum g_shown_sum G_shown_sum F_place_count b_place_count g_place_count G_place_count F_passed_on b_passed_on g_passed_on G_passed_on m_len m_range 5
  have G_rows_alike : FnOk l.prog w K mg base CX0 17 _ _ ["train", "one", "other"] (sp_rows_alike K) := ok_rows_alike F_rows_alike F_first_apart b_first_apart g_first_apart G_first_apart F_check_row b_check_row g_check_row G_check_row F_check_train b_check_train g_check_train G_check_train m_tuple   
  have G_common_multiple : FnOk l.prog w K mg base CX0 1 _ _ ["one", "other"] (sp_common_multiple K) := ok_common_multiple F_common_multiple     
  have G_walk_from : FnOk l.prog w K mg base CX0 1 _ _ ["stand", "after", "ahead_of"] (sp_walk_from K) := ok_walk_from F_walk_from  m_list   
  have G_row_round : FnOk l.prog w K mg base CX0 6 _ _ ["train", "row"] (sp_row_round K) := ok_row_round F_row_round F_common_multiple b_common_multiple g_common_multiple G_common_multiple F_walk_from b_walk_from g_walk_from G_walk_from F_row_left b_row_left g_row_left G_row_left F_stands_of b_stands_of g_stands_of G_stands_of F_check_row b_check_row g_check_row G_check_row F_check_train b_check_train g_check_train G_check_train m_reversed m_max m_len   
  have G__law_draws : FnOk l.prog w K mg base CX0 1 _ _ ["_law_cell"] (sp__law_draws K) := ok__law_draws F__law_draws     
  have G__law_next : FnOk l.prog w K mg base CX0 1 _ _ ["_law_draws_here"] (sp__law_next K) := ok__law_next F__law_next     
  have G__law_far : FnOk l.prog w K mg base CX0 2 _ _ ["_law_draws_here", "_law_most"] (sp__law_far K) := ok__law_far F__law_far F__law_next b__law_next g__law_next G__law_next m_range   
  have G__law_part : FnOk l.prog w K mg base CX0 2 _ _ ["_law_draws_here"] (sp__law_part K) := ok__law_part F__law_part F__law_next b__law_next g__law_next G__law_next m_tuple m_range   
  have G__law_places : FnOk l.prog w K mg base CX0 1 _ _ ["_law_part_here"] (sp__law_places K) := ok__law_places F__law_places  m_int   
  have G__law_many : FnOk l.prog w K mg base CX0 2 _ _ ["_law_train_here"] (sp__law_many K) := ok__law_many F__law_many F__law_places b__law_places g__law_places G__law_places    
  have G__law_train : FnOk l.prog w K mg base CX0 3 _ _ ["_law_draws_here", "_law_great"] (sp__law_train K) := ok__law_train F__law_train F__law_next b__law_next g__law_next G__law_next F__law_many b__law_many g__law_many G__law_many F__law_places b__law_places g__law_places G__law_places F__law_part b__law_part g__law_part G__law_part m_range m_tuple m_len   
  have G__law_row : FnOk l.prog w K mg base CX0 3 _ _ ["_law_draws_here", "_law_train_here", "_law_most"] (sp__law_row K) := ok__law_row F__law_row F__law_next b__law_next g__law_next G__law_next F__law_far b__law_far g__law_far G__law_far m_range m_len   
  have G__law_common : FnOk l.prog w K mg base CX0 1 _ _ ["_law_one", "_law_other"] (sp__law_common K) := ok__law_common F__law_common     
  have G__law_is_round : FnOk l.prog w K mg base CX0 1 _ _ ["_law_told"] (sp__law_is_round K) := ok__law_is_round F__law_is_round  m_isinstance m_tuple m_len m_bool m_int   
  have G__law_rounds_right : FnOk l.prog w K mg base CX0 18 _ _ ["_law_train_here", "_law_one", "_law_other", "_law_often"] (sp__law_rounds_right K) := ok__law_rounds_right F__law_rounds_right F__law_common b__law_common g__law_common G__law_common F_rows_alike b_rows_alike g_rows_alike G_rows_alike F__law_is_round b__law_is_round g__law_is_round G__law_is_round F_row_round b_row_round g_row_round G_row_round m_all m_abs   
  have G__law_often_right : FnOk l.prog w K mg base CX0 7 _ _ ["_law_train_here", "_law_stand", "_law_one", "_law_other", "_law_counts"] (sp__law_often_right K) := ok__law_often_right F__law_often_right F_left_often b_left_often g_left_often G_left_often F_left b_left g_left G_left F_row_round b_row_round g_row_round G_row_round    
  have G__law_behind_right : FnOk l.prog w K mg base CX0 18 _ _ ["_law_front", "_law_train_here", "_law_one", "_law_other"] (sp__law_behind_right K) := ok__law_behind_right F__law_behind_right F_rows_alike b_rows_alike g_rows_alike G_rows_alike F_row_round b_row_round g_row_round G_row_round    
  exact ok_law F_law F__law_behind_right b__law_behind_right g__law_behind_right G__law_behind_right F__law_often_right b__law_often_right g__law_often_right G__law_often_right F__law_rounds_right b__law_rounds_right g__law_rounds_right G__law_rounds_right F__law_many b__law_many g__law_many G__law_many F__law_part b__law_part g__law_part G__law_part F__law_next b__law_next g__law_next G__law_next F__law_far b__law_far g__law_far G__law_far F__law_row b__law_row g__law_row G__law_row F__law_places b__law_places g__law_places G__law_places F__law_train b__law_train g__law_train G__law_train F__law_draws b__law_draws g__law_draws G__law_draws m_enumerate m_tuple m_list m_int   
end My
open PySem PySem.W PyProof.Rows
set_option maxHeartbeats 0 in
theorem PySem.Challenge.cw_clicktrain_k15_whole_rows_put_together_holds : PySem.Challenge.rw_clicktrain_k15_whole_rows_put_together.Holds := by
  w_on; o_law; k_head; (case hw => w_witness2)
  k_fill
  refine L2.walk_of (l := PySem.Challenge.rw_clicktrain_k15_whole_rows_put_together) (n := 63) (k := 19) (x := "_law_script") (CX := fun _ => L2.CX0) (sp := fun w => My.sp_law _) rfl (by decide) rfl ⟨rfl, by decide, by decide⟩ (fun w h Y => PySem.W.kIn_of Y) ?F (fun _ _ a ns hl _ hS => ⟨a, ns, rfl, hS, hl, fun _ => rfl⟩) (fun _ _ _ _ _ h => h)
  case F =>
    intro w mg fa h KX G hmg
    refine' My.all_mk KX G hmg ?a0 ?l0 ?c0 ?k0 ?a1 ?l1 ?c1 ?k1 ?a2 ?l2 ?c2 ?k2 ?a3 ?l3 ?c3 ?k3 ?a4 ?l4 ?c4 ?k4 ?a5 ?l5 ?c5 ?k5 ?a6 ?l6 ?c6 ?k6 ?a7 ?l7 ?c7 ?k7 ?a8 ?l8 ?c8 ?k8 ?a9 ?l9 ?c9 ?k9 ?a10 ?l10 ?c10 ?k10 ?a11 ?l11 ?c11 ?k11 ?a12 ?l12 ?c12 ?k12 ?a13 ?l13 ?c13 ?k13 ?a14 ?l14 ?c14 ?k14 ?a15 ?l15 ?c15 ?k15 ?a16 ?l16 ?c16 ?k16 ?a17 ?l17 ?c17 ?k17 ?a18 ?l18 ?c18 ?k18 ?a19 ?l19 ?c19 ?k19 ?a20 ?l20 ?c20 ?k20 ?a21 ?l21 ?c21 ?k21 ?a22 ?l22 ?c22 ?k22 ?a23 ?l23 ?c23 ?k23 ?a24 ?l24 ?c24 ?k24 ?a25 ?l25 ?c25 ?k25 ?a26 ?l26 ?c26 ?k26 ?a27 ?l27 ?c27 ?k27 ?a28 ?l28 ?c28 ?k28 ?a29 ?l29 ?c29 ?k29 ?a30 ?l30 ?c30 ?k30 ?a31 ?l31 ?c31 ?k31 ?a32 ?l32 ?c32 ?k32 ?a33 ?l33 ?c33 ?k33 ?a34 ?l34 ?c34 ?k34 ?a35 ?l35 ?c35 ?k35 ?a36 ?l36 ?c36 ?k36 ?a37 ?l37 ?c37 ?k37 ?a38 ?l38 ?c38 ?k38 ?a39 ?l39 ?c39 ?k39 ?a40 ?l40 ?c40 ?k40 ?a41 ?l41 ?c41 ?k41 ?a42 ?l42 ?c42 ?k42 ?z0 ?z1 ?z2 ?z3 ?z4 ?z5 ?z6 ?z7 ?z8 ?z9 ?z10 ?z11 ?z12 ?z13 ?z14
    (case a0 => k_is)
    (case l0 => k_is)
    (case c0 => k_is)
    (case k0 => k_is)
    (case a1 => k_is)
    (case l1 => k_is)
    (case c1 => k_is)
    (case k1 => k_is)
    (case a2 => k_is)
    (case l2 => k_is)
    (case c2 => k_is)
    (case k2 => k_is)
    (case a3 => k_is)
    (case l3 => k_is)
    (case c3 => k_is)
    (case k3 => k_is)
    (case a4 => k_is)
    (case l4 => k_is)
    (case c4 => k_is)
    (case k4 => k_is)
    (case a5 => k_is)
    (case l5 => k_is)
    (case c5 => k_is)
    (case k5 => k_is)
    (case a6 => k_is)
    (case l6 => k_is)
    (case c6 => k_is)
    (case k6 => k_is)
    (case a7 => k_is)
    (case l7 => k_is)
    (case c7 => k_is)
    (case k7 => k_is)
    (case a8 => k_is)
    (case l8 => k_is)
    (case c8 => k_is)
    (case k8 => k_is)
    (case a9 => k_is)
    (case l9 => k_is)
    (case c9 => k_is)
    (case k9 => k_is)
    (case a10 => k_is)
    (case l10 => k_is)
    (case c10 => k_is)
    (case k10 => k_is)
    (case a11 => k_is)
    (case l11 => k_is)
    (case c11 => k_is)
    (case k11 => k_is)
    (case a12 => k_is)
    (case l12 => k_is)
    (case c12 => k_is)
    (case k12 => k_is)
    (case a13 => k_is)
    (case l13 => k_is)
    (case c13 => k_is)
    (case k13 => k_is)
    (case a14 => k_is)
    (case l14 => k_is)
    (case c14 => k_is)
    (case k14 => k_is)
    (case a15 => k_is)
    (case l15 => k_is)
    (case c15 => k_is)
    (case k15 => k_is)
    (case a16 => k_is)
    (case l16 => k_is)
    (case c16 => k_is)
    (case k16 => k_is)
    (case a17 => k_is)
    (case l17 => k_is)
    (case c17 => k_is)
    (case k17 => k_is)
    (case a18 => k_is)
    (case l18 => k_is)
    (case c18 => k_is)
    (case k18 => k_is)
    (case a19 => k_is)
    (case l19 => k_is)
    (case c19 => k_is)
    (case k19 => k_is)
    (case a20 => k_is)
    (case l20 => k_is)
    (case c20 => k_is)
    (case k20 => k_is)
    (case a21 => k_is)
    (case l21 => k_is)
    (case c21 => k_is)
    (case k21 => k_is)
    (case a22 => k_is)
    (case l22 => k_is)
    (case c22 => k_is)
    (case k22 => k_is)
    (case a23 => k_is)
    (case l23 => k_is)
    (case c23 => k_is)
    (case k23 => k_is)
    (case a24 => k_is)
    (case l24 => k_is)
    (case c24 => k_is)
    (case k24 => k_is)
    (case a25 => k_is)
    (case l25 => k_is)
    (case c25 => k_is)
    (case k25 => k_is)
    (case a26 => k_is)
    (case l26 => k_is)
    (case c26 => k_is)
    (case k26 => k_is)
    (case a27 => k_is)
    (case l27 => k_is)
    (case c27 => k_is)
    (case k27 => k_is)
    (case a28 => k_is)
    (case l28 => k_is)
    (case c28 => k_is)
    (case k28 => k_is)
    (case a29 => k_is)
    (case l29 => k_is)
    (case c29 => k_is)
    (case k29 => k_is)
    (case a30 => k_is)
    (case l30 => k_is)
    (case c30 => k_is)
    (case k30 => k_is)
    (case a31 => k_is)
    (case l31 => k_is)
    (case c31 => k_is)
    (case k31 => k_is)
    (case a32 => k_is)
    (case l32 => k_is)
    (case c32 => k_is)
    (case k32 => k_is)
    (case a33 => k_is)
    (case l33 => k_is)
    (case c33 => k_is)
    (case k33 => k_is)
    (case a34 => k_is)
    (case l34 => k_is)
    (case c34 => k_is)
    (case k34 => k_is)
    (case a35 => k_is)
    (case l35 => k_is)
    (case c35 => k_is)
    (case k35 => k_is)
    (case a36 => k_is)
    (case l36 => k_is)
    (case c36 => k_is)
    (case k36 => k_is)
    (case a37 => k_is)
    (case l37 => k_is)
    (case c37 => k_is)
    (case k37 => k_is)
    (case a38 => k_is)
    (case l38 => k_is)
    (case c38 => k_is)
    (case k38 => k_is)
    (case a39 => k_is)
    (case l39 => k_is)
    (case c39 => k_is)
    (case k39 => k_is)
    (case a40 => k_is)
    (case l40 => k_is)
    (case c40 => k_is)
    (case k40 => k_is)
    (case a41 => k_is)
    (case l41 => k_is)
    (case c41 => k_is)
    (case k41 => k_is)
    (case a42 => k_is)
    (case l42 => k_is)
    (case c42 => k_is)
    (case k42 => k_is)
    (case z0 => k_is)
    (case z1 => k_is)
    (case z2 => k_is)
    (case z3 => k_is)
    (case z4 => k_is)
    (case z5 => k_is)
    (case z6 => k_is)
    (case z7 => k_is)
    (case z8 => k_is)
    (case z9 => k_is)
    (case z10 => k_is)
    (case z11 => k_is)
    (case z12 => k_is)
    (case z13 => k_is)
    (case z14 => k_is)
