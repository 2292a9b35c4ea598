import PyProof.Rows.All
import Wide.All
import OpenK.AllK
import Wide.FinOn
import HandS.ForMost
import HandS.Wide
import HandS.IsInst
import HandS.Walk
import HandS.Star
import HandS.TupAny
import HandS.Style
import HandS.Deep
import KE.GoesNew
import HandS.CallLocal
import HandS.Codes
import HandS.FStr
import PyProof.StrBlock2
import HandS.Text
import HandS.GenList
import HandS.AnyAll
import HandS.EndBits
import HandS.Conv
import KE.DataMinMax
import HandS.TupMul
import PySem.Challenge.RW_clicktrain_k73_answers_as_texts
set_option Elab.async false
set_option linter.all false
set_option maxRecDepth 100000
set_option maxHeartbeats 4000000
namespace Ct
open PySem PySem.Spec PyProof.Rows L2
/-! walking a reading, construct by construct -/
section
variable {K : PySem.W.Frag} {H : Hp} {σ : L2.St} {D : Ends} {Q : VK} {QB : Bool → Hp → Prop} {QA : List V → Hp → Prop} {QS : L2.St → Hp → Prop}
theorem w_seq {t u : TS} (h : t { D with nx := u D } σ H) : tSeq t u D σ H := h
theorem w_join {t u : TS} (J : L2.St → Hp → Prop) (h1 : ∀ σ' H', J σ' H' → u D σ' H') (h2 : ∀ N : L2.St → Hp → Prop, (∀ σ' H', J σ' H' → N σ' H') → t { D with nx := N } σ H) : tSeq t u D σ H := h2 (u D) h1
theorem w_asg {te : TE} {g : TG} (h : te σ H fun x H1 => g x σ H1 D.nx) : tAsg te g D σ H := h
theorem w_ret {te : TE} (h : te σ H D.rt) : tRet te D σ H := h
theorem w_ifS {c : TT} {t u : TS} (h : c σ H fun b H1 => if b = true then t D σ H1 else u D σ H1) : tIfS c t u D σ H := h
theorem w_drop {te : TE} (h : te σ H fun _ H1 => D.nx σ H1) : tDrop te D σ H := h
theorem w_next (h : D.nx σ H) : tNext D σ H := h
theorem w_var {i : Nat} {v : V} (e : σ[i]? = some (some v)) (h : Q v H) : tVar i σ H Q := ⟨v, e, h⟩
theorem w_c {v : V} (h : Q v H) : tC v σ H Q := h
theorem w_op {r : R2} {ta tb : TE} (h : ta σ H fun x H1 => tb σ H1 fun y H2 => r x y H2 Q) : tOp r ta tb σ H Q := h
theorem w_chain {r r' : R2} {ta tb tc : TE} (h : ta σ H fun x H1 => tb σ H1 fun y H2 => r x y H2 fun z H3 => ∃ k, z = .bl k ∧ (if k = true then tc σ H3 fun w' H4 => r' y w' H4 Q else Q (.bl false) H3)) : tChain r r' ta tb tc σ H Q := h
theorem w_un {r : V → Hp → VK → Prop} {ta : TE} (h : ta σ H fun x H1 => r x H1 Q) : tUn r ta σ H Q := h
theorem w_test {t : TE} (h : t σ H fun x H' => ∃ k, x = .bl k ∧ QB k H') : tTest t σ H QB := h
theorem w_B {t : TE} (h : t σ H fun x H' => ∃ k, x = .bl k ∧ QB k H') : tB t σ H QB := h
theorem w_and {t u : TT} (h : t σ H fun c H1 => if c = true then u σ H1 QB else QB false H1) : tAnd t u σ H QB := h
theorem w_or {t u : TT} (h : t σ H fun c H1 => if c = true then QB true H1 else u σ H1 QB) : tOr t u σ H QB := h
theorem w_not {t : TT} (h : t σ H fun c H1 => QB (!c) H1) : tNot t σ H QB := h
theorem w_if {t : TT} {ta tb : TE} (h : t σ H fun c H1 => if c = true then ta σ H1 Q else tb σ H1 Q) : tIf t ta tb σ H Q := h
theorem w_nil (h : QA [] H) : tNil σ H QA := h
theorem w_cons {ta : TE} {tr : TA} (h : ta σ H fun x H1 => tr σ H1 fun xs H2 => QA (x :: xs) H2) : tCons ta tr σ H QA := h
theorem w_cb {r : List V → Hp → VK → Prop} {t : TA} (h : t σ H fun vs H1 => r vs H1 Q) : tCB r t σ H Q := h
theorem w_call {sp : Sp} {dvs : List V} {E : XK} {t : TA} (h : t σ H fun vs H1 => sp (vs ++ dvs) H1 Q E) : tCall sp dvs E t σ H Q := h
theorem w_name {i : Nat} {v : V} {σ' : L2.St} (e : σ.set i (some v) = σ') (h : QS σ' H) : gName i v σ H QS := by
  unfold gName
  rw [e]
  exact h
theorem w_rI {C : Int → Int → Prop} {g : Int → Int → V} {i j : Int} (c : C i j) (h : Q (g i j) H) : rI C g (.int i) (.int j) H Q := ⟨i, j, rfl, rfl, c, h⟩
theorem w_rI0 {g : Int → Int → V} {i j : Int} (h : Q (g i j) H) : rI0 g (.int i) (.int j) H Q := ⟨i, j, rfl, rfl, h⟩
theorem w_rU {g : Int → V} {i : Int} (h : Q (g i) H) : rU g (.int i) H Q := ⟨i, rfl, h⟩
theorem w_rEqI {i j : Int} (h : Q (.bl (decide (i = j))) H) : rEq (.int i) (.int j) H Q := by
  refine ⟨rfl, ?_⟩
  rw [show decide (V.int i = V.int j) = decide (i = j) from by
    by_cases e : i = j
    · subst e
      rw [decide_eq_true rfl, decide_eq_true rfl]
    · rw [decide_eq_false e, decide_eq_false fun z => e (V.int.inj z)]]
  exact h
theorem w_rNeI {i j : Int} (h : Q (.bl (!decide (i = j))) H) : rNe (.int i) (.int j) H Q := by
  refine ⟨rfl, ?_⟩
  rw [show decide (V.int i = V.int j) = decide (i = j) from by
    by_cases e : i = j
    · subst e
      rw [decide_eq_true rfl, decide_eq_true rfl]
    · rw [decide_eq_false e, decide_eq_false fun z => e (V.int.inj z)]]
  exact h
theorem w_rEqS {x y : Str} {b : Bool} (e : decide (V.str x = V.str y) = b) (h : Q (.bl b) H) : rEq (.str x) (.str y) H Q := by
  refine ⟨rfl, ?_⟩
  rw [e]
  exact h
theorem w_bl {b : Bool} {QP : Bool → Prop} (h : QP b) : ∃ k, V.bl b = .bl k ∧ QP k := ⟨b, rfl, h⟩
theorem w_in {i : Int} {QP : Int → Prop} (h : QP i) : ∃ k, V.int i = .int k ∧ QP k := ⟨i, rfl, h⟩
theorem w_ixT {p : Addr} {xs : List V} {i : Int} {v : V} (h : SqT K H p xs) (e : atI xs i = some v) (q : Q v H) : rIxT K (.ref p) (.int i) H Q := ⟨p, xs, i, v, rfl, rfl, h, e, q⟩
theorem w_ixL {p : Addr} {xs : List V} {i : Int} {v : V} (h : SqL K H p xs) (e : atI xs i = some v) (q : Q v H) : rIxL K (.ref p) (.int i) H Q := ⟨p, xs, i, v, rfl, rfl, h, e, q⟩
theorem w_tup {t : TA} (h : t σ H fun xs H1 => xs.length ≤ sizeLine ∧ ∀ p, H1 p = none → Q (.ref p) (upd H1 p (.tup xs))) : tTup t σ H Q := h
theorem w_lst {t : TA} (h : t σ H fun xs H1 => xs.length ≤ sizeLine ∧ ∀ p, H1 p = none → Q (.ref p) (upd H1 p (.lst xs))) : tLst t σ H Q := h
theorem w_bm {T : String} {r : V → List V → Hp → VK → Prop} {to : TE} {t : TA} (h : to σ H fun x H1 => tyV K T x H1 ∧ t σ H1 fun xs H2 => r x xs H2 Q) : tBM K T r to t σ H Q := h
theorem w_inT {p : Addr} {x : Int} {ns : List Int} (h : SqT K H p (ns.map V.int)) (q : Q (.bl (decide (x ∈ ns))) H) : rIn K false (.int x) (.ref p) H Q := by
  refine ⟨p, ns.map V.int, rfl, .inr h, rfl, ?_, ?_⟩
  · rw [List.all_map]
    exact List.all_eq_true.mpr fun _ _ => rfl
  · rw [if_neg Bool.false_ne_true]
    rw [show inV (.int x) (ns.map V.int) = decide (x ∈ ns) from by
      unfold inV
      rw [List.any_map]
      by_cases e : x ∈ ns
      · rw [decide_eq_true e, List.any_eq_true]
        exact ⟨x, e, by show (x == x) = true; exact beq_self_eq_true x⟩
      · rw [decide_eq_false e, List.any_eq_false]
        intro y hy
        show ¬ (y == x) = true
        intro z
        have : y = x := eq_of_beq z
        subst this
        exact e hy]
    exact q
theorem w_break (h : D.bk σ H) : tBreak D σ H := h
theorem w_cont (h : D.ct σ H) : tCont D σ H := h
theorem w_nT {A B : Prop} (h : B) : if (!true) = true then A else B := h
theorem w_nF {A B : Prop} (h : A) : if (!false) = true then A else B := h
theorem w_ite {c A B : Prop} [Decidable c] (h1 : c → A) (h2 : ¬ c → B) : if (decide c) = true then A else B := by
  by_cases h : c
  · rw [if_pos (decide_eq_true h)]
    exact h1 h
  · rw [if_neg (by rw [decide_eq_false h]; exact Bool.false_ne_true)]
    exact h2 h
theorem w_iteN {c A B : Prop} [Decidable c] (h1 : ¬ c → A) (h2 : c → B) : if (!decide c) = true then A else B := by
  by_cases h : c
  · rw [decide_eq_true h]
    exact iteF (h2 h)
  · rw [decide_eq_false h]
    exact iteT (h1 h)
theorem w_st {t : TS} {σ' : L2.St} (e : σ = σ') (h : t D σ' H) : t D σ H := by
  rw [e]
  exact h
end
/-! heaps -/
theorem same_new {H0 H : Hp} {p : Addr} {o : HO} (s : Same H0 H) (h : H0 p = none) : Same H0 (upd H p o) := fun b x e => by
  rw [upd_ne (ne_of_none e h)]
  exact s b x e
theorem same_upd {H : Hp} {p : Addr} {o : HO} (h : H p = none) : Same H (upd H p o) := same_new (Same.refl H) h
theorem Same.tup {K : PySem.W.Frag} {H H' : Hp} {a : Addr} {xs : List V} (e : Same H H') (h : SqT K H a xs) : SqT K H' a xs := by
  rcases h with (h | ⟨o, h⟩) | h
  · exact .inl (.inl (e _ _ h))
  · exact .inl (.inr ⟨o, e _ _ h⟩)
  · exact .inr h
theorem Same.new {H H' : Hp} {p : Addr} (s : Same H H') (h : H' p = none) : H p = none := s.free h
mutual
theorem dp_same {K : PySem.W.Frag} {H H' : Hp} (e : Same H H') : ∀ {v : V} {d : PyData}, Dp K H v d → Dp K H' v d
  | _, _, .non => .non
  | _, _, .bl b => .bl b
  | _, _, .int i => .int i
  | _, _, .str x => .str x
  | _, _, .lst h t => .lst (e.seq h) (dpAll_same e t)
  | _, _, .tup h t => .tup (Same.tup e h) (dpAll_same e t)
theorem dpAll_same {K : PySem.W.Frag} {H H' : Hp} (e : Same H H') : ∀ {vs : List V} {ds : List PyData}, DpAll K H vs ds → DpAll K H' vs ds
  | _, _, .nil => .nil
  | _, _, .cons h t => .cons (dp_same e h) (dpAll_same e t)
end
theorem dpAll_len {K : PySem.W.Frag} {H : Hp} : ∀ {vs : List V} {ds : List PyData}, DpAll K H vs ds → vs.length = ds.length
  | _, _, .nil => rfl
  | _, _, .cons _ t => by rw [List.length_cons, List.length_cons, dpAll_len t]
theorem dpAll_get {K : PySem.W.Frag} {H : Hp} : ∀ {vs : List V} {ds : List PyData} {i : Nat} {d : PyData}, DpAll K H vs ds → ds[i]? = some d → ∃ v, vs[i]? = some v ∧ Dp K H v d
  | _, _, _, _, .nil, e => by simp at e
  | _, _, 0, _, .cons h _, e => by
    cases (Option.some.inj e)
    exact ⟨_, rfl, h⟩
  | _, _, i + 1, _, .cons _ t, e => dpAll_get (i := i) t e
theorem dpAll_ints {K : PySem.W.Frag} {H : Hp} : ∀ (ns : List Int), DpAll K H (ns.map V.int) (ns.map PyData.int)
  | [] => .nil
  | n :: r => .cons (.int n) (dpAll_ints r)
theorem dpAll_ints_inv {K : PySem.W.Frag} {H : Hp} : ∀ {vs : List V} (ns : List Int), DpAll K H vs (ns.map PyData.int) → vs = ns.map V.int
  | _, [], .nil => rfl
  | _, n :: r, .cons (.int _) t => by rw [dpAll_ints_inv r t, List.map_cons]
theorem dpAll_app {K : PySem.W.Frag} {H : Hp} : ∀ {vs ws : List V} {ds es : List PyData}, DpAll K H vs ds → DpAll K H ws es → DpAll K H (vs ++ ws) (ds ++ es)
  | _, _, _, _, .nil, h => h
  | _, _, _, _, .cons a t, h => .cons a (dpAll_app t h)
theorem ix_at {n j : Nat} {k : Int} (e : k = (j : Int)) (h : j < n) : ixN n k = some j := by
  subst e
  unfold ixN
  rw [if_pos (Int.natCast_nonneg j), if_pos (by omega)]
  rfl
theorem cutV_map (ms : List Int) (lo hi : Option Int) : cutV (ms.map V.int) lo hi = ((ms.drop (HT.sIx ms.length 0 lo)).take (HT.sIx ms.length ms.length hi - HT.sIx ms.length 0 lo)).map V.int := by
  unfold cutV
  rw [List.length_map, List.map_take, List.map_drop]
theorem at0 {x : V} {r : List V} : atI (x :: r) 0 = some x := atI_nat (xs := x :: r) (j := 0) rfl
theorem at1 {x y : V} {r : List V} : atI (x :: y :: r) 1 = some y := atI_nat (xs := x :: y :: r) (j := 1) rfl
theorem at2 {x y z : V} {r : List V} : atI (x :: y :: z :: r) 2 = some z := atI_nat (xs := x :: y :: z :: r) (j := 2) rfl
theorem len2 {n : Nat} (h : Nat.ble n sizeLine = true) : n ≤ sizeLine := Nat.le_of_ble_eq_true h
/-! sizes of numbers -/
theorem div_ok {i j : Int} (h : 0 < j) (h2 : j < 2 ^ 250) : CDivW i j := wide_div (b := 250) h (by omega) (by decide) (by decide)
theorem mul_ok {i j : Int} (h1 : -(2 ^ 250) < i) (h2 : i < 2 ^ 250) (h3 : -(2 ^ 250) < j) (h4 : j < 2 ^ 250) : CMulW i j := wide_mul (a := 250) (b := 250) (by omega) (by omega) (by decide) (by decide) (by decide)
/-- a power whose bits are few -/
def CPowB (i j : Int) : Prop := 0 ≤ j ∧ (Builtin.Int.intBits i : Int) * j ≤ 2 ^ 27
theorem op_powB {X : Cx} : OpR X (binaryOp .Pow) (rI CPowB fun i j => .int (i ^ j.toNat)) := opI fun _ _ _ _ _ _ _ hc q => pow_int hc.1 hc.2 q
/-! loops, targets, stores -/
section
variable {K : PySem.W.Frag} {H : Hp} {σ : L2.St} {D : Ends} {Q : VK} {QA : List V → Hp → Prop} {QS : L2.St → Hp → Prop} {R : It → Hp → Prop}
def FB (J : It) (g : TG) (tb : TS) (D : Ends) (σ : L2.St) (H : Hp) : Prop := tFor (fun _ H R => R J H) g tb D σ H
theorem w_for {wi : TI} {g : TG} {tb : TS} (h : wi σ H fun J H1 => FB J g tb D σ H1) : tFor wi g tb D σ H := h
def RG1 (vs : List V) (H : Hp) (R : It → Hp → Prop) : Prop := iRng1 (fun _ H Q => Q vs H) [] H R
def RG2 (vs : List V) (H : Hp) (R : It → Hp → Prop) : Prop := iRng2 (fun _ H Q => Q vs H) [] H R
theorem w_rng1 {ta : TA} (h : ta σ H fun vs H1 => RG1 vs H1 R) : iRng1 ta σ H R := h
theorem w_rng2 {ta : TA} (h : ta σ H fun vs H1 => RG2 vs H1 R) : iRng2 ta σ H R := h
theorem w_RG1 {j : Int} (h1 : -(2 ^ 62) ≤ j) (h2 : j < 2 ^ 62) (h : R (Itr 0 j.toNat) H) : RG1 [.int j] H R := ⟨j, rfl, h1, h2, h⟩
theorem w_RG2 {i j : Int} (h1 : -(2 ^ 62) ≤ i) (h2 : i < 2 ^ 62) (h3 : -(2 ^ 62) ≤ j) (h4 : j < 2 ^ 62) (h : R (Itr i (j - i).toNat) H) : RG2 [.int i, .int j] H R := ⟨i, j, rfl, ⟨h1, h2, h3, h4⟩, h⟩
def IL (K : PySem.W.Frag) (v : V) (H : Hp) (R : It → Hp → Prop) : Prop := iList K (tC v) [] H R
def IT (K : PySem.W.Frag) (v : V) (H : Hp) (R : It → Hp → Prop) : Prop := iTup K (tC v) [] H R
theorem w_ilist {tl : TE} (h : tl σ H fun v H1 => IL K v H1 R) : iList K tl σ H R := h
theorem w_itup {tl : TE} (h : tl σ H fun v H1 => IT K v H1 R) : iTup K tl σ H R := h
theorem w_IL {a : Addr} {xs : List V} (h : SqL K H a xs) (q : R (Itl K a) H) : IL K (.ref a) H R := ⟨a, rfl, ⟨xs, h⟩, q⟩
theorem w_IT {a : Addr} {xs : List V} (h : SqT K H a xs) (q : R (Itt K a) H) : IT K (.ref a) H R := ⟨a, rfl, ⟨xs, h⟩, q⟩
theorem fb_range {lo : Int} {n : Nat} {g : TG} {tb : TS} (Pv : Nat → L2.St → Hp → Prop) (h0 : Pv 0 σ H)
    (hs : ∀ i σ H, i < n → Pv i σ H → g (.int (lo + i)) σ H fun σ2 H2 => tb { D with nx := Pv (i + 1), ct := Pv (i + 1), bk := D.nx } σ2 H2) (hd : ∀ σ H, Pv n σ H → D.nx σ H) : FB (Itr lo n) g tb D σ H := for_range Pv h0 hs hd
theorem fb_list {a : Addr} (xs : List V) {g : TG} {tb : TS} (Pv : Nat → L2.St → Hp → Prop) (h0 : Pv 0 σ H) (hl : ∀ i σ H, i ≤ xs.length → Pv i σ H → SqL K H a xs)
    (hs : ∀ i x σ H, xs[i]? = some x → Pv i σ H → g x σ H fun σ2 H2 => tb { D with nx := Pv (i + 1), ct := Pv (i + 1), bk := D.nx } σ2 H2) (hd : ∀ σ H, Pv xs.length σ H → D.nx σ H) : FB (Itl K a) g tb D σ H := for_list Pv h0 hl hs hd
theorem fb_tup {a : Addr} (xs : List V) {g : TG} {tb : TS} (Pv : Nat → L2.St → Hp → Prop) (h0 : Pv 0 σ H) (hl : ∀ i σ H, i ≤ xs.length → Pv i σ H → SqT K H a xs)
    (hs : ∀ i x σ H, xs[i]? = some x → Pv i σ H → g x σ H fun σ2 H2 => tb { D with nx := Pv (i + 1), ct := Pv (i + 1), bk := D.nx } σ2 H2) (hd : ∀ σ H, Pv xs.length σ H → D.nx σ H) : FB (Itt K a) g tb D σ H := for_tup Pv h0 hl hs hd
def LB (J : It) (g : TG) (tt : TT) (te : TE) (vs : List Nat) (σ : L2.St) (H : Hp) (Q : VK) : Prop := tLc (fun _ H R => R J H) g tt te vs σ H Q
theorem w_lc {wi : TI} {g : TG} {tt : TT} {te : TE} {vs : List Nat} (h : wi σ H fun J H1 => LB J g tt te vs σ H1 Q) : tLc wi g tt te vs σ H Q := h
theorem lb_range {lo : Int} {n : Nat} {g : TG} {tt : TT} {te : TE} {vs : List Nat} (Pv : Addr → Nat → Hp → Prop) (h0 : ∀ D, H D = none → Pv D 0 (upd H D (.lst [])))
    (hs : ∀ D, H D = none → ∀ i H1, i < n → Pv D i H1 → g (.int (lo + i)) (wipe σ vs) H1 fun σ2 H2 => wipe σ2 vs = wipe σ vs ∧ tt σ2 H2 fun b H3 =>
      if b = true then te σ2 H3 fun y H4 => ∃ acc, H4 D = some (.lst acc) ∧ acc.length < sizeLine ∧ Pv D (i + 1) (upd H4 D (.lst (acc ++ [y]))) else Pv D (i + 1) H3) (hd : ∀ D, H D = none → ∀ H1, Pv D n H1 → Q (.ref D) H1) : LB (Itr lo n) g tt te vs σ H Q :=
  fun D hD => lc_range (Pv D) (h0 D hD) (hs D hD) (hd D hD)
theorem lb_list {a : Addr} (xs : List V) {g : TG} {tt : TT} {te : TE} {vs : List Nat} (Pv : Addr → Nat → Hp → Prop) (h0 : ∀ D, H D = none → Pv D 0 (upd H D (.lst []))) (hl : ∀ D, H D = none → ∀ i H1, i ≤ xs.length → Pv D i H1 → SqL K H1 a xs)
    (hs : ∀ D, H D = none → ∀ i x H1, xs[i]? = some x → Pv D i H1 → g x (wipe σ vs) H1 fun σ2 H2 => wipe σ2 vs = wipe σ vs ∧ tt σ2 H2 fun b H3 =>
      if b = true then te σ2 H3 fun y H4 => ∃ acc, H4 D = some (.lst acc) ∧ acc.length < sizeLine ∧ Pv D (i + 1) (upd H4 D (.lst (acc ++ [y]))) else Pv D (i + 1) H3) (hd : ∀ D, H D = none → ∀ H1, Pv D xs.length H1 → Q (.ref D) H1) : LB (Itl K a) g tt te vs σ H Q :=
  fun D hD => lc_list (Pv D) (h0 D hD) (hl D hD) (hs D hD) (hd D hD)
def IE (K : PySem.W.Frag) (vs : List V) (H : Hp) (R : It → Hp → Prop) : Prop := iEnum K (fun _ H Q => Q vs H) [] H R
theorem w_enum {ta : TA} (h : ta σ H fun vs H1 => IE K vs H1 R) : iEnum K ta σ H R := h
theorem w_IE {a : Addr} {xs : List V} (h : SqL K H a xs) (q : R (Ite K a) H) : IE K [.ref a] H R := ⟨a, xs, rfl, h, q⟩
theorem lb_enum {a : Addr} (xs : List V) {g : TG} {tt : TT} {te : TE} {vs : List Nat} (Pv : Addr → Nat → Hp → Prop) (h0 : ∀ D, H D = none → Pv D 0 (upd H D (.lst []))) (hl : ∀ D, H D = none → ∀ i H1, i ≤ xs.length → Pv D i H1 → SqL K H1 a xs)
    (hs : ∀ D, H D = none → ∀ i v T H1, xs[i]? = some v → Pv D i H1 → H1 T = none → g (.ref T) (wipe σ vs) (upd H1 T (.tup [.int (i : Nat), v])) fun σ2 H2 => wipe σ2 vs = wipe σ vs ∧ tt σ2 H2 fun b H3 =>
      if b = true then te σ2 H3 fun y H4 => ∃ acc, H4 D = some (.lst acc) ∧ acc.length < sizeLine ∧ Pv D (i + 1) (upd H4 D (.lst (acc ++ [y]))) else Pv D (i + 1) H3) (hd : ∀ D, H D = none → ∀ H1, Pv D xs.length H1 → Q (.ref D) H1) : LB (Ite K a) g tt te vs σ H Q :=
  fun D hD => lc_it (walk_enum (xs := xs)) (Pv D) (h0 D hD) (hl D hD) (fun i x H1 H2 _ p y => by
    obtain ⟨T, u, v, rfl, hT, rfl, e1, e2⟩ := y
    cases Option.some.inj e1
    exact hs D hD i v T H1 e2 p hT) (hd D hD)
theorem w_yes {QB : Bool → Hp → Prop} (h : QB true H) : tYes σ H QB := h
theorem w_gtup {n : Nat} {t : TGs} {a : Addr} {xs : List V} (h : SqT K H a xs) (e : xs.length = n) (q : t xs σ H QS) : gTup K n t (.ref a) σ H QS := ⟨a, xs, rfl, h, e, q⟩
theorem w_gcons {t : TG} {u : TGs} {v : V} {r : List V} (h : t v σ H fun σ' H' => u r σ' H' QS) : gCons t u (v :: r) σ H QS := ⟨v, r, rfl, h⟩
theorem w_gnil (h : QS σ H) : gNil [] σ H QS := ⟨rfl, h⟩
theorem w_gsub {to ti : TE} {t : TSet} {v : V} (h : to σ H fun o H1 => ti σ H1 fun i H2 => t o i v H2 fun H3 => QS σ H3) : gSub to ti t v σ H QS := h
theorem w_setL {p : Addr} {xs : List V} {k : Int} {j : Nat} {v : V} {QH : Hp → Prop} (h : H p = some (.lst xs)) (e : ixN xs.length k = some j) (q : QH (upd H p (.lst (xs.set j v)))) : rSetL (.ref p) (.int k) v H QH := ⟨p, xs, k, j, rfl, rfl, h, e, q⟩
theorem w_aug {i : Nat} {te : TE} {ti : TIp} {x : V} (e : σ[i]? = some (some x)) (h : te σ H fun y H1 => ti x y H1 fun z H2 => D.nx (σ.set i (some z)) H2) : tAug i te ti D σ H := ⟨x, e, h⟩
theorem w_ipI {f : Int → Int → Int} {i j : Int} (h : Q (.int (f i j)) H) : ipI f (.int i) (.int j) H Q := ⟨i, j, rfl, rfl, h⟩
theorem w_append {l : Addr} {xs : List V} {y : V} (h : H l = some (.lst xs)) (hl : xs.length < sizeLine) (q : Q .non (upd H l (.lst (xs ++ [y])))) : rAppend (.ref l) [y] H Q := ⟨l, xs, y, rfl, rfl, h, hl, q⟩
theorem ty_list {l : Addr} {xs : List V} (h : H l = some (.lst xs)) : tyV K "list" (.ref l) H := .inl ⟨rfl, _, .inl (.inl h)⟩
theorem w_mod {i j : Int} (h : 0 < j) (q : ∀ r, 0 ≤ r → r < j → Q (.int r) H) : rI (fun _ j => 0 < j) (fun i j => .int (i % j)) (.int i) (.int j) H Q :=
  ⟨i, j, rfl, rfl, h, q _ (Int.emod_nonneg _ (by omega)) (Int.emod_lt_of_pos _ h)⟩
theorem w_div {i j : Int} (h : CDivW i j) (q : ∀ r, Q (.int r) H) : rI CDivW (fun i j => .int (i / j)) (.int i) (.int j) H Q := ⟨i, j, rfl, rfl, h, q _⟩
theorem w_rIv {C : Int → Int → Prop} {g : Int → Int → V} {i j : Int} (v : V) (c : C i j) (e : g i j = v) (h : Q v H) : rI C g (.int i) (.int j) H Q := ⟨i, j, rfl, rfl, c, by rw [e]; exact h⟩
theorem w_isi {x : V} {n : String} {t : Value} {b : Bool} (ty : TyX K H x t) (k : PySem.W.kitOne K t (.type n) = some b) (q : Q (.bl b) H) : rIsi K [x, .ty n] H Q := ⟨x, .ty n, t, .type n, b, rfl, .ty n, ty, k, q⟩
theorem w_andV {ta tb : TE} (h : ta σ H fun x H1 => ∃ c, x = .bl c ∧ if c = true then tb σ H1 Q else Q (.bl false) H1) : tAndV ta tb σ H Q := h
theorem w_orV {ta tb : TE} (h : ta σ H fun x H1 => ∃ c, x = .bl c ∧ if c = true then Q (.bl true) H1 else tb σ H1 Q) : tOrV ta tb σ H Q := h
theorem w_notV {ta : TE} (h : ta σ H fun x H1 => ∃ c, x = .bl c ∧ Q (.bl (!c)) H1) : tNotV ta σ H Q := h
theorem w_slL {a : Addr} {xs : List V} {lo hi : Option Int} (h : SqL K H a xs) (q : ∀ p, H p = none → Q (.ref p) (upd H p (.lst (cutV xs lo hi)))) : rSlL K (.ref a) lo hi H Q := ⟨a, xs, rfl, h, q⟩
theorem w_sl {r : V → Option Int → Option Int → Hp → VK → Prop} {te : TE} {tl th : TO} (h : te σ H fun x H1 => tl σ H1 fun l H2 => th σ H2 fun u H3 => r x l u H3 Q) : tSl r te tl th σ H Q := h
theorem w_nopart {QO : Option Int → Hp → Prop} (h : QO none H) : tNoPart σ H QO := h
theorem w_part {QO : Option Int → Hp → Prop} {t : TE} (h : t σ H fun x H1 => ∃ i, x = .int i ∧ QO (some i) H1) : tPart t σ H QO := h
end
end Ct

namespace Ct
open PySem PySem.Spec PyProof.Rows L2
/-! parts, stands, what a push does -/
inductive Part where
  | wheel (z : Int) (ms : List Int) | click | rocker | spring (k : Int)
def Part.data : Part → PyData
  | .wheel z ms => .tuple [.str "wheel", .int z, .tuple (ms.map PyData.int)]
  | .click => .tuple [.str "click"]
  | .rocker => .tuple [.str "rocker"]
  | .spring k => .tuple [.str "spring", .int k]
def Part.places : Part → Int
  | .wheel z _ => z
  | .click => 1
  | .rocker => 2
  | .spring k => k
def Rise (z : Int) (ms : List Int) : Prop := ms.Pairwise (· < ·) ∧ ∀ m ∈ ms, 0 ≤ m ∧ m < z
def Part.ok : Part → Prop
  | .wheel z ms => 1 ≤ z ∧ z < 2 ^ 200 ∧ Rise z ms ∧ ms.length ≤ 1000
  | .click => True
  | .rocker => True
  | .spring k => 1 ≤ k ∧ k < 2 ^ 200
theorem Part.ok.pos {p : Part} (h : p.ok) : 1 ≤ p.places ∧ p.places < 2 ^ 200 := by
  cases p with
  | wheel z ms => exact ⟨h.1, h.2.1⟩
  | click => exact ⟨by decide, by decide⟩
  | rocker => exact ⟨by decide, by decide⟩
  | spring k => exact h
/-- the new place and what is given -/
def pp : Part → Int → Int → Int × Int
  | .wheel z ms, x, w => ((x + w) % z, if (if w = 1 then (x + w) % z else x) ∈ ms then w else 0)
  | .click, _, w => (0, if w = 1 then 1 else 0)
  | .rocker, x, w => (if w = 1 then 1 else 0, if w = 1 ∧ x = 0 then 1 else 0)
  | .spring k, x, w => if w = 1 then (if x = k - 1 then (0, 1) else (x + 1, 0)) else (if x - 1 > 0 then x - 1 else 0, 0)
def stands : List Part → Int
  | [] => 1
  | p :: r => p.places * stands r
def Sign (w : Int) : Prop := w = 1 ∨ w = -1
theorem pp_sign (p : Part) (x w : Int) (h : Sign w) : (pp p x w).2 = 0 ∨ Sign (pp p x w).2 := by
  cases p with
  | wheel z ms =>
    by_cases e : (if w = 1 then (x + w) % z else x) ∈ ms
    · rw [show (pp (.wheel z ms) x w).2 = w from if_pos e]
      exact .inr h
    · exact .inl (if_neg e)
  | click =>
    show (if w = 1 then (1 : Int) else 0) = 0 ∨ Sign (if w = 1 then (1 : Int) else 0)
    split
    · exact .inr (.inl rfl)
    · exact .inl rfl
  | rocker =>
    show (if w = 1 ∧ x = 0 then (1 : Int) else 0) = 0 ∨ Sign (if w = 1 ∧ x = 0 then (1 : Int) else 0)
    split
    · exact .inr (.inl rfl)
    · exact .inl rfl
  | spring k =>
    show (if w = 1 then (if x = k - 1 then ((0 : Int), (1 : Int)) else (x + 1, 0)) else (if x - 1 > 0 then x - 1 else 0, 0)).2 = 0 ∨ Sign (if w = 1 then (if x = k - 1 then ((0 : Int), (1 : Int)) else (x + 1, 0)) else (if x - 1 > 0 then x - 1 else 0, 0)).2
    split
    · split
      · exact .inr (.inl rfl)
      · exact .inl rfl
    · exact .inl rfl
/-- one part's turn in a push that goes along a train -/
def stp (ps : List Part) (s : List Int × Int) (n : Nat) : List Int × Int :=
  if s.2 = 0 then s else match ps[n]?, s.1[n]? with
    | some p, some x => (s.1.set n (pp p x s.2).1, (pp p x s.2).2)
    | _, _ => s
def runN (ps : List Part) (i : Nat) (s : List Int × Int) : Nat → List Int × Int
  | 0 => s
  | n + 1 => stp ps (runN ps i s n) (i + n)
theorem stp_zero {ps : List Part} {s : List Int × Int} {n : Nat} (h : s.2 = 0) : stp ps s n = s := by
  unfold stp
  rw [if_pos h]
theorem stp_at {ps : List Part} {s : List Int × Int} {n : Nat} {p : Part} {x : Int} (h : s.2 ≠ 0) (hp : ps[n]? = some p) (hx : s.1[n]? = some x) : stp ps s n = (s.1.set n (pp p x s.2).1, (pp p x s.2).2) := by
  unfold stp
  rw [if_neg h, hp, hx]
theorem runN_zero {ps : List Part} {i : Nat} {s : List Int × Int} {n : Nat} (h : (runN ps i s n).2 = 0) : ∀ m, runN ps i s (n + m) = runN ps i s n
  | 0 => rfl
  | m + 1 => by
    show stp ps (runN ps i s (n + m)) _ = _
    rw [runN_zero h m]
    exact stp_zero h
theorem stp_len (ps : List Part) (s : List Int × Int) (n : Nat) : (stp ps s n).1.length = s.1.length := by
  unfold stp
  split
  · rfl
  · split
    · show (s.1.set n _).length = _
      rw [List.length_set]
    · rfl
theorem runN_len (ps : List Part) (i : Nat) (s : List Int × Int) : ∀ n, (runN ps i s n).1.length = s.1.length
  | 0 => rfl
  | n + 1 => by
    show (stp ps _ _).1.length = _
    rw [stp_len, runN_len ps i s n]
theorem stp_other {ps : List Part} {s : List Int × Int} {n m : Nat} (h : n ≠ m) : (stp ps s n).1[m]? = s.1[m]? := by
  unfold stp
  split
  · rfl
  · split
    · show (s.1.set n _)[m]? = _
      rw [List.getElem?_set_ne h]
    · rfl
/-- parts not come to yet stand as they stood -/
theorem runN_ahead (ps : List Part) (i : Nat) (s : List Int × Int) : ∀ n m, i + n ≤ m → (runN ps i s n).1[m]? = s.1[m]?
  | 0, _, _ => rfl
  | n + 1, m, h => by
    show (stp ps _ _).1[m]? = _
    rw [stp_other (by omega), runN_ahead ps i s n m (by omega)]
theorem runN_sign (ps : List Part) (i : Nat) (s : List Int × Int) (h : Sign s.2) : ∀ n, (runN ps i s n).2 = 0 ∨ Sign (runN ps i s n).2
  | 0 => .inr h
  | n + 1 => by
    show (stp ps _ _).2 = 0 ∨ Sign (stp ps _ _).2
    rcases runN_sign ps i s h n with e | e
    · rw [stp_zero e]
      exact .inl e
    · unfold stp
      split
      · rename_i z
        exact .inl z
      · split
        · exact pp_sign _ _ _ e
        · exact .inr e
def StandOk (ps : List Part) (xs : List Int) : Prop := xs.length = ps.length ∧ ∀ (i : Nat) (p : Part) (x : Int), ps[i]? = some p → xs[i]? = some x → 0 ≤ x ∧ x < p.places
def run (ps : List Part) (xs : List Int) (i : Nat) (w : Int) : List Int × Int := runN ps i (xs, w) (ps.length - i)
/-! what stands for a part -/
section
variable {K : PySem.W.Frag} {H : Hp}
theorem tup_inv {v : V} {ds : List PyData} (h : Dp K H v (.tuple ds)) : ∃ a vs, v = .ref a ∧ SqT K H a vs ∧ DpAll K H vs ds := by
  cases h with
  | tup h t => exact ⟨_, _, rfl, h, t⟩
theorem lst_inv {v : V} {ds : List PyData} (h : Dp K H v (.list ds)) : ∃ a vs, v = .ref a ∧ SqL K H a vs ∧ DpAll K H vs ds := by
  cases h with
  | lst h t => exact ⟨_, _, rfl, h, t⟩
theorem wheel_inv {v : V} {z : Int} {ms : List Int} (h : Dp K H v (Part.wheel z ms).data) : ∃ a b, v = .ref a ∧ SqT K H a [.str "wheel", .int z, .ref b] ∧ SqT K H b (ms.map V.int) := by
  obtain ⟨a, vs, rfl, hs, ht⟩ := tup_inv h
  cases ht with
  | cons h1 t1 => cases h1; cases t1 with
    | cons h2 t2 => cases h2; cases t2 with
      | cons h3 t3 =>
        cases t3
        obtain ⟨b, ws, rfl, hb, hw⟩ := tup_inv h3
        cases dpAll_ints_inv ms hw
        exact ⟨a, b, rfl, hs, hb⟩
theorem spring_inv {v : V} {k : Int} (h : Dp K H v (Part.spring k).data) : ∃ a, v = .ref a ∧ SqT K H a [.str "spring", .int k] := by
  obtain ⟨a, vs, rfl, hs, ht⟩ := tup_inv h
  cases ht with
  | cons h1 t1 => cases h1; cases t1 with
    | cons h2 t2 => cases h2; cases t2; exact ⟨a, rfl, hs⟩
theorem click_inv {v : V} (h : Dp K H v Part.click.data) : ∃ a, v = .ref a ∧ SqT K H a [.str "click"] := by
  obtain ⟨a, vs, rfl, hs, ht⟩ := tup_inv h
  cases ht with
  | cons h1 t1 => cases h1; cases t1; exact ⟨a, rfl, hs⟩
theorem rocker_inv {v : V} (h : Dp K H v Part.rocker.data) : ∃ a, v = .ref a ∧ SqT K H a [.str "rocker"] := by
  obtain ⟨a, vs, rfl, hs, ht⟩ := tup_inv h
  cases ht with
  | cons h1 t1 => cases h1; cases t1; exact ⟨a, rfl, hs⟩
theorem wheel_dp {a b : Addr} {z : Int} {ms : List Int} (h : SqT K H a [.str "wheel", .int z, .ref b]) (hb : SqT K H b (ms.map V.int)) : Dp K H (.ref a) (Part.wheel z ms).data :=
  .tup h (.cons (.str _) (.cons (.int _) (.cons (.tup hb (dpAll_ints ms)) .nil)))
theorem spring_dp {a : Addr} {k : Int} (h : SqT K H a [.str "spring", .int k]) : Dp K H (.ref a) (Part.spring k).data := .tup h (.cons (.str _) (.cons (.int _) .nil))
theorem click_dp {a : Addr} (h : SqT K H a [.str "click"]) : Dp K H (.ref a) Part.click.data := .tup h (.cons (.str _) .nil)
theorem rocker_dp {a : Addr} (h : SqT K H a [.str "rocker"]) : Dp K H (.ref a) Part.rocker.data := .tup h (.cons (.str _) .nil)
/-- a train at a: its parts -/
def TrainAt (K : PySem.W.Frag) (H : Hp) (a : Addr) (ps : List Part) : Prop := ∃ vs, SqL K H a vs ∧ DpAll K H vs (ps.map Part.data)
theorem TrainAt.same {H' : Hp} {a : Addr} {ps : List Part} (e : Same H H') (h : TrainAt K H a ps) : TrainAt K H' a ps := by
  obtain ⟨vs, h1, h2⟩ := h
  exact ⟨vs, e.seq h1, dpAll_same e h2⟩
theorem TrainAt.at {a : Addr} {ps : List Part} {vs : List V} (h2 : DpAll K H vs (ps.map Part.data)) {i : Nat} {p : Part} (e : ps[i]? = some p) : ∃ v, vs[i]? = some v ∧ Dp K H v p.data :=
  dpAll_get h2 (by rw [List.getElem?_map, e]; rfl)
end
/-- a list that is changed leaves the parts as they are -/
theorem sqT_upd {K : PySem.W.Frag} {H : Hp} {a l : Addr} {xs ws : List V} {o : HO} (h : SqT K H a xs) (hl : H l = some (.lst ws)) : SqT K (upd H l o) a xs := by
  rcases h with (h | ⟨u, h⟩) | h
  · exact .inl (.inl (by rw [upd_ne (ne_of h hl (by intro z; cases z))]; exact h))
  · exact .inl (.inr ⟨u, by rw [upd_ne (ne_of h hl (by intro z; cases z))]; exact h⟩)
  · exact .inr h
theorem part_upd {K : PySem.W.Frag} {H : Hp} {l : Addr} {ws : List V} {o : HO} {v : V} {p : Part} (h : Dp K H v p.data) (hl : H l = some (.lst ws)) : Dp K (upd H l o) v p.data := by
  cases p with
  | wheel z ms =>
    obtain ⟨a, b, rfl, ha, hb⟩ := wheel_inv h
    exact wheel_dp (sqT_upd ha hl) (sqT_upd hb hl)
  | click =>
    obtain ⟨a, rfl, ha⟩ := click_inv h
    exact click_dp (sqT_upd ha hl)
  | rocker =>
    obtain ⟨a, rfl, ha⟩ := rocker_inv h
    exact rocker_dp (sqT_upd ha hl)
  | spring k =>
    obtain ⟨a, rfl, ha⟩ := spring_inv h
    exact spring_dp (sqT_upd ha hl)
theorem parts_upd {K : PySem.W.Frag} {H : Hp} {l : Addr} {ws : List V} {o : HO} (hl : H l = some (.lst ws)) : ∀ {vs : List V} (ps : List Part), DpAll K H vs (ps.map Part.data) → DpAll K (upd H l o) vs (ps.map Part.data)
  | _, [], .nil => .nil
  | _, p :: r, .cons h t => .cons (part_upd h hl) (parts_upd hl r t)
theorem stands_app : ∀ (ps : List Part) (p : Part), stands (ps ++ [p]) = stands ps * p.places
  | [], p => by
    show p.places * 1 = 1 * p.places
    rw [Int.mul_one, Int.one_mul]
  | a :: r, p => by
    show a.places * stands (r ++ [p]) = a.places * stands r * p.places
    rw [stands_app r p, Int.mul_assoc]
theorem stands_pos : ∀ (ps : List Part), (∀ p ∈ ps, p.ok) → 1 ≤ stands ps
  | [], _ => Int.le_refl _
  | a :: r, h => by
    have h1 := (h a List.mem_cons_self).pos.1
    have h2 := stands_pos r fun p hp => h p (List.mem_cons_of_mem _ hp)
    show 1 ≤ a.places * stands r
    have := Int.mul_le_mul h1 h2 (by decide) (by omega)
    omega
theorem room_step {s pl room most : Int} (hs : 1 ≤ s) (h1 : 1 ≤ pl) (h2 : pl ≤ room) (h : s * room ≤ most) : 1 ≤ room / pl ∧ s * pl * (room / pl) ≤ most := by
  refine ⟨Int.le_ediv_of_mul_le (by omega) (by omega), ?_⟩
  rw [Int.mul_assoc]
  exact Int.le_trans (Int.mul_le_mul_of_nonneg_left (Int.mul_ediv_self_le (by omega)) (by omega)) h
theorem room_end {s room most : Int} (hs : 1 ≤ s) (h1 : 1 ≤ room) (h : s * room ≤ most) : s ≤ most := by
  have := Int.mul_le_mul_of_nonneg_left h1 (show 0 ≤ s by omega)
  omega
/-! data that can be laid -/
theorem canLay_ints : ∀ ns : List Int, PyData.canLayAll0 (ns.map PyData.int) = true
  | [] => rfl
  | n :: r => by
    rw [List.map_cons, PyData.canLayAll0, canLay_ints r]
    rfl
theorem lay_all {n : Nat} : ∀ ds : List PyData, (∀ d ∈ ds, d.canLay0 = true ∧ d.depth ≤ n) → PyData.canLayAll0 ds = true ∧ PyData.depthAll ds ≤ n
  | [], _ => ⟨rfl, Nat.zero_le _⟩
  | d :: r, h => by
    have h1 := h d List.mem_cons_self
    have h2 := lay_all r fun e he => h e (List.mem_cons_of_mem _ he)
    rw [PyData.canLayAll0, PyData.depthAll, h1.1, h2.1]
    exact ⟨rfl, Nat.max_le.mpr ⟨h1.2, h2.2⟩⟩
theorem lay_tup {n : Nat} {ds : List PyData} (h : ∀ d ∈ ds, d.canLay0 = true ∧ d.depth ≤ n) : (PyData.tuple ds).canLay0 = true ∧ (PyData.tuple ds).depth ≤ n + 1 := by
  obtain ⟨h1, h2⟩ := lay_all ds h
  rw [PyData.canLay0, PyData.depth]
  exact ⟨h1, by omega⟩
theorem lay_lst {n : Nat} {ds : List PyData} (h : ∀ d ∈ ds, d.canLay0 = true ∧ d.depth ≤ n) : (PyData.list ds).canLay0 = true ∧ (PyData.list ds).depth ≤ n + 1 := by
  obtain ⟨h1, h2⟩ := lay_all ds h
  rw [PyData.canLay0, PyData.depth]
  exact ⟨h1, by omega⟩
theorem lay_int (n : Nat) (i : Int) : (PyData.int i).canLay0 = true ∧ (PyData.int i).depth ≤ n := ⟨rfl, Nat.zero_le _⟩
theorem lay_str (n : Nat) (x : Str) (h : (PyData.str x).canLay0 = true := by decide +kernel) : (PyData.str x).canLay0 = true ∧ (PyData.str x).depth ≤ n := ⟨h, Nat.zero_le _⟩
theorem lay_ints (ns : List Int) (n : Nat) : ∀ d ∈ ns.map PyData.int, d.canLay0 = true ∧ d.depth ≤ n := fun d hd => by
  obtain ⟨i, _, rfl⟩ := List.mem_map.mp hd
  exact lay_int n i
theorem lay_mono {d : PyData} {n m : Nat} (h : d.canLay0 = true ∧ d.depth ≤ n) (e : n ≤ m) : d.canLay0 = true ∧ d.depth ≤ m := ⟨h.1, Nat.le_trans h.2 e⟩
theorem lay_part (p : Part) : p.data.canLay0 = true ∧ p.data.depth ≤ 2 := by
  cases p with
  | wheel z ms =>
    refine lay_tup (n := 1) fun d hd => ?_
    rcases List.mem_cons.mp hd with rfl | hd
    · exact lay_str _ _
    rcases List.mem_cons.mp hd with rfl | hd
    · exact lay_int _ _
    rcases List.mem_cons.mp hd with rfl | hd
    · exact lay_tup (lay_ints ms 0)
    · cases hd
  | click => exact lay_mono (lay_tup (n := 0) fun d hd => by
      rcases List.mem_cons.mp hd with rfl | hd
      · exact lay_str _ _
      · cases hd) (by decide)
  | rocker => exact lay_mono (lay_tup (n := 0) fun d hd => by
      rcases List.mem_cons.mp hd with rfl | hd
      · exact lay_str _ _
      · cases hd) (by decide)
  | spring k => exact lay_mono (lay_tup (n := 0) fun d hd => by
      rcases List.mem_cons.mp hd with rfl | hd
      · exact lay_str _ _
      rcases List.mem_cons.mp hd with rfl | hd
      · exact lay_int _ _
      · cases hd) (by decide)
theorem lay_train (ps : List Part) : (PyData.list (ps.map Part.data)).canLay0 = true ∧ (PyData.list (ps.map Part.data)).depth ≤ 3 := lay_lst fun d hd => by
  obtain ⟨p, _, rfl⟩ := List.mem_map.mp hd
  exact lay_part p
theorem shaped_of {d : PyData} {n : Nat} (h : d.canLay0 = true ∧ d.depth ≤ n) (e : n ≤ 64) : SeqAt.shaped d = true := by
  unfold SeqAt.shaped
  rw [h.1, decide_eq_true (Nat.le_trans h.2 e)]
  rfl
theorem lay_told (xs : List Int) (y : Int) : (PyData.tuple [.tuple (xs.map PyData.int), .int y]).canLay0 = true ∧ (PyData.tuple [.tuple (xs.map PyData.int), .int y]).depth ≤ 2 := lay_tup (n := 1) fun d hd => by
  rcases List.mem_cons.mp hd with rfl | hd
  · exact lay_tup (lay_ints xs 0)
  rcases List.mem_cons.mp hd with rfl | hd
  · exact lay_int _ _
  · cases hd
theorem w_neSame {K : PySem.W.Frag} {H : Hp} {Q : VK} {x y : V} (d : PyData) {n : Nat} (hx : Dp K H x d) (hy : Dp K H y d) (h : d.canLay0 = true ∧ d.depth ≤ n) (e : n ≤ 64) (q : Q (.bl false) H) : rNeD K x y H Q :=
  ⟨d, d, hx, hy, shaped_of h e, shaped_of h e, by rw [SeqAt.eqv_refl d h.1]; exact q⟩
theorem tyx_T {K : PySem.W.Frag} {H : Hp} {a : Addr} {xs : List V} (h : SqT K H a xs) : TyX K H (.ref a) (.type "tuple") := by
  rcases h with (h | ⟨o, h⟩) | ⟨o, its, n, hk, hc, _⟩
  · exact .base (.tup h)
  · exact .fTuple h
  · exact .kTuple hk hc
theorem tyx_L {K : PySem.W.Frag} {H : Hp} {a : Addr} {xs : List V} (h : SqL K H a xs) : TyX K H (.ref a) (.type "list") := by
  rcases h with (h | ⟨o, h⟩) | ⟨o, its, n, hk, hc, _⟩
  · exact .base (.lst h)
  · exact .base (.frz h)
  · exact .kList hk hc
end Ct

namespace Ct
open PySem PySem.Spec PyProof.Rows L2
/-! zip of a list and a tuple: the list first -/
def ItM (K : PySem.W.Frag) (a b : Addr) : It where
  go := fun i H => ∃ (xs ys : List V) (x y : V), SqL K H a xs ∧ SqT K H b ys ∧ xs[i]? = some x ∧ ys[i]? = some y
  yld := fun i H v H' => ∃ T x y, v = .ref T ∧ H T = none ∧ H' = upd H T (.tup [x, y]) ∧ (∀ xs, SqL K H a xs → xs[i]? = some x) ∧ ∀ ys, SqT K H b ys → ys[i]? = some y
  stop := fun i H => ∃ xs ys : List V, SqL K H a xs ∧ SqT K H b ys ∧ min xs.length ys.length = i
abbrev ZSt (a b z TI TO i1 i2 : Addr) (i : Nat) (h : Heap) : Prop :=
  IsZip h z TI TO .none ∧ IsTupOf2 h TI (.ref i1) (.ref i2) ∧ (∃ a1 a2, IsTupOf2 h TO a1 a2) ∧ h.IsListIter i1 a i ∧ h.IsTupleIter i2 b i
theorem turnM {P : Program} {w : World} {K : PySem.W.Frag} {es : List Expr} {kk : Nat} {tp : Pos} {a b N : Nat} (ha : a < N) (hb : b < N) :
    Turn P w K (.Tuple es kk tp) (ItM K a b) [N + 4, N + 2, N + 3, N, N + 1] (N + 4) (ZSt a b (N + 4) (N + 2) (N + 3) N (N + 1)) := by
  have five : ∀ {c : Nat}, c ∈ [N + 4, N + 2, N + 3, N, N + 1] → N ≤ c := fun {c} hc => by
    simp only [List.mem_cons, List.not_mem_nil, or_false] at hc
    omega
  have sep : ZipSep2 (N + 4) (N + 2) (N + 3) N (N + 1) [N, a] [N + 1, b] := zip_sep2 (fun c hc => by rw [List.mem_singleton] at hc; rw [hc]; exact ha) fun c hc => by rw [List.mem_singleton] at hc; rw [hc]; exact hb
  have wrfp : ∀ {c : Nat}, c ∉ [N + 4, N + 2, N + 3, N, N + 1] → c ∉ [N + 4, N + 3, N, N + 1] := fun {c} hc hm => hc (by
    simp only [List.mem_cons, List.not_mem_nil, or_false] at hm ⊢
    omega)
  refine ⟨List.mem_cons_self, fun i h st c hc => ?_, fun i h h' st k => ?_, ?_, ?_, fun A i s Q E st h => wpAny_pyIter_zip st.1 h⟩
  · obtain ⟨s1, s2, ⟨u, v, s3⟩, ⟨o1, g1, _, d1⟩, ⟨o2, g2, _, d2⟩⟩ := st
    simp only [List.mem_cons, List.not_mem_nil, or_false] at hc
    rcases hc with e | e | e | e | e <;> subst e
    · exact ⟨_, s1, fun v q => nomatch q⟩
    · exact ⟨_, s2, fun v q => nomatch q⟩
    · exact ⟨_, s3, fun v q => nomatch q⟩
    · exact ⟨o1, g1, fun v q => by rw [d1] at q; cases q⟩
    · exact ⟨o2, g2, fun v q => by rw [d2] at q; cases q⟩
  · obtain ⟨s1, s2, ⟨u, v, s3⟩, s4, s5⟩ := st
    exact ⟨k _ (by simp) _ s1, k _ (by simp) _ s2, ⟨u, v, k _ (by simp) _ s3⟩, s4.at fun o q => k N (by simp) o q, s5.at fun o q => k (N + 1) (by simp) o q⟩
  · intro X eP ew eK calm i pins s σ H E I hf st hg
    subst eP ew eK
    obtain ⟨xs, ys, x, y, lx, ty, gx, gy⟩ := hg
    obtain ⟨us, rx, px, _⟩ := I.list lx
    obtain ⟨vs, ry, py, _⟩ := I.tuple ty
    obtain ⟨s1, s2, s3, s4, s5⟩ := st
    have hh : X.A.in1.handled = none := I.ok.hd calm
    have G := GoesN.zip2 (elts := es) (x1 := kk) (pos := tp) sep (Draws.list (prog := X.prog) (w := X.w) hh N a (Nat.ne_of_lt ha) us.toArray) (Draws.tuple (prog := X.prog) (w := X.w) hh (N + 1) b (Nat.ne_of_lt (Nat.lt_succ_of_lt hb)) vs.toArray)
    have lu := rx.length
    have lv := ry.length
    have ix : i < xs.length := (List.getElem?_eq_some_iff.mp gx).1
    have iy : i < ys.length := (List.getElem?_eq_some_iff.mp gy).1
    refine G.goes i s _ E (by rw [List.size_toArray, List.size_toArray]; omega) ⟨s1, s2, s3, ⟨s4, px.isList⟩, ⟨s5, py⟩⟩ fun v h' tk hY st' hk _ => ?_
    obtain ⟨T, u1, u2, rfl, hT, q1, q2, hTu⟩ := hY
    obtain ⟨w1, e1, r1⟩ := rx.get gx
    obtain ⟨w2, e2, r2⟩ := ry.get gy
    have f1 : w1 = u1 := Option.some.inj (e1.symm.trans (by simpa using q1))
    have f2 : w2 = u2 := Option.some.inj (e2.symm.trans (by simpa using q2))
    subst f1 f2
    have new : ObjOk X.prog X.w (upd H T (.tup [x, y])) h' T (.tup [x, y]) := ⟨len2 rfl, [w1, w2], .cons r1 (.cons r2 .nil), hTu⟩
    refine ⟨.ref T, _, I.turnedNew (t' := tk) (fun c o hc e => hk c o (wrfp hc) e) hf hT new, rfl, ⟨T, x, y, rfl, I.hok.fresh hT, rfl, fun l hl => by rw [I.list_inj hl lx]; exact gx, fun l hl => by rw [I.tuple_inj hl ty]; exact gy⟩, ⟨st'.1, st'.2.1, st'.2.2.1, st'.2.2.2.1.1, st'.2.2.2.2.1⟩, fun c hc => ?_⟩
    obtain ⟨o, g, _⟩ : ∃ o, s.heap.get? c = some o ∧ True := by
      obtain ⟨u, v, s3⟩ := s3
      obtain ⟨o1, g1, _⟩ := s4
      obtain ⟨o2, g2, _⟩ := s5
      simp only [List.mem_cons, List.not_mem_nil, or_false] at hc
      rcases hc with e | e | e | e | e <;> subst e
      · exact ⟨_, s1, trivial⟩
      · exact ⟨_, s2, trivial⟩
      · exact ⟨_, s3, trivial⟩
      · exact ⟨_, g1, trivial⟩
      · exact ⟨_, g2, trivial⟩
    rw [upd_ne (Nat.ne_of_lt (Nat.lt_of_lt_of_le (Heap.lt_size g) hT))]
    exact (hf c hc).1
  · intro X eP ew eK calm i pins s σ H E I hf st hg
    subst eP ew eK
    obtain ⟨xs, ys, lx, ty, hm⟩ := hg
    obtain ⟨us, rx, px, _⟩ := I.list lx
    obtain ⟨vs, ry, py, _⟩ := I.tuple ty
    obtain ⟨s1, s2, s3, s4, s5⟩ := st
    have hh : X.A.in1.handled = none := I.ok.hd calm
    have G := GoesN.zip2 (elts := es) (x1 := kk) (pos := tp) sep (Draws.list (prog := X.prog) (w := X.w) hh N a (Nat.ne_of_lt ha) us.toArray) (Draws.tuple (prog := X.prog) (w := X.w) hh (N + 1) b (Nat.ne_of_lt (Nat.lt_succ_of_lt hb)) vs.toArray)
    have lu := rx.length
    have lv := ry.length
    have hn : min us.toArray.size vs.toArray.size = i := by rw [List.size_toArray, List.size_toArray]; omega
    rw [hn] at G
    exact G.stops s _ E ⟨s1, s2, s3, ⟨s4, px.isList⟩, ⟨s5, py⟩⟩ fun h' tk hk _ => I.turnedL (t' := tk) (fun c o hc e => hk c o (wrfp hc) e) hf
def iM (K : PySem.W.Frag) (ta : TA) : TI := fun σ H R => ta σ H fun vs H1 => ∃ a b xs ys, vs = [.ref a, .ref b] ∧ SqL K H1 a xs ∧ SqT K H1 b ys ∧ R (ItM K a b) H1
theorem pi_zipM {X : Cx} {e e2 : Expr} {ta : TA} {p pos tp : Pos} {es : List Expr} {kk : Nat} (gl : Gl X "zip") (mz : X.mg "zip" = none) (pa : PA X [e, e2] ta)
    (se : starEach [e, e2] X.env = (false, eval e X.env) :: starEach [e2] X.env := by rfl) (bk : (backTo pos (starEach [e2] X.env)).any (·.1) = false := by rfl) : PI X (.Tuple es kk tp) (.Call (.Name "zip" p) [e, e2] [] pos) (iM X.K ta) := by
  refine ⟨fun pins s σ H R I h => Call_ (ld_blt I gl mz boot_zip (callWith_type1 (thn (pa.run pos pins s σ H _ I h) fun us s1 ⟨vs, H1, I1, r1, q1⟩ => ?_) se bk))⟩
  obtain ⟨a, b, xs, ys, rfl, lx, ty, q⟩ := q1
  cases r1 with
  | cons ra rr => cases rr with
    | cons rb rn =>
      cases rn
      cases ra
      cases rb
      obtain ⟨us, rx, px, _⟩ := I1.list lx
      obtain ⟨vs, ry, py, _⟩ := I1.tuple ty
      obtain ⟨ob, gb, _⟩ := id py
      refine zip_begins2 (begins_list a us.toArray) (begins_tuple b vs.toArray) px.isList py fun h' z1 z2 z3 g1 g2 _ hk => wpAny_pyIter_zip z1 ?_
      have I2 : Inv X pins σ H1 { s1 with heap := h' } := I1.kept (t' := s1.toks) hk
      refine ⟨_, _, _, _, H1, rfl, I2, turnM px.lt (Heap.lt_size gb), ⟨z1, z2, ⟨_, _, z3⟩, ⟨_, g1, rfl, rfl⟩, ⟨_, g2, rfl, rfl⟩⟩, fun c hc => ?_, q⟩
      have hle : s1.heap.objs.size ≤ c := by
        simp only [List.mem_cons, List.not_mem_nil, or_false] at hc
        rcases hc with e | e | e | e | e <;> subst e <;> first | exact Nat.le_add_right _ _ | exact Nat.le_refl _
      exact I1.fpOk hle (I1.hok.fresh hle)
section
variable {K : PySem.W.Frag} {H : Hp} {σ : L2.St} {D : Ends} {R : It → Hp → Prop}
def IM (K : PySem.W.Frag) (vs : List V) (H : Hp) (R : It → Hp → Prop) : Prop := iM K (fun _ H Q => Q vs H) [] H R
theorem w_im {ta : TA} (h : ta σ H fun vs H1 => IM K vs H1 R) : iM K ta σ H R := h
theorem w_IM {a b : Addr} {xs ys : List V} (h1 : SqL K H a xs) (h2 : SqT K H b ys) (q : R (ItM K a b) H) : IM K [.ref a, .ref b] H R := ⟨a, b, xs, ys, rfl, h1, h2, q⟩
theorem fb_zipM {a b : Addr} (xs ys : List V) (hl : xs.length = ys.length) {g : TG} {tb : TS} (Pv : Nat → L2.St → Hp → Prop) (h0 : Pv 0 σ H) (hq : ∀ i σ H, i ≤ xs.length → Pv i σ H → SqL K H a xs ∧ SqT K H b ys)
    (hs : ∀ i x y T σ H, xs[i]? = some x → ys[i]? = some y → Pv i σ H → H T = none → g (.ref T) σ (upd H T (.tup [x, y])) fun σ2 H2 => tb { D with nx := Pv (i + 1), ct := Pv (i + 1), bk := D.nx } σ2 H2) (hd : ∀ σ H, Pv xs.length σ H → D.nx σ H) : FB (ItM K a b) g tb D σ H := by
  refine ⟨fun i m σ H => m = xs.length - i ∧ i ≤ xs.length ∧ Pv i σ H, ⟨xs.length, rfl, Nat.zero_le _, h0⟩, ?_⟩
  rintro i m σ H ⟨rfl, hi, p⟩
  obtain ⟨q1, q2⟩ := hq i σ H hi p
  by_cases hlt : i < xs.length
  · refine .inr ⟨⟨xs, ys, _, _, q1, q2, List.getElem?_eq_getElem hlt, List.getElem?_eq_getElem (hl ▸ hlt)⟩, Pv (i + 1), fun σ' H' p' => ⟨xs.length - (i + 1), by omega, rfl, hlt, p'⟩, fun v H' y => ?_⟩
    obtain ⟨T, x1, x2, rfl, hT, rfl, f1, f2⟩ := y
    exact hs i x1 x2 T σ H (f1 _ q1) (f2 _ q2) p hT
  · exact .inl ⟨⟨xs, ys, q1, q2, by omega⟩, hd σ H (by rw [show xs.length = i by omega]; exact p)⟩
end
end Ct

namespace Ct
open PySem PySem.Spec PyProof.Rows L2
/-! pushes of one deed, reckoned at once -/
def cnt (ms : List Int) (r : Int) : Int := ((ms.filter fun m => decide (m ≤ r)).length : Int)
theorem cnt_nil (r : Int) : cnt [] r = 0 := rfl
theorem cnt_cons (m : Int) (ms : List Int) (r : Int) : cnt (m :: ms) r = (if m ≤ r then 1 else 0) + cnt ms r := by
  unfold cnt
  rw [List.filter_cons]
  by_cases h : m ≤ r
  · rw [if_pos h, if_pos (decide_eq_true h), List.length_cons]
    omega
  · rw [if_neg h, if_neg (by rw [decide_eq_false h]; exact Bool.false_ne_true)]
    omega
theorem cnt_all : ∀ {ms : List Int} {r : Int}, (∀ m ∈ ms, m ≤ r) → cnt ms r = ms.length
  | [], _, _ => rfl
  | m :: ms, r, h => by
    rw [cnt_cons, if_pos (h m List.mem_cons_self), cnt_all fun x hx => h x (List.mem_cons_of_mem _ hx), List.length_cons]
    omega
theorem cnt_zero : ∀ {ms : List Int} {r : Int}, (∀ m ∈ ms, r < m) → cnt ms r = 0
  | [], _, _ => rfl
  | m :: ms, r, h => by
    have h1 := h m List.mem_cons_self
    rw [cnt_cons, if_neg (by omega), cnt_zero fun x hx => h x (List.mem_cons_of_mem _ hx)]
    rfl
theorem cnt_split : ∀ (ms : List Int) (k : Nat) (r : Int), k ≤ ms.length → (∀ (j : Nat) (m : Int), j < k → ms[j]? = some m → m ≤ r) → (∀ (j : Nat) (m : Int), k ≤ j → ms[j]? = some m → r < m) → cnt ms r = k
  | ms, 0, r, _, _, h => cnt_zero fun m hm => by
    obtain ⟨j, hj, e⟩ := List.mem_iff_getElem.mp hm
    exact h j m (Nat.zero_le _) (by rw [List.getElem?_eq_getElem hj, e])
  | [], k + 1, r, hk, _, _ => absurd hk (by simp)
  | m :: ms, k + 1, r, hk, h1, h2 => by
    rw [cnt_cons, if_pos (h1 0 m (Nat.succ_pos k) rfl), cnt_split ms k r (by rw [List.length_cons] at hk; omega) (fun j x hj hx => h1 (j + 1) x (by omega) hx) fun j x hj hx => h2 (j + 1) x (by omega) hx]
    omega
theorem cnt_step : ∀ {ms : List Int} (r : Int), ms.Pairwise (· < ·) → cnt ms r = cnt ms (r - 1) + (if r ∈ ms then 1 else 0)
  | [], _, _ => rfl
  | m :: ms, r, h => by
    obtain ⟨h1, h2⟩ := List.pairwise_cons.mp h
    have ih := cnt_step r h2
    rw [cnt_cons, cnt_cons, ih]
    by_cases e : r = m
    · subst e
      have hn : r ∉ ms := fun z => by
        have := h1 r z
        omega
      rw [if_neg hn, if_pos List.mem_cons_self, if_pos (Int.le_refl _), if_neg (by omega)]
      omega
    · have hm : (r ∈ m :: ms) ↔ r ∈ ms := ⟨fun z => (List.mem_cons.mp z).resolve_left e, fun z => List.mem_cons_of_mem _ z⟩
      by_cases hr : r ∈ ms
      · rw [if_pos hr, if_pos (hm.mpr hr)]
        by_cases h3 : m ≤ r
        · rw [if_pos h3, if_pos (by omega)]
          omega
        · rw [if_neg h3, if_neg (by omega)]
          omega
      · rw [if_neg hr, if_neg (fun z => hr (hm.mp z))]
        by_cases h3 : m ≤ r
        · rw [if_pos h3, if_pos (by omega)]
          omega
        · rw [if_neg h3, if_neg (by omega)]
          omega
/-- marks up to a tooth, over all turns -/
def mah (z : Int) (ms : List Int) (y : Int) : Int := y / z * (ms.length : Int) + cnt ms (y % z)
theorem mah_step {z : Int} {ms : List Int} (hz : 1 ≤ z) (rs : Rise z ms) (y : Int) : mah z ms y = mah z ms (y - 1) + (if y % z ∈ ms then 1 else 0) := by
  unfold mah
  have e := Int.emod_add_mul_ediv y z
  have r0 := Int.emod_nonneg y (show z ≠ 0 by omega)
  have r1 := Int.emod_lt_of_pos y (show 0 < z by omega)
  by_cases h : y % z = 0
  · obtain ⟨e1, e2⟩ := (Int.ediv_emod_unique (a := y - 1) (b := z) (r := z - 1) (q := y / z - 1) (by omega)).mpr ⟨by rw [Int.mul_sub]; omega, by omega, by omega⟩
    rw [e1, e2, h, cnt_all (ms := ms) (r := z - 1) (fun m hm => by have := (rs.2 m hm).2; omega), cnt_step 0 rs.1, cnt_zero (ms := ms) (r := 0 - 1) (fun m hm => by have := (rs.2 m hm).1; omega), Int.sub_mul]
    omega
  · obtain ⟨e1, e2⟩ := (Int.ediv_emod_unique (a := y - 1) (b := z) (r := y % z - 1) (q := y / z) (by omega)).mpr ⟨by omega, by omega, by omega⟩
    rw [e1, e2, cnt_step (y % z) rs.1]
    omega
theorem mah_up {z : Int} {ms : List Int} (hz : 1 ≤ z) (rs : Rise z ms) (y : Int) : ∀ t : Nat, mah z ms y ≤ mah z ms (y + t)
  | 0 => by rw [show y + ((0 : Nat) : Int) = y by omega]; exact Int.le_refl _
  | t + 1 => by
    have h := mah_step hz rs (y + ((t + 1 : Nat) : Int))
    rw [show y + ((t + 1 : Nat) : Int) - 1 = y + t by omega] at h
    have ih := mah_up hz rs y t
    rw [h]
    split <;> omega
/-- so many pushes one way at a part: its place, and how many it gives -/
def pt (p : Part) (x w t : Int) : Int × Int := match p with
  | .wheel z ms => ((x + w * t) % z, if mah z ms (x + w * t) - mah z ms x < 0 then -(mah z ms (x + w * t) - mah z ms x) else mah z ms (x + w * t) - mah z ms x)
  | .click => (x, if w = 1 then t else 0)
  | .rocker => if t = 0 then (x, 0) else if w = -1 then (0, 0) else (1, 1 - x)
  | .spring k => if w = -1 then (if x - t > 0 then x - t else 0, 0) else ((x + t) % k, (x + t) / k)
theorem pt_zero {p : Part} {x w : Int} (ok : p.ok) (h0 : 0 ≤ x) (h1 : x < p.places) : pt p x w 0 = (x, 0) := by
  cases p with
  | wheel z ms =>
    have h2 : x < z := h1
    simp only [pt, Int.mul_zero, Int.add_zero, Int.emod_eq_of_lt h0 h2, Int.sub_self]
    rfl
  | click =>
    simp only [pt]
    split <;> rfl
  | rocker => rfl
  | spring k =>
    have h2 : x < k := h1
    simp only [pt]
    split
    · rw [show (if x - 0 > 0 then x - 0 else 0) = x by split <;> omega]
    · rw [Int.add_zero, Int.emod_eq_of_lt h0 h2, Int.ediv_eq_zero_of_lt h0 h2]
theorem pp_way (p : Part) (x w : Int) (h : Sign w) : (pp p x w).2 = 0 ∨ (pp p x w).2 = w := by
  cases p with
  | wheel z ms =>
    by_cases e : (if w = 1 then (x + w) % z else x) ∈ ms
    · exact .inr (if_pos e)
    · exact .inl (if_neg e)
  | click =>
    by_cases e : w = 1
    · exact .inr (by simp only [pp, if_pos e]; exact e.symm)
    · exact .inl (if_neg e)
  | rocker =>
    by_cases e : w = 1 ∧ x = 0
    · exact .inr (by simp only [pp, if_pos e]; exact e.1.symm)
    · exact .inl (if_neg e)
  | spring k =>
    by_cases e : w = 1
    · by_cases e2 : x = k - 1
      · exact .inr (by simp only [pp, if_pos e, if_pos e2]; exact e.symm)
      · exact .inl (by simp only [pp, if_pos e, if_neg e2])
    · exact .inl (by simp only [pp, if_neg e])
theorem neg_abs {d : Int} (h : 0 ≤ d) : (if d < 0 then -d else d) = d := if_neg (by omega)
theorem abs_neg {d : Int} (h : d ≤ 0) : (if d < 0 then -d else d) = -d := by
  split <;> omega
/-- one push more -/
theorem pt_step {p : Part} {x w : Int} (ok : p.ok) (h0 : 0 ≤ x) (h1 : x < p.places) (hw : Sign w) (t : Nat) :
    pt p x w ((t + 1 : Nat) : Int) = ((pp p (pt p x w t).1 w).1, (pt p x w t).2 + if (pp p (pt p x w t).1 w).2 = 0 then 0 else 1) := by
  cases p with
  | wheel z ms =>
    have hz : 1 ≤ z := ok.1
    have rs : Rise z ms := ok.2.2.1
    rcases hw with rfl | rfl
    · have u1 := mah_up hz rs x t
      have u2 := mah_up hz rs x (t + 1)
      have st := mah_step hz rs (x + ((t + 1 : Nat) : Int))
      rw [show x + ((t + 1 : Nat) : Int) - 1 = x + t by omega] at st
      simp only [pt, pp, Int.one_mul, if_true]
      rw [neg_abs (by omega), neg_abs (by omega)]
      have em : ((x + (t : Int)) % z + 1) % z = (x + ((t + 1 : Nat) : Int)) % z := by
        rw [Int.emod_add_emod]
        congr 1
        omega
      rw [em]
      by_cases hm : (x + ((t + 1 : Nat) : Int)) % z ∈ ms
      · rw [if_pos hm] at st ⊢
        rw [if_neg (by decide)]
        exact Prod.ext rfl (by show mah z ms _ - mah z ms x = mah z ms _ - mah z ms x + 1; omega)
      · rw [if_neg hm] at st ⊢
        rw [if_pos rfl]
        exact Prod.ext rfl (by show mah z ms _ - mah z ms x = mah z ms _ - mah z ms x + 0; omega)
    · have v1 := mah_up hz rs (x - t) t
      have v2 := mah_up hz rs (x - ((t + 1 : Nat) : Int)) (t + 1)
      have st := mah_step hz rs (x - t)
      rw [show x - t + t = x by omega] at v1
      rw [show x - ((t + 1 : Nat) : Int) + ((t + 1 : Nat) : Int) = x by omega] at v2
      simp only [pt, pp, show ∀ y : Int, x + -1 * y = x - y from fun y => by omega, if_neg (show ¬ (-1 : Int) = 1 by decide)]
      rw [abs_neg (by omega), abs_neg (by omega)]
      have em : ((x - (t : Int)) % z + -1) % z = (x - ((t + 1 : Nat) : Int)) % z := by
        rw [Int.emod_add_emod]
        congr 1
        omega
      rw [em]
      rw [show x - (t : Int) - 1 = x - ((t + 1 : Nat) : Int) by omega] at st
      by_cases hm : (x - (t : Int)) % z ∈ ms
      · rw [if_pos hm] at st ⊢
        rw [if_neg (by decide)]
        exact Prod.ext rfl (by show -(mah z ms _ - mah z ms x) = -(mah z ms _ - mah z ms x) + 1; omega)
      · rw [if_neg hm] at st ⊢
        rw [if_pos rfl]
        exact Prod.ext rfl (by show -(mah z ms _ - mah z ms x) = -(mah z ms _ - mah z ms x) + 0; omega)
  | click =>
    have h2 : x < 1 := h1
    have ex : x = 0 := by omega
    subst ex
    rcases hw with rfl | rfl
    · simp only [pt, pp, if_true]
      rw [if_neg (by decide)]
      exact Prod.ext rfl (by show ((t + 1 : Nat) : Int) = (t : Int) + 1; omega)
    · rfl
  | rocker =>
    have h2 : x < 2 := h1
    rcases hw with rfl | rfl
    · simp only [pt, pp, if_neg (show ¬ ((t + 1 : Nat) : Int) = 0 by omega), if_neg (show ¬ (1 : Int) = -1 by decide), if_true]
      by_cases ht : (t : Int) = 0
      · rw [if_pos ht]
        by_cases hx : x = 0
        · subst hx
          rfl
        · have hx1 : x = 1 := by omega
          subst hx1
          rfl
      · rw [if_neg ht]
        simp
    · simp only [pt, pp, if_neg (show ¬ ((t + 1 : Nat) : Int) = 0 by omega), if_true]
      by_cases ht : (t : Int) = 0
      · rw [if_pos ht]
        rfl
      · rw [if_neg ht]
        rfl
  | spring k =>
    have h2 : x < k := h1
    have hk : 1 ≤ k := ok.1
    rcases hw with rfl | rfl
    · simp only [pt, pp, if_neg (show ¬ (1 : Int) = -1 by decide), if_true]
      have e := Int.emod_add_mul_ediv (x + t) k
      have r0 := Int.emod_nonneg (x + t) (show k ≠ 0 by omega)
      have r1 := Int.emod_lt_of_pos (x + t) (show 0 < k by omega)
      by_cases hx : (x + (t : Int)) % k = k - 1
      · obtain ⟨e1, e2⟩ := (Int.ediv_emod_unique (a := x + ((t + 1 : Nat) : Int)) (b := k) (r := 0) (q := (x + t) / k + 1) (by omega)).mpr ⟨by rw [Int.mul_add]; omega, by omega, by omega⟩
        rw [if_pos hx, e1, e2]
        rfl
      · obtain ⟨e1, e2⟩ := (Int.ediv_emod_unique (a := x + ((t + 1 : Nat) : Int)) (b := k) (r := (x + t) % k + 1) (q := (x + t) / k) (by omega)).mpr ⟨by omega, by omega, by omega⟩
        rw [if_neg hx, e1, e2]
        exact Prod.ext rfl (by show (x + (t : Int)) / k = (x + (t : Int)) / k + 0; omega)
    · simp only [pt, pp, if_true, if_neg (show ¬ (-1 : Int) = 1 by decide)]
      refine Prod.ext ?_ rfl
      show (if x - ((t + 1 : Nat) : Int) > 0 then x - ((t + 1 : Nat) : Int) else 0) = (if (if x - (t : Int) > 0 then x - (t : Int) else 0) - 1 > 0 then (if x - (t : Int) > 0 then x - (t : Int) else 0) - 1 else 0)
      by_cases hx : x - (t : Int) > 0
      · rw [if_pos hx]
        split <;> split <;> omega
      · rw [if_neg hx]
        split <;> split <;> omega
theorem pt_nn {p : Part} {x w : Int} (ok : p.ok) (h0 : 0 ≤ x) (h1 : x < p.places) (hw : Sign w) : ∀ t : Nat, 0 ≤ (pt p x w t).2
  | 0 => by
    show 0 ≤ (pt p x w 0).2
    rw [pt_zero ok h0 h1]
    exact Int.le_refl _
  | t + 1 => by
    rw [pt_step ok h0 h1 hw t]
    have := pt_nn ok h0 h1 hw t
    show 0 ≤ (pt p x w t).2 + _
    split <;> omega
theorem pt_le {p : Part} {x w : Int} (ok : p.ok) (h0 : 0 ≤ x) (h1 : x < p.places) (hw : Sign w) : ∀ t : Nat, (pt p x w t).2 ≤ t
  | 0 => by
    show (pt p x w 0).2 ≤ 0
    rw [pt_zero ok h0 h1]
    exact Int.le_refl _
  | t + 1 => by
    rw [pt_step ok h0 h1 hw t]
    have := pt_le ok h0 h1 hw t
    show (pt p x w t).2 + _ ≤ _
    split <;> omega
theorem pp_place {p : Part} {x w : Int} (ok : p.ok) (h0 : 0 ≤ x) (h1 : x < p.places) (hw : Sign w) : 0 ≤ (pp p x w).1 ∧ (pp p x w).1 < p.places := by
  cases p with
  | wheel z ms =>
    have hz : 1 ≤ z := ok.1
    exact ⟨Int.emod_nonneg _ (by omega), Int.emod_lt_of_pos _ (by omega)⟩
  | click => exact ⟨Int.le_refl _, show (0 : Int) < 1 by decide⟩
  | rocker =>
    rcases hw with rfl | rfl
    · exact ⟨show (0 : Int) ≤ 1 by decide, show (1 : Int) < 2 by decide⟩
    · exact ⟨show (0 : Int) ≤ 0 by decide, show (0 : Int) < 2 by decide⟩
  | spring k =>
    have h2 : x < k := h1
    rcases hw with rfl | rfl
    · simp only [pp, if_true]
      by_cases e : x = k - 1
      · rw [if_pos e]
        exact ⟨Int.le_refl _, show (0 : Int) < k by omega⟩
      · rw [if_neg e]
        exact ⟨show 0 ≤ x + 1 by omega, show x + 1 < k by omega⟩
    · simp only [pp, if_neg (show ¬ (-1 : Int) = 1 by decide)]
      refine ⟨?_, ?_⟩
      · show 0 ≤ (if x - 1 > 0 then x - 1 else 0)
        split <;> omega
      · show (if x - 1 > 0 then x - 1 else 0) < k
        split <;> omega
theorem pt_place {p : Part} {x w : Int} (ok : p.ok) (h0 : 0 ≤ x) (h1 : x < p.places) (hw : Sign w) : ∀ t : Nat, 0 ≤ (pt p x w t).1 ∧ (pt p x w t).1 < p.places
  | 0 => by
    show 0 ≤ (pt p x w 0).1 ∧ (pt p x w 0).1 < p.places
    rw [pt_zero ok h0 h1]
    exact ⟨h0, h1⟩
  | t + 1 => by
    rw [pt_step ok h0 h1 hw t]
    obtain ⟨a, b⟩ := pt_place ok h0 h1 hw t
    exact pp_place ok a b hw
/-! along a train -/
def gen (f : Part → Int → Int → Int × Int) : List Part → List Int → Int → List Int × Int
  | p :: ps, x :: xs, a => ((f p x a).1 :: (gen f ps xs (f p x a).2).1, (gen f ps xs (f p x a).2).2)
  | _, xs, a => (xs, a)
def stF (f : Part → Int → Int → Int × Int) (ps : List Part) (s : List Int × Int) (n : Nat) : List Int × Int := match ps[n]?, s.1[n]? with
  | some p, some x => (s.1.set n (f p x s.2).1, (f p x s.2).2)
  | _, _ => s
def rnF (f : Part → Int → Int → Int × Int) (ps : List Part) (i : Nat) (s : List Int × Int) : Nat → List Int × Int
  | 0 => s
  | n + 1 => stF f ps (rnF f ps i s n) (i + n)
theorem stF_at {f : Part → Int → Int → Int × Int} {ps : List Part} {s : List Int × Int} {n : Nat} {p : Part} {x : Int} (hp : ps[n]? = some p) (hx : s.1[n]? = some x) : stF f ps s n = (s.1.set n (f p x s.2).1, (f p x s.2).2) := by
  unfold stF
  rw [hp, hx]
theorem rnF_first (f : Part → Int → Int → Int × Int) (ps : List Part) (i : Nat) (s : List Int × Int) : ∀ n, rnF f ps i s (n + 1) = rnF f ps (i + 1) (stF f ps s i) n
  | 0 => rfl
  | n + 1 => by
    show stF f ps (rnF f ps i s (n + 1)) (i + (n + 1)) = stF f ps (rnF f ps (i + 1) (stF f ps s i) n) (i + 1 + n)
    rw [rnF_first f ps i s n, show i + (n + 1) = i + 1 + n by omega]
theorem rnF_len (f : Part → Int → Int → Int × Int) (ps : List Part) (i : Nat) (s : List Int × Int) : ∀ n, (rnF f ps i s n).1.length = s.1.length
  | 0 => rfl
  | n + 1 => by
    show (stF f ps _ _).1.length = _
    rw [← rnF_len f ps i s n]
    unfold stF
    split
    · show (List.set _ _ _).length = _
      rw [List.length_set]
    · rfl
theorem rnF_ahead (f : Part → Int → Int → Int × Int) (ps : List Part) (i : Nat) (s : List Int × Int) : ∀ n m, i + n ≤ m → (rnF f ps i s n).1[m]? = s.1[m]?
  | 0, _, _ => rfl
  | n + 1, m, h => by
    rw [← rnF_ahead f ps i s n m (by omega)]
    show (stF f ps _ _).1[m]? = _
    unfold stF
    split
    · show (List.set _ _ _)[m]? = _
      rw [List.getElem?_set_ne (by omega)]
    · rfl
/-- places one by one, by number, or by going down the train -/
theorem rnF_gen (f : Part → Int → Int → Int × Int) (ps : List Part) : ∀ (n i : Nat) (xs : List Int) (a : Int), xs.length = ps.length → i + n = ps.length →
    rnF f ps i (xs, a) n = (xs.take i ++ (gen f (ps.drop i) (xs.drop i) a).1, (gen f (ps.drop i) (xs.drop i) a).2)
  | 0, i, xs, a, hl, hn => by
    have e1 : ps.drop i = [] := List.drop_of_length_le (by omega)
    have e2 : xs.drop i = [] := List.drop_of_length_le (by omega)
    rw [e1, e2]
    show (xs, a) = (xs.take i ++ [], a)
    rw [List.append_nil, List.take_of_length_le (by omega)]
  | n + 1, i, xs, a, hl, hn => by
    have hi : i < ps.length := by omega
    have hx : i < xs.length := by omega
    rw [rnF_first, stF_at (List.getElem?_eq_getElem hi) (List.getElem?_eq_getElem hx), rnF_gen f ps n (i + 1) _ _ (by rw [List.length_set]; exact hl) (by omega)]
    rw [List.drop_eq_getElem_cons hi, List.drop_eq_getElem_cons hx]
    show (List.take (i + 1) (xs.set i _) ++ (gen f _ (List.drop (i + 1) (xs.set i _)) _).1, _) = (xs.take i ++ ((f ps[i] xs[i] a).1 :: (gen f (ps.drop (i + 1)) (xs.drop (i + 1)) (f ps[i] xs[i] a).2).1), (gen f (ps.drop (i + 1)) (xs.drop (i + 1)) (f ps[i] xs[i] a).2).2)
    rw [List.drop_set_of_lt (by omega), show List.take (i + 1) (xs.set i (f ps[i] xs[i] a).1) = xs.take i ++ [(f ps[i] xs[i] a).1] by
      rw [List.take_set, List.take_add_one, List.getElem?_eq_getElem hx, List.set_append_right _ _ (by rw [List.length_take]; omega), List.length_take, show i - min i xs.length = 0 by omega]
      rfl, List.append_assoc]
    rfl
/-- a push that may be none -/
def ppz (p : Part) (x g : Int) : Int × Int := if g = 0 then (x, 0) else pp p x g
theorem stp_stF (ps : List Part) (s : List Int × Int) (n : Nat) : stp ps s n = stF ppz ps s n := by
  unfold stp stF
  split
  · rename_i h
    cases e1 : ps[n]? with
    | none => rfl
    | some p =>
      cases e2 : s.1[n]? with
      | none => rfl
      | some x =>
        obtain ⟨hn, hx⟩ := List.getElem?_eq_some_iff.mp e2
        show s = (s.1.set n (ppz p x s.2).1, (ppz p x s.2).2)
        unfold ppz
        rw [if_pos h]
        show s = (s.1.set n x, 0)
        rw [← hx, List.set_getElem_self, ← h]
  · rename_i h
    cases e1 : ps[n]? with
    | none => rfl
    | some p =>
      cases e2 : s.1[n]? with
      | none => rfl
      | some x =>
        show _ = (s.1.set n (ppz p x s.2).1, (ppz p x s.2).2)
        unfold ppz
        rw [if_neg h]
theorem runN_rnF (ps : List Part) (i : Nat) (s : List Int × Int) : ∀ n, runN ps i s n = rnF ppz ps i s n
  | 0 => rfl
  | n + 1 => by
    show stp ps _ _ = stF ppz ps _ _
    rw [stp_stF, runN_rnF ps i s n]
theorem run_gen {ps : List Part} {xs : List Int} {i : Nat} {w : Int} (hl : xs.length = ps.length) (hi : i ≤ ps.length) : Ct.run ps xs i w = (xs.take i ++ (gen ppz (ps.drop i) (xs.drop i) w).1, (gen ppz (ps.drop i) (xs.drop i) w).2) := by
  unfold Ct.run
  rw [runN_rnF, rnF_gen ppz ps _ _ _ _ hl (by omega)]
/-- pushes one by one -/
def itP (ps : List Part) (w : Int) : Nat → List Int → List Int × Int
  | 0, xs => (xs, 0)
  | t + 1, xs => ((gen ppz ps (itP ps w t xs).1 w).1, (itP ps w t xs).2 + (gen ppz ps (itP ps w t xs).1 w).2)
def ptw (w : Int) (p : Part) (x t : Int) : Int × Int := pt p x w t
theorem gen_ppz_zero : ∀ (ps : List Part) (xs : List Int), gen ppz ps xs 0 = (xs, 0)
  | [], _ => rfl
  | _ :: _, [] => rfl
  | p :: ps, x :: xs => by
    show ((ppz p x 0).1 :: (gen ppz ps xs (ppz p x 0).2).1, (gen ppz ps xs (ppz p x 0).2).2) = _
    rw [show ppz p x 0 = (x, 0) from rfl, gen_ppz_zero ps xs]
def StandL : List Part → List Int → Prop
  | [], [] => True
  | p :: ps, x :: xs => p.ok ∧ 0 ≤ x ∧ x < p.places ∧ StandL ps xs
  | _, _ => False
theorem itP_cons {p : Part} {x : Int} (ps : List Part) (xs : List Int) {w : Int} (ok : p.ok) (h0 : 0 ≤ x) (h1 : x < p.places) (hw : Sign w) : ∀ t : Nat,
    itP (p :: ps) w t (x :: xs) = ((pt p x w t).1 :: (itP ps w (pt p x w t).2.toNat xs).1, (itP ps w (pt p x w t).2.toNat xs).2)
  | 0 => by
    show (x :: xs, (0 : Int)) = ((pt p x w 0).1 :: (itP ps w (pt p x w 0).2.toNat xs).1, (itP ps w (pt p x w 0).2.toNat xs).2)
    rw [pt_zero ok h0 h1]
    rfl
  | t + 1 => by
    have w0 : w ≠ 0 := by rcases hw with rfl | rfl <;> decide
    have nn := pt_nn ok h0 h1 hw t
    show ((gen ppz (p :: ps) (itP (p :: ps) w t (x :: xs)).1 w).1, (itP (p :: ps) w t (x :: xs)).2 + (gen ppz (p :: ps) (itP (p :: ps) w t (x :: xs)).1 w).2) = _
    rw [itP_cons ps xs ok h0 h1 hw t, pt_step ok h0 h1 hw t]
    generalize hy : (pt p x w t).1 = y
    generalize hn : (pt p x w t).2 = n at nn
    show ((ppz p y w).1 :: (gen ppz ps (itP ps w n.toNat xs).1 (ppz p y w).2).1, (itP ps w n.toNat xs).2 + (gen ppz ps (itP ps w n.toNat xs).1 (ppz p y w).2).2) = _
    rw [show ppz p y w = pp p y w from if_neg w0]
    rcases pp_way p y w hw with e | e
    · rw [e, gen_ppz_zero, if_pos rfl]
      show ((pp p y w).1 :: (itP ps w n.toNat xs).1, (itP ps w n.toNat xs).2 + 0) = ((pp p y w).1 :: (itP ps w (n + 0).toNat xs).1, (itP ps w (n + 0).toNat xs).2)
      rw [Int.add_zero, Int.add_zero]
    · rw [e, if_neg w0]
      show ((pp p y w).1 :: (gen ppz ps (itP ps w n.toNat xs).1 w).1, (itP ps w n.toNat xs).2 + (gen ppz ps (itP ps w n.toNat xs).1 w).2) = ((pp p y w).1 :: (itP ps w (n + 1).toNat xs).1, (itP ps w (n + 1).toNat xs).2)
      rw [show (n + 1).toNat = n.toNat + 1 by omega]
      rfl
theorem itP_nil (w : Int) : ∀ (t : Nat), itP [] w t [] = ([], w * t)
  | 0 => by
    show (([] : List Int), (0 : Int)) = ([], w * ((0 : Nat) : Int))
    rw [show ((0 : Nat) : Int) = 0 from rfl, Int.mul_zero]
  | t + 1 => by
    show ((gen ppz [] (itP [] w t []).1 w).1, (itP [] w t []).2 + (gen ppz [] (itP [] w t []).1 w).2) = _
    rw [itP_nil w t]
    refine Prod.ext rfl ?_
    show w * t + w = w * ((t + 1 : Nat) : Int)
    rw [show ((t + 1 : Nat) : Int) = (t : Int) + 1 by omega, Int.mul_add, Int.mul_one]
/-- THE promise: reckoned at once is as pushed one by one -/
theorem itP_gen {w : Int} (hw : Sign w) : ∀ (ps : List Part) (xs : List Int) (t : Nat), StandL ps xs → itP ps w t xs = ((gen (ptw w) ps xs t).1, w * (gen (ptw w) ps xs t).2)
  | [], [], t, _ => itP_nil w t
  | p :: ps, x :: xs, t, ⟨ok, h0, h1, h⟩ => by
    rw [itP_cons ps xs ok h0 h1 hw t, itP_gen hw ps xs _ h]
    have nn := pt_nn ok h0 h1 hw t
    show _ = ((pt p x w t).1 :: (gen (ptw w) ps xs (pt p x w t).2).1, w * (gen (ptw w) ps xs (pt p x w t).2).2)
    rw [show (((pt p x w t).2.toNat : Nat) : Int) = (pt p x w t).2 by omega]
theorem gen_stand {w : Int} (hw : Sign w) : ∀ (ps : List Part) (xs : List Int) (t : Int), 0 ≤ t → StandL ps xs → StandL ps (gen (ptw w) ps xs t).1 ∧ 0 ≤ (gen (ptw w) ps xs t).2
  | [], [], t, ht, _ => ⟨trivial, ht⟩
  | p :: ps, x :: xs, t, ht, ⟨ok, h0, h1, h⟩ => by
    have e : ((t.toNat : Nat) : Int) = t := by omega
    have a := pt_place ok h0 h1 hw t.toNat
    have n := pt_nn ok h0 h1 hw t.toNat
    rw [e] at a n
    have ih := gen_stand hw ps xs (pt p x w t).2 n h
    exact ⟨⟨ok, a.1, a.2, ih.1⟩, ih.2⟩
theorem stand_drop : ∀ {ps : List Part} {xs : List Int} (i : Nat), StandL ps xs → StandL (ps.drop i) (xs.drop i)
  | [], [], i, _ => by rw [List.drop_nil, List.drop_nil]; trivial
  | p :: ps, x :: xs, 0, h => h
  | p :: ps, x :: xs, i + 1, ⟨_, _, _, h⟩ => stand_drop (ps := ps) (xs := xs) i h
theorem stand_join : ∀ {ps : List Part} {xs ys : List Int} (i : Nat), StandL ps xs → StandL (ps.drop i) ys → StandL ps (xs.take i ++ ys)
  | ps, xs, ys, 0, _, h => h
  | [], [], ys, i + 1, _, h => by
    rw [List.drop_nil] at h
    exact h
  | p :: ps, x :: xs, ys, i + 1, ⟨a, b, c, d⟩, h => ⟨a, b, c, stand_join (ps := ps) (xs := xs) i d h⟩
theorem StandL.len : ∀ {ps : List Part} {xs : List Int}, StandL ps xs → xs.length = ps.length
  | [], [], _ => rfl
  | p :: ps, x :: xs, ⟨_, _, _, h⟩ => by rw [List.length_cons, List.length_cons, StandL.len (ps := ps) (xs := xs) h]
theorem StandL.okp : ∀ {ps : List Part} {xs : List Int}, StandL ps xs → ∀ p ∈ ps, p.ok
  | [], [], _, p, hp => by cases hp
  | a :: ps, x :: xs, ⟨h, _, _, hr⟩, p, hp => by
    rcases List.mem_cons.mp hp with rfl | hp
    · exact h
    · exact StandL.okp (ps := ps) (xs := xs) hr p hp
theorem standL_of : ∀ {ps : List Part} {xs : List Int}, (∀ p ∈ ps, p.ok) → StandOk ps xs → StandL ps xs
  | [], [], _, _ => trivial
  | [], _ :: _, _, h => by have := h.1; simp at this
  | _ :: _, [], _, h => by have := h.1; simp at this
  | p :: ps, x :: xs, hp, h => by
    have a := h.2 0 p x rfl rfl
    exact ⟨hp p List.mem_cons_self, a.1, a.2, standL_of (fun q hq => hp q (List.mem_cons_of_mem _ hq)) ⟨by have := h.1; rw [List.length_cons, List.length_cons] at this; omega, fun i q y hq hy => h.2 (i + 1) q y hq hy⟩⟩
theorem StandL.ok : ∀ {ps : List Part} {xs : List Int}, StandL ps xs → StandOk ps xs
  | [], [], _ => ⟨rfl, fun i p x h _ => by simp at h⟩
  | p :: ps, x :: xs, ⟨_, a, b, h⟩ => by
    have ih := StandL.ok (ps := ps) (xs := xs) h
    refine ⟨by rw [List.length_cons, List.length_cons, ih.1], fun i q y hq hy => ?_⟩
    cases i with
    | zero =>
      cases Option.some.inj hq
      cases Option.some.inj hy
      exact ⟨a, b⟩
    | succ i => exact ih.2 i q y hq hy
/-! rows -/
structure Deed where
  i : Nat
  w : Int
  t : Nat
def Deed.ok (d : Deed) (n : Nat) : Prop := d.i < n ∧ Sign d.w
def Deed.data (d : Deed) : PyData := .tuple [.int d.i, .int d.w, .int d.t]
/-- one deed, at once -/
def deedL (ps : List Part) (xs : List Int) (d : Deed) : List Int × Int := (xs.take d.i ++ (gen (ptw d.w) (ps.drop d.i) (xs.drop d.i) d.t).1, d.w * (gen (ptw d.w) (ps.drop d.i) (xs.drop d.i) d.t).2)
def rowL (ps : List Part) : List Deed → List Int × Int → List Int × Int
  | [], s => s
  | d :: ds, s => rowL ps ds ((deedL ps s.1 d).1, s.2 + (deedL ps s.1 d).2)
theorem rowL_app (ps : List Part) : ∀ (ds es : List Deed) (s : List Int × Int), rowL ps (ds ++ es) s = rowL ps es (rowL ps ds s)
  | [], _, _ => rfl
  | d :: ds, es, s => rowL_app ps ds es _
theorem deedL_stand {ps : List Part} {xs : List Int} {d : Deed} (h : StandL ps xs) (hd : d.ok ps.length) : StandL ps (deedL ps xs d).1 :=
  stand_join d.i h (gen_stand hd.2 _ _ d.t (by omega) (stand_drop d.i h)).1
theorem rowL_stand {ps : List Part} : ∀ {ds : List Deed} {s : List Int × Int}, StandL ps s.1 → (∀ d ∈ ds, d.ok ps.length) → StandL ps (rowL ps ds s).1
  | [], _, h, _ => h
  | d :: ds, s, h, hd => rowL_stand (ds := ds) (deedL_stand h (hd d List.mem_cons_self)) fun e he => hd e (List.mem_cons_of_mem _ he)
/-- a deed, push by push: each push goes along the train from part i -/
def pushes (ps : List Part) (i : Nat) (w : Int) : Nat → List Int × Int → List Int × Int
  | 0, s => s
  | t + 1, s => ((Ct.run ps (pushes ps i w t s).1 i w).1, (pushes ps i w t s).2 + (Ct.run ps (pushes ps i w t s).1 i w).2)
theorem pushes_itP {ps : List Part} {xs : List Int} {i : Nat} {w : Int} (hl : xs.length = ps.length) (hi : i ≤ ps.length) (a : Int) : ∀ t, pushes ps i w t (xs, a) = (xs.take i ++ (itP (ps.drop i) w t (xs.drop i)).1, a + (itP (ps.drop i) w t (xs.drop i)).2) ∧ (itP (ps.drop i) w t (xs.drop i)).1.length = ps.length - i
  | 0 => by
    refine ⟨Prod.ext ?_ ?_, ?_⟩
    · show xs = xs.take i ++ xs.drop i
      rw [List.take_append_drop]
    · show a = a + 0
      omega
    · show (xs.drop i).length = _
      rw [List.length_drop, hl]
  | t + 1 => by
    obtain ⟨ih, il⟩ := pushes_itP hl hi a t
    have tl : (xs.take i).length = i := by rw [List.length_take]; omega
    have gl : ∀ (qs : List Part) (ys : List Int) (g : Int), (gen ppz qs ys g).1.length = ys.length := fun qs => by
      induction qs with
      | nil => intro ys g; rfl
      | cons q qs ih =>
        intro ys g
        cases ys with
        | nil => rfl
        | cons y ys =>
          show ((ppz q y g).1 :: (gen ppz qs ys (ppz q y g).2).1).length = _
          rw [List.length_cons, List.length_cons, ih]
    refine ⟨?_, ?_⟩
    · show ((Ct.run ps (pushes ps i w t (xs, a)).1 i w).1, (pushes ps i w t (xs, a)).2 + (Ct.run ps (pushes ps i w t (xs, a)).1 i w).2) = _
      rw [ih]
      rw [run_gen (by show (xs.take i ++ _).length = _; rw [List.length_append, tl, il]; omega) hi]
      show (List.take i (xs.take i ++ _) ++ (gen ppz (ps.drop i) (List.drop i (xs.take i ++ _)) w).1, a + _ + (gen ppz (ps.drop i) (List.drop i (xs.take i ++ _)) w).2) = _
      rw [List.take_left' tl, List.drop_left' tl]
      refine Prod.ext rfl ?_
      show a + (itP (ps.drop i) w t (xs.drop i)).2 + (gen ppz (ps.drop i) (itP (ps.drop i) w t (xs.drop i)).1 w).2 = a + ((itP (ps.drop i) w t (xs.drop i)).2 + (gen ppz (ps.drop i) (itP (ps.drop i) w t (xs.drop i)).1 w).2)
      omega
    · show (gen ppz (ps.drop i) (itP (ps.drop i) w t (xs.drop i)).1 w).1.length = _
      rw [gl, il]
theorem pushes_deed {ps : List Part} {xs : List Int} {d : Deed} (h : StandL ps xs) (hd : d.ok ps.length) (a : Int) : pushes ps d.i d.w d.t (xs, a) = ((deedL ps xs d).1, a + (deedL ps xs d).2) := by
  rw [(pushes_itP h.len (Nat.le_of_lt hd.1) a d.t).1, itP_gen hd.2 _ _ _ (stand_drop d.i h)]
  rfl
theorem pushes_stand {ps : List Part} {xs : List Int} {i : Nat} {w : Int} (h : StandL ps xs) (hi : i < ps.length) (hw : Sign w) (a : Int) (t : Nat) : StandL ps (pushes ps i w t (xs, a)).1 := by
  have := deedL_stand (d := ⟨i, w, t⟩) h ⟨hi, hw⟩
  rw [pushes_deed (d := ⟨i, w, t⟩) h ⟨hi, hw⟩ a]
  exact this
section
variable {K : PySem.W.Frag} {H : Hp}
theorem deed_inv {v : V} {d : Deed} (h : Dp K H v d.data) : ∃ a, v = .ref a ∧ SqT K H a [.int d.i, .int d.w, .int d.t] := by
  obtain ⟨a, vs, rfl, hs, ht⟩ := tup_inv h
  cases ht with
  | cons h1 t1 => cases h1; cases t1 with
    | cons h2 t2 => cases h2; cases t2 with
      | cons h3 t3 => cases h3; cases t3; exact ⟨a, rfl, hs⟩
theorem deed_dp {a : Addr} {d : Deed} (h : SqT K H a [.int d.i, .int d.w, .int d.t]) : Dp K H (.ref a) d.data := .tup h (.cons (.int _) (.cons (.int _) (.cons (.int _) .nil)))
theorem deeds_upd {l : Addr} {ws : List V} {o : HO} (hl : H l = some (.lst ws)) : ∀ {vs : List V} (ds : List Deed), DpAll K H vs (ds.map Deed.data) → DpAll K (upd H l o) vs (ds.map Deed.data)
  | _, [], .nil => .nil
  | _, d :: r, .cons h t => by
    obtain ⟨a, rfl, ha⟩ := deed_inv h
    exact .cons (deed_dp (sqT_upd ha hl)) (deeds_upd hl r t)
def RowAt (K : PySem.W.Frag) (H : Hp) (a : Addr) (ds : List Deed) : Prop := ∃ vs, SqL K H a vs ∧ DpAll K H vs (ds.map Deed.data)
theorem RowAt.same {H' : Hp} {a : Addr} {ds : List Deed} (e : Same H H') (h : RowAt K H a ds) : RowAt K H' a ds := by
  obtain ⟨vs, h1, h2⟩ := h
  exact ⟨vs, e.seq h1, dpAll_same e h2⟩
theorem deed_get {ds : List Deed} {vs : List V} (h2 : DpAll K H vs (ds.map Deed.data)) {i : Nat} {d : Deed} (e : ds[i]? = some d) : ∃ v, vs[i]? = some v ∧ Dp K H v d.data :=
  dpAll_get h2 (by rw [List.getElem?_map, e]; rfl)
end
theorem lay_deed (d : Deed) : d.data.canLay0 = true ∧ d.data.depth ≤ 1 := lay_tup (n := 0) (lay_ints [(d.i : Int), d.w, (d.t : Int)] 0)
theorem lay_row (ds : List Deed) : (PyData.list (ds.map Deed.data)).canLay0 = true ∧ (PyData.list (ds.map Deed.data)).depth ≤ 2 := lay_lst fun d hd => by
  obtain ⟨e, _, rfl⟩ := List.mem_map.mp hd
  exact lay_deed e
/-! what the checks look at -/
def isW : PyData → Bool
  | .int _ => true
  | _ => false
def risesD (last z : Int) : List PyData → Bool
  | [] => true
  | .int m :: r => if m ≤ last ∨ z ≤ m then false else risesD m z r
  | _ :: _ => false
def areM (d : PyData) (z : Int) : Bool := match d with
  | .tuple ds => risesD (-1) z ds
  | _ => false
def wheelT : List PyData → Bool
  | [.int z, m] => decide (1 ≤ z) && areM m z
  | _ => false
def springT : List PyData → Bool
  | [.int k] => decide (1 ≤ k)
  | _ => false
def isP : PyData → Bool
  | .tuple (h :: t) =>
    if PyData.eqv h (.str "wheel") = true then wheelT t
    else if PyData.eqv h (.str "spring") = true then springT t
    else PyData.eqv (.tuple (h :: t)) (.tuple [.str "click"]) || PyData.eqv (.tuple (h :: t)) (.tuple [.str "rocker"])
  | _ => false
theorem rises_of : ∀ {ms : List Int} {last z : Int}, ms.Pairwise (· < ·) → (∀ m ∈ ms, last < m ∧ m < z) → risesD last z (ms.map PyData.int) = true
  | [], _, _, _, _ => rfl
  | m :: ms, last, z, h, hm => by
    obtain ⟨h1, h2⟩ := List.pairwise_cons.mp h
    have hm1 := hm m List.mem_cons_self
    show (if m ≤ last ∨ z ≤ m then false else risesD m z (ms.map PyData.int)) = true
    rw [if_neg (by omega)]
    exact rises_of h2 fun x hx => ⟨h1 x hx, (hm x (List.mem_cons_of_mem _ hx)).2⟩
theorem isP_of {p : Part} (ok : p.ok) : isP p.data = true := by
  cases p with
  | wheel z ms =>
    simp only [isP, Part.data, wheelT, areM]
    rw [if_pos (by decide +kernel), decide_eq_true ok.1, rises_of ok.2.2.1.1 fun m hm => ?_]
    · rfl
    · have := ok.2.2.1.2 m hm
      omega
  | click => decide +kernel
  | rocker => decide +kernel
  | spring k =>
    simp only [isP, Part.data, springT]
    rw [if_neg (by decide +kernel), if_pos (by decide +kernel)]
    exact decide_eq_true ok.1
def isD (d : PyData) (n : Int) : Bool := match d with
  | .tuple [.int i, .int w, .int t] => decide (0 ≤ i) && decide (i < n) && (decide (w = 1) || decide (w = -1)) && decide (0 ≤ t)
  | _ => false
theorem dpAll_drop {K : PySem.W.Frag} {H : Hp} : ∀ {vs : List V} {ds : List PyData} (k : Nat), DpAll K H vs ds → DpAll K H (vs.drop k) (ds.drop k)
  | _, _, 0, h => h
  | _, _, _ + 1, .nil => .nil
  | _, _, k + 1, .cons _ t => dpAll_drop k t
theorem dpAll_take {K : PySem.W.Frag} {H : Hp} : ∀ {vs : List V} {ds : List PyData} (k : Nat), DpAll K H vs ds → DpAll K H (vs.take k) (ds.take k)
  | _, _, 0, _ => .nil
  | _, _, _ + 1, .nil => .nil
  | _, _, k + 1, .cons h t => .cons h (dpAll_take k t)
theorem dpAll_cut {K : PySem.W.Frag} {H : Hp} {vs : List V} {ds : List Deed} (lo hi : Option Int) (h : DpAll K H vs (ds.map Deed.data)) : ∃ es : List Deed, DpAll K H (cutV vs lo hi) (es.map Deed.data) ∧ ∀ d ∈ es, d ∈ ds := by
  refine ⟨(ds.drop (HT.sIx vs.length 0 lo)).take (HT.sIx vs.length vs.length hi - HT.sIx vs.length 0 lo), ?_, fun d hd => List.mem_of_mem_drop (List.mem_of_mem_take hd)⟩
  rw [List.map_take, List.map_drop]
  exact dpAll_take _ (dpAll_drop _ h)
/-! how often each mark is met -/
def wsum (z : Int) : List Int → Int → Int
  | [], _ => 0
  | m :: r, y => (y - m) / z + wsum z r y
theorem wsum_app (z y : Int) : ∀ (ms : List Int) (m : Int), wsum z (ms ++ [m]) y = wsum z ms y + (y - m) / z
  | [], m => by
    show (y - m) / z + 0 = 0 + (y - m) / z
    omega
  | a :: r, m => by
    show (y - a) / z + wsum z (r ++ [m]) y = (y - a) / z + wsum z r y + (y - m) / z
    rw [wsum_app z y r m]
    omega
theorem wsum_mah {z : Int} (hz : 1 ≤ z) (y : Int) : ∀ {ms : List Int}, (∀ m ∈ ms, 0 ≤ m ∧ m < z) → wsum z ms y = mah z ms y - ms.length
  | [], _ => by
    show (0 : Int) = y / z * ((0 : Nat) : Int) + 0 - ((0 : Nat) : Int)
    rw [show ((0 : Nat) : Int) = 0 from rfl, Int.mul_zero]
    rfl
  | m :: r, h => by
    have hm := h m List.mem_cons_self
    have ih := wsum_mah hz y (ms := r) fun x hx => h x (List.mem_cons_of_mem _ hx)
    have e := Int.emod_add_mul_ediv y z
    have r0 := Int.emod_nonneg y (show z ≠ 0 by omega)
    have r1 := Int.emod_lt_of_pos y (show 0 < z by omega)
    show (y - m) / z + wsum z r y = _
    rw [ih]
    unfold mah
    rw [cnt_cons, List.length_cons, show ((r.length + 1 : Nat) : Int) = (r.length : Int) + 1 by omega, Int.mul_add, Int.mul_one]
    by_cases hmr : m ≤ y % z
    · obtain ⟨e1, _⟩ := (Int.ediv_emod_unique (a := y - m) (b := z) (r := y % z - m) (q := y / z) (by omega)).mpr ⟨by omega, by omega, by omega⟩
      rw [e1, if_pos hmr]
      omega
    · obtain ⟨e1, _⟩ := (Int.ediv_emod_unique (a := y - m) (b := z) (r := y % z - m + z) (q := y / z - 1) (by omega)).mpr ⟨by rw [Int.mul_sub]; omega, by omega, by omega⟩
      rw [e1, if_neg hmr]
      omega
theorem wsum_up {z : Int} {ms : List Int} {x : Int} (ok : (Part.wheel z ms).ok) (t : Nat) : wsum z ms (x + t) - wsum z ms x = (pt (.wheel z ms) x 1 t).2 := by
  have rs : Rise z ms := ok.2.2.1
  have u := mah_up ok.1 rs x t
  rw [wsum_mah ok.1 _ rs.2, wsum_mah ok.1 _ rs.2]
  simp only [pt, Int.one_mul]
  rw [neg_abs (by omega)]
  omega
theorem wsum_down {z : Int} {ms : List Int} {x : Int} (ok : (Part.wheel z ms).ok) (t : Nat) : wsum z ms x - wsum z ms (x - t) = (pt (.wheel z ms) x (-1) t).2 := by
  have rs : Rise z ms := ok.2.2.1
  have u := mah_up ok.1 rs (x - t) t
  rw [show x - (t : Int) + t = x by omega] at u
  rw [wsum_mah ok.1 _ rs.2, wsum_mah ok.1 _ rs.2]
  simp only [pt, show x + -1 * (t : Int) = x - t by omega]
  rw [abs_neg (by omega)]
  omega
/-! a deed in two -/
theorem pushes_add (ps : List Part) (i : Nat) (w : Int) (a : Nat) (s : List Int × Int) : ∀ b, pushes ps i w (a + b) s = pushes ps i w b (pushes ps i w a s)
  | 0 => rfl
  | b + 1 => by
    show ((Ct.run ps (pushes ps i w (a + b) s).1 i w).1, (pushes ps i w (a + b) s).2 + (Ct.run ps (pushes ps i w (a + b) s).1 i w).2) = _
    rw [pushes_add ps i w a s b]
    rfl
theorem rowL_one {ps : List Part} {s : List Int × Int} {d : Deed} (h : StandL ps s.1) (hd : d.ok ps.length) : rowL ps [d] s = pushes ps d.i d.w d.t s := (pushes_deed h hd s.2).symm
def halves : List Deed → List Deed
  | [] => []
  | d :: r => ⟨d.i, d.w, d.t / 2⟩ :: ⟨d.i, d.w, d.t - d.t / 2⟩ :: halves r
theorem halves_app : ∀ (ds es : List Deed), halves (ds ++ es) = halves ds ++ halves es
  | [], _ => rfl
  | d :: r, es => by
    show _ :: _ :: halves (r ++ es) = _ :: _ :: (halves r ++ halves es)
    rw [halves_app r es]
theorem halves_ok {n : Nat} {b : Nat} : ∀ {ds : List Deed}, (∀ d ∈ ds, d.ok n ∧ d.t < b) → ∀ d ∈ halves ds, d.ok n ∧ d.t < b
  | [], _, d, hd => by cases hd
  | e :: r, h, d, hd => by
    have he := h e List.mem_cons_self
    rcases List.mem_cons.mp hd with rfl | hd
    · exact ⟨he.1, Nat.lt_of_le_of_lt (Nat.div_le_self _ _) he.2⟩
    rcases List.mem_cons.mp hd with rfl | hd
    · exact ⟨he.1, Nat.lt_of_le_of_lt (Nat.sub_le _ _) he.2⟩
    · exact halves_ok (fun d hd => h d (List.mem_cons_of_mem _ hd)) d hd
theorem rowL_halves {ps : List Part} : ∀ {ds : List Deed} {s : List Int × Int}, StandL ps s.1 → (∀ d ∈ ds, d.ok ps.length) → rowL ps (halves ds) s = rowL ps ds s
  | [], _, _, _ => rfl
  | d :: r, s, h, hd => by
    have hd0 := hd d List.mem_cons_self
    have k1 : Deed.ok ⟨d.i, d.w, d.t / 2⟩ ps.length := hd0
    have k2 : Deed.ok ⟨d.i, d.w, d.t - d.t / 2⟩ ps.length := hd0
    show rowL ps ([⟨d.i, d.w, d.t / 2⟩] ++ ([⟨d.i, d.w, d.t - d.t / 2⟩] ++ halves r)) s = rowL ps ([d] ++ r) s
    have h1 : StandL ps (rowL ps [⟨d.i, d.w, d.t / 2⟩] s).1 := rowL_stand h fun e he => by rw [List.mem_singleton] at he; rw [he]; exact k1
    have h2 : StandL ps (rowL ps [⟨d.i, d.w, d.t - d.t / 2⟩] (rowL ps [⟨d.i, d.w, d.t / 2⟩] s)).1 := rowL_stand h1 fun e he => by rw [List.mem_singleton] at he; rw [he]; exact k2
    rw [rowL_app, rowL_app, rowL_app, rowL_halves h2 fun e he => hd e (List.mem_cons_of_mem _ he)]
    rw [rowL_one h1 k2, rowL_one h k1, rowL_one h hd0, ← pushes_add, show d.t / 2 + (d.t - d.t / 2) = d.t by omega]
theorem run_deed {ps : List Part} {xs : List Int} {i : Nat} {w : Int} (h : StandL ps xs) (hi : i < ps.length) (hw : Sign w) : deedL ps xs ⟨i, w, 1⟩ = Ct.run ps xs i w := by
  have e : ((Ct.run ps xs i w).1, 0 + (Ct.run ps xs i w).2) = ((deedL ps xs ⟨i, w, 1⟩).1, 0 + (deedL ps xs ⟨i, w, 1⟩).2) := pushes_deed (d := ⟨i, w, 1⟩) h ⟨hi, hw⟩ 0
  obtain ⟨e1, e2⟩ := Prod.mk.inj e
  exact Prod.ext e1.symm (by omega)
theorem rowL_snoc (ps : List Part) (ds : List Deed) (d : Deed) (s : List Int × Int) : rowL ps (ds ++ [d]) s = ((deedL ps (rowL ps ds s).1 d).1, (rowL ps ds s).2 + (deedL ps (rowL ps ds s).1 d).2) := rowL_app ps ds [d] s
theorem told_dp {K : PySem.W.Frag} {H : Hp} {q u : Addr} {xs : List Int} {y : Int} (h : SqT K H q [.ref u, .int y]) (hu : SqT K H u (xs.map V.int)) : Dp K H (.ref q) (.tuple [.tuple (xs.map PyData.int), .int y]) :=
  .tup h (.cons (.tup hu (dpAll_ints xs)) (.cons (.int y) .nil))
end Ct

namespace Ct
open PySem PySem.Spec PyProof.Rows L2
/-! all stands of a train -/
theorem ip_mul {X : Cx} : PIp X .Mult (rI CMul fun i j => .int (i * j)) := iop_mul
def rowS (s : List Int) (k : Nat) : List (List Int) := (List.range k).map fun (x : Nat) => s ++ [(x : Int)]
def grow (ss : List (List Int)) (p : Part) : List (List Int) := ss.flatMap fun s => rowS s p.places.toNat
def allS (ps : List Part) : List (List Int) := ps.foldl grow [[]]
def tupD (s : List Int) : PyData := .tuple (s.map PyData.int)
theorem rowS_len (s : List Int) (k : Nat) : (rowS s k).length = k := by
  unfold rowS
  rw [List.length_map, List.length_range]
theorem rowS_succ (s : List Int) (k : Nat) : rowS s (k + 1) = rowS s k ++ [s ++ [(k : Int)]] := by
  unfold rowS
  rw [List.range_succ, List.map_append]
  rfl
theorem flat_len (k : Nat) : ∀ ss : List (List Int), (ss.flatMap fun s => rowS s k).length = ss.length * k
  | [] => by simp
  | s :: r => by
    rw [List.flatMap_cons, List.length_append, rowS_len, flat_len k r, List.length_cons, Nat.add_mul, Nat.one_mul]
    omega
theorem allS_snoc (ps : List Part) (p : Part) : allS (ps ++ [p]) = grow (allS ps) p := by
  unfold allS
  rw [List.foldl_append]
  rfl
theorem allS_take {ps : List Part} {n : Nat} {p : Part} (h : ps[n]? = some p) : allS (ps.take (n + 1)) = grow (allS (ps.take n)) p := by
  rw [List.take_add_one, h]
  exact allS_snoc _ _
theorem stands_take {ps : List Part} {n : Nat} {p : Part} (h : ps[n]? = some p) : stands (ps.take (n + 1)) = stands (ps.take n) * p.places := by
  rw [List.take_add_one, h]
  exact stands_app _ _
theorem allS_len {ps : List Part} (hok : ∀ p ∈ ps, p.ok) : ∀ n, n ≤ ps.length → ((allS (ps.take n)).length : Int) = stands (ps.take n)
  | 0, _ => rfl
  | n + 1, hn => by
    obtain ⟨p, hp⟩ : ∃ p, ps[n]? = some p := ⟨_, List.getElem?_eq_getElem (by omega)⟩
    have po := (hok p (List.mem_of_getElem? hp)).pos.1
    rw [allS_take hp, stands_take hp, ← allS_len hok n (by omega)]
    unfold grow
    rw [flat_len, Int.natCast_mul, Int.toNat_of_nonneg (by omega)]
theorem stands_le {ps : List Part} (hok : ∀ p ∈ ps, p.ok) : ∀ n, n ≤ ps.length → stands (ps.take (ps.length - n)) ≤ stands ps
  | 0, _ => by
    rw [Nat.sub_zero, List.take_length]
    exact Int.le_refl _
  | n + 1, hn => by
    have ih := stands_le hok n (by omega)
    obtain ⟨p, hp⟩ : ∃ p, ps[ps.length - (n + 1)]? = some p := ⟨_, List.getElem?_eq_getElem (by omega)⟩
    have po := (hok p (List.mem_of_getElem? hp)).pos.1
    have e := stands_take hp
    rw [show ps.length - (n + 1) + 1 = ps.length - n by omega] at e
    have sp := stands_pos (ps.take (ps.length - (n + 1))) fun q hq => hok q (List.mem_of_mem_take hq)
    rw [e] at ih
    have := Int.mul_le_mul_of_nonneg_left po (show 0 ≤ stands (ps.take (ps.length - (n + 1))) by omega)
    omega
theorem stands_le' {ps : List Part} (hok : ∀ p ∈ ps, p.ok) {n : Nat} (hn : n ≤ ps.length) : stands (ps.take n) ≤ stands ps := by
  have := stands_le hok (ps.length - n) (by omega)
  rw [show ps.length - (ps.length - n) = n by omega] at this
  exact this
theorem place_le {ps : List Part} (hok : ∀ p ∈ ps, p.ok) {n : Nat} {p : Part} (hp : ps[n]? = some p) : p.places ≤ stands ps := by
  have hn : n < ps.length := (List.getElem?_eq_some_iff.mp hp).1
  have po := (hok p (List.mem_of_getElem? hp)).pos.1
  have h3 := stands_le' hok (n := n + 1) hn
  have sp := stands_pos (ps.take n) fun q hq => hok q (List.mem_of_mem_take hq)
  rw [stands_take hp] at h3
  have := Int.mul_le_mul_of_nonneg_right sp (show 0 ≤ p.places by omega)
  omega
theorem fold_each {k : Nat} : ∀ (ps : List Part) (ss : List (List Int)), (∀ s ∈ ss, s.length = k) → ∀ s ∈ ps.foldl grow ss, s.length = k + ps.length
  | [], ss, h, s, hs => h s hs
  | p :: ps, ss, h, s, hs => by
    have := fold_each (k := k + 1) ps (grow ss p) (fun t ht => by
      obtain ⟨u, hu, hr⟩ := List.mem_flatMap.mp ht
      obtain ⟨x, _, rfl⟩ := List.mem_map.mp hr
      rw [List.length_append, h u hu]
      rfl) s hs
    rw [List.length_cons]
    omega
theorem allS_each (ps : List Part) (s : List Int) (h : s ∈ allS ps) : s.length = ps.length := by
  have := fold_each (k := 0) ps [[]] (fun t ht => by rw [List.mem_singleton] at ht; rw [ht]; rfl) s h
  omega
theorem grow_le {ps : List Part} (hok : ∀ p ∈ ps, p.ok) {n : Nat} {p : Part} (hp : ps[n]? = some p) {i : Nat} : (((allS (ps.take n)).take i).flatMap fun s => rowS s p.places.toNat).length ≤ (stands ps).toNat := by
  have hn : n < ps.length := (List.getElem?_eq_some_iff.mp hp).1
  have h1 : (((allS (ps.take n)).take i).flatMap fun s => rowS s p.places.toNat).length ≤ (grow (allS (ps.take n)) p).length := by
    unfold grow
    rw [flat_len, flat_len, List.length_take]
    exact Nat.mul_le_mul_right _ (Nat.min_le_right _ _)
  rw [← allS_take hp] at h1
  have h2 := allS_len hok (n + 1) hn
  have h3 := stands_le' hok (n := n + 1) hn
  omega
section
variable {K : PySem.W.Frag} {H : Hp}
theorem tupD_inv {v : V} {s : List Int} (h : Dp K H v (tupD s)) : ∃ a, v = .ref a ∧ SqT K H a (s.map V.int) := by
  obtain ⟨a, vs, rfl, hs, ht⟩ := tup_inv h
  cases dpAll_ints_inv s ht
  exact ⟨a, rfl, hs⟩
theorem tupD_dp {a : Addr} {s : List Int} (h : SqT K H a (s.map V.int)) : Dp K H (.ref a) (tupD s) := .tup h (dpAll_ints s)
theorem tups_upd {l : Addr} {ws : List V} {o : HO} (hl : H l = some (.lst ws)) : ∀ {vs : List V} (ss : List (List Int)), DpAll K H vs (ss.map tupD) → DpAll K (upd H l o) vs (ss.map tupD)
  | _, [], .nil => .nil
  | _, s :: r, .cons h t => by
    obtain ⟨a, rfl, ha⟩ := tupD_inv h
    exact .cons (tupD_dp (sqT_upd ha hl)) (tups_upd hl r t)
theorem tup_get {ss : List (List Int)} {vs : List V} (h2 : DpAll K H vs (ss.map tupD)) {i : Nat} {s : List Int} (e : ss[i]? = some s) : ∃ a, vs[i]? = some (.ref a) ∧ SqT K H a (s.map V.int) := by
  obtain ⟨v, hv, hd⟩ := dpAll_get h2 (d := tupD s) (by rw [List.getElem?_map, e]; rfl)
  obtain ⟨a, rfl, ha⟩ := tupD_inv hd
  exact ⟨a, hv, ha⟩
end
theorem lay_tupD (s : List Int) : (tupD s).canLay0 = true ∧ (tupD s).depth ≤ 1 := lay_tup (lay_ints s 0)
theorem lay_tups (ss : List (List Int)) : (PyData.list (ss.map tupD)).canLay0 = true ∧ (PyData.list (ss.map tupD)).depth ≤ 2 := lay_lst fun d hd => by
  obtain ⟨s, _, rfl⟩ := List.mem_map.mp hd
  exact lay_tupD s
theorem stands_rev : ∀ ps : List Part, stands ps.reverse = stands ps
  | [] => rfl
  | p :: r => by
    rw [List.reverse_cons, stands_app, stands_rev r]
    exact Int.mul_comm _ _
theorem dpAll_rev {K : PySem.W.Frag} {H : Hp} : ∀ {vs : List V} {ds : List PyData}, DpAll K H vs ds → DpAll K H vs.reverse ds.reverse
  | _, _, .nil => .nil
  | _, _, .cons h t => by
    rw [List.reverse_cons, List.reverse_cons]
    exact dpAll_app (dpAll_rev t) (.cons h .nil)
/-! two fors in one list -/
section
variable {K : PySem.W.Frag} {H : Hp} {σ : L2.St} {Q : VK}
def LB2 (J : It) (g : TG) (tt : TT) (wi1 : TI) (g1 : TG) (tt1 : TT) (te : TE) (vs vs1 : List Nat) (σ : L2.St) (H : Hp) (Q : VK) : Prop := tLc2 (fun _ H R => R J H) g tt wi1 g1 tt1 te vs vs1 σ H Q
theorem w_lc2 {wi wi1 : TI} {g g1 : TG} {tt tt1 : TT} {te : TE} {vs vs1 : List Nat} (h : wi σ H fun J H1 => LB2 J g tt wi1 g1 tt1 te vs vs1 σ H1 Q) : tLc2 wi g tt wi1 g1 tt1 te vs vs1 σ H Q := h
/-- the inner loop, from which Nx is reached -/
def IB (J : It) (g : TG) (tt : TT) (te : TE) (vs : List Nat) (D : Addr) (σ : L2.St) (H : Hp) (Nx : Hp → Prop) : Prop :=
  ∃ U : Nat → Nat → Hp → Prop, (∃ m, U 0 m H) ∧
    ∀ j k H, U j k H → (J.stop j H ∧ Nx H) ∨
      (J.go j H ∧ ∃ Z : Hp → Prop, (∀ H', Z H' → ∃ k', k' < k ∧ U (j + 1) k' H') ∧
        ∀ x H', J.yld j H x H' →
          g x (wipe σ vs) H' fun σ3 H5 => wipe σ3 vs = wipe σ vs ∧ tt σ3 H5 fun b H6 =>
            if b = true then te σ3 H6 fun y H7 => ∃ acc, H7 D = some (.lst acc) ∧ acc.length < sizeLine ∧ Z (upd H7 D (.lst (acc ++ [y]))) else Z H6)
theorem ib_range {lo : Int} {n : Nat} {g : TG} {tt : TT} {te : TE} {vs : List Nat} {D : Addr} {Nx : Hp → Prop} (Pi : Nat → Hp → Prop) (h0 : Pi 0 H)
    (hs : ∀ j H, j < n → Pi j H → g (.int (lo + j)) (wipe σ vs) H fun σ3 H5 => wipe σ3 vs = wipe σ vs ∧ tt σ3 H5 fun b H6 =>
      if b = true then te σ3 H6 fun y H7 => ∃ acc, H7 D = some (.lst acc) ∧ acc.length < sizeLine ∧ Pi (j + 1) (upd H7 D (.lst (acc ++ [y]))) else Pi (j + 1) H6) (hd : ∀ H, Pi n H → Nx H) : IB (Itr lo n) g tt te vs D σ H Nx := by
  refine ⟨fun j k H => k = n - j ∧ j ≤ n ∧ Pi j H, ⟨n, rfl, Nat.zero_le _, h0⟩, ?_⟩
  rintro j k H ⟨rfl, hj, p⟩
  by_cases hlt : j < n
  · refine .inr ⟨hlt, Pi (j + 1), fun H' p' => ⟨n - (j + 1), by omega, rfl, hlt, p'⟩, fun x H' y => ?_⟩
    obtain ⟨e1, e2⟩ := y
    subst e1 e2
    exact hs j _ hlt p
  · have e : j = n := by omega
    subst e
    exact .inl ⟨Nat.le_refl _, hd H p⟩
theorem lb2_list {a : Addr} (xs : List V) {wi1 : TI} {g g1 : TG} {tt tt1 : TT} {te : TE} {vs vs1 : List Nat} (Pv : Addr → Nat → Hp → Prop) (h0 : ∀ D, H D = none → Pv D 0 (upd H D (.lst []))) (hl : ∀ D, H D = none → ∀ i H1, i ≤ xs.length → Pv D i H1 → SqL K H1 a xs)
    (hs : ∀ D, H D = none → ∀ i x H1, xs[i]? = some x → Pv D i H1 → g x (wipe σ vs) H1 fun σ2 H2 => wipe σ2 vs = wipe σ vs ∧ tt σ2 H2 fun b H3 =>
      if b = true then wi1 σ2 H3 fun J1 H4 => IB J1 g1 tt1 te vs1 D σ2 H4 (Pv D (i + 1)) else Pv D (i + 1) H3) (hd : ∀ D, H D = none → ∀ H1, Pv D xs.length H1 → Q (.ref D) H1) : LB2 (Itl K a) g tt wi1 g1 tt1 te vs vs1 σ H Q := by
  intro D hD
  refine ⟨fun i m H1 => m = xs.length - i ∧ i ≤ xs.length ∧ Pv D i H1, ⟨xs.length, rfl, Nat.zero_le _, h0 D hD⟩, ?_⟩
  rintro i m H1 ⟨rfl, hi, p⟩
  have q := hl D hD i H1 hi p
  by_cases hlt : i < xs.length
  · refine .inr ⟨⟨xs, _, q, List.getElem?_eq_getElem hlt⟩, Pv D (i + 1), fun H' p' => ⟨xs.length - (i + 1), by omega, rfl, hlt, p'⟩, fun x H' y => ?_⟩
    obtain ⟨e, y⟩ := y
    subst e
    exact hs D hD i x _ (y xs q) p
  · have e : i = xs.length := by omega
    subst e
    exact .inl ⟨⟨xs, q, Nat.le_refl _⟩, hd D hD H1 p⟩
theorem w_star {te : TE} {t : TA} {QA : List V → Hp → Prop} (h : te σ H fun x H1 => ∃ p xs, x = V.ref p ∧ (SqT K H1 p xs ∨ SqL K H1 p xs) ∧ t σ H1 fun ys H2 => QA (xs ++ ys) H2) : StX.tStar K te t σ H QA := h
theorem lb_tup {a : Addr} (xs : List V) {g : TG} {tt : TT} {te : TE} {vs : List Nat} (Pv : Addr → Nat → Hp → Prop) (h0 : ∀ D, H D = none → Pv D 0 (upd H D (.lst []))) (hl : ∀ D, H D = none → ∀ i H1, i ≤ xs.length → Pv D i H1 → SqT K H1 a xs)
    (hs : ∀ D, H D = none → ∀ i x H1, xs[i]? = some x → Pv D i H1 → g x (wipe σ vs) H1 fun σ2 H2 => wipe σ2 vs = wipe σ vs ∧ tt σ2 H2 fun b H3 =>
      if b = true then te σ2 H3 fun y H4 => ∃ acc, H4 D = some (.lst acc) ∧ acc.length < sizeLine ∧ Pv D (i + 1) (upd H4 D (.lst (acc ++ [y]))) else Pv D (i + 1) H3) (hd : ∀ D, H D = none → ∀ H1, Pv D xs.length H1 → Q (.ref D) H1) : LB (Itt K a) g tt te vs σ H Q :=
  fun D hD => lc_tup (Pv D) (h0 D hD) (hl D hD) (hs D hD) (hd D hD)
theorem w_revL {te : TE} (h : te σ H fun x H1 => ∃ a xs, x = .ref a ∧ SqL K H1 a xs ∧ ∀ p, H1 p = none → Q (.ref p) (upd H1 p (.lst xs.reverse))) : tRevL K te σ H Q := h
end
end Ct
namespace Ct
open PySem PySem.Spec PyProof.Rows L2
theorem w_catA {K : PySem.W.Frag} {H : Hp} {Q : VK} {a b : Addr} {xs ys : List V} (ha : SqT K H a xs) (hb : SqT K H b ys) (l : xs.length + ys.length ≤ 1000) (q : ∀ u H', Same H H' → SqT K H' u (xs ++ ys) → Q (.ref u) H') : rCatA K (.ref a) (.ref b) H Q := by
  refine ⟨a, b, xs, ys, rfl, rfl, ha, hb, Nat.le_of_lt (small1000 l), fun hx => ?_, fun _ hy => ?_, fun _ _ p np => ?_⟩
  · refine q b H (Same.refl H) ?_
    rw [hx, List.nil_append]
    exact hb
  · refine q a H (Same.refl H) ?_
    rw [hy, List.append_nil]
    exact ha
  · exact q p _ (same_upd np) (.of upd_same)
end Ct
namespace Ct
open PySem PySem.Spec PyProof.Rows L2
theorem standL_app : ∀ {ps qs : List Part} {xs ys : List Int}, StandL ps xs → StandL qs ys → StandL (ps ++ qs) (xs ++ ys)
  | [], _, [], _, _, h => h
  | _ :: _, _, _ :: _, _, ⟨a, b, c, d⟩, h => ⟨a, b, c, standL_app d h⟩
end Ct
namespace Ct
open PySem PySem.Spec PyProof.Rows L2
/-! signs fed to a train -/
def isSg : PyData → Bool
  | .int i => decide (i ∈ [(1 : Int), -1, 0])
  | _ => false
theorem isSg_of {s : Int} (h : s = 0 ∨ Sign s) : isSg (.int s) = true := by
  rcases h with h | h | h <;> rw [h] <;> decide
theorem run_zero (ps : List Part) (xs : List Int) (i : Nat) : Ct.run ps xs i 0 = (xs, 0) := by
  unfold Ct.run
  have z := runN_zero (ps := ps) (i := i) (s := (xs, 0)) (n := 0) rfl (ps.length - i)
  rw [Nat.zero_add] at z
  exact z
theorem run_stand {ps : List Part} {xs : List Int} {i : Nat} {w : Int} (h : StandL ps xs) (hi : i < ps.length) (hw : w = 0 ∨ Sign w) : StandL ps (Ct.run ps xs i w).1 := by
  rcases hw with e | e
  · rw [e, run_zero]
    exact h
  · rw [← run_deed h hi e]
    exact deedL_stand h ⟨hi, e⟩
def fedS (ps : List Part) : List Int → List Int → List Int × List Int
  | xs, [] => (xs, [])
  | xs, s :: r => ((fedS ps (Ct.run ps xs 0 s).1 r).1, (Ct.run ps xs 0 s).2 :: (fedS ps (Ct.run ps xs 0 s).1 r).2)
theorem fedS_snoc (ps : List Part) (s : Int) : ∀ (ss : List Int) (xs : List Int), fedS ps xs (ss ++ [s]) = ((Ct.run ps (fedS ps xs ss).1 0 s).1, (fedS ps xs ss).2 ++ [(Ct.run ps (fedS ps xs ss).1 0 s).2])
  | [], xs => rfl
  | a :: r, xs => by
    rw [List.cons_append, fedS, fedS_snoc ps s r, fedS]
    rfl
theorem fedS_take {ps : List Part} {ss : List Int} {k : Nat} {s : Int} (xs : List Int) (h : ss[k]? = some s) : fedS ps xs (ss.take (k + 1)) = ((Ct.run ps (fedS ps xs (ss.take k)).1 0 s).1, (fedS ps xs (ss.take k)).2 ++ [(Ct.run ps (fedS ps xs (ss.take k)).1 0 s).2]) := by
  rw [← fedS_snoc, List.take_add_one, h]
  rfl
theorem fedS_stand {ps : List Part} (h1 : 1 ≤ ps.length) : ∀ {ss : List Int} {xs : List Int}, StandL ps xs → (∀ s ∈ ss, s = 0 ∨ Sign s) → StandL ps (fedS ps xs ss).1
  | [], _, h, _ => h
  | s :: r, _, h, hs => fedS_stand (ss := r) h1 (run_stand h h1 (hs s List.mem_cons_self)) fun t ht => hs t (List.mem_cons_of_mem s ht)
theorem fedS_len (ps : List Part) : ∀ (ss : List Int) (xs : List Int), (fedS ps xs ss).2.length = ss.length
  | [], _ => rfl
  | s :: r, xs => by
    rw [fedS, List.length_cons, List.length_cons, fedS_len ps r]
end Ct
namespace Ct
open PySem PySem.Spec PyProof.Rows L2
theorem fold_mem : ∀ (ps : List Part) (ss : List (List Int)) (xs : List Int), (∀ p ∈ ps, p.ok) → (xs ∈ ps.foldl grow ss ↔ ∃ s ∈ ss, ∃ ys, xs = s ++ ys ∧ StandL ps ys)
  | [], ss, xs, _ => by
    constructor
    · intro h
      exact ⟨xs, h, [], (List.append_nil xs).symm, trivial⟩
    · rintro ⟨s, hs, ys, rfl, hy⟩
      cases ys with
      | nil => rw [List.append_nil]; exact hs
      | cons _ _ => exact nomatch hy
  | p :: ps, ss, xs, ok => by
    have po := (ok p List.mem_cons_self).pos.1
    rw [List.foldl_cons, fold_mem ps (grow ss p) xs fun q hq => ok q (List.mem_cons_of_mem _ hq)]
    constructor
    · rintro ⟨s', hs', ys, rfl, hy⟩
      obtain ⟨s, hs, hin⟩ := List.mem_flatMap.mp hs'
      obtain ⟨k, hk, rfl⟩ := List.mem_map.mp hin
      rw [List.mem_range] at hk
      exact ⟨s, hs, (k : Int) :: ys, by rw [List.append_assoc]; rfl, ok p List.mem_cons_self, by omega, by omega, hy⟩
    · rintro ⟨s, hs, ys, rfl, hy⟩
      cases ys with
      | nil => exact nomatch hy
      | cons y ys =>
        obtain ⟨_, y0, y1, hy⟩ := hy
        refine ⟨s ++ [y], List.mem_flatMap.mpr ⟨s, hs, List.mem_map.mpr ⟨y.toNat, List.mem_range.mpr (by omega), by rw [Int.toNat_of_nonneg y0]⟩⟩, ys, by rw [List.append_assoc]; rfl, hy⟩
theorem allS_mem {ps : List Part} (ok : ∀ p ∈ ps, p.ok) (xs : List Int) : xs ∈ allS ps ↔ StandL ps xs := by
  rw [allS, fold_mem ps [[]] xs ok]
  constructor
  · rintro ⟨s, hs, ys, rfl, hy⟩
    rw [List.mem_singleton] at hs
    rw [hs]
    exact hy
  · intro h
    exact ⟨[], List.mem_singleton.mpr rfl, xs, rfl, h⟩
/-! one-way trains -/
def gvb : Part → Bool
  | .wheel _ ms => decide (0 < ms.length)
  | _ => false
theorem pp_back {p : Part} {x w : Int} (hw : Sign w) (h : (pp p x w).2 = -1) : w = -1 ∧ gvb p = true := by
  have e := pp_way p x w hw
  rw [h] at e
  have hw1 : w = -1 := by
    rcases e with e | e
    · exact absurd e (by decide)
    · exact e.symm
  refine ⟨hw1, ?_⟩
  subst hw1
  cases p with
  | wheel z ms =>
    have h : (if (if (-1 : Int) = 1 then (x + -1) % z else x) ∈ ms then (-1 : Int) else 0) = -1 := h
    by_cases e2 : (if (-1 : Int) = 1 then (x + -1) % z else x) ∈ ms
    · exact decide_eq_true (List.length_pos_of_mem e2)
    · rw [if_neg e2] at h
      exact absurd h (by decide)
  | click => exact absurd (show (if (-1 : Int) = 1 then (1 : Int) else 0) = -1 from h) (by decide)
  | rocker =>
    have h : (if (-1 : Int) = 1 ∧ x = 0 then (1 : Int) else 0) = -1 := h
    rw [if_neg (by intro z; exact absurd z.1 (by decide))] at h
    exact absurd h (by decide)
  | spring k => exact absurd (show (0 : Int) = -1 from h) (by decide)
/-- what is shown below nought comes through all parts -/
theorem gen_back : ∀ {ps : List Part} {xs : List Int} {w : Int}, w = 0 ∨ Sign w → xs.length = ps.length → (gen ppz ps xs w).2 = -1 → w = -1 ∧ ps.all gvb = true
  | [], [], w, _, _, h => ⟨h, rfl⟩
  | p :: ps, x :: xs, w, hw, hl, h => by
    have hl' : xs.length = ps.length := Nat.succ.inj hl
    have h' : (gen ppz ps xs (ppz p x w).2).2 = -1 := h
    have hz : (ppz p x w).2 = 0 ∨ Sign (ppz p x w).2 := by
      unfold ppz
      split
      · exact .inl rfl
      · rename_i e
        exact pp_sign p x w (hw.resolve_left e)
    obtain ⟨h1, h2⟩ := gen_back hz hl' h'
    have e : w ≠ 0 := fun z => by
      rw [show ppz p x w = (x, 0) from if_pos z] at h1
      exact absurd (show (0 : Int) = -1 from h1) (by decide)
    unfold ppz at h1
    rw [if_neg e] at h1
    obtain ⟨h3, h4⟩ := pp_back (hw.resolve_left e) h1
    exact ⟨h3, by rw [List.all_cons, h4, h2]; rfl⟩
/-- a stand at which each wheel stands at a mark -/
def atMarks : List Part → List Int
  | [] => []
  | .wheel _ (m :: _) :: r => m :: atMarks r
  | _ :: r => 0 :: atMarks r
theorem marks_back : ∀ {ps : List Part}, (∀ p ∈ ps, p.ok) → ps.all gvb = true → StandL ps (atMarks ps) ∧ (gen ppz ps (atMarks ps) (-1)).2 = -1
  | [], _, _ => ⟨trivial, rfl⟩
  | .wheel z (m :: ms) :: r, ok, h => by
    rw [List.all_cons, Bool.and_eq_true] at h
    have o := ok _ List.mem_cons_self
    obtain ⟨h1, h2⟩ := marks_back (fun p hp => ok p (List.mem_cons_of_mem _ hp)) h.2
    have hm := o.2.2.1.2 m List.mem_cons_self
    refine ⟨⟨o, hm.1, hm.2, h1⟩, ?_⟩
    show (gen ppz r (atMarks r) (ppz (.wheel z (m :: ms)) m (-1)).2).2 = -1
    rw [show (ppz (.wheel z (m :: ms)) m (-1)).2 = -1 from if_pos List.mem_cons_self]
    exact h2
  | .wheel z [] :: r, _, h => by
    rw [List.all_cons, Bool.and_eq_true] at h
    exact absurd (show false = true from h.1) (by decide)
  | .click :: r, _, h => by
    rw [List.all_cons, Bool.and_eq_true] at h
    exact absurd h.1 (by decide)
  | .rocker :: r, _, h => by
    rw [List.all_cons, Bool.and_eq_true] at h
    exact absurd h.1 (by decide)
  | .spring k :: r, _, h => by
    rw [List.all_cons, Bool.and_eq_true] at h
    exact absurd (show false = true from h.1) (by decide)
theorem run_back {ps : List Part} {xs : List Int} {w : Int} (hl : xs.length = ps.length) (hw : Sign w) (h : (Ct.run ps xs 0 w).2 = -1) : w = -1 ∧ ps.all gvb = true := by
  rw [run_gen hl (Nat.zero_le _)] at h
  exact gen_back (.inr hw) hl h
theorem run_marks {ps : List Part} (ok : ∀ p ∈ ps, p.ok) (h : ps.all gvb = true) : StandL ps (atMarks ps) ∧ (Ct.run ps (atMarks ps) 0 (-1)).2 = -1 := by
  obtain ⟨h1, h2⟩ := marks_back ok h
  refine ⟨h1, ?_⟩
  rw [run_gen h1.len (Nat.zero_le _)]
  exact h2
/-! worn teeth -/
def offMark (ms : List Int) (m : Int) : List Int := ms.filter fun k => !decide (k = m)
def wornP (ps : List Part) : Option (Nat × Int) → List Part
  | none => ps
  | some (i, m) => match ps[i]? with
    | some (.wheel z ms) => ps.set i (.wheel z (offMark ms m))
    | _ => ps
theorem offMark_ok {z : Int} {ms : List Int} {m : Int} (h : (Part.wheel z ms).ok) : (Part.wheel z (offMark ms m)).ok :=
  ⟨h.1, h.2.1, ⟨h.2.2.1.1.filter _, fun k hk => h.2.2.1.2 k (List.mem_filter.mp hk).1⟩, Nat.le_trans (List.length_filter_le _ _) h.2.2.2⟩
theorem wornP_ok {ps : List Part} (h : ∀ p ∈ ps, p.ok) (w : Option (Nat × Int)) : ∀ p ∈ wornP ps w, p.ok := by
  unfold wornP
  split
  · exact h
  · split
    · rename_i i m z ms e
      intro p hp
      rcases List.mem_or_eq_of_mem_set hp with hp | hp
      · exact h p hp
      · rw [hp]
        exact offMark_ok (h _ (List.mem_of_getElem? e))
    · exact h
theorem wornP_len (ps : List Part) (w : Option (Nat × Int)) : (wornP ps w).length = ps.length := by
  unfold wornP
  split
  · rfl
  · split
    · rw [List.length_set]
    · rfl
/-- a wear as it is handed in -/
def WearAt (K : PySem.W.Frag) (H : Hp) (v : V) : Option (Nat × Int) → Prop
  | none => v = .non
  | some (i, m) => ∃ g, v = .ref g ∧ SqT K H g [.int i, .int m]
end Ct
namespace Ct
open PySem PySem.Spec PyProof.Rows L2
theorem dpAll_set {K : PySem.W.Frag} {H : Hp} : ∀ {vs : List V} {ds : List PyData} {i : Nat} {v : V} {d : PyData}, DpAll K H vs ds → Dp K H v d → DpAll K H (vs.set i v) (ds.set i d)
  | _, _, _, _, _, .nil, _ => .nil
  | _, _, 0, _, _, .cons _ t, h => .cons h t
  | _, _, _ + 1, _, _, .cons a t, h => .cons a (dpAll_set t h)
theorem WearAt.same {K : PySem.W.Frag} {H H' : Hp} {v : V} {w : Option (Nat × Int)} (s : Same H H') (h : WearAt K H v w) : WearAt K H' v w := by
  cases w with
  | none => exact h
  | some im =>
    obtain ⟨g, e, hg⟩ := h
    exact ⟨g, e, Same.tup s hg⟩
end Ct
namespace Ct
open PySem PySem.Spec PyProof.Rows L2
/-! trains behind one another -/
theorem gen_app (f : Part → Int → Int → Int × Int) (qs : List Part) (ys : List Int) : ∀ (ps : List Part) (xs : List Int) (a : Int), xs.length = ps.length →
    gen f (ps ++ qs) (xs ++ ys) a = ((gen f ps xs a).1 ++ (gen f qs ys (gen f ps xs a).2).1, (gen f qs ys (gen f ps xs a).2).2)
  | [], [], _, _ => rfl
  | p :: ps, x :: xs, a, h => by
    have ih := gen_app f qs ys ps xs (f p x a).2 (Nat.succ.inj h)
    show ((f p x a).1 :: (gen f (ps ++ qs) (xs ++ ys) (f p x a).2).1, (gen f (ps ++ qs) (xs ++ ys) (f p x a).2).2) = _
    rw [ih]
    rfl
theorem run0 {ps : List Part} {xs : List Int} (w : Int) (hx : xs.length = ps.length) : Ct.run ps xs 0 w = gen ppz ps xs w := by
  rw [run_gen hx (Nat.zero_le _)]
  rfl
theorem run_len (ps : List Part) (xs : List Int) (w : Int) : (Ct.run ps xs 0 w).1.length = xs.length := runN_len ps 0 (xs, w) _
theorem run_app {ps qs : List Part} {xs ys : List Int} (w : Int) (hx : xs.length = ps.length) (hy : ys.length = qs.length) :
    Ct.run (ps ++ qs) (xs ++ ys) 0 w = ((Ct.run ps xs 0 w).1 ++ (Ct.run qs ys 0 (Ct.run ps xs 0 w).2).1, (Ct.run qs ys 0 (Ct.run ps xs 0 w).2).2) := by
  rw [run0 w (by rw [List.length_append, List.length_append, hx, hy]), gen_app ppz qs ys ps xs w hx, run0 w hx, run0 _ hy]
theorem run_sg {ps : List Part} {xs : List Int} {w : Int} (hw : w = 0 ∨ Sign w) : (Ct.run ps xs 0 w).2 = 0 ∨ Sign (Ct.run ps xs 0 w).2 := by
  rcases hw with e | e
  · rw [e, run_zero]
    exact .inl rfl
  · exact runN_sign ps 0 (xs, w) e _
theorem fedS_sg {ps : List Part} : ∀ {ss : List Int} {xs : List Int}, (∀ s ∈ ss, s = 0 ∨ Sign s) → ∀ s ∈ (fedS ps xs ss).2, s = 0 ∨ Sign s
  | [], _, _, _, h => by cases h
  | s :: r, xs, hs, t, h => by
    rcases List.mem_cons.mp h with h | h
    · rw [h]
      exact run_sg (hs s List.mem_cons_self)
    · exact fedS_sg (ss := r) (fun u hu => hs u (List.mem_cons_of_mem s hu)) t h
theorem fedS_len1 (ps : List Part) : ∀ (ss : List Int) (xs : List Int), (fedS ps xs ss).1.length = xs.length
  | [], _ => rfl
  | s :: r, xs => by rw [fedS, fedS_len1 ps r, run_len]
theorem fed_app {ps qs : List Part} : ∀ {ss : List Int} {xs ys : List Int}, xs.length = ps.length → ys.length = qs.length →
    fedS (ps ++ qs) (xs ++ ys) ss = ((fedS ps xs ss).1 ++ (fedS qs ys (fedS ps xs ss).2).1, (fedS qs ys (fedS ps xs ss).2).2)
  | [], _, _, _, _ => rfl
  | s :: r, xs, ys, hx, hy => by
    have ih := fed_app (ss := r) (xs := (Ct.run ps xs 0 s).1) (ys := (Ct.run qs ys 0 (Ct.run ps xs 0 s).2).1) (by rw [run_len, hx]) (by rw [run_len, hy])
    rw [fedS, run_app s hx hy, fedS]
    show ((fedS (ps ++ qs) ((Ct.run ps xs 0 s).1 ++ (Ct.run qs ys 0 (Ct.run ps xs 0 s).2).1) r).1, (Ct.run qs ys 0 (Ct.run ps xs 0 s).2).2 :: (fedS (ps ++ qs) ((Ct.run ps xs 0 s).1 ++ (Ct.run qs ys 0 (Ct.run ps xs 0 s).2).1) r).2) = _
    rw [ih]
    rfl
theorem gen_nought {w : Int} : ∀ {ps : List Part} {xs : List Int}, StandL ps xs → gen (ptw w) ps xs 0 = (xs, 0)
  | [], [], _ => rfl
  | p :: ps, x :: xs, h => by
    obtain ⟨ok, x0, x1, hr⟩ := h
    show ((ptw w p x 0).1 :: (gen (ptw w) ps xs (ptw w p x 0).2).1, (gen (ptw w) ps xs (ptw w p x 0).2).2) = _
    rw [show ptw w p x 0 = (x, 0) from pt_zero ok x0 x1, gen_nought hr]
theorem gen_upto {w : Int} (hw : Sign w) : ∀ {ps : List Part} {xs : List Int} {t : Int}, 0 ≤ t → StandL ps xs → 0 ≤ (gen (ptw w) ps xs t).2 ∧ (gen (ptw w) ps xs t).2 ≤ t
  | [], [], t, h, _ => ⟨h, Int.le_refl _⟩
  | p :: ps, x :: xs, t, h, hs => by
    obtain ⟨ok, x0, x1, hr⟩ := hs
    have e : ((t.toNat : Nat) : Int) = t := Int.toNat_of_nonneg h
    have h1 := pt_nn ok x0 x1 hw t.toNat
    have h2 := pt_le ok x0 x1 hw t.toNat
    rw [e] at h1 h2
    have ih := gen_upto (ps := ps) (xs := xs) (t := (ptw w p x t).2) hw h1 hr
    exact ⟨ih.1, Int.le_trans ih.2 h2⟩
/-- a deed at a part of the first train: what it gives comes to the second one -/
theorem deed_front {ps qs : List Part} {xs ys : List Int} {d : Deed} (hx : StandL ps xs) (hy : StandL qs ys) (hd : d.ok ps.length) {w' : Int} {t' : Nat} (hw' : w' = if (deedL ps xs d).2 < 0 then -1 else 1) (ht' : (t' : Int) = if (deedL ps xs d).2 < 0 then -(deedL ps xs d).2 else (deedL ps xs d).2) :
    t' ≤ d.t ∧ deedL (ps ++ qs) (xs ++ ys) d = ((deedL ps xs d).1 ++ (deedL qs ys ⟨0, w', t'⟩).1, (deedL qs ys ⟨0, w', t'⟩).2) := by
  have hl := hx.len
  have e1 : (xs ++ ys).take d.i = xs.take d.i := List.take_append_of_le_length (by have := hd.1; omega)
  have e2 : (xs ++ ys).drop d.i = xs.drop d.i ++ ys := List.drop_append_of_le_length (by have := hd.1; omega)
  have e3 : (ps ++ qs).drop d.i = ps.drop d.i ++ qs := List.drop_append_of_le_length (by have := hd.1; omega)
  have hg := gen_upto (t := (d.t : Int)) hd.2 (by omega) (stand_drop d.i hx)
  have ga := gen_app (ptw d.w) qs ys (ps.drop d.i) (xs.drop d.i) d.t (by rw [List.length_drop, List.length_drop, hl])
  unfold deedL at hw' ht' ⊢
  rw [e1, e2, e3, ga]
  generalize gen (ptw d.w) (ps.drop d.i) (xs.drop d.i) d.t = r at *
  have hw' : w' = if d.w * r.2 < 0 then -1 else 1 := hw'
  have ht' : (t' : Int) = if d.w * r.2 < 0 then -(d.w * r.2) else d.w * r.2 := ht'
  have et : (t' : Int) = r.2 := by
    rcases hd.2 with e | e <;> rw [e] at ht' <;> split at ht' <;> omega
  refine ⟨by omega, ?_⟩
  show (xs.take d.i ++ (r.1 ++ (gen (ptw d.w) qs ys r.2).1), d.w * (gen (ptw d.w) qs ys r.2).2) = ((xs.take d.i ++ r.1) ++ ([] ++ (gen (ptw w') qs ys (t' : Int)).1), w' * (gen (ptw w') qs ys (t' : Int)).2)
  rw [et, List.nil_append, List.append_assoc]
  by_cases h0 : r.2 = 0
  · rw [h0, gen_nought hy, gen_nought hy, Int.mul_zero, Int.mul_zero]
  · have ew : w' = d.w := by
      rcases hd.2 with e | e <;> rw [e] at hw' ⊢ <;> rw [hw'] <;> split <;> omega
    rw [ew]
theorem deed_behind {ps qs : List Part} {xs ys : List Int} {d : Deed} {j : Nat} (hx : xs.length = ps.length) (hi : d.i = ps.length + j) : deedL (ps ++ qs) (xs ++ ys) d = (xs ++ (deedL qs ys ⟨j, d.w, d.t⟩).1, (deedL qs ys ⟨j, d.w, d.t⟩).2) := by
  unfold deedL
  rw [hi]
  have e1 : (xs ++ ys).take (ps.length + j) = xs ++ ys.take j := by rw [← hx, List.take_length_add_append]
  have e2 : (xs ++ ys).drop (ps.length + j) = ys.drop j := by rw [← hx, List.drop_length_add_append]
  have e3 : (ps ++ qs).drop (ps.length + j) = qs.drop j := by rw [List.drop_length_add_append]
  rw [e1, e2, e3, List.append_assoc]
end Ct

namespace Ct
open PySem PySem.Spec PyProof.Rows L2
/-! a row done often -/
def itR (ps : List Part) (ds : List Deed) : Nat → List Int → List Int × Int
  | 0, xs => (xs, 0)
  | n + 1, xs => ((rowL ps ds ((itR ps ds n xs).1, 0)).1, (itR ps ds n xs).2 + (rowL ps ds ((itR ps ds n xs).1, 0)).2)
theorem itR_stand {ps : List Part} {ds : List Deed} {xs : List Int} (h : StandL ps xs) (hd : ∀ d ∈ ds, d.ok ps.length) : ∀ n, StandL ps (itR ps ds n xs).1
  | 0 => h
  | n + 1 => rowL_stand (s := ((itR ps ds n xs).1, 0)) (itR_stand h hd n) hd
theorem itR_round {ps : List Part} {ds : List Deed} {xs : List Int} {j k : Nat} (e : (itR ps ds j xs).1 = (itR ps ds k xs).1) : ∀ m, (itR ps ds (k + m) xs).1 = (itR ps ds (j + m) xs).1 ∧ (itR ps ds (k + m) xs).2 - (itR ps ds (j + m) xs).2 = (itR ps ds k xs).2 - (itR ps ds j xs).2
  | 0 => ⟨e.symm, rfl⟩
  | m + 1 => by
    obtain ⟨h1, h2⟩ := itR_round e m
    show (rowL ps ds ((itR ps ds (k + m) xs).1, 0)).1 = (rowL ps ds ((itR ps ds (j + m) xs).1, 0)).1 ∧ (itR ps ds (k + m) xs).2 + (rowL ps ds ((itR ps ds (k + m) xs).1, 0)).2 - ((itR ps ds (j + m) xs).2 + (rowL ps ds ((itR ps ds (j + m) xs).1, 0)).2) = _
    rw [h1]
    exact ⟨rfl, by omega⟩
theorem itR_rounds {ps : List Part} {ds : List Deed} {xs : List Int} {j k : Nat} (hjk : j ≤ k) (e : (itR ps ds j xs).1 = (itR ps ds k xs).1) (m : Nat) : ∀ r : Nat, itR ps ds (j + m + r * (k - j)) xs = ((itR ps ds (j + m) xs).1, (itR ps ds (j + m) xs).2 + (r : Int) * ((itR ps ds k xs).2 - (itR ps ds j xs).2))
  | 0 => by
    rw [Nat.zero_mul, Nat.add_zero, show ((0 : Nat) : Int) = 0 from rfl, Int.zero_mul, Int.add_zero]
  | r + 1 => by
    have ih := itR_rounds hjk e m r
    have hr := itR_round e (m + r * (k - j))
    rw [← Nat.add_assoc j m, ih] at hr
    rw [show j + m + (r + 1) * (k - j) = k + (m + r * (k - j)) by rw [Nat.add_mul, Nat.one_mul]; omega]
    refine Prod.ext hr.1 ?_
    have h2 : (itR ps ds (k + (m + r * (k - j))) xs).2 - ((itR ps ds (j + m) xs).2 + (r : Int) * ((itR ps ds k xs).2 - (itR ps ds j xs).2)) = (itR ps ds k xs).2 - (itR ps ds j xs).2 := hr.2
    show (itR ps ds (k + (m + r * (k - j))) xs).2 = (itR ps ds (j + m) xs).2 + ((r + 1 : Nat) : Int) * ((itR ps ds k xs).2 - (itR ps ds j xs).2)
    rw [show ((r + 1 : Nat) : Int) = (r : Int) + 1 by omega, Int.add_mul, Int.one_mul]
    omega
/-- the way round, reckoned -/
theorem itR_at {ps : List Part} {ds : List Deed} {xs : List Int} {j k n : Nat} (hjk : j < k) (hn : j ≤ n) (e : (itR ps ds j xs).1 = (itR ps ds k xs).1) :
    itR ps ds n xs = ((itR ps ds (j + (n - j) % (k - j)) xs).1, (itR ps ds (j + (n - j) % (k - j)) xs).2 + (((n - j) / (k - j) : Nat) : Int) * ((itR ps ds k xs).2 - (itR ps ds j xs).2)) := by
  have h := itR_rounds (Nat.le_of_lt hjk) e ((n - j) % (k - j)) ((n - j) / (k - j))
  rw [show j + (n - j) % (k - j) + (n - j) / (k - j) * (k - j) = n by
    have := Nat.mod_add_div (n - j) (k - j)
    rw [Nat.mul_comm (k - j)] at this
    omega] at h
  exact h
/-! no more unlike stands than there are -/
theorem filt_len {N : Nat} : ∀ {l : List Nat}, l.Nodup → (∀ x ∈ l, x < N + 1) → l.length ≤ (l.filter fun x => decide (x < N)).length + 1
  | [], _, _ => Nat.zero_le _
  | a :: r, hn, h => by
    obtain ⟨h1, h2⟩ := List.nodup_cons.mp hn
    by_cases ha : a < N
    · rw [List.filter_cons, if_pos (decide_eq_true ha), List.length_cons, List.length_cons]
      have := filt_len h2 fun x hx => h x (List.mem_cons_of_mem _ hx)
      omega
    · have ea : a = N := by
        have := h a List.mem_cons_self
        omega
      have : (r.filter fun x => decide (x < N)) = r := List.filter_eq_self.mpr fun x hx => decide_eq_true (by
        have h3 := h x (List.mem_cons_of_mem _ hx)
        have h4 : x ≠ N := fun z => h1 (by rw [ea, ← z]; exact hx)
        omega)
      rw [List.filter_cons, if_neg (by rw [decide_eq_false ha]; exact Bool.false_ne_true), this, List.length_cons]
      omega
theorem holes : ∀ (N : Nat) (l : List Nat), l.Nodup → (∀ x ∈ l, x < N) → l.length ≤ N
  | 0, [], _, _ => Nat.le_refl _
  | 0, a :: _, _, h => absurd (h a List.mem_cons_self) (Nat.not_lt_zero a)
  | N + 1, l, hn, h => by
    have h1 := filt_len hn h
    have h2 := holes N (l.filter fun x => decide (x < N)) (hn.filter _) fun x hx => of_decide_eq_true (List.mem_filter.mp hx).2
    omega
def code : List Part → List Int → Nat
  | _ :: ps, x :: xs => x.toNat * (stands ps).toNat + code ps xs
  | _, _ => 0
theorem code_lt : ∀ {ps : List Part} {xs : List Int}, StandL ps xs → code ps xs < (stands ps).toNat
  | [], [], _ => by decide
  | p :: ps, x :: xs, ⟨ok, h0, h1, h⟩ => by
    have ih := code_lt (ps := ps) (xs := xs) h
    have po := ok.pos.1
    show x.toNat * (stands ps).toNat + code ps xs < (p.places * stands ps).toNat
    have sp : 1 ≤ stands ps := stands_pos ps h.okp
    have e : (p.places * stands ps).toNat = p.places.toNat * (stands ps).toNat := by
      rw [Int.toNat_mul (by omega) (by omega)]
    rw [e]
    have hx : x.toNat + 1 ≤ p.places.toNat := by omega
    have := Nat.mul_le_mul_right (stands ps).toNat hx
    rw [Nat.add_mul, Nat.one_mul] at this
    omega
theorem code_inj : ∀ {ps : List Part} {xs ys : List Int}, StandL ps xs → StandL ps ys → code ps xs = code ps ys → xs = ys
  | [], [], [], _, _, _ => rfl
  | p :: ps, x :: xs, y :: ys, ⟨_, a0, _, ha⟩, ⟨_, b0, _, hb⟩, e => by
    have la := code_lt ha
    have lb := code_lt hb
    have e2 : x.toNat * (stands ps).toNat + code ps xs = y.toNat * (stands ps).toNat + code ps ys := e
    generalize (stands ps).toNat = N at *
    have d1 : (x.toNat * N + code ps xs) / N = x.toNat := by
      rw [Nat.mul_comm, Nat.mul_add_div (by omega), Nat.div_eq_of_lt la, Nat.add_zero]
    have d2 : (y.toNat * N + code ps ys) / N = y.toNat := by
      rw [Nat.mul_comm, Nat.mul_add_div (by omega), Nat.div_eq_of_lt lb, Nat.add_zero]
    rw [e2, d2] at d1
    have ex : x = y := by omega
    subst ex
    rw [code_inj ha hb (by omega)]
theorem few_stands {ps : List Part} {ds : List Deed} {xs : List Int} (h : StandL ps xs) (hd : ∀ d ∈ ds, d.ok ps.length) {k : Nat} (dist : ∀ i j, i < j → j < k → (itR ps ds i xs).1 ≠ (itR ps ds j xs).1) : k ≤ (stands ps).toNat := by
  have := holes (stands ps).toNat ((List.range k).map fun i => code ps (itR ps ds i xs).1) ?_ ?_
  · rw [List.length_map, List.length_range] at this
    exact this
  · rw [List.nodup_iff_pairwise_ne, List.pairwise_map]
    refine List.Pairwise.imp_of_mem (fun {a b} ha hb hab => ?_) (List.pairwise_lt_range (n := k))
    rw [List.mem_range] at ha hb
    exact fun z => dist a b hab hb (code_inj (itR_stand h hd a) (itR_stand h hd b) z)
  · intro x hx
    obtain ⟨i, _, rfl⟩ := List.mem_map.mp hx
    exact code_lt (itR_stand h hd i)
/-! how great a sum may be -/
theorem gen_le {w : Int} (hw : Sign w) : ∀ (ps : List Part) (xs : List Int) (t : Int), 0 ≤ t → StandL ps xs → (gen (ptw w) ps xs t).2 ≤ t
  | [], [], t, _, _ => Int.le_refl _
  | p :: ps, x :: xs, t, ht, ⟨ok, h0, h1, h⟩ => by
    have e : ((t.toNat : Nat) : Int) = t := by omega
    have a := pt_le ok h0 h1 hw t.toNat
    have n := pt_nn ok h0 h1 hw t.toNat
    rw [e] at a n
    exact Int.le_trans (gen_le hw ps xs (pt p x w t).2 n h) a
theorem deedL_sum {ps : List Part} {xs : List Int} {d : Deed} (h : StandL ps xs) (hd : d.ok ps.length) : -(d.t : Int) ≤ (deedL ps xs d).2 ∧ (deedL ps xs d).2 ≤ d.t := by
  have g1 := (gen_stand hd.2 _ _ (d.t : Int) (by omega) (stand_drop d.i h)).2
  have g2 := gen_le hd.2 _ _ (d.t : Int) (by omega) (stand_drop d.i h)
  show -(d.t : Int) ≤ d.w * (gen (ptw d.w) (ps.drop d.i) (xs.drop d.i) d.t).2 ∧ d.w * (gen (ptw d.w) (ps.drop d.i) (xs.drop d.i) d.t).2 ≤ d.t
  generalize (gen (ptw d.w) (ps.drop d.i) (xs.drop d.i) d.t).2 = g at *
  rcases hd.2 with e | e
  · rw [e, Int.one_mul]
    exact ⟨by omega, g2⟩
  · rw [e]
    exact ⟨by omega, by omega⟩
theorem rowL_sum {ps : List Part} : ∀ {ds : List Deed} {s : List Int × Int}, StandL ps s.1 → (∀ d ∈ ds, d.ok ps.length ∧ d.t < 2 ^ 200) → s.2 - ds.length * 2 ^ 200 ≤ (rowL ps ds s).2 ∧ (rowL ps ds s).2 ≤ s.2 + ds.length * 2 ^ 200
  | [], s, _, _ => by
    show s.2 - ((0 : Nat) : Int) * 2 ^ 200 ≤ s.2 ∧ s.2 ≤ s.2 + ((0 : Nat) : Int) * 2 ^ 200
    rw [show ((0 : Nat) : Int) = 0 from rfl, Int.zero_mul]
    omega
  | d :: ds, s, h, hd => by
    have d0 := hd d List.mem_cons_self
    have a := deedL_sum h d0.1
    have ih := rowL_sum (ds := ds) (s := ((deedL ps s.1 d).1, s.2 + (deedL ps s.1 d).2)) (deedL_stand h d0.1) fun e he => hd e (List.mem_cons_of_mem _ he)
    have i1 : s.2 + (deedL ps s.1 d).2 - (ds.length : Int) * 2 ^ 200 ≤ (rowL ps (d :: ds) s).2 := ih.1
    have i2 : (rowL ps (d :: ds) s).2 ≤ s.2 + (deedL ps s.1 d).2 + (ds.length : Int) * 2 ^ 200 := ih.2
    have dt := d0.2
    rw [List.length_cons, show ((ds.length + 1 : Nat) : Int) = (ds.length : Int) + 1 by omega, Int.add_mul, Int.one_mul]
    omega
theorem itR_sum {ps : List Part} {ds : List Deed} {xs : List Int} (h : StandL ps xs) (hd : ∀ d ∈ ds, d.ok ps.length ∧ d.t < 2 ^ 200) (hl : ds.length ≤ 1000) : ∀ n : Nat, -(n : Int) * 2 ^ 210 ≤ (itR ps ds n xs).2 ∧ (itR ps ds n xs).2 ≤ (n : Int) * 2 ^ 210
  | 0 => by
    show -((0 : Nat) : Int) * 2 ^ 210 ≤ 0 ∧ (0 : Int) ≤ ((0 : Nat) : Int) * 2 ^ 210
    decide
  | n + 1 => by
    have ih := itR_sum h hd hl n
    have r := rowL_sum (s := ((itR ps ds n xs).1, 0)) (itR_stand h (fun d hm => (hd d hm).1) n) hd
    have r1 : (0 : Int) - ds.length * 2 ^ 200 ≤ (rowL ps ds ((itR ps ds n xs).1, 0)).2 := r.1
    have r2 : (rowL ps ds ((itR ps ds n xs).1, 0)).2 ≤ 0 + ds.length * 2 ^ 200 := r.2
    show -((n + 1 : Nat) : Int) * 2 ^ 210 ≤ (itR ps ds n xs).2 + (rowL ps ds ((itR ps ds n xs).1, 0)).2 ∧ (itR ps ds n xs).2 + (rowL ps ds ((itR ps ds n xs).1, 0)).2 ≤ ((n + 1 : Nat) : Int) * 2 ^ 210
    rw [show ((n + 1 : Nat) : Int) = (n : Int) + 1 by omega]
    omega
theorem inl_inj : ∀ {xs ys : List Int}, xs.map (Sum.inl : Int → Key) = ys.map Sum.inl → xs = ys
  | [], [], _ => rfl
  | [], _ :: _, h => nomatch h
  | _ :: _, [], h => nomatch h
  | x :: xs, y :: ys, h => by
    injection h with h1 h2
    injection h1 with h3
    rw [h3, inl_inj h2]
theorem key_map (xs : List Int) : (xs.map (Sum.inl : Int → Key)).map kV = xs.map V.int := by
  rw [List.map_map]
  rfl
theorem units65 {k : Nat} {A : Around} (r : Room k A) : A.units + 65 < cLine := by
  have := r.un
  omega
theorem eqv_ints : ∀ (xs ys : List Int), PyData.eqvAll (xs.map PyData.int) (ys.map PyData.int) = decide (xs = ys)
  | [], [] => rfl
  | [], _ :: _ => rfl
  | _ :: _, [] => rfl
  | x :: xs, y :: ys => by
    rw [List.map_cons, List.map_cons, PyData.eqvAll, eqv_ints xs ys, PyData.eqv]
    by_cases e : x = y
    · subst e
      by_cases e2 : xs = ys
      · subst e2
        simp
      · rw [decide_eq_false e2, decide_eq_false (fun z => e2 (List.cons.inj z).2), Bool.and_false]
    · rw [decide_eq_false (fun z => e (List.cons.inj z).1), show (x == y) = false from beq_eq_false_iff_ne.mpr e, Bool.false_and]
theorem eqv_tupD (xs ys : List Int) : PyData.eqv (tupD xs) (tupD ys) = decide (xs = ys) := by
  unfold tupD
  rw [PyData.eqv]
  exact eqv_ints xs ys
theorem itR_one {ps : List Part} {xs : List Int} {i : Nat} {w : Int} (h : StandL ps xs) (hi : i < ps.length) (hw : Sign w) : ∀ n, itR ps [⟨i, w, 1⟩] n xs = pushes ps i w n (xs, 0)
  | 0 => rfl
  | n + 1 => by
    have ih := itR_one h hi hw n
    have hs : StandL ps (pushes ps i w n (xs, 0)).1 := pushes_stand h hi hw 0 n
    have e : rowL ps [⟨i, w, 1⟩] ((pushes ps i w n (xs, 0)).1, 0) = pushes ps i w 1 ((pushes ps i w n (xs, 0)).1, 0) := rowL_one (s := ((pushes ps i w n (xs, 0)).1, 0)) (d := ⟨i, w, 1⟩) hs ⟨hi, hw⟩
    show ((rowL ps [⟨i, w, 1⟩] ((itR ps [⟨i, w, 1⟩] n xs).1, 0)).1, (itR ps [⟨i, w, 1⟩] n xs).2 + (rowL ps [⟨i, w, 1⟩] ((itR ps [⟨i, w, 1⟩] n xs).1, 0)).2) = _
    rw [ih, e]
    refine Prod.ext rfl ?_
    show (pushes ps i w n (xs, 0)).2 + (0 + (Ct.run ps (pushes ps i w n (xs, 0)).1 i w).2) = (pushes ps i w n (xs, 0)).2 + (Ct.run ps (pushes ps i w n (xs, 0)).1 i w).2
    omega
theorem itR_deed {ps : List Part} {xs : List Int} {i : Nat} {w : Int} (h : StandL ps xs) (hi : i < ps.length) (hw : Sign w) (n : Nat) : itR ps [⟨i, w, 1⟩] n xs = rowL ps [⟨i, w, n⟩] (xs, 0) := by
  rw [itR_one h hi hw n, rowL_one (s := (xs, 0)) (d := ⟨i, w, n⟩) h ⟨hi, hw⟩]
theorem itR_add {ps : List Part} {ds : List Deed} (a : Nat) (xs : List Int) : ∀ b, itR ps ds (a + b) xs = ((itR ps ds b (itR ps ds a xs).1).1, (itR ps ds a xs).2 + (itR ps ds b (itR ps ds a xs).1).2)
  | 0 => Prod.ext rfl (Int.add_zero _).symm
  | b + 1 => by
    have ih := itR_add (ps := ps) (ds := ds) a xs b
    show ((rowL ps ds ((itR ps ds (a + b) xs).1, 0)).1, (itR ps ds (a + b) xs).2 + (rowL ps ds ((itR ps ds (a + b) xs).1, 0)).2) = _
    rw [ih]
    refine Prod.ext rfl ?_
    show (itR ps ds a xs).2 + (itR ps ds b (itR ps ds a xs).1).2 + _ = (itR ps ds a xs).2 + ((itR ps ds b (itR ps ds a xs).1).2 + _)
    rw [Int.add_assoc]
section
variable {K : PySem.W.Frag} {H : Hp} {σ : L2.St} {Q : VK} {D : Ends}
theorem w_dnewT (h : ∀ p, H p = none → Q (.ref p) (upd H p (.dT []))) : tDNewT σ H Q := h
theorem w_dnotin {ty td : TE} (h : ty σ H fun y H1 => td σ H1 fun x H2 => ∃ a o, x = .ref a ∧ DGet H2 a y o ∧ Q (.bl (!o.isSome)) H2) : tDNotIn ty td σ H Q := h
theorem w_dget {td ty : TE} (h : td σ H fun x H1 => ty σ H1 fun y H2 => ∃ a v, x = .ref a ∧ DGet H2 a y (some v) ∧ Q v H2) : tDGet td ty σ H Q := h
theorem w_dput {td ty tv : TE} (h : tv σ H fun v H1 => td σ H1 fun x H2 => ty σ H2 fun y H3 => ∃ a H4, x = .ref a ∧ DPut H3 a y v H4 ∧ D.nx σ H4) : sDPut td ty tv D σ H := h
end
end Ct

namespace Ct
open PySem PySem.Spec PyProof.Rows L2
/-! what stays, found by looking -/
section
variable {K : PySem.W.Frag} {H G : Hp} {a p : Addr} {o : HO} {xs : List V} {v : V} {d : PyData} {ds : List PyData} {ps : List Part}
theorem mv_get (s : Same H G) (h : H a = some o) : G a = some o := s _ _ h
theorem mv_lst (s : Same H G) (h : H a = some (.lst xs)) : SqL K G a xs := .of (s _ _ h)
theorem mv_sql (s : Same H G) (h : SqL K H a xs) : SqL K G a xs := s.seq h
theorem mv_tup (s : Same H G) (h : H a = some (.tup xs)) : SqT K G a xs := .of (s _ _ h)
theorem mv_sqt (s : Same H G) (h : SqT K H a xs) : SqT K G a xs := Same.tup s h
theorem mv_dp (s : Same H G) (h : Dp K H v d) : Dp K G v d := dp_same s h
theorem mv_dpa (s : Same H G) (h : DpAll K H xs ds) : DpAll K G xs ds := dpAll_same s h
theorem mv_train (s : Same H G) (h : TrainAt K H a ps) : TrainAt K G a ps := h.same s
theorem mv_free (s : Same H G) (h : G a = none) : H a = none := s.free h
theorem upd_new (h : upd H p o = G) (n : H p = none) : Same H G ∧ G p = some o := by
  subst h
  exact ⟨same_upd n, upd_same⟩
variable {Q : VK} {b : Addr} {ys : List V} {n : Nat} {ms : List Int}
theorem w_slLu (h : SqL K H a xs) (hn : n ≤ xs.length) (q : ∀ p G, H p = none → Same H G → G p = some (.lst (xs.take n)) → Q (.ref p) G) : rSlL K (.ref a) none (some (n : Int)) H Q := by
  refine w_slL h fun p np => ?_
  have e : cutV xs none (some (n : Int)) = xs.take n := by
    unfold cutV
    rw [HT.sIx_none, HT.sIx_nat, List.drop_zero, Nat.min_eq_left (by omega), Nat.sub_zero]
  rw [e]
  exact q p _ np (same_upd np) upd_same
theorem w_slLf (h : SqL K H a xs) (hn : n ≤ xs.length) (q : ∀ p G, H p = none → Same H G → G p = some (.lst (xs.drop n)) → Q (.ref p) G) : rSlL K (.ref a) (some (n : Int)) none H Q := by
  refine w_slL h fun p np => ?_
  have e : cutV xs (some (n : Int)) none = xs.drop n := by
    unfold cutV
    rw [HT.sIx_none, HT.sIx_nat, Nat.min_eq_left (by omega), List.take_of_length_le (by rw [List.length_drop]; exact Nat.le_refl _)]
  rw [e]
  exact q p _ np (same_upd np) upd_same
theorem w_cat (h : H a = some (.lst xs)) (h2 : H b = some (.lst ys)) (l : xs.length + ys.length ≤ sizeLine) (q : ∀ p G, H p = none → Same H G → G p = some (.lst (xs ++ ys)) → Q (.ref p) G) : rCat (.ref a) (.ref b) H Q :=
  ⟨a, b, xs, ys, rfl, rfl, h, h2, l, fun p np => q p _ np (same_upd np) upd_same⟩
theorem w_rNs {x y : Str} {c : Bool} (e : (!decide (V.str x = V.str y)) = c) (h : Q (.bl c) H) : rNe (.str x) (.str y) H Q := by
  refine ⟨rfl, ?_⟩
  rw [e]
  exact h
variable {σ : L2.St}
theorem walk_zipM {n : Nat} (hn : n = min xs.length ys.length) : Walk (ItM K a b) n (fun H => SqL K H a xs ∧ SqT K H b ys) (YPair (fun i => xs[i]?) (fun i => ys[i]?)) := by
  subst hn
  refine ⟨fun i _ hi q => ?_, fun _ q => ⟨xs, ys, q.1, q.2, by omega⟩, fun i H v H' _ q y => ?_⟩
  · have h1 : i < xs.length := by omega
    have h2 : i < ys.length := by omega
    exact ⟨xs, ys, xs[i], ys[i], q.1, q.2, by simp [h1], by simp [h2]⟩
  · obtain ⟨T, x, z, h1, h2, h3, h4, h5⟩ := y
    exact ⟨T, x, z, h1, h2, h3, h4 xs q.1, h5 ys q.2⟩
theorem lb_zipM (xs ys : List V) (hl : xs.length = ys.length) {g : TG} {tt : TT} {te : TE} {vs : List Nat} (Pv : Addr → Nat → Hp → Prop) (h0 : ∀ D, H D = none → Pv D 0 (upd H D (.lst []))) (hq : ∀ D, H D = none → ∀ i H1, i ≤ xs.length → Pv D i H1 → SqL K H1 a xs ∧ SqT K H1 b ys)
    (hs : ∀ D, H D = none → ∀ i x y T H1 G, xs[i]? = some x → ys[i]? = some y → Pv D i H1 → H1 T = none → Same H1 G → G T = some (.tup [x, y]) → g (.ref T) (wipe σ vs) G fun σ2 H2 => wipe σ2 vs = wipe σ vs ∧ tt σ2 H2 fun b H3 =>
      if b = true then te σ2 H3 fun y H4 => ∃ acc, H4 D = some (.lst acc) ∧ acc.length < sizeLine ∧ Pv D (i + 1) (upd H4 D (.lst (acc ++ [y]))) else Pv D (i + 1) H3) (hd : ∀ D, H D = none → ∀ H1, Pv D xs.length H1 → Q (.ref D) H1) : LB (ItM K a b) g tt te vs σ H Q :=
  fun D hD => lc_it (walk_zipM (xs := xs) (ys := ys) (n := xs.length) (by omega)) (Pv D) (h0 D hD) (hq D hD) (fun i x H1 H2 _ p y => by
    obtain ⟨T, u, v, rfl, hT, rfl, e1, e2⟩ := y
    exact hs D hD i u v T H1 _ e1 e2 p hT (same_upd hT) upd_same) (hd D hD)
theorem ne_new {H : Hp} {a p : Addr} {o : HO} (e : H a = some o) (n : H p = none) : p ≠ a := fun z => by rw [z, e] at n; cases n
theorem keepU {H : Hp} {a p : Addr} {o o' : HO} (e : H p = some o) (n : p ≠ a) : (upd H a o') p = some o := by rw [upd_ne n]; exact e
end
end Ct
/-! zip of two lists -/
namespace Ct
open PySem PySem.Spec PyProof.Rows L2
section
variable {K : PySem.W.Frag} {H : Hp} {σ : L2.St} {D : Ends} {R : It → Hp → Prop} {a b : Addr} {xs ys : List V}
def IZw (K : PySem.W.Frag) (vs : List V) (H : Hp) (R : It → Hp → Prop) : Prop := iZip K (fun _ H Q => Q vs H) [] H R
theorem w_izipw {ta : TA} (h : ta σ H fun vs H1 => IZw K vs H1 R) : iZip K ta σ H R := h
theorem w_IZw (h1 : SqL K H a xs) (h2 : SqL K H b ys) (q : R (Itz K a b) H) : IZw K [.ref a, .ref b] H R := ⟨a, b, xs, ys, rfl, h1, h2, q⟩
theorem fb_zipw (xs ys : List V) (hl : xs.length = ys.length) {g : TG} {tb : TS} (Pv : Nat → L2.St → Hp → Prop) (h0 : Pv 0 σ H) (hq : ∀ i σ H, i ≤ xs.length → Pv i σ H → SqL K H a xs ∧ SqL K H b ys)
    (hs : ∀ i x y T σ H G, xs[i]? = some x → ys[i]? = some y → Pv i σ H → H T = none → Same H G → G T = some (.tup [x, y]) → g (.ref T) σ G fun σ2 H2 => tb { D with nx := Pv (i + 1), ct := Pv (i + 1), bk := D.nx } σ2 H2) (hd : ∀ σ H, Pv xs.length σ H → D.nx σ H) : FB (Itz K a b) g tb D σ H :=
  for_it (walk_zip (xs := xs) (ys := ys) (n := xs.length) (by omega)) Pv h0 hq (fun i x σ H H' _ p y => by
    obtain ⟨T, u, v, rfl, hT, rfl, e1, e2⟩ := y
    exact hs i u v T σ H _ e1 e2 p hT (same_upd hT) upd_same) hd
end
end Ct

/-! what stays but for one object -/
namespace Ct
open PySem PySem.Spec PyProof.Rows L2
/-- all that was tracked stays, but for what lies at k -/
def But (k : Addr) (H H' : Hp) : Prop := ∀ a o, a ≠ k → H a = some o → H' a = some o
theorem but_same {k : Addr} {H H' : Hp} (s : Same H H') : But k H H' := fun a o _ h => s a o h
theorem But.refl {k : Addr} {H : Hp} : But k H H := fun _ _ _ h => h
theorem But.trans {k : Addr} {H H1 H2 : Hp} (a : But k H H1) (b : But k H1 H2) : But k H H2 := fun c o n h => b c o n (a c o n h)
theorem but_upd {k : Addr} {H : Hp} {o : HO} : But k H (upd H k o) := fun c u n h => by rw [upd_ne n]; exact h
theorem But.same {k : Addr} {H H1 H2 : Hp} (hk : H k = none) (s : Same H H1) (b : But k H1 H2) : Same H H2 := fun c o h => b c o (fun e => by rw [e, hk] at h; cases h) (s c o h)
def Ext (H : Hp) (k : Addr) : Prop := ∃ f, H k = some (.ext f)
theorem but_tup {K : PySem.W.Frag} {k a : Addr} {H H' : Hp} {xs : List V} (x : Ext H k) (e : But k H H') (h : SqT K H a xs) : SqT K H' a xs := by
  obtain ⟨f, x⟩ := x
  rcases h with (h | ⟨o, h⟩) | h
  · exact .inl (.inl (e _ _ (fun z => by rw [z, x] at h; cases h) h))
  · exact .inl (.inr ⟨o, e _ _ (fun z => by rw [z, x] at h; cases h) h⟩)
  · exact .inr h
theorem but_seq {K : PySem.W.Frag} {k a : Addr} {H H' : Hp} {xs : List V} (x : Ext H k) (e : But k H H') (h : SqL K H a xs) : SqL K H' a xs := by
  obtain ⟨f, x⟩ := x
  rcases h with (h | ⟨o, h⟩) | h
  · exact .inl (.inl (e _ _ (fun z => by rw [z, x] at h; cases h) h))
  · exact .inl (.inr ⟨o, e _ _ (fun z => by rw [z, x] at h; cases h) h⟩)
  · exact .inr h
mutual
theorem dp_but {K : PySem.W.Frag} {H H' : Hp} {k : Addr} (x : Ext H k) (e : But k H H') : ∀ {v : V} {d : PyData}, Dp K H v d → Dp K H' v d
  | _, _, .non => .non
  | _, _, .bl b => .bl b
  | _, _, .int i => .int i
  | _, _, .str x => .str x
  | _, _, .lst h t => .lst (but_seq x e h) (dpAll_but x e t)
  | _, _, .tup h t => .tup (but_tup x e h) (dpAll_but x e t)
theorem dpAll_but {K : PySem.W.Frag} {H H' : Hp} {k : Addr} (x : Ext H k) (e : But k H H') : ∀ {vs : List V} {ds : List PyData}, DpAll K H vs ds → DpAll K H' vs ds
  | _, _, .nil => .nil
  | _, _, .cons h t => .cons (dp_but x e h) (dpAll_but x e t)
end
theorem TrainAt.but {K : PySem.W.Frag} {H H' : Hp} {k a : Addr} {ps : List Part} (x : Ext H k) (e : But k H H') : TrainAt K H a ps → TrainAt K H' a ps
  | ⟨vs, h1, h2⟩ => ⟨vs, but_seq x e h1, dpAll_but x e h2⟩
end Ct

/-! all(.. for .. in ..), any(.. for .. in ..): the generator's own frame -/
namespace Ct
open PySem PySem.Spec PyProof.Rows L2 GenW
/-- the table of a def's code objects, whatever it holds -/
def TabX (P : Addr) : HO := .ext fun h => ∃ ps : Array Value, h.get? P = some { cls := .none, data := .fields ps } ∧ TriplesOk ps.toList
theorem over_gen {A : Around} {elt : Expr} {gs : List Comprehension} {scope : Scope} {pos : Pos} {it acc : Value} {env : Env} : A.over (.compLoop (.GeneratorExp elt gs scope pos) 0 it acc env) [] = A.deeper env := by
  first
    | rfl
    | (obtain ⟨hd, d, fr, gu, u⟩ := A; simp [Around.over, Around.deeper, marksOver, frameCount, unitsOf, envsOf, guardsOf, pushEnvs, pushGuards, Code.envs, Code.env?, Code.isFrame, Code.guards, Code.isGuard, Code.weight, Code.frames, Code.isCreation, Code.isCaller, Code.cUnits])
theorem over_genS {A : Around} {elt : Expr} {gs : List Comprehension} {scope : Scope} {pos : Pos} {it acc : Value} {env : Env} : A.over (.compStart (.GeneratorExp elt gs scope pos) 0 it acc env) [] = A.deeper env := by
  first
    | rfl
    | (obtain ⟨hd, d, fr, gu, u⟩ := A; simp [Around.over, Around.deeper, marksOver, frameCount, unitsOf, envsOf, guardsOf, pushEnvs, pushGuards, Code.envs, Code.env?, Code.isFrame, Code.guards, Code.isGuard, Code.weight, Code.frames, Code.isCreation, Code.isCaller, Code.cUnits])
section
variable {X : Cx} {pins : List (Addr × Obj)} {σ : L2.St} {H : Hp} {s : Shared}
theorem tabx_ok {P0 : Program} {w : World} {H : Hp} {h : Heap} {P : Addr} {ps : Array Value} (hm : h.get? P = some { cls := .none, data := .fields ps }) (ht : TriplesOk ps.toList) : ObjOk P0 w H h P (TabX P) :=
  ⟨⟨ps, hm, ht⟩, ⟨_, hm⟩, fun h1 h2 ⟨qs, a, b⟩ st => ⟨qs, st _ a, b⟩⟩
/-- the table has grown, all else is kept -/
theorem inv_tabX {P : Addr} {ps : Array Value} {h' : Heap} {g' : Array GenState} {d' : Drawn} {t' : Nat} (I : Inv X pins σ H s) (hP : H P = some (TabX P)) (k : ∀ b o, b ≠ P → s.heap.get? b = some o → h'.get? b = some o)
    (hm : h'.get? P = some { cls := .none, data := .fields ps }) (ht : TriplesOk ps.toList) (hg : AllBare g') : Inv X pins σ H { s with heap := h', gens := g', drawn := d', toks := t' } := by
  have nP : ∀ b u, H b = some u → u ≠ TabX P → b ≠ P := fun b u e q z => by
    rw [z, hP] at e
    exact q (Option.some.inj e).symm
  have nN : ∀ b, H b = none → b ≠ P := fun b e z => by
    rw [z, hP] at e
    cases e
  refine I.step (g' := g') (d' := d') (ch := []) (fun b hb => absurd hb (by simp)) (fun b o _ _ _ e n => k b o (nN b n) e) (fun b o _ _ _ e n => ⟨o.slots, k b o (nN b n) e⟩)
    (fun b o _ e n => n) (fun b o _ e => ?_) (fun b xs e => e) (fun b o u e => e) (fun b qs e => ⟨#[], by rw [e]; simp⟩) (fun m hn => ?_) (fun b u e => ?_) hg
  · by_cases hb : b = P
    · rw [hb]
      exact ⟨_, hm⟩
    · exact ⟨o, k b o hb e⟩
  · obtain ⟨ob, es, ep, ho, r⟩ := hn
    exact ⟨ob, es, ep, k _ ob (nN _ I.free) ho, r⟩
  · by_cases hb2 : b = P
    · rw [hb2, hP] at e
      cases e
      rw [hb2]
      exact tabx_ok hm ht
    · refine (I.hok b u e).stay (fun d v hd q => k d v ?_ q) (fun d q => q) fun d xs q => q
      rcases hd with z | z
      · rw [z]
        exact hb2
      · exact nP d _ z (fun q => by unfold TabX at q; cases q)
/-- the context of a generator expression's frame: its iterator's objects at fp, what stands at pn -/
abbrev gxc (X : Cx) (B : Around) (s : Shared) (H : Hp) (scope : Scope) (cenv : Env) (fp : List Addr) (pn : List (Addr × Obj)) : Cx :=
  { X with A := B.deeper cenv, s_0 := s, H_0 := H, env := cenv, outer := X.stack, stack := cenv :: X.stack, ex := fp, fn := fun x => scope.names.lookup x == some .cell, pn := pn, xe := fun _ _ => False }
theorem lookup_clo {cells : List (Str × Addr)} {names : List (Str × NameKind)} {y : Str} {c : Addr} (e : (cloFrom cells names []).lookup y = some c) : (y, NameKind.free) ∈ names ∧ c = (cells.lookup y).getD 0 := by
  rcases cloFrom_mem (PySem.mem_of_lookup e) with z | z
  · cases z
  · exact z
/-- the frame is made -/
theorem gx_start {B : Around} {scope : Scope} {own : List (Str × Nat)} {fp : List Addr} {code : Value} {itv : Value} {h5 : Heap} {g5 : Array GenState} {t5 : Nat} {d5 : Drawn} {a : Addr} {go : Obj}
    (I : Inv X pins σ H s) (hB : B.frames = some X.stack) (hBh : B.handled = none) (ok : BlkOk X.N X.env.scope scope own) (hN : X.N.Nodup) (hcell : ∀ y ∈ scope.names, y.2 ≠ .cell) (hfp : ∀ b ∈ fp, FpOk X pins H b ∧ b < s.heap.objs.size)
    (hns : h5.Ns s.heap.objs.size (fun y => if y = ".0" then some itv else none)) (kp : ∀ b o, s.heap.get? b = some o → h5.get? b = some o)
    (ha : s.heap.objs.size < a) (hgo : h5.get? a = some go) (hgc : ∀ v, go.data ≠ .cell v) (hg5 : AllBare g5) :
    Inv (gxc X B s H scope (genEnv scope (cloFrom X.env.cells scope.names []) s.heap.objs.size code builtinsNs X.env) fp [(a, go)]) [] (wipe σ (own.map (·.2))) H { s with heap := h5, gens := g5, toks := t5, drawn := d5 } := by
  have hfree : ∀ y ∈ scope.names, y.2 = .free → ∃ c, X.env.cells.lookup y.1 = some c := fun y hy e => by
    rcases ok.free y hy e with k | k
    · exact I.ok.has _ (.inl k)
    · exact I.ok.has _ (.inr k)
  generalize hcenv : genEnv scope (cloFrom X.env.cells scope.names []) s.heap.objs.size code builtinsNs X.env = cenv
  have hL : cenv.locals = s.heap.objs.size := by rw [← hcenv]; rfl
  have hcl : cenv.cells = cloFrom X.env.cells scope.names [] := by rw [← hcenv]; rfl
  have hsc : cenv.scope = scope := by rw [← hcenv]; rfl
  have mem : ∀ {y c}, cenv.cells.lookup y = some c → X.env.cells.lookup y = some c ∧ c < s.heap.objs.size := fun {y c} e => by
    rw [hcl] at e
    obtain ⟨h1, rfl⟩ := lookup_clo e
    obtain ⟨c, hc⟩ := hfree _ h1 rfl
    rw [hc]
    obtain ⟨w, z⟩ := I.cell _ _ hc
    exact ⟨rfl, z.lt⟩
  have look : ∀ {y}, scope.names.lookup y = some .free → ∃ c, cenv.cells.lookup y = some c ∧ X.env.cells.lookup y = some c := fun {y} hl => by
    have hy : (y, NameKind.free) ∈ scope.names := PySem.mem_of_lookup hl
    obtain ⟨c', e'⟩ := mem_lookup (cloFrom_has (cells := X.env.cells) (acc := []) hy)
    rw [← hcl] at e'
    exact ⟨c', e', (mem e').1⟩
  have okB : (gxc X B s H scope cenv fp [(a, go)]).Ok := by
    refine ⟨I.ok.mod, by show cenv.scope.kind = _; rw [hsc]; exact ok.kind, by show cenv.globals = _; rw [← hcenv]; exact I.ok.glob, by show cenv.builtins = _; rw [← hcenv]; rfl, by show s.heap.objs.size ≤ cenv.locals; rw [hL]; exact Nat.le_refl _,
      fun y z c e1 e2 => I.ok.inj y z c (mem e1).1 (mem e2).1, fun y hy => ?_, fun y c z e => ?_, fun _ => hBh, Around.frames_deeper hB, .inr ⟨rfl, ?_⟩, fun b hb => ⟨?_, fun y c e z => ?_⟩, I.bs, Nat.le_trans I.ok.bsz I.sz, fun b o e hb => ?_, fun b hb z => ?_, I.stack, I.stkFree⟩
    · have hy : cenv.scope.names.lookup y = some .cell ∨ cenv.scope.names.lookup y = some .free := hy
      rw [hsc] at hy
      rcases hy with hy | hy
      · exact absurd rfl (hcell _ (PySem.mem_of_lookup hy))
      · obtain ⟨c, h1, _⟩ := look hy
        exact ⟨c, h1⟩
    · have z : (scope.names.lookup y == some NameKind.cell) = true := z
      have z : scope.names.lookup y = some .cell := by simpa using z
      exact absurd rfl (hcell _ (PySem.mem_of_lookup z))
    · show cenv.frame = some cenv.locals
      rw [← hcenv]
      rfl
    · show b ≠ cenv.locals
      rw [hL]
      exact Nat.ne_of_lt (hfp b hb).2
    · exact (hfp b hb).1.2.2.2.2.1 y c (mem e).1 z
    · rcases (hfp b hb).1.2.2.2.1 with z | z
      · exact I.ok.noex b o e z
      · exact absurd (Nat.lt_of_lt_of_le (Heap.lt_size e) (Nat.le_trans I.ok.bsz z)) (Nat.lt_irrefl _)
    · rcases List.mem_cons.mp (I.stkSub b z) with z | z
      · exact (hfp b hb).1.2.1 z
      · exact (hfp b hb).1.2.2.1 z
  refine ⟨okB, rfl, hg5, Un.kept kp, ⟨fun y => if y = ".0" then some itv else none, ?_, fun i y av e1 e2 e3 => ?_⟩, fun y c e => ?_, ?_, fun y c e => ?_, fun p hp => ?_, I.hok.kept kp, by rw [wipe_length]; exact I.len⟩
  · show Heap.Ns _ cenv.locals _
    rw [hL]
    exact hns
  · obtain ⟨e2, hne⟩ := wipe_some e2
    have hfr : scope.names.lookup y = some .free := by
      have e3 : Vis cenv.scope y := e3
      rw [hsc] at e3
      have no : ∀ k, scope.names.lookup y = some k → ¬ (k = .local ∨ k = .cell) := fun k e hh => by
        rcases ok.own _ (PySem.mem_of_lookup e) hh with e' | e'
        · obtain ⟨p, hp, hpy⟩ := List.mem_map.mp e'
          have e3 := ok.ix p hp
          have : p.1 = y := hpy
          rw [this] at e3
          exact hne (List.mem_map.mpr ⟨p, hp, nodup_ix hN e3 e1⟩)
        · exact e' (List.mem_of_getElem? e1)
      rcases e3 with e3 | e3 | e3
      · exact absurd (.inl rfl) (no _ e3)
      · exact absurd (.inr rfl) (no _ e3)
      · exact e3
    obtain ⟨m, hn, hl⟩ := I.loc
    have hvis : Vis X.env.scope y := (ok.free _ (PySem.mem_of_lookup hfr) rfl).elim (fun k => .inr (.inl k)) (fun k => .inr (.inr k))
    obtain ⟨w, r, q⟩ := hl i y av e1 e2 hvis
    refine ⟨w, r, .inr ⟨.inr (by show cenv.scope.names.lookup y = _; rw [hsc]; exact hfr), ?_⟩⟩
    obtain ⟨c, h1, h2⟩ := look hfr
    rcases q with ⟨k, _⟩ | ⟨_, c', e', z⟩
    · have k : X.env.scope.names.lookup y = some .local := k
      rcases ok.free _ (PySem.mem_of_lookup hfr) rfl with k' | k' <;> rw [show X.env.scope.names.lookup y = _ from k'] at k <;> cases k
    · rw [h2] at e'
      cases e'
      exact ⟨c, h1, z.keeps kp⟩
  · obtain ⟨w, z⟩ := I.cell y c (mem e).1
    exact ⟨w, z.keeps kp⟩
  · show H cenv.locals = none
    rw [hL]
    exact I.hok.fresh (Nat.le_refl _)
  · exact I.freeC y c (mem e).1
  · have hp : p ∈ [(a, go)] ++ [] := hp
    rw [List.append_nil, List.mem_singleton] at hp
    subst hp
    refine ⟨hgo, I.hok.fresh (Nat.le_of_lt ha), ?_, ?_, hgc⟩
    · show a ≠ cenv.locals
      rw [hL]
      exact Nat.ne_of_gt ha
    · show a ∉ frs X.stack
      intro z
      rcases List.mem_cons.mp (I.stkSub a z) with z | z
      · have h1 := I.lt
        rw [← z] at h1
        exact Nat.lt_irrefl _ (Nat.lt_trans h1 ha)
      · exact I.nofs (Nat.le_of_lt ha) z
end
end Ct
namespace Ct
open PySem PySem.Spec PyProof.Rows L2 GenW
section
variable {X : Cx}
/-- what is known where the whole is done: b the answer -/
def GFin (P : Program) (w : World) (fr fp : List Addr) (H4 : Hp) (h4 : Heap) (Q : VK) (b : Bool) (h : Heap) : Prop := ∃ H', Un fr fp H4 H' h4 h ∧ HOk P w H' h ∧ Q (.bl b) H'
def GDone (P : Program) (w : World) (fr fp : List Addr) (H4 : Hp) (s4 : Shared) (Q : VK) (st : Bool) : Nat → Shared → Shared → Prop := fun _ _ s1 => s1.os = s4.os ∧ AllBare s1.gens ∧ GFin P w fr fp H4 s4.heap Q (!st) s1.heap
/-- the generator hands out a truth: the one that ends the walk, or another one, and goes on -/
def GYld (P : Program) (w : World) (fr fp : List Addr) (H4 : Hp) (s4 : Shared) (Q : VK) (st : Bool) (a : Addr) (g : Nat) : Protocol := fun _ _ v s1 kap =>
  ∃ b, v = .bool b ∧ s1.os = s4.os ∧ AllBare s1.gens ∧ s1.heap.NoLimit ∧ s1.heap.IsGen a g ∧ (if b = st then GFin P w fr fp H4 s4.heap Q st s1.heap else ∀ s' : Shared, s'.heap = s1.heap → s'.os = s1.os → AllBare s'.gens → kap (.send .none) s')
/-- all(..) with st = false, any(..) with st = true -/
def tGen (P : Addr) (st : Bool) (wi : TI) (g : TG) (te : TE) (vs : List Nat) : TE := fun σ H Q => wi σ H fun J H1 => H1 P = some (TabX P) ∧ ∃ W : Nat → Nat → Hp → Prop, (∃ m, W 0 m H1) ∧ ∀ i m H, W i m H →
  (J.stop i H ∧ Q (.bl (!st)) H) ∨ (J.go i H ∧ ∃ Nx : Hp → Prop, (∀ H', Nx H' → ∃ m', m' < m ∧ W (i + 1) m' H') ∧ ∀ x H', J.yld i H x H' → g x (wipe σ vs) H' fun σ2 H2 => wipe σ2 vs = wipe σ vs ∧ te σ2 H2 fun y H3 => ∃ b, y = .bl b ∧ if b = st then Q (.bl st) H3 else Nx H3)

theorem seg_gx {B : Around} {scope : Scope} {own : List (Str × Nat)} {fp : List Addr} {s4 : Shared} {H4 : Hp} {cenv : Env} {a : Addr} {go : Obj} {gn : Nat} {elt tg iter : Expr} {pos : Pos} {it : Addr} {tn : Nat → Heap → Prop} {J : It} {g : TG} {te : TE} {σ : L2.St} {Q : VK} {st : Bool} {W : Nat → Nat → Hp → Prop}
    (hc : X.calm = true) (hco : cenv.scope.isCoroutine = false) (hgn : ∀ h : Heap, h.get? a = some go → h.IsGen a gn)
    (T : Turn X.prog X.w X.K tg J fp it tn) (pg : PG (gxc X B s4 H4 scope cenv fp [(a, go)]) tg g) (pe : PE (gxc X B s4 H4 scope cenv fp [(a, go)]) elt te) (hfa : ∀ b ∈ fp, b ≠ a)
    (turn : ∀ i m H, W i m H → (J.stop i H ∧ Q (.bl (!st)) H) ∨ (J.go i H ∧ ∃ Nx : Hp → Prop, (∀ H', Nx H' → ∃ m', m' < m ∧ W (i + 1) m' H') ∧ ∀ x H', J.yld i H x H' → g x (wipe σ (own.map (·.2))) H' fun σ2 H2 => wipe σ2 (own.map (·.2)) = wipe σ (own.map (·.2)) ∧ te σ2 H2 fun y H3 => ∃ b, y = .bl b ∧ if b = st then Q (.bl st) H3 else Nx H3)) :
    ∀ (m n : Nat), m < n → ∀ (i : Nat) (s₀ s : Shared) (H : Hp), W i m H → Inv (gxc X B s4 H4 scope cenv fp [(a, go)]) [] (wipe σ (own.map (·.2))) H s → tn i s.heap → (∀ b ∈ fp, H b = none) →
      Seg (model X.prog X.w) B (fun n s₀ r s₁ => r = .ok .next ∧ GDone X.prog X.w (frs X.stack) fp H4 s4 Q st n s₀ s₁) (GYld X.prog X.w (frs X.stack) fp H4 s4 Q st a gn) n s₀
        (.compLoop (.GeneratorExp elt [⟨tg, iter, [], 0⟩] scope pos) 0 (.ref it) .none cenv)
        ((model X.prog X.w).den (.compLoop (.GeneratorExp elt [⟨tg, iter, [], 0⟩] scope pos) 0 (.ref it) .none cenv)) [] s := by
  intro m
  induction m using Nat.strongRecOn with
  | ind m ih =>
    intro n hmn i s₀ s H w I st5 n5
    have stat : ∀ {σ' : L2.St} {H' : Hp} {s' : Shared}, Inv (gxc X B s4 H4 scope cenv fp [(a, go)]) [] σ' H' s' → (∀ b ∈ fp, H' b = none) → ∀ b ∈ fp, FpOk (gxc X B s4 H4 scope cenv fp [(a, go)]) [] H' b := fun {σ' H' s'} I' hn b hb =>
      ⟨hn b hb, (I'.ok.exf b hb).1, I'.ok.exfs b hb, .inl hb, fun x c e => (I'.ok.exf b hb).2 x c e, fun p hp => by
        have hp : p ∈ [(a, go)] ++ [] := hp
        rw [List.append_nil, List.mem_singleton] at hp
        subst hp
        exact fun z => hfa b hb z.symm⟩
    have pinned : ∀ {pins' : List (Addr × Obj)} {σ' : L2.St} {H' : Hp} {s' : Shared}, Inv (gxc X B s4 H4 scope cenv fp [(a, go)]) pins' σ' H' s' → s'.heap.IsGen a gn := fun {pins' σ' H' s'} I' =>
      hgn _ (I'.pin (a, go) (List.mem_append_left _ (List.mem_singleton.mpr rfl))).1
    show Seg _ B _ _ _ s₀ _ ((compTurn (.GeneratorExp elt [⟨tg, iter, [], 0⟩] scope pos) 0 (.ref it) .none cenv).onRaise (leaving cenv)) [] s
    rw [compTurn_gen, Sem.onRaise_eq_wrap]
    refine seg_bind_wrap (wpAny_standAt ?_)
    rcases turn i m H w with ⟨stop, qq⟩ | ⟨goes, Nx, hNx, step⟩
    · refine seg_bind_wrap ?_
      rw [over_gen]
      refine wpAny_mono (T.done (gxc X B s4 H4 scope cenv fp [(a, go)]) rfl rfl rfl hc i [] s _ H (fun _ _ => False) I (stat I n5) st5 stop) (fun r s6 hr => ?_) (fun _ _ z => z.elim)
      obtain ⟨rfl, I6⟩ := hr
      exact seg_end (.ok .next) ⟨rfl, I6.os, I6.bare, H, I6.base, I6.hok, qq⟩
    · refine seg_bind_wrap ?_
      rw [over_gen]
      refine wpAny_mono (T.item (gxc X B s4 H4 scope cenv fp [(a, go)]) rfl rfl rfl hc i [] s _ H (fun _ _ => False) I (stat I n5) st5 goes) (fun r s6 hr => ?_) (fun _ _ z => z.elim)
      obtain ⟨u, rfl, h6⟩ := hr
      refine seg_bind_wrap ?_
      rw [over_gen]
      refine wpAny_mono h6 (fun _ s7 h7 => ?_) (fun _ _ z => z.elim)
      obtain ⟨x, H7, I7, r7, y7, st7, n7⟩ := h7
      have I7' := I7.pinned (stat I7 n7) (T.obj _ _ st7)
      refine seg_bind_wrap ?_
      rw [over_gen]
      refine wpAny_mono (pg.run _ s7 _ H7 x u _ I7' r7 (step x H7 y7)) (fun _ s8 h8 => ?_) (fun _ _ z => z.elim)
      obtain ⟨σ8, H8, I8, hw8, q8⟩ := h8
      refine seg_bind_wrap (wpAny_tests_nil ?_)
      simp only [if_true]
      have hy : ∀ v, yieldOut cenv v = yieldValue v := fun v => by simp only [yieldOut, hco, Bool.false_eq_true, if_false]
      simp only [hy]
      rw [Sem.bind_eq_wrap', Sem.bind_eq_wrap', Sem.wrap_wrap, Sem.wrap_wrap]
      refine seg_wrap ?_
      rw [over_gen]
      refine wpAny_mono (pe.run _ s8 σ8 H8 _ I8 q8) (fun z s9 h9 => ?_) (fun _ _ z => z.elim)
      obtain ⟨y, H9, I9, r9, b, rfl, q9⟩ := h9
      have r9 : z = Value.bool b := r9
      subst r9
      have hlim : s9.heap.NoLimit := I9.nolimit
      by_cases hb : b = st
      · obtain ⟨k, rfl⟩ : ∃ k, n = k + 1 := ⟨n - 1, by omega⟩
        rw [if_pos hb] at q9
        refine seg_at (seg_yield rfl rfl rfl ⟨b, rfl, I9.os, I9.bare, hlim, pinned I9, ?_⟩)
        rw [if_pos hb]
        exact ⟨H9, I9.base, I9.hok, q9⟩
      · rw [if_neg hb] at q9
        obtain ⟨m', hm, w'⟩ := hNx H9 q9
        obtain ⟨k, rfl⟩ : ∃ k, n = k + 1 := ⟨n - 1, by omega⟩
        refine seg_at (seg_yield rfl rfl rfl ⟨b, rfl, I9.os, I9.bare, hlim, pinned I9, ?_⟩)
        rw [if_neg hb]
        intro s' e1 e2 e3
        have pin' : ∀ b ∈ fp, ∀ o, s7.heap.get? b = some o → s9.heap.get? b = some o ∧ H9 b = none := fun b hb o e =>
          let z := I9.pin (b, o) (List.mem_append_right _ (List.mem_append_right _ (mem_pinsAt hb e)))
          ⟨z.1, z.2.1⟩
        have hl : (wipe σ (own.map (·.2))).length = σ8.length := by rw [← hw8, wipe_length]
        have I10 : Inv (gxc X B s4 H4 scope cenv fp [(a, go)]) [] (wipe σ (own.map (·.2))) H9 s9 := (I9.unpinned (pins := [])).weak hl (fun j v e => by
          rw [← hw8] at e
          exact (wipe_some e).1)
        have I11 : Inv (gxc X B s4 H4 scope cenv fp [(a, go)]) [] (wipe σ (own.map (·.2))) H9 s' := by
          refine I10.call' (ch := []) e2 (Un.kept fun b o e => by rw [e1]; exact e) (by rw [e1]; exact I10.hok) e3 fun b z => by simp at z
        refine seg_again rfl (ih m' hm k (by omega) (i + 1) s' s' H9 w' I11 ?_ fun b hb => ?_)
        · rw [e1]
          exact T.keep _ _ _ st7 fun b hb o e => (pin' b hb o e).1
        · obtain ⟨o, e, _⟩ := T.obj _ _ st7 b hb
          exact (pin' b hb o e).2
end
end Ct
namespace Ct
open PySem PySem.Spec PyProof.Rows L2 GenW
section
variable {P : Program} {w : World} {A : Around} {fr fp : List Addr} {H4 : Hp} {s4 : Shared} {Q : VK} {a : Addr} {g : Nat} {R : Result → Shared → Prop}
theorem all_gx (hh : A.handled = none) (hd : A.depth < recursionLimit) (hend : ∀ b (s' : Shared), s'.os = s4.os → AllBare s'.gens → GFin P w fr fp H4 s4.heap Q b s'.heap → R (.ok (.ret (.bool b))) s') :
    ∀ (m : Nat) (s : Shared), s.heap.IsGen a g → s.heap.NoLimit →
      (∃ gs, s.gens[g]? = some gs ∧ gs.Goes (model P w) A.in1.in1 (fun n s₀ r s₁ => r = .ok .next ∧ GDone P w fr fp H4 s4 Q false n s₀ s₁) (GYld P w fr fp H4 s4 Q false a g) m (.send .none) (s.setGen g .running)) →
      codeAny (model P w) A (.builtin "all.loop" ⟨[.ref a], []⟩) R s := by
  intro m
  induction m with
  | zero =>
    intro s hg hl ⟨gs, hgs, hgo⟩
    refine codeAny_builtin F.entry_all_loop ?_
    rw [Around.under_plainId F.plain_all_loop _]
    show wpAny _ A.in1 (pyNext (.ref a) >>= _) _ _ s
    refine wpAny_bind (wpAny_pyNext_genexpQ (A := A.in1) hh hl hd hg hgs hgo (fun v s₁ gs' hbare hv => ?_) (fun s₁ hp h' hk => ?_))
    · obtain ⟨b, rfl, os1, hb1, hl1, hg1, q⟩ := hv
      refine wpAny_bind (wpAny_holding (wpAny_truthy_bool ?_))
      refine wpAny_bind (wpAny_letGo ?_)
      by_cases hb : b = false
      · rw [if_pos hb] at q
        subst hb
        simp only [Bool.false_eq_true, if_false]
        refine wpAny_bind (wpAny_rule (wpAny_pure ?_))
        exact hend false _ os1 (allBare_setGen hb1 hbare) q
      · rw [if_neg hb] at q
        exact False.elim (q s₁ rfl rfl hb1)
    · obtain ⟨os1, hb1, H', un, hok, hQ⟩ := hp
      refine wpAny_bind (wpAny_rule (wpAny_pure ?_))
      exact hend true _ os1 (allBare_setGen hb1 rfl) ⟨H', un.trans (Un.kept hk), hok.kept hk, hQ⟩
  | succ m ih =>
    intro s hg hl ⟨gs, hgs, hgo⟩
    have hgl : g < s.gens.size := (Array.getElem?_eq_some_iff.mp hgs).1
    refine codeAny_builtin F.entry_all_loop ?_
    rw [Around.under_plainId F.plain_all_loop _]
    show wpAny _ A.in1 (pyNext (.ref a) >>= _) _ _ s
    refine wpAny_bind (wpAny_gsz (n := g + 1) hgl (wpAny_pyNext_genexpQ (A := A.in1) hh hl hd hg hgs hgo (fun v s₁ gs' hbare hv => ?_) (fun s₁ hp h' hk => ?_)))
    · intro hsz
      obtain ⟨b, rfl, os1, hb1, hl1, hg1, q⟩ := hv
      refine wpAny_bind (wpAny_holding (wpAny_truthy_bool ?_))
      refine wpAny_bind (wpAny_letGo ?_)
      have hsz1 : g < s₁.gens.size := by
        have q : (s₁.setGen g gs').gens.size = s₁.gens.size := setGen_size _ _ _
        have hsz' : g + 1 ≤ (s₁.setGen g gs').gens.size := hsz
        omega
      by_cases hb : b = false
      · rw [if_pos hb] at q
        subst hb
        simp only [Bool.false_eq_true, if_false]
        refine wpAny_bind (wpAny_rule (wpAny_pure ?_))
        exact hend false _ os1 (allBare_setGen hb1 hbare) q
      · rw [if_neg hb] at q
        have hb2 : b = true := by
          cases b with
          | true => rfl
          | false => exact absurd rfl hb
        subst hb2
        simp only [if_true]
        refine wpAny_pure ⟨plainId_quiet F.plain_all_loop _, ?_⟩
        exact ih (s₁.setGen g gs') hg1 hl1 ⟨gs', setGen_at hsz1, q _ rfl rfl (allBare_setGen (allBare_setGen hb1 hbare) rfl)⟩
    · intro _
      obtain ⟨os1, hb1, H', un, hok, hQ⟩ := hp
      refine wpAny_bind (wpAny_rule (wpAny_pure ?_))
      exact hend true _ os1 (allBare_setGen hb1 rfl) ⟨H', un.trans (Un.kept hk), hok.kept hk, hQ⟩
theorem any_gx (hh : A.handled = none) (hd : A.depth < recursionLimit) (hend : ∀ b (s' : Shared), s'.os = s4.os → AllBare s'.gens → GFin P w fr fp H4 s4.heap Q b s'.heap → R (.ok (.ret (.bool b))) s') :
    ∀ (m : Nat) (s : Shared), s.heap.IsGen a g → s.heap.NoLimit →
      (∃ gs, s.gens[g]? = some gs ∧ gs.Goes (model P w) A.in1.in1 (fun n s₀ r s₁ => r = .ok .next ∧ GDone P w fr fp H4 s4 Q true n s₀ s₁) (GYld P w fr fp H4 s4 Q true a g) m (.send .none) (s.setGen g .running)) →
      codeAny (model P w) A (.builtin "any.loop" ⟨[.ref a], []⟩) R s := by
  intro m
  induction m with
  | zero =>
    intro s hg hl ⟨gs, hgs, hgo⟩
    refine codeAny_builtin F.entry_any_loop ?_
    rw [Around.under_plainId F.plain_any_loop _]
    show wpAny _ A.in1 (pyNext (.ref a) >>= _) _ _ s
    refine wpAny_bind (wpAny_pyNext_genexpQ (A := A.in1) hh hl hd hg hgs hgo (fun v s₁ gs' hbare hv => ?_) (fun s₁ hp h' hk => ?_))
    · obtain ⟨b, rfl, os1, hb1, hl1, hg1, q⟩ := hv
      refine wpAny_bind (wpAny_holding (wpAny_truthy_bool ?_))
      refine wpAny_bind (wpAny_letGo ?_)
      by_cases hb : b = true
      · rw [if_pos hb] at q
        subst hb
        simp only [if_true]
        refine wpAny_bind (wpAny_rule (wpAny_pure ?_))
        exact hend true _ os1 (allBare_setGen hb1 hbare) q
      · rw [if_neg hb] at q
        exact False.elim (q s₁ rfl rfl hb1)
    · obtain ⟨os1, hb1, H', un, hok, hQ⟩ := hp
      refine wpAny_bind (wpAny_rule (wpAny_pure ?_))
      exact hend false _ os1 (allBare_setGen hb1 rfl) ⟨H', un.trans (Un.kept hk), hok.kept hk, hQ⟩
  | succ m ih =>
    intro s hg hl ⟨gs, hgs, hgo⟩
    have hgl : g < s.gens.size := (Array.getElem?_eq_some_iff.mp hgs).1
    refine codeAny_builtin F.entry_any_loop ?_
    rw [Around.under_plainId F.plain_any_loop _]
    show wpAny _ A.in1 (pyNext (.ref a) >>= _) _ _ s
    refine wpAny_bind (wpAny_gsz (n := g + 1) hgl (wpAny_pyNext_genexpQ (A := A.in1) hh hl hd hg hgs hgo (fun v s₁ gs' hbare hv => ?_) (fun s₁ hp h' hk => ?_)))
    · intro hsz
      obtain ⟨b, rfl, os1, hb1, hl1, hg1, q⟩ := hv
      refine wpAny_bind (wpAny_holding (wpAny_truthy_bool ?_))
      refine wpAny_bind (wpAny_letGo ?_)
      have hsz1 : g < s₁.gens.size := by
        have q : (s₁.setGen g gs').gens.size = s₁.gens.size := setGen_size _ _ _
        have hsz' : g + 1 ≤ (s₁.setGen g gs').gens.size := hsz
        omega
      by_cases hb : b = true
      · rw [if_pos hb] at q
        subst hb
        simp only [if_true]
        refine wpAny_bind (wpAny_rule (wpAny_pure ?_))
        exact hend true _ os1 (allBare_setGen hb1 hbare) q
      · rw [if_neg hb] at q
        have hb2 : b = false := by
          cases b with
          | false => rfl
          | true => exact absurd rfl hb
        subst hb2
        simp only [Bool.false_eq_true, if_false]
        refine wpAny_pure ⟨plainId_quiet F.plain_any_loop _, ?_⟩
        exact ih (s₁.setGen g gs') hg1 hl1 ⟨gs', setGen_at hsz1, q _ rfl rfl (allBare_setGen (allBare_setGen hb1 hbare) rfl)⟩
    · intro _
      obtain ⟨os1, hb1, H', un, hok, hQ⟩ := hp
      refine wpAny_bind (wpAny_rule (wpAny_pure ?_))
      exact hend false _ os1 (allBare_setGen hb1 rfl) ⟨H', un.trans (Un.kept hk), hok.kept hk, hQ⟩
end
end Ct
namespace Ct
open PySem PySem.Spec PyProof.Rows L2 GenW
section
variable {X : Cx}
theorem gen_eval {pins : List (Addr × Obj)} {σ : L2.St} {H : Hp} {s : Shared} {Q : VK} {c P : Addr} {elt tg iter : Expr} {scope : Scope} {own : List (Str × Nat)} {pos : Pos} {wi : TI} {g : TG} {te : TE} {st : Bool} {k : Nat} {Q' : Value → Shared → Prop}
    (hr : Room (k + 1) X.A) (hc : X.calm = true) (hN : X.N.Nodup) (TB : GxR.TabB X.base X.mg c P) (hcode : X.env.code = .ref c) (hi : PI X tg iter wi) (ok : BlkOk X.N X.env.scope scope own) (hcell : ∀ y ∈ scope.names, y.2 ≠ .cell) (hco : scope.isCoroutine = false) (hdot : scope.names.lookup (".0" : Str) = some NameKind.local)
    (hg : ∀ (s : Shared) (H : Hp) (C : Addr) (cl : List (Str × Addr)) (cd : Value) (fp : List Addr) (pn : List (Addr × Obj)) (B : Around), PG (gxc X B s H scope (genEnv scope cl C cd builtinsNs X.env) fp pn) tg g)
    (he : ∀ (s : Shared) (H : Hp) (C : Addr) (cl : List (Str × Addr)) (cd : Value) (fp : List Addr) (pn : List (Addr × Obj)) (B : Around), Room k (B.deeper (genEnv scope cl C cd builtinsNs X.env)) → PE (gxc X B s H scope (genEnv scope cl C cd builtinsNs X.env) fp pn) elt te)
    (hs : ∀ x, genFold iter X.env x = pure x) (I : Inv X pins σ H s) (h : tGen P st wi g te (own.map (·.2)) σ H Q)
    (hQ : ∀ (a : Addr) (gn : Nat) (s4 s5 : Shared) (H4 : Hp) (fp : List Addr) (m : Nat) (gs : GenState), Inv X pins σ H4 s4 → (∀ b ∈ fp, FpOk X pins H4 b) → s5.heap.IsGen a gn → s5.heap.NoLimit → s5.gens[gn]? = some gs →
      gs.Goes (model X.prog X.w) X.A.in1.in1 (fun n s₀ r s₁ => r = .ok .next ∧ GDone X.prog X.w (frs X.stack) fp H4 s4 Q st n s₀ s₁) (GYld X.prog X.w (frs X.stack) fp H4 s4 Q st a gn) m (.send .none) (s5.setGen gn .running) → Q' (.ref a) s5) :
    wpAny (model X.prog X.w) X.A (eval (.GeneratorExp elt [⟨tg, iter, [], 0⟩] scope pos) X.env) Q' X.xe s := by
  have hfree : ∀ y ∈ scope.names, y.2 = .free → ∃ c, X.env.cells.lookup y.1 = some c := fun y hy e => by
    rcases ok.free y hy e with k | k
    · exact I.ok.has _ (.inl k)
    · exact I.ok.has _ (.inr k)
  refine wpAny_GeneratorExp_make hco (closure_ok hfree) hcell hdot ok.kind hr.depth (thn (hi.run pins s σ H _ I h) fun xv s1 hx => thn hx fun itv s2 h2 => ?_) hs
  obtain ⟨it, fp, tn, J, H2, rfl, I2, T, st2, f2, hTab, W, ⟨m0, w0⟩, turn⟩ := h2
  obtain ⟨⟨ps, hP2, ht⟩, _, _⟩ := I2.hok P _ hTab
  have hPlt : P < s2.heap.objs.size := Heap.lt_size hP2
  have cd : PySem.W.CodeHd s2.heap c P := TB.code.keeps I2.bk
  have nP : ∀ b, H2 b = none → b ≠ P := fun b e z => by
    rw [z, hTab] at e
    cases e
  have cont : ∀ (code : Value) (h3 : Heap) (tk : Nat) (ps' : Array Value), Heap.ExtBut P s2.heap h3 → s2.heap.objs.size ≤ h3.objs.size → h3.get? P = some { cls := .none, data := .fields ps' } → TriplesOk ps'.toList →
      wpAny (model X.prog X.w) X.A (builtinsFor X.env.globals X.env.builtins) (fun bi s₄ =>
        ∀ h', h'.Ns s₄.heap.objs.size (fun y => if y = ".0" then some (Value.ref it) else none) → Heap.SameBut s₄.heap.objs.size (s₄.heap.push { cls := .type "frame", data := .dict #[] }) h' →
          Q' (.ref h'.objs.size) { s₄ with
            gens := s₄.gens.push (.fresh (.compStart (.GeneratorExp elt [⟨tg, iter, [], 0⟩] scope pos) 0 (.ref it) .none (genEnv scope (cloFrom X.env.cells scope.names []) s₄.heap.objs.size code bi X.env))),
            toks := s₄.toks + 1 + 1 + 1,
            heap := h'.push { cls := .type "generator", data := .fields #[.int s₄.gens.size 0, .str "<genexpr>" (s₄.toks + 1), .str (X.env.qual ++ "<genexpr>") (s₄.toks + 1 + 1)] } }) X.xe { s2 with heap := h3, toks := tk } := by
    intro code h3 tk ps' hx hsz hP3 ht3
    obtain ⟨bm, ob, e1, e2, e3, e4, e5, e6, e7, e8⟩ := TB.bm
    have keep3 : ∀ b u, b ≠ P → s2.heap.get? b = some u → h3.get? b = some u := fun b u hb e => hx b u hb e
    refine wpAny_builtinsFor (m := X.mg) (by rw [I2.ok.glob]; exact (I2.mod.glob.keeps I2.bk).extBut hx TB.gP) e1 e2 (keep3 _ _ e4 (I2.bk _ _ e5)) e6 e7 e8 ?_
    intro h' hn' hs'
    have I4 : Inv X pins σ H2 { s2 with heap := h3, toks := tk } := inv_tabX (g' := s2.gens) (d' := s2.drawn) (t' := tk) I2 hTab keep3 hP3 ht3 I2.bare
    generalize hs4 : ({ s2 with heap := h3, toks := tk } : Shared) = s4 at *
    have h4 : s4.heap = h3 := by rw [← hs4]
    have keep' : ∀ b o, s4.heap.get? b = some o → h'.get? b = some o := fun b o e => hs'.extBut b o (Nat.ne_of_lt (Heap.lt_size e)) (Heap.get?_push_of_some _ e)
    have hsz' : h'.objs.size = s4.heap.objs.size + 1 := by rw [hs'.1, Heap.size_push]
    generalize hgo : ({ cls := .type "generator", data := .fields #[.int s4.gens.size 0, .str "<genexpr>" (s4.toks + 1), .str (X.env.qual ++ "<genexpr>") (s4.toks + 1 + 1)] } : Obj) = go
    have hgn : ∀ h : Heap, h.get? h'.objs.size = some go → h.IsGen h'.objs.size s4.gens.size := fun h e => ⟨go, _, _, e, by rw [← hgo], by rw [← hgo], by rw [← hgo]⟩
    have keep5 : ∀ b o, s4.heap.get? b = some o → (h'.push go).get? b = some o := fun b o e => Heap.get?_push_of_some _ (keep' b o e)
    have hgoat : (h'.push go).get? h'.objs.size = some go := Heap.get?_push_size _ (by rw [← hgo]; rfl)
    have f4 : ∀ b ∈ fp, FpOk X pins H2 b ∧ b < s4.heap.objs.size := fun b hb => by
      obtain ⟨o, e, _⟩ := T.obj _ _ st2 b hb
      refine ⟨f2 b hb, ?_⟩
      rw [h4]
      exact Heap.lt_size (keep3 b o (nP b (f2 b hb).1) e)
    have kfp : ∀ b ∈ fp, ∀ o, s2.heap.get? b = some o → (h'.push go).get? b = some o := fun b hb o e => keep5 b o (by rw [h4]; exact keep3 b o (nP b (f2 b hb).1) e)
    have lim5 : (h'.push go).NoLimit := I4.nolimit.keeps keep5
    refine hQ h'.objs.size s4.gens.size s4 _ H2 fp (m0 + 1) _ I4 f2 (hgn _ hgoat) lim5 (Array.getElem?_push_size ..) ?_
    have hns5 : (h'.push go).Ns s4.heap.objs.size (fun y => if y = ".0" then some (Value.ref it) else none) := hn'.push _
    have hfa : ∀ b ∈ fp, b ≠ h'.objs.size := fun b hb => by
      have := (f4 b hb).2
      intro z
      rw [z, hsz'] at this
      exact absurd (Nat.lt_trans (Nat.lt_succ_self _) this) (Nat.lt_irrefl _)
    have J5 : ∀ (g5 : Array GenState), AllBare g5 → Inv (gxc X X.A.in1.in1 s4 H2 scope (genEnv scope (cloFrom X.env.cells scope.names []) s4.heap.objs.size code builtinsNs X.env) fp [(h'.objs.size, go)]) [] (wipe σ (own.map (·.2))) H2 { s4 with heap := h'.push go, gens := g5, toks := s4.toks + 1 + 1 + 1, drawn := s4.drawn } := fun g5 b5 =>
      gx_start (B := X.A.in1.in1) I4 I4.ok.frames hr.hd ok hN hcell f4 hns5 keep5 (by rw [hsz']; exact Nat.lt_succ_self _) hgoat (fun v z => by rw [← hgo] at z; cases z) b5
    have room : Room k (X.A.in1.in1.deeper (genEnv scope (cloFrom X.env.cells scope.names []) s4.heap.objs.size code builtinsNs X.env)) :=
      ⟨hr.hd, by have := hr.dp; show X.A.depth + 1 + 3 * k + 5 < _; omega, by have := hr.un; show X.A.units + 1 + 1 + 3 + 16 * k + 200 < _; omega⟩
    have b5 : AllBare ((s4.gens.push (.fresh (.compStart (.GeneratorExp elt [⟨tg, iter, [], 0⟩] scope pos) 0 (.ref it) .none (genEnv scope (cloFrom X.env.cells scope.names []) s4.heap.objs.size code builtinsNs X.env)))).setIfInBounds s4.gens.size .running) :=
      allBare_setGen (s := { s4 with gens := s4.gens.push (.fresh (.compStart (.GeneratorExp elt [⟨tg, iter, [], 0⟩] scope pos) 0 (.ref it) .none (genEnv scope (cloFrom X.env.cells scope.names []) s4.heap.objs.size code builtinsNs X.env))) }) (g := s4.gens.size) (AllBare.push I4.bare rfl) rfl
    have loop := seg_gx (iter := iter) (pos := pos) (σ := σ) (own := own) (Q := Q) (st := st) hc hco hgn T (hg s4 H2 _ _ code fp [(h'.objs.size, go)] X.A.in1.in1) (he s4 H2 _ _ code fp [(h'.objs.size, go)] X.A.in1.in1 room) hfa turn m0 (m0 + 1) (Nat.lt_succ_self _) 0
      (Shared.setGen { s4 with heap := h'.push go, gens := s4.gens.push (.fresh (.compStart (.GeneratorExp elt [⟨tg, iter, [], 0⟩] scope pos) 0 (.ref it) .none (genEnv scope (cloFrom X.env.cells scope.names []) s4.heap.objs.size code builtinsNs X.env))), toks := s4.toks + 1 + 1 + 1 } s4.gens.size .running)
      (Shared.setGen { s4 with heap := h'.push go, gens := s4.gens.push (.fresh (.compStart (.GeneratorExp elt [⟨tg, iter, [], 0⟩] scope pos) 0 (.ref it) .none (genEnv scope (cloFrom X.env.cells scope.names []) s4.heap.objs.size code builtinsNs X.env))), toks := s4.toks + 1 + 1 + 1 } s4.gens.size .running)
      H2 w0 (J5 _ b5) (T.keep _ _ _ st2 kfp) (fun b hb => (f2 b hb).1)
    refine ⟨rfl, ?_⟩
    show Seg _ X.A.in1.in1 _ _ _ _ _ ((compStart (.GeneratorExp elt [⟨tg, iter, [], 0⟩] scope pos) 0 (.ref it) .none (genEnv scope (cloFrom X.env.cells scope.names []) s4.heap.objs.size code builtinsNs X.env)).onRaise (leaving (genEnv scope (cloFrom X.env.cells scope.names []) s4.heap.objs.size code builtinsNs X.env))) [] _
    unfold compStart
    rw [Sem.onRaise_eq_wrap]
    show Seg _ X.A.in1.in1 _ _ _ _ _ ((ask >>= _).wrap _ _ _ _) [] _
    refine seg_bind_wrap (wpAny_askSetting ?_)
    split
    · exact seg_again rfl loop
    · first
        | exact seg_bind_wrap (wpAny_rule (seg_bind_wrap (wpAny_standAt (seg_bind_wrap (T.self _ 0 _ _ _ (T.keep _ _ _ st2 kfp) (seg_again rfl loop))))))
        | (refine seg_bind_wrap (wpAny_rule ?_); show Seg _ _ _ _ _ _ _ ((standAt iter.pos >>= _).wrap _ _ _ _) [] _; exact seg_bind_wrap (wpAny_standAt (seg_bind_wrap (T.self _ 0 _ _ _ (T.keep _ _ _ st2 kfp) (seg_again rfl loop)))))
  refine ⟨I2.nolimit, ?_⟩
  cases hf : codeAmong pos ps.toList with
  | none =>
    refine wpAny_genexprCodeX hcode (cd.code hP2 ht) (cd.tab hP2) hf fun c' h' tk hx hge hlt hco' _ htab' _ => ?_
    obtain ⟨o1, vs, f1, tf, fl, tg, inF, tx, tt, op, _, _, _, _, _, _, _, _, _, htr, _⟩ := hco'
    exact cont _ h' tk _ hx (Nat.le_trans hge (Nat.le_of_lt hlt)) htab'.2 htr
  | some cv =>
    refine wpAny_genexprCode_hit hcode (cd.code hP2 ht) hf ?_
    exact cont cv s2.heap s2.toks ps (Heap.ExtBut.refl _ _) (Nat.le_refl _) hP2 ht
end
end Ct
namespace Ct
open PySem PySem.Spec PyProof.Rows L2 GenW
section
variable {X : Cx}
theorem gx_end {pins : List (Addr × Obj)} {σ : L2.St} {H4 : Hp} {s4 s' : Shared} {fp : List Addr} {Q : VK} {b : Bool} (I4 : Inv X pins σ H4 s4) (f4 : ∀ b ∈ fp, FpOk X pins H4 b) (os : s'.os = s4.os) (bare : AllBare s'.gens) (h : GFin X.prog X.w (frs X.stack) fp H4 s4.heap Q b s'.heap) : EP X pins σ Q (.bool b) s' := by
  obtain ⟨H', un, hok, q⟩ := h
  exact ⟨.bl b, H', I4.call' (ch := fp) os un hok bare fun b hb => ⟨(f4 b hb).2.2.2.1, (f4 b hb).2.1, (f4 b hb).2.2.2.2.1, (f4 b hb).2.2.2.2.2⟩, rfl, q⟩
/-- all(elt for tg in iter) -/
theorem pe_allX {c P : Addr} {elt tg iter : Expr} {scope : Scope} {own : List (Str × Nat)} {p pos gpos : Pos} {wi : TI} {g : TG} {te : TE} {k : Nat}
    (hr : Room (k + 1) X.A) (hgl : Gl X "all") (hm : X.mg "all" = none) (hc : X.calm = true) (hN : X.N.Nodup) (TB : GxR.TabB X.base X.mg c P) (hcode : X.env.code = .ref c) (hi : PI X tg iter wi) (ok : BlkOk X.N X.env.scope scope own) (hcell : ∀ y ∈ scope.names, y.2 ≠ .cell) (hco : scope.isCoroutine = false) (hdot : scope.names.lookup (".0" : Str) = some NameKind.local)
    (hg : ∀ (s : Shared) (H : Hp) (C : Addr) (cl : List (Str × Addr)) (cd : Value) (fp : List Addr) (pn : List (Addr × Obj)) (B : Around), PG (gxc X B s H scope (genEnv scope cl C cd builtinsNs X.env) fp pn) tg g)
    (he : ∀ (s : Shared) (H : Hp) (C : Addr) (cl : List (Str × Addr)) (cd : Value) (fp : List Addr) (pn : List (Addr × Obj)) (B : Around), Room k (B.deeper (genEnv scope cl C cd builtinsNs X.env)) → PE (gxc X B s H scope (genEnv scope cl C cd builtinsNs X.env) fp pn) elt te)
    (hs : ∀ x, genFold iter X.env x = pure x := by intro _; rfl) (hb : bootBuiltins "all" = some (.builtin "all") := by decide +kernel)
    (hst : starEach [.GeneratorExp elt [⟨tg, iter, [], 0⟩] scope gpos] X.env = (false, eval (.GeneratorExp elt [⟨tg, iter, [], 0⟩] scope gpos) X.env) :: starEach [] X.env := by rfl) :
    PE X (.Call (.Name "all" p) [.GeneratorExp elt [⟨tg, iter, [], 0⟩] scope gpos] [] pos) (tGen P false wi g te (own.map (·.2))) := by
  refine ⟨fun pins s σ H Q I h => ?_⟩
  refine wpAny_Call_Name_kw (ld_blt I hgl hm hb ?_)
  refine PyProof.Rows.callWith_builtin1 ?_ hst (by rfl)
  rw [hst]
  show wpAny _ _ (spliced ((false, eval (.GeneratorExp elt [⟨tg, iter, [], 0⟩] scope gpos) X.env) :: backTo pos (starEach [] X.env))) _ _ s
  refine Calls.spliced_cons (gen_eval hr hc hN TB hcode hi ok hcell hco hdot hg he hs I h fun a gn s4 s5 H4 fp m gs I4 f4 hgen hlim hgs hgo => ?_)
  refine Calls.spliced_nil ?_
  refine call_function_tree F.kind_all F.plain_all F.entry_all (F.args_all1 _) ?_
  unfold Builtin.«all»
  refine wpAny_bind (m := oneArg "all" _) (wpAny_pure ?_)
  refine wpAny_bind (wpAny_pyIter_gen hgen ?_)
  exact wpAny_pure ⟨plainId_quiet F.plain_all_loop _, all_gx hr.hd hr.depth (fun b s' os bare fin => gx_end I4 f4 os bare fin) m s5 hgen hlim ⟨gs, hgs, hgo⟩⟩
/-- any(elt for tg in iter) -/
theorem pe_anyX {c P : Addr} {elt tg iter : Expr} {scope : Scope} {own : List (Str × Nat)} {p pos gpos : Pos} {wi : TI} {g : TG} {te : TE} {k : Nat}
    (hr : Room (k + 1) X.A) (hgl : Gl X "any") (hm : X.mg "any" = none) (hc : X.calm = true) (hN : X.N.Nodup) (TB : GxR.TabB X.base X.mg c P) (hcode : X.env.code = .ref c) (hi : PI X tg iter wi) (ok : BlkOk X.N X.env.scope scope own) (hcell : ∀ y ∈ scope.names, y.2 ≠ .cell) (hco : scope.isCoroutine = false) (hdot : scope.names.lookup (".0" : Str) = some NameKind.local)
    (hg : ∀ (s : Shared) (H : Hp) (C : Addr) (cl : List (Str × Addr)) (cd : Value) (fp : List Addr) (pn : List (Addr × Obj)) (B : Around), PG (gxc X B s H scope (genEnv scope cl C cd builtinsNs X.env) fp pn) tg g)
    (he : ∀ (s : Shared) (H : Hp) (C : Addr) (cl : List (Str × Addr)) (cd : Value) (fp : List Addr) (pn : List (Addr × Obj)) (B : Around), Room k (B.deeper (genEnv scope cl C cd builtinsNs X.env)) → PE (gxc X B s H scope (genEnv scope cl C cd builtinsNs X.env) fp pn) elt te)
    (hs : ∀ x, genFold iter X.env x = pure x := by intro _; rfl) (hb : bootBuiltins "any" = some (.builtin "any") := by decide +kernel)
    (hst : starEach [.GeneratorExp elt [⟨tg, iter, [], 0⟩] scope gpos] X.env = (false, eval (.GeneratorExp elt [⟨tg, iter, [], 0⟩] scope gpos) X.env) :: starEach [] X.env := by rfl) :
    PE X (.Call (.Name "any" p) [.GeneratorExp elt [⟨tg, iter, [], 0⟩] scope gpos] [] pos) (tGen P true wi g te (own.map (·.2))) := by
  refine ⟨fun pins s σ H Q I h => ?_⟩
  refine wpAny_Call_Name_kw (ld_blt I hgl hm hb ?_)
  refine PyProof.Rows.callWith_builtin1 ?_ hst (by rfl)
  rw [hst]
  show wpAny _ _ (spliced ((false, eval (.GeneratorExp elt [⟨tg, iter, [], 0⟩] scope gpos) X.env) :: backTo pos (starEach [] X.env))) _ _ s
  refine Calls.spliced_cons (gen_eval hr hc hN TB hcode hi ok hcell hco hdot hg he hs I h fun a gn s4 s5 H4 fp m gs I4 f4 hgen hlim hgs hgo => ?_)
  refine Calls.spliced_nil ?_
  refine call_function_tree F.kind_any F.plain_any F.entry_any (F.args_any1 _) ?_
  unfold Builtin.«any»
  refine wpAny_bind (m := oneArg "any" _) (wpAny_pure ?_)
  refine wpAny_bind (wpAny_pyIter_gen hgen ?_)
  exact wpAny_pure ⟨plainId_quiet F.plain_any_loop _, any_gx hr.hd hr.depth (fun b s' os bare fin => gx_end I4 f4 os bare fin) m s5 hgen hlim ⟨gs, hgs, hgo⟩⟩
end
end Ct
namespace Ct
open PySem PySem.Spec PyProof.Rows L2
/-! walking it -/
def GB (P : Addr) (st : Bool) (J : It) (g : TG) (te : TE) (vs : List Nat) (σ : L2.St) (H : Hp) (Q : VK) : Prop := tGen P st (fun _ H R => R J H) g te vs σ H Q
theorem w_gen {P : Addr} {st : Bool} {wi : TI} {g : TG} {te : TE} {vs : List Nat} {σ : L2.St} {H : Hp} {Q : VK} (h : wi σ H fun J H1 => GB P st J g te vs σ H1 Q) : tGen P st wi g te vs σ H Q := h
theorem gb_it {P : Addr} {st : Bool} {J : It} {n : Nat} {G : Hp → Prop} {Y : Nat → Hp → V → Hp → Prop} (w : Walk J n G Y) {g : TG} {te : TE} {vs : List Nat} {σ : L2.St} {H : Hp} {Q : VK} (Pv : Nat → Hp → Prop) (hT : H P = some (TabX P)) (h0 : Pv 0 H) (hG : ∀ i H1, i ≤ n → Pv i H1 → G H1)
    (hs : ∀ i x H1 H2, i < n → Pv i H1 → Y i H1 x H2 → g x (wipe σ vs) H2 fun σ3 H3 => wipe σ3 vs = wipe σ vs ∧ te σ3 H3 fun y H4 => ∃ b, y = .bl b ∧ if b = st then Q (.bl st) H4 else Pv (i + 1) H4) (hd : ∀ H1, Pv n H1 → Q (.bl (!st)) H1) : GB P st J g te vs σ H Q := by
  refine ⟨hT, fun i m H1 => m = n - i ∧ i ≤ n ∧ Pv i H1, ⟨n, by simp, Nat.zero_le _, h0⟩, ?_⟩
  rintro i m H1 ⟨rfl, hi, p⟩
  have q := hG i H1 hi p
  by_cases hlt : i < n
  · exact .inr ⟨w.goes i H1 hlt q, Pv (i + 1), fun H' p' => ⟨n - (i + 1), by omega, rfl, hlt, p'⟩, fun x H' y => hs i x H1 H' hlt p (w.yields i H1 x H' hlt q y)⟩
  · have e : i = n := by omega
    subst e
    exact .inl ⟨w.stops H1 q, hd H1 p⟩
theorem gb_list {K : PySem.W.Frag} {P : Addr} {st : Bool} {a : Addr} (xs : List V) {g : TG} {te : TE} {vs : List Nat} {σ : L2.St} {H : Hp} {Q : VK} (Pv : Nat → Hp → Prop) (hT : H P = some (TabX P)) (h0 : Pv 0 H) (hl : ∀ i H1, i ≤ xs.length → Pv i H1 → SqL K H1 a xs)
    (hs : ∀ i x H1, xs[i]? = some x → Pv i H1 → g x (wipe σ vs) H1 fun σ3 H3 => wipe σ3 vs = wipe σ vs ∧ te σ3 H3 fun y H4 => ∃ b, y = .bl b ∧ if b = st then Q (.bl st) H4 else Pv (i + 1) H4) (hd : ∀ H1, Pv xs.length H1 → Q (.bl (!st)) H1) : GB P st (Itl K a) g te vs σ H Q :=
  gb_it (walk_list (xs := xs)) Pv hT h0 hl (fun i x H1 H2 _ p y => by
    obtain ⟨e, y⟩ := y
    subst e
    exact hs i x _ y p) hd
theorem gb_tup {K : PySem.W.Frag} {P : Addr} {st : Bool} {a : Addr} (xs : List V) {g : TG} {te : TE} {vs : List Nat} {σ : L2.St} {H : Hp} {Q : VK} (Pv : Nat → Hp → Prop) (hT : H P = some (TabX P)) (h0 : Pv 0 H) (hl : ∀ i H1, i ≤ xs.length → Pv i H1 → SqT K H1 a xs)
    (hs : ∀ i x H1, xs[i]? = some x → Pv i H1 → g x (wipe σ vs) H1 fun σ3 H3 => wipe σ3 vs = wipe σ vs ∧ te σ3 H3 fun y H4 => ∃ b, y = .bl b ∧ if b = st then Q (.bl st) H4 else Pv (i + 1) H4) (hd : ∀ H1, Pv xs.length H1 → Q (.bl (!st)) H1) : GB P st (Itt K a) g te vs σ H Q :=
  gb_it (walk_tup (xs := xs)) Pv hT h0 hl (fun i x H1 H2 _ p y => by
    obtain ⟨e, y⟩ := y
    subst e
    exact hs i x _ y p) hd
/-- the tables of the defs that hold generator expressions -/
def Tb (T : List Addr) (H : Hp) : Prop := ∀ P ∈ T, H P = some (TabX P)
theorem Tb.same {T : List Addr} {H H' : Hp} (h : Tb T H) (s : Same H H') : Tb T H' := fun P hP => s _ _ (h P hP)
/-- a def whose own code object is known -/
theorem okC {P : Program} {w : World} {K : PySem.W.Frag} {mg : Str → Option Value} {base : Heap} {x qual : Str} {st : Stmt} {f : Addr} {fd : FuncData} {N ps : List Str} {k : Nat} {sp : Sp} (F : Fun K x qual st f fd) (S : FnScope N ps (defScope st)) (len : ∀ vs H Q E, sp vs H Q E → vs.length = ps.length)
    (hbody : ∀ (A : Around) (outer : List Env) (s : Shared) (H : Hp) (vs : List V) (Q : VK) (E : XK), Room k (A.deeper (envOfC qual (defScope st) s.heap.objs.size f fd.code)) → sp vs H Q E →
      ∃ t, PSs (cxOf CX0 P w K mg base N qual (defScope st) f fd.code A outer s H E).nox (defBody st) t ∧ t { nx := fun _ H' => Q .non H', rt := Q } (start N vs) H) : FnOk P w K mg base CX0 (k + 1) f fd ps sp := by
  obtain ⟨oc, od, kV, doc, pm, an, cdv, ct, osl, rfl, lk, hcd⟩ := F.ex
  refine fn_of lk hcd S len fun A outer s H vs Q E hr hsp => ?_
  obtain ⟨t, h, q⟩ := hbody A outer s H vs Q E hr hsp
  exact ⟨t, h.nox, q⟩
end Ct

/-! the end of a law whose defs hold generator expressions -/
namespace Ct
open PySem PySem.Spec PyProof.Rows L2
def codeOf : Value → Addr
  | .ref c => c
  | _ => 0
/-- where the table of a code object stands -/
def tabOf (K : PySem.W.Frag) (cd : Value) : Addr := match K.lookup (codeOf cd) with
  | some ⟨_, _, .fields vs, _⟩ => (match (vs : Array Value)[11]? with | some (Value.ref P) => P | _ => 0)
  | _ => 0
def tabOkB (K : PySem.W.Frag) (cd : Value) : Bool := match cd with
  | .ref c => (match K.lookup c with
    | some ⟨_, _, .fields vs, _⟩ => (match (vs : Array Value)[11]? with | some (Value.ref P) => (K.lookup P).isNone | _ => false)
    | _ => false)
  | _ => false
theorem tab_inv {K : PySem.W.Frag} {cd : Value} (h : tabOkB K cd = true) : ∃ e dd vs sl, cd = .ref (codeOf cd) ∧ K.lookup (codeOf cd) = some ⟨e, dd, .fields vs, sl⟩ ∧ vs[11]? = some (.ref (tabOf K cd)) ∧ K.lookup (tabOf K cd) = none := by
  unfold tabOkB at h
  cases cd with
  | ref c =>
    cases q : K.lookup c with
    | none =>
      simp only [q] at h
      cases h
    | some o =>
      obtain ⟨e, dd, dt, sl⟩ := o
      cases dt with
      | fields vs =>
        simp only [q] at h
        cases r : vs[11]? with
        | none =>
          simp only [r] at h
          cases h
        | some u =>
          cases u with
          | ref P =>
            simp only [r] at h
            have t : tabOf K (.ref c) = P := by
              unfold tabOf codeOf
              simp only [q, r]
            refine ⟨e, dd, vs, sl, rfl, q, ?_, ?_⟩
            · rw [t]
              exact r
            · rw [t]
              exact Option.isNone_iff_eq_none.mp h
          | _ =>
            simp only [r] at h
            cases h
      | _ =>
        simp only [q] at h
        cases h
  | _ => cases h
/-- a def that is called on the script -/
def RunOk (P : Program) (w : World) (K : PySem.W.Frag) (mg : Str → Option Value) (base : Heap) (fa : Addr) (fd : FuncData) (x : Str) (sp : Sp) : Prop :=
  ∀ (z : Shared) (H : Hp) (ws : List Value) (vs : List V) (Q : VK) (E : XK), Env0 P w K mg base callerA [] z H → BindsTo z fd ⟨ws, []⟩ ([x].zip ws) → Vals vs ws → sp vs H Q E → codeAny (model P w) callerA (.call (.ref fa) ⟨ws, []⟩) (CR CX0 [] P w H z Q E) z
/-- the script's own list, as it stands -/
def SqE (K : PySem.W.Frag) (H : Hp) (a : Addr) (xs : List V) : Prop := Rd H a (.lst xs) ∨ ∃ its : List Value, K.lookup a = some { cls := .type "list", data := .seq its.toArray } ∧ its.length ≤ sizeLine ∧ Vals xs its
theorem SqE.sql {K : PySem.W.Frag} {H : Hp} {a : Addr} {xs : List V} (h : SqE K H a xs) : SqL K H a xs := by
  rcases h with h | ⟨its, hk, hl, rv⟩
  · exact .inl h
  · exact .inr ⟨_, its.toArray, _, hk, rfl, rfl, rfl, by rw [List.size_toArray]; exact hl, by simpa using rv⟩
theorem SqE.same {K : PySem.W.Frag} {H H' : Hp} {a : Addr} {xs : List V} (h : SqE K H a xs) (s : Same H H') : SqE K H' a xs := by
  rcases h with (h | ⟨o, h⟩) | h
  · exact .inl (.inl (s _ _ h))
  · exact .inl (.inr ⟨o, s _ _ h⟩)
  · exact .inr h
/-- the script's list and a tracked one, one behind the other -/
def rCatE (K : PySem.W.Frag) : R2 := fun x y H Q => ∃ a b xs ys, x = .ref a ∧ y = .ref b ∧ SqE K H a xs ∧ H b = some (.lst ys) ∧ xs.length + ys.length ≤ sizeLine ∧ ∀ p, H p = none → Q (.ref p) (upd H p (.lst (xs ++ ys)))
theorem op_catE {X : Cx} : OpR X (binaryOp .Add) (rCatE X.K) := by
  intro pins s σ H x y v u Q I rx ry h
  obtain ⟨a, b, xs, ys, rfl, rfl, ha, hb, few, q⟩ := h
  cases rx
  cases ry
  obtain ⟨its, n, rv, ea⟩ : ∃ (its : List Value) (n : Nat), Vals xs its ∧ s.heap.get? a = some { cls := .type "list", data := .seq its.toArray n } := by
    rcases ha with h | ⟨its, hk, _, rv⟩
    · obtain ⟨_, its, n, rv, e⟩ := h.ok I.hok
      exact ⟨its, n, rv, e⟩
    · exact ⟨its, _, rv, I.kIn _ _ hk⟩
  obtain ⟨_, jts, m, rw', _, eb⟩ := I.lstM hb
  have l1 := rv.length
  have l2 := rw'.length
  refine PySem.P.add_list ea eb ?_ (by rw [List.size_toArray, List.size_toArray]; omega)
  rw [show its.toArray ++ jts.toArray = (its ++ jts).toArray by simp]
  exact ⟨.ref _, _, I.lnew (t' := s.toks) (rv.append rw') (by rw [List.length_append]; omega), rfl, q _ I.fresh⟩
theorem law_callX {P : Program} {w : World} {K : PySem.W.Frag} {mg mb : Str → Option Value} {fa a : Addr} {cs : List (Addr × Addr)} {fd : FuncData} {x : Str} {sp : Sp} {s₁ : Shared} {vs : List Value} {ns : List Int}
    (KX : K.In s₁.heap) (hns : s₁.heap.Ns mainGlobals mg) (hb : s₁.heap.Ns builtinsNs mb) (hbb : ∀ x : Str, x ≠ "__name__" → mb x = bootBuiltins x) (hlim : s₁.heap.NoLimit) (hg : s₁.gens = #[])
    (hT : ∀ p ∈ cs, s₁.heap.get? p.2 = some { cls := .none, data := .fields #[] }) (nT : ∀ p ∈ cs, K.lookup p.2 = none) (C : ∀ p ∈ cs, PySem.W.CodeHd s₁.heap p.1 p.2)
    (hbm : ∃ (bm : Addr) (ob : Obj), mg "__builtins__" = some (.ref bm) ∧ bm ≠ builtinsNs ∧ s₁.heap.get? bm = some ob ∧ ob.cls = .type "module" ∧ ob.dict = some builtinsNs ∧ ob.data = .plain)
    (ha : s₁.heap.get? a = some { cls := .type "list", data := .seq vs.toArray }) (hi : IntsAre vs ns) (hl : ns.length ≤ sizeLine)
    (F : ∀ base : Heap, K.In base → base.Ns mainGlobals mg → (∀ p ∈ cs, GxR.TabB base mg p.1 p.2) → RunOk P w K mg base fa fd x sp) (hbind : ∀ (s : Shared) (u : Value), BindsTo s fd ⟨[u], []⟩ [(x, u)])
    (hsp : ∀ H : Hp, (∀ p ∈ cs, H p.2 = some (TabX p.2)) → SqE K H a (ns.map V.int) → sp [.ref a] H (fun v H' => v = .bl true ∧ Same H H') fun _ _ _ => False) :
    codeAny (model P w) callerA (.call (.ref fa) ⟨[.ref a], []⟩) (fun r s' => r = .ok (.ret (.bool true)) ∧ OldK s₁.heap s'.heap ∧ s'.os = s₁.os ∧ AllBare s'.gens) s₁ := by
  have rv := vals_ints hi
  have lenV := hi.length
  have isT : ∀ b : Addr, b ∈ cs.map (·.2) → s₁.heap.get? b = some { cls := .none, data := .fields #[] } := fun b hb => by
    obtain ⟨p, hp, e⟩ := List.mem_map.mp hb
    rw [← e]
    exact hT p hp
  have aT : a ∉ cs.map (·.2) := fun z => by
    have q := isT a z
    rw [ha] at q
    have z' : Data.seq vs.toArray _ = Data.fields #[] := congrArg Obj.data (Option.some.inj q)
    cases z'
  have memT : ∀ p ∈ cs, p.2 ∈ cs.map (·.2) := fun p hp => List.mem_map.mpr ⟨p, hp, rfl⟩
  have core : ∀ H : Hp, (∀ b, b ∈ cs.map (·.2) → H b = some (TabX b)) → (∀ b, H b = none ∨ b ∈ cs.map (·.2) ∨ ∃ o xs, H b = some (.frz o (.lst xs))) → SqE K H a (ns.map V.int) → HOk P w H s₁.heap → (∀ b, H b ≠ none → b = a ∨ b ∈ cs.map (·.2)) → (H a ≠ none → K.lookup a = none) →
      codeAny (model P w) callerA (.call (.ref fa) ⟨[.ref a], []⟩) (fun r s' => r = .ok (.ret (.bool true)) ∧ OldK s₁.heap s'.heap ∧ s'.os = s₁.os ∧ AllBare s'.gens) s₁ := by
    intro H hH hO hS hok hA hK
    have base_of : ∀ {b : Addr} {o : Obj}, s₁.heap.get? b = some o → H b = none → (hidT s₁.heap H).get? b = some o := fun e n => hidT_get e n
    have noD : ∀ {b : Addr} {o : Obj}, s₁.heap.get? b = some o → (∀ vs n, o.data ≠ .seq vs n) → o.data ≠ .fields #[] → H b = none := fun {b o} e h1 h2 => by
      cases q : H b with
      | none => rfl
      | some u =>
        rcases hA b (by rw [q]; simp) with e' | e'
        · rw [e', ha] at e
          cases e
          exact (h1 _ _ rfl).elim
        · rw [isT b e'] at e
          cases e
          exact (h2 rfl).elim
    have noA : ∀ {b : Addr} {o : Obj} {es : Array DictEntry} {ep : Nat}, s₁.heap.get? b = some o → o.data = .dict es ep → H b = none := fun {b o es ep} e d => by
      refine noD e (fun vs n z => ?_) fun z => ?_
      · rw [d] at z
        cases z
      · rw [d] at z
        cases z
    have nsK : ∀ {b : Addr} {m : Str → Option Value}, s₁.heap.Ns b m → (hidT s₁.heap H).Ns b m := fun {b m} ⟨o, es, ep, e, d, r⟩ => ⟨o, es, ep, base_of e (noA e d), d, r⟩
    have hKb : K.In (hidT s₁.heap H) := fun b o e => base_of (KX b o e) (by
      cases q : H b with
      | none => rfl
      | some u =>
        rcases hA b (by rw [q]; simp) with e' | e'
        · rw [e'] at e q
          rw [hK (by rw [q]; simp)] at e
          cases e
        · obtain ⟨p, hp, ep⟩ := List.mem_map.mp e'
          rw [← ep, nT p hp] at e
          cases e)
    have hM : L2.Mod K mg (hidT s₁.heap H) := ⟨hKb, nsK hns, ⟨mb, nsK hb, hbb⟩, let ⟨mc, h1, h2⟩ := hlim; ⟨mc, nsK h1, h2⟩⟩
    have TB : ∀ p ∈ cs, GxR.TabB (hidT s₁.heap H) mg p.1 p.2 := fun p hp => by
      have hTp := hT p hp
      refine ⟨?_, ?_, fun z => ?_⟩
      · obtain ⟨o, us, file, tf, flags, tg, inF, text, tt, e1, r1, r2, r3, r4, r5, r6, r7, r8, hne⟩ := C p hp
        refine ⟨o, us, file, tf, flags, tg, inF, text, tt, base_of e1 (noD e1 (fun vs n z => ?_) fun z => ?_), r1, r2, r3, r4, r5, r6, r7, r8, hne⟩
        · rw [r2] at z
          cases z
        · rw [r2] at z
          cases z
          simp at r3
      · obtain ⟨bm, ob, b1, b2, b3, b4, b5, b6⟩ := hbm
        have nG : bm ≠ mainGlobals := fun q => by
          obtain ⟨o, es, ep, e, hd, _⟩ := hns
          rw [q, e] at b3
          cases b3
          rw [hd] at b6
          cases b6
        have nP : bm ≠ p.2 := fun q => by
          rw [q, hTp] at b3
          cases b3
          cases b6
        refine ⟨bm, ob, b1, b2, nG, nP, base_of b3 (noD b3 (fun vs n z => ?_) fun z => ?_), b4, b5, b6⟩
        · rw [b6] at z
          cases z
        · rw [b6] at z
          cases z
      · obtain ⟨o, es, ep, e, hd, _⟩ := hns
        rw [z, hTp] at e
        cases e
        cases hd
    have e0 : Env0 P w K mg (hidT s₁.heap H) callerA [] s₁ H := ⟨rfl, hM, fun b o e => of_hidT e, Nat.le_of_eq (hidT_size _ _), trivial, fun b hb => absurd (show b ∈ ([] : List Addr) from hb) (by simp), hok, .of_eq hg⟩
    refine codeAny_mono (F _ hKb (nsK hns) TB s₁ H [.ref a] [.ref a] _ _ e0 (hbind s₁ (.ref a)) (.cons rfl .nil) (hsp H (fun p hp => hH _ (memT p hp)) hS)) fun r s' h => ?_
    cases r with
    | error e => exact (show False from h).elim
    | ok fl =>
      cases fl with
      | next => exact False.elim h
      | brk => exact False.elim h
      | cont => exact False.elim h
      | ret u =>
        obtain ⟨v, H', os, bare, un, hok', r', q, sm⟩ := h
        subst q
        obtain rfl : u = Value.bool true := r'
        have key : ∀ b o, b ∉ cs.map (·.2) → s₁.heap.get? b = some o → s'.heap.get? b = some o := fun b o nb e => by
          cases q : H b with
          | none => exact un.keep b o e q (by intro z; exact absurd (show b ∈ ([] : List Addr) from z) (by simp)) (by simp)
          | some u =>
            rcases hO b with z | z | ⟨ob, xs, z⟩
            · rw [q] at z; cases z
            · exact absurd z nb
            · have z2 := un.frzs b ob _ z
              obtain ⟨e1, _⟩ := hok b _ z
              obtain ⟨e2, _⟩ := hok' b _ z2
              rw [e] at e1; cases e1
              exact e2
        have grown : ∀ p ∈ cs, ∃ more : Array Value, s'.heap.get? p.2 = some { cls := .none, data := .fields more } := fun p hp => by
          obtain ⟨⟨more, z, _⟩, _⟩ := hok' p.2 _ (sm _ _ (hH _ (memT p hp)))
          exact ⟨_, z⟩
        refine ⟨rfl, ⟨fun b o e => ?_, fun b o e => ?_⟩, os, bare⟩
        · by_cases hb : b ∈ cs.map (·.2)
          · obtain ⟨p, hp, ep⟩ := List.mem_map.mp hb
            obtain ⟨more, hm⟩ := grown p hp
            rw [← ep] at e ⊢
            rw [hT p hp] at e
            cases e
            exact .inr (.inl ⟨((C p hp).tab (hT p hp)).isCodeTable, rfl, #[], more, rfl, by rw [Array.empty_append]; exact hm⟩)
          · exact .inl (key b o hb e)
        · by_cases hb : b ∈ cs.map (·.2)
          · obtain ⟨p, hp, ep⟩ := List.mem_map.mp hb
            obtain ⟨more, hm⟩ := grown p hp
            rw [← ep]
            exact ⟨_, hm⟩
          · exact ⟨o, key b o hb e⟩
  cases hk : K.lookup a with
  | some o =>
    have e := KX a o hk
    rw [ha] at e
    cases e
    refine core (fun b => if b ∈ cs.map (·.2) then some (TabX b) else none) (fun b hb => if_pos hb) (fun b => ?_) (.inr ⟨vs, hk, by rw [lenV]; exact hl, rv⟩) (fun b u z => ?_) (fun b z => ?_) fun z => absurd (show (if a ∈ cs.map (·.2) then some (TabX a) else none) = none from if_neg aT) z
    · by_cases hb : b ∈ cs.map (·.2)
      · exact .inr (.inl hb)
      · exact .inl (if_neg hb)
    · by_cases hb : b ∈ cs.map (·.2)
      · have z' := (if_pos hb).symm.trans z
        cases z'
        exact tabx_ok (isT b hb) True.intro
      · have z' := (if_neg hb).symm.trans z
        cases z'
    · by_cases hb : b ∈ cs.map (·.2)
      · exact .inr hb
      · exact absurd (if_neg hb) z
  | none =>
    refine core (fun b => if b = a then some (.frz { cls := .type "list", data := .seq vs.toArray } (.lst (ns.map V.int))) else if b ∈ cs.map (·.2) then some (TabX b) else none) (fun b hb => (if_neg (show ¬ b = a from fun z => aT (by rw [← z]; exact hb))).trans (if_pos hb)) (fun b => ?_)
      (.inl (.inr ⟨{ cls := .type "list", data := .seq vs.toArray }, if_pos rfl⟩)) (fun b u z => ?_) (fun b z => ?_) fun _ => hk
    · by_cases hb : b = a
      · exact .inr (.inr ⟨_, _, if_pos hb⟩)
      · by_cases hb2 : b ∈ cs.map (·.2)
        · exact .inr (.inl hb2)
        · exact .inl ((if_neg hb).trans (if_neg hb2))
    · by_cases hb : b = a
      · have z' := (if_pos hb).symm.trans z
        cases z'
        rw [hb]
        exact ⟨ha, by rw [List.length_map]; exact hl, vs, _, rv, ha⟩
      · have z1 := (if_neg hb).symm.trans z
        by_cases hb2 : b ∈ cs.map (·.2)
        · have z' := (if_pos hb2).symm.trans z1
          cases z'
          exact tabx_ok (isT b hb2) True.intro
        · have z' := (if_neg hb2).symm.trans z1
          cases z'
    · by_cases hb : b = a
      · exact .inl hb
      · by_cases hb2 : b ∈ cs.map (·.2)
        · exact .inr hb2
        · exact absurd ((if_neg hb).trans (if_neg hb2)) z
/-- what is known of the law's promise: cs, the defs that hold generator expressions and their code objects -/
def LawAtX (l : PySem.W.OpenLaw) (w : World) (K : PySem.W.Frag) (n : Nat) (x : Str) (mg : Str → Option Value) (fa : Addr) (defs : List Str) : Prop :=
  ∃ (fd : FuncData) (cs : List (Str × Value)) (sp : Sp), (∀ p ∈ cs, p.1 ∈ defs ∧ ∃ (f : Addr) (oc : Value) (od : Option Addr) (fdx : FuncData) (osl : Array (Option Value)), mg p.1 = some (.ref f) ∧ K.lookup f = some ⟨oc, od, .func fdx, osl⟩ ∧ fdx.code = p.2 ∧ tabOkB K p.2 = true) ∧ (∀ (s : Shared) (u : Value), BindsTo s fd ⟨[u], []⟩ [(x, u)]) ∧
    (∀ (H : Hp) (a : Addr) (ns : List Int), ns.length ≤ n → (∀ p ∈ cs, H (tabOf K p.2) = some (TabX (tabOf K p.2))) → SqE K H a (ns.map V.int) → sp [.ref a] H (fun v H' => v = .bl true ∧ Same H H') fun _ _ _ => False) ∧
    ∀ base : Heap, K.In base → base.Ns mainGlobals mg → (∀ p ∈ cs, GxR.TabB base mg (codeOf p.2) (tabOf K p.2)) → RunOk l.prog w K mg base fa fd x sp
theorem walk_ofX {l : PySem.W.OpenLaw} {n : Nat} {q : Program} {loose : List Str} {XP : (Str → Option Value) → Heap → Prop} {YP : World → Heap → Prop} {d : DefRec} {K : Params → PySem.W.Frag} {x : Str} {defs : List Str}
    (hn : l.most = some n) (hn2 : n ≤ sizeLine) (hdf : d.params.defaults = []) (hrec : (defs.all fun y => (recsOf q).any fun e => e.name == y) = true) (hY : ∀ (w : World) (h : Heap), YP w h → (K w.params).In h)
    (F : ∀ (w : World) (mg : Str → Option Value) (fa : Addr) (h : Heap), (K w.params).In h → h.Ns mainGlobals mg → mg d.name = some (.ref fa) → LawAtX l w (K w.params) n x mg fa defs) :
    PySem.W.WalkO q loose XP YP l.row.toRowW d [] (fun f vs => PySem.call f vs) := by
  refine Att.attach_callB hn hdf fun w s₀ s₁ mg mb fa o pm cd doc a vs ns G Y ho hd hcd hmg hobj hints hlen hbits hg => ?_
  have KX := hY w _ Y
  obtain ⟨fd, cs, sp, hcs, hb, hsp, hF⟩ := F w mg fa _ KX G.T.g hmg
  have facts : ∀ p ∈ cs, s₁.heap.get? (tabOf (K w.params) p.2) = some { cls := .none, data := .fields #[] } ∧ (K w.params).lookup (tabOf (K w.params) p.2) = none ∧ PySem.W.CodeHd s₁.heap (codeOf p.2) (tabOf (K w.params) p.2) := fun p hp => by
    obtain ⟨hm, f, oc, od, fdx, osl, g1, g2, g3, g4⟩ := hcs p hp
    obtain ⟨e, dd, us, sl, t1, t2, t3, t4⟩ := tab_inv g4
    obtain ⟨dL, hdm, hn1⟩ := List.any_eq_true.mp (List.all_eq_true.mp hrec _ hm)
    have hn2 : dL.name = p.1 := beq_iff_eq.mp hn1
    obtain ⟨a', o', fd', c', P', h1, h2, h3, h4, h5, h6⟩ := G.T.tab dL hdm
    rw [hn2, g1] at h1
    cases h1
    rw [KX _ _ g2] at h2
    cases h2
    cases h3
    rw [g3, t1] at h4
    cases h4
    obtain ⟨⟨ob, vc, e1, e2, e3, e4⟩, hP⟩ := id h6
    rw [KX _ _ t2] at e1
    cases e1
    cases e3
    rw [t3] at e4
    cases e4
    exact ⟨hP, t4, .of h5 h6⟩
  refine law_callX (cs := cs.map fun p => (codeOf p.2, tabOf (K w.params) p.2)) KX G.T.g G.T.b G.T.builtins G.T.nolimit hg ?_ ?_ ?_ G.T.bmain hobj hints (Nat.le_trans hlen hn2) (fun base h1 h2 h3 => hF base h1 h2 fun p hp => h3 _ (List.mem_map.mpr ⟨p, hp, rfl⟩)) hb fun H hH hS => hsp H a ns hlen (fun p hp => hH _ (List.mem_map.mpr ⟨p, hp, rfl⟩)) hS
  · intro p hp
    obtain ⟨q, hq, rfl⟩ := List.mem_map.mp hp
    exact (facts q hq).1
  · intro p hp
    obtain ⟨q, hq, rfl⟩ := List.mem_map.mp hp
    exact (facts q hq).2.1
  · intro p hp
    obtain ⟨q, hq, rfl⟩ := List.mem_map.mp hp
    exact (facts q hq).2.2
theorem RunOk.of {P : Program} {w : World} {K : PySem.W.Frag} {mg : Str → Option Value} {base : Heap} {k : Nat} {fa : Addr} {fd : FuncData} {x : Str} {sp : Sp} (hr : Room k callerA) (F : FnOk P w K mg base CX0 k fa fd [x] sp) : RunOk P w K mg base fa fd x sp :=
  fun z H ws vs Q E e b r h => F.run callerA [] z H ⟨ws, []⟩ ws vs Q E hr e b r h
end Ct

/-! a list of draws: a number, how often it was drawn from, a truth; it is written -/
namespace Ct
open PySem PySem.Spec PyProof.Rows L2
def DrO (a : Addr) (c : Nat) : HO := .ext fun h => ∃ (n : Int) (b : Bool) (its : List Value) (m : Nat), Vals [.int n, .int (c : Int), .bl b] its ∧ h.get? a = some { cls := .type "list", data := .seq its.toArray m }
theorem drO_ok {P : Program} {w : World} {H : Hp} {h : Heap} {a : Addr} {c : Nat} {n : Int} {b : Bool} {its : List Value} {m : Nat} (r : Vals [.int n, .int (c : Int), .bl b] its) (e : h.get? a = some { cls := .type "list", data := .seq its.toArray m }) : ObjOk P w H h a (DrO a c) :=
  ⟨⟨n, b, its, m, r, e⟩, ⟨_, e⟩, fun _ _ ⟨n, b, its, m, r, e⟩ keep => ⟨n, b, its, m, r, keep _ e⟩⟩
section
variable {X : Cx}
theorem dr_get {pins : List (Addr × Obj)} {σ : L2.St} {H : Hp} {s : Shared} {p : Addr} {c : Nat} (I : Inv X pins σ H s) (h : H p = some (DrO p c)) : ∃ (n : Int) (b : Bool) (its : List Value) (m : Nat), Vals [.int n, .int (c : Int), .bl b] its ∧ s.heap.get? p = some { cls := .type "list", data := .seq its.toArray m } :=
  (show ObjOk X.prog X.w H s.heap p (DrO p c) from I.hok p _ h).1
def rIxDr : R2 := fun x y H Q => ∃ (p : Addr) (i : Int) (c : Nat), x = .ref p ∧ y = .int i ∧ H p = some (DrO p c) ∧ (i = 0 ∧ (∀ n : Int, Q (.int n) H) ∨ i = 1 ∧ Q (.int (c : Int)) H ∨ i = 2 ∧ ∀ b, Q (.bl b) H)
theorem ix_dr : IxR X rIxDr := by
  intro value slice pins s σ H x y v u Q I rx ry h hs
  obtain ⟨p, i, c, rfl, rfl, hp, q⟩ := h
  cases rx
  obtain ⟨t, rfl⟩ := ry
  obtain ⟨n, b, its, m, r, e⟩ := dr_get I hp
  have pl : PlainL s.heap p its.toArray := ⟨_, m, e, rfl, rfl, rfl⟩
  have hl := r.length
  have hn := line63
  rcases q with ⟨rfl, q⟩ | ⟨rfl, q⟩ | ⟨rfl, q⟩
  · obtain ⟨w, ew, rw'⟩ := r.get (i := 0) (x := .int n) rfl
    exact item_listR pl.isList (by decide) (by omega) (by simpa using ew) ⟨.int n, H, I, rw', q n⟩ hs
  · obtain ⟨w, ew, rw'⟩ := r.get (i := 1) (x := .int (c : Int)) rfl
    exact item_listR pl.isList (by decide) (by omega) (by simpa using ew) ⟨.int (c : Int), H, I, rw', q⟩ hs
  · obtain ⟨w, ew, rw'⟩ := r.get (i := 2) (x := .bl b) rfl
    exact item_listR pl.isList (by decide) (by omega) (by simpa using ew) ⟨.bl b, H, I, rw', q b⟩ hs
def rSetDr : V → V → V → Hp → (Hp → Prop) → Prop := fun o i v H Q => ∃ (p : Addr) (k : Int) (c : Nat), o = .ref p ∧ i = .int k ∧ H p = some (DrO p c) ∧ (k = 0 ∧ (∃ n : Int, v = .int n) ∧ Q (upd H p (DrO p c)) ∨ k = 1 ∧ ∃ c' : Nat, v = .int (c' : Int) ∧ Q (upd H p (DrO p c')))
theorem dr_write {pins : List (Addr × Obj)} {σ : L2.St} {H : Hp} {s : Shared} {p : Addr} {c c' : Nat} {its its' : List Value} {m m' : Nat} {f : Obj → Obj} {n : Int} {b : Bool} (I : Inv X pins σ H s) (h : H p = some (DrO p c))
    (ho : s.heap.get? p = some { cls := .type "list", data := .seq its.toArray m }) (hf : f { cls := .type "list", data := .seq its.toArray m } = { cls := .type "list", data := .seq its'.toArray m' }) (r : Vals [.int n, .int (c' : Int), .bl b] its') (t : Nat) :
    Inv X pins σ (upd H p (DrO p c')) { s with heap := s.heap.update p f, toks := t } := by
  have e : (s.heap.update p f).get? p = some { cls := .type "list", data := .seq its'.toArray m' } := by
    rw [Heap.get?_update_self f ho (by rw [hf] <;> rfl), hf]
  exact I.write (x := p) (e := p) (by rw [h]; trivial) (.inl rfl) (fun b u hb q => (Heap.get?_update_other _ _ (Ne.symm hb)).trans q) ⟨_, e⟩ (drO_ok r e)
theorem set_dr : PSet X rSetDr := by
  intro pins s σ H o i v ov iv u Q I ro ri rv h
  obtain ⟨p, k, c, rfl, rfl, hp, q⟩ := h
  cases ro
  obtain ⟨t, rfl⟩ := ri
  obtain ⟨n, b, its, m, r, e⟩ := dr_get I hp
  have hl := r.length
  have hn := line63
  rcases q with ⟨rfl, ⟨n', rfl⟩, q⟩ | ⟨rfl, c', rfl, q⟩
  · have I' := dr_write I hp e (mapSeq_set its m 0 u) (r.set rv 0) s.toks
    exact PySem.W.ki_setAt e (by decide) (by omega) (by rw [List.size_toArray, ← hl]; show (0 : Int) < ((3 : Nat) : Int); decide) ⟨_, I', q⟩
  · have I' := dr_write I hp e (mapSeq_set its m 1 u) (r.set rv 1) s.toks
    exact PySem.W.ki_setAt e (by decide) (by omega) (by rw [List.size_toArray, ← hl]; show (1 : Int) < ((3 : Nat) : Int); decide) ⟨_, I', q⟩
def tLstDr (t : TA) : TE := fun σ H Q => t σ H fun xs H1 => ∃ (n : Int) (c : Nat) (b : Bool), xs = [.int n, .int (c : Int), .bl b] ∧ ∀ p, H1 p = none → Q (.ref p) (upd H1 p (DrO p c))
theorem pe_lstDr {es : List Expr} {t : TA} {pos : Pos} (h : PA X es t) : PE X (.List es pos) (tLstDr t) := by
  refine ⟨fun pins s σ H Q I hq => ?_⟩
  refine wpAny_List_spliced (thn (h.run pos pins s σ H _ I hq) fun us s1 ⟨xs, H1, I1, r, n, c, b, ex, q⟩ => ?_)
  subst ex
  refine ⟨by rw [← r.length]; show 3 ≤ sizeLine; decide, ?_⟩
  have hf : H1 s1.heap.objs.size = none := I1.hok.fresh (Nat.le_refl _)
  exact ⟨.ref s1.heap.objs.size, upd H1 s1.heap.objs.size (DrO _ c), I1.laid (t' := s1.toks) (fun b u e => Heap.get?_push_of_some _ e) (Nat.le_refl _) (drO_ok r (Heap.get?_push_size _ rfl)), rfl, q _ hf⟩
end
section
variable {H : Hp} {σ : L2.St} {Q : VK}
theorem w_lstDr {t : TA} (h : t σ H fun xs H1 => ∃ (n : Int) (c : Nat) (b : Bool), xs = [.int n, .int (c : Int), .bl b] ∧ ∀ p, H1 p = none → Q (.ref p) (upd H1 p (DrO p c))) : tLstDr t σ H Q := h
theorem w_dr0 {p : Addr} {c : Nat} (h : H p = some (DrO p c)) (q : ∀ n : Int, Q (.int n) H) : rIxDr (.ref p) (.int 0) H Q := ⟨p, 0, c, rfl, rfl, h, .inl ⟨rfl, q⟩⟩
theorem w_dr1 {p : Addr} {c : Nat} (h : H p = some (DrO p c)) (q : Q (.int (c : Int)) H) : rIxDr (.ref p) (.int 1) H Q := ⟨p, 1, c, rfl, rfl, h, .inr (.inl ⟨rfl, q⟩)⟩
theorem w_dr2 {p : Addr} {c : Nat} (h : H p = some (DrO p c)) (q : ∀ b, Q (.bl b) H) : rIxDr (.ref p) (.int 2) H Q := ⟨p, 2, c, rfl, rfl, h, .inr (.inr ⟨rfl, q⟩)⟩
end
/-- the draws at D were drawn from, c times by now; all else that was tracked stays -/
def Dr (D : Addr) (c : Nat) (H H' : Hp) : Prop := But D H H' ∧ H' D = some (DrO D c)
theorem Dr.refl {D : Addr} {c : Nat} {H : Hp} (h : H D = some (DrO D c)) : Dr D c H H := ⟨But.refl, h⟩
theorem Dr.next {D : Addr} {c : Nat} {H H' : Hp} (h : Dr D c H H') (c' : Nat) : Dr D c' H (upd H' D (DrO D c')) := ⟨h.1.trans but_upd, upd_same⟩
theorem Dr.same {D : Addr} {c : Nat} {H H' H2 : Hp} (h : Dr D c H H') (s : Same H' H2) : Dr D c H H2 := ⟨h.1.trans (but_same s), s _ _ h.2⟩
theorem Dr.trans {D : Addr} {c c' : Nat} {H H' H2 : Hp} (h : Dr D c H H') (g : Dr D c' H' H2) : Dr D c' H H2 := ⟨h.1.trans g.1, g.2⟩
theorem Dr.ext {D : Addr} {c : Nat} {H H' : Hp} (h : Dr D c H H') : Ext H' D := ⟨_, h.2⟩
theorem drO_ext {D : Addr} {c : Nat} {H : Hp} (h : H D = some (DrO D c)) : Ext H D := ⟨_, h⟩
theorem Dr.free {D : Addr} {c : Nat} {H H' : Hp} (h : Dr D c H H') {a : Addr} (n : H' a = none) : H a = none := by
  cases e : H a with
  | none => rfl
  | some o =>
    by_cases z : a = D
    · rw [z, h.2] at n
      cases n
    · rw [h.1 a o z e] at n
      cases n
/-- a list made in between is not the draws -/
theorem Dr.at {D l : Addr} {c c' : Nat} {H H' : Hp} {o : HO} (h : Dr D c H H') (hD : H D = some (DrO D c')) (hl : H l = some o) (ne : ∀ f, o ≠ .ext f := by intro f z; cases z) : H' l = some o :=
  h.1 l o (fun z => by rw [z, hD] at hl; exact ne _ (Option.some.inj hl).symm) hl
/-- a list made since is written -/
theorem Dr.put {D l : Addr} {c : Nat} {H H' : Hp} {o o' : HO} (h : Dr D c H H') (n : H l = none) (hl : H' l = some o) (ne : ∀ f, o ≠ .ext f := by intro f z; cases z) : Dr D c H (upd H' l o') := by
  have lD : l ≠ D := fun z => by rw [z, h.2] at hl; exact ne _ (Option.some.inj hl).symm
  refine ⟨fun a u na ha => ?_, by rw [upd_ne lD.symm]; exact h.2⟩
  rw [upd_ne (fun z => by rw [z, n] at ha; cases ha)]
  exact h.1 a u na ha
theorem rep_flat (w : V) : ∀ k : Nat, (List.replicate k [w]).flatten = List.replicate k w
  | 0 => rfl
  | k + 1 => by
    rw [List.replicate_succ, List.flatten_cons, rep_flat w k, List.replicate_succ]
    rfl
theorem cut_toB (xs : List V) (k : Nat) : cutV xs none (some (k : Int)) = xs.take k := by
  unfold cutV
  rw [HT.sIx_none, HT.sIx_nat, List.drop_zero, Nat.sub_zero]
  by_cases h : k ≤ xs.length
  · rw [Nat.min_eq_left h]
  · rw [Nat.min_eq_right (by omega), List.take_length, List.take_of_length_le (by omega)]
/-- a show: a way, and what was shown -/
def sh2D (s : Int × Int) : PyData := .tuple [.int s.1, .int s.2]
def Sh2Ok (s : Int × Int) : Prop := Sign s.1 ∧ (s.2 = 0 ∨ Sign s.2)
theorem sh2_inv {K : PySem.W.Frag} {H : Hp} {v : V} {s : Int × Int} (h : Dp K H v (sh2D s)) : ∃ a, v = .ref a ∧ SqT K H a [.int s.1, .int s.2] := by
  obtain ⟨a, vs, rfl, h1, h2⟩ := tup_inv h
  cases dpAll_ints_inv [s.1, s.2] h2
  exact ⟨a, rfl, h1⟩
theorem sh2_dp {K : PySem.W.Frag} {H : Hp} {a : Addr} {s : Int × Int} (h : SqT K H a [.int s.1, .int s.2]) : Dp K H (.ref a) (sh2D s) := .tup h (.cons (.int _) (.cons (.int _) .nil))
theorem sh2_upd {K : PySem.W.Frag} {H : Hp} {l : Addr} {ws : List V} {o : HO} (hl : H l = some (.lst ws)) {v : V} {s : Int × Int} (h : Dp K H v (sh2D s)) : Dp K (upd H l o) v (sh2D s) := by
  obtain ⟨g, rfl, hg⟩ := sh2_inv h
  exact sh2_dp (sqT_upd hg hl)
theorem sh2s_upd {K : PySem.W.Frag} {H : Hp} {l : Addr} {ws : List V} {o : HO} (hl : H l = some (.lst ws)) : ∀ {vs : List V} {ss : List (Int × Int)}, DpAll K H vs (ss.map sh2D) → DpAll K (upd H l o) vs (ss.map sh2D)
  | _, [], .nil => .nil
  | _, s :: ss, .cons h t => .cons (sh2_upd hl h) (sh2s_upd hl t)
theorem lay_sh2s (ss : List (Int × Int)) : (PyData.list (ss.map sh2D)).canLay0 = true ∧ (PyData.list (ss.map sh2D)).depth ≤ 2 := lay_lst fun d hd => by
  obtain ⟨w, _, rfl⟩ := List.mem_map.mp hd
  exact lay_tup (n := 0) (lay_ints [w.1, w.2] 0)
theorem Dr.step {D : Addr} {c : Nat} {H : Hp} (h : H D = some (DrO D c)) (c' : Nat) : Dr D c' H (upd H D (DrO D c')) := (Dr.refl h).next c'
theorem Dr.all {K : PySem.W.Frag} {D : Addr} {c c' : Nat} {H H' : Hp} (d : Dr D c' H H') (h : H D = some (DrO D c)) {vs : List V} {ds : List PyData} (x : DpAll K H vs ds) : DpAll K H' vs ds := dpAll_but (drO_ext h) d.1 x
/-- a pass: what came, at which tooth, what was shown -/
abbrev Pass := Int × Int × Int
def passD (s : Pass) : PyData := .tuple [.int s.1, .int s.2.1, .int s.2.2]
theorem pass_inv {K : PySem.W.Frag} {H : Hp} {v : V} {s : Pass} (h : Dp K H v (passD s)) : ∃ a, v = .ref a ∧ SqT K H a [.int s.1, .int s.2.1, .int s.2.2] := by
  obtain ⟨a, vs, rfl, h1, h2⟩ := tup_inv h
  cases dpAll_ints_inv [s.1, s.2.1, s.2.2] h2
  exact ⟨a, rfl, h1⟩
def unlk (p q : Pass) : Bool := !decide (p.1 = 0) && (!decide (q.1 = 0) && (decide (p.2.2 = 0) != decide (q.2.2 = 0)))
/-- two passes at the same tooth that are unlike -/
def Hit (ps : List Pass) (t : Int) (j k : Nat) : Prop := ∃ p q : Pass, ps[j]? = some p ∧ ps[k]? = some q ∧ p.2.1 % t = q.2.1 % t ∧ unlk p q = true
def NoHit (ps : List Pass) (t : Int) (n : Nat) : Prop := ∀ j k, j < k → k < n → ¬ Hit ps t j k
theorem unlk_came {p q : Pass} (h : unlk p q = true) : p.1 ≠ 0 ∧ q.1 ≠ 0 ∧ (decide (p.2.2 = 0) ≠ decide (q.2.2 = 0)) := by
  unfold unlk at h
  simp only [Bool.and_eq_true, Bool.not_eq_true', decide_eq_false_iff_not, bne_iff_ne, ne_eq] at h
  exact ⟨h.1, h.2.1, h.2.2⟩
theorem unlk_of {p q : Pass} (h1 : p.1 ≠ 0) (h2 : q.1 ≠ 0) (h : unlk p q = false) : decide (p.2.2 = 0) = decide (q.2.2 = 0) := by
  unfold unlk at h
  rw [decide_eq_false h1, decide_eq_false h2] at h
  simpa using h
theorem unlk_self (p : Pass) : unlk p p = false := by
  unfold unlk
  simp
/-- what is kept of the first n passes: the first one at each tooth -/
structure Kept (ps : List Pass) (t : Int) (n : Nat) (kvs : List (Key × V)) : Prop where
  is : ∀ r v, valV kvs (Sum.inl r) = some v → ∃ (j : Nat) (p : Pass), v = .int (j : Int) ∧ j < n ∧ ps[j]? = some p ∧ p.1 ≠ 0 ∧ p.2.1 % t = r ∧ ∀ i q, i < j → ps[i]? = some q → q.1 ≠ 0 → q.2.1 % t ≠ r
  no : ∀ r, valV kvs (Sum.inl r) = none → ∀ i q, i < n → ps[i]? = some q → q.1 ≠ 0 → q.2.1 % t ≠ r
theorem Kept.skip {ps : List Pass} {t : Int} {n : Nat} {kvs : List (Key × V)} (h : Kept ps t n kvs) {q : Pass} (hq : ps[n]? = some q) (z : q.1 = 0) : Kept ps t (n + 1) kvs := by
  refine ⟨fun r v e => ?_, fun r e i p hi hp hn => ?_⟩
  · obtain ⟨j, p, h1, h2, h3⟩ := h.is r v e
    exact ⟨j, p, h1, by omega, h3⟩
  · by_cases c : i < n
    · exact h.no r e i p c hp hn
    · have : i = n := by omega
      subst this
      cases Option.some.inj (hq.symm.trans hp)
      exact absurd z hn
theorem Kept.there {ps : List Pass} {t : Int} {n : Nat} {kvs : List (Key × V)} (h : Kept ps t n kvs) {q : Pass} (hq : ps[n]? = some q) {v : V} (e : valV kvs (Sum.inl (q.2.1 % t)) = some v) : Kept ps t (n + 1) kvs := by
  refine ⟨fun r v e => ?_, fun r e' i p hi hp hn => ?_⟩
  · obtain ⟨j, p, h1, h2, h3⟩ := h.is r v e
    exact ⟨j, p, h1, by omega, h3⟩
  · by_cases c : i < n
    · exact h.no r e' i p c hp hn
    · have : i = n := by omega
      subst this
      cases Option.some.inj (hq.symm.trans hp)
      intro z
      rw [z, e'] at e
      cases e
theorem Kept.new {ps : List Pass} {t : Int} {n : Nat} {kvs : List (Key × V)} (h : Kept ps t n kvs) {q : Pass} (hq : ps[n]? = some q) (hn : q.1 ≠ 0) (e : valV kvs (Sum.inl (q.2.1 % t)) = none) : Kept ps t (n + 1) (putK kvs (Sum.inl (q.2.1 % t)) (.int (n : Int))) := by
  refine ⟨fun r v e2 => ?_, fun r e2 i p hi hp hne => ?_⟩
  · rw [valV_put] at e2
    by_cases c : (Sum.inl r : Key) = Sum.inl (q.2.1 % t)
    · have c' : r = q.2.1 % t := Sum.inl.inj c
      subst c'
      rw [if_pos rfl] at e2
      cases Option.some.inj e2
      exact ⟨n, q, rfl, Nat.lt_succ_self n, hq, hn, rfl, fun i p hi hp hne => h.no _ e i p hi hp hne⟩
    · rw [if_neg c] at e2
      obtain ⟨j, p, h1, h2, h3⟩ := h.is r v e2
      exact ⟨j, p, h1, by omega, h3⟩
  · rw [valV_put] at e2
    by_cases c : (Sum.inl r : Key) = Sum.inl (q.2.1 % t)
    · rw [if_pos c] at e2
      cases e2
    · rw [if_neg c] at e2
      by_cases cc : i < n
      · exact h.no r e2 i p cc hp hne
      · have : i = n := by omega
        subst this
        cases Option.some.inj (hq.symm.trans hp)
        exact fun z => c (by rw [z])
theorem NoHit.more {ps : List Pass} {t : Int} {n : Nat} (h : NoHit ps t n) (g : ∀ j, j < n → ¬ Hit ps t j n) : NoHit ps t (n + 1) := fun j k jk kn => by
  by_cases c : k < n
  · exact h j k jk c
  · have : k = n := by omega
    subst this
    exact g j jk
theorem fb_enumL {K : PySem.W.Frag} {H : Hp} {σ : L2.St} {D : Ends} {a : Addr} (xs : List V) {g : TG} {tb : TS} (Pv : Nat → L2.St → Hp → Prop) (h0 : Pv 0 σ H) (hl : ∀ i σ H, i ≤ xs.length → Pv i σ H → SqL K H a xs)
    (hs : ∀ i v T σ H, xs[i]? = some v → Pv i σ H → H T = none → g (.ref T) σ (upd H T (.tup [.int (i : Nat), v])) fun σ2 H2 => tb { D with nx := Pv (i + 1), ct := Pv (i + 1), bk := D.nx } σ2 H2) (hd : ∀ σ H, Pv xs.length σ H → D.nx σ H) : FB (Ite K a) g tb D σ H :=
  for_it (walk_enum (xs := xs)) Pv h0 hl (fun i x σ H H' _ p y => by
    obtain ⟨T, u, v, rfl, hT, rfl, e1, e2⟩ := y
    cases Option.some.inj e1
    exact hs i v T σ H e2 p hT) hd
theorem w_ninT {K : PySem.W.Frag} {H : Hp} {Q : VK} {p : Addr} {x : Int} {ns : List Int} (h : SqT K H p (ns.map V.int)) (q : Q (.bl (!decide (x ∈ ns))) H) : rIn K true (.int x) (.ref p) H Q := by
  refine ⟨p, ns.map V.int, rfl, .inr h, rfl, ?_, ?_⟩
  · rw [List.all_map]
    exact List.all_eq_true.mpr fun _ _ => rfl
  · rw [if_pos rfl]
    rw [show inV (.int x) (ns.map V.int) = decide (x ∈ ns) from by
      unfold inV
      rw [List.any_map]
      by_cases e : x ∈ ns
      · rw [decide_eq_true e, List.any_eq_true]
        exact ⟨x, e, by show (x == x) = true; exact beq_self_eq_true x⟩
      · rw [decide_eq_false e, List.any_eq_false]
        intro y hy
        show ¬ (y == x) = true
        intro z
        exact e (eq_of_beq z ▸ hy)]
    exact q
section
variable {K : PySem.W.Frag} {H : Hp} {σ : L2.St} {D : Ends} {Q : VK} {R : It → Hp → Prop}
def IZL (K : PySem.W.Frag) (vs : List V) (H : Hp) (R : It → Hp → Prop) : Prop := iZip K (fun _ H Q => Q vs H) [] H R
theorem w_izip {ta : TA} (h : ta σ H fun vs H1 => IZL K vs H1 R) : iZip K ta σ H R := h
theorem w_IZL {a b : Addr} {xs ys : List V} (h1 : SqL K H a xs) (h2 : SqL K H b ys) (q : R (Itz K a b) H) : IZL K [.ref a, .ref b] H R := ⟨a, b, xs, ys, rfl, h1, h2, q⟩
theorem fb_zipL {a b : Addr} (xs ys : List V) (hl : xs.length = ys.length) {g : TG} {tb : TS} (Pv : Nat → L2.St → Hp → Prop) (h0 : Pv 0 σ H) (hq : ∀ i σ H, i ≤ xs.length → Pv i σ H → SqL K H a xs ∧ SqL K H b ys)
    (hs : ∀ i x y T σ H, xs[i]? = some x → ys[i]? = some y → Pv i σ H → H T = none → g (.ref T) σ (upd H T (.tup [x, y])) fun σ2 H2 => tb { D with nx := Pv (i + 1), ct := Pv (i + 1), bk := D.nx } σ2 H2) (hd : ∀ σ H, Pv xs.length σ H → D.nx σ H) : FB (Itz K a b) g tb D σ H :=
  for_it (walk_zip (xs := xs) (ys := ys) (n := xs.length) (by omega)) Pv h0 hq (fun i x σ H H' _ p y => by
    obtain ⟨T, u, v, rfl, hT, rfl, e1, e2⟩ := y
    exact hs i u v T σ H e1 e2 p hT) hd
end
/-- the passes of the first n shows -/
def passN (cs : List Int) (ss : List (Int × Int)) : Nat → List Pass
  | 0 => []
  | n + 1 => passN cs ss n ++ (match cs[n]?, ss[n]? with | some c, some s => [(c, (if c = 1 then (cs.take n).sum + 1 else (cs.take n).sum), s.2)] | _, _ => [])
theorem pass_upd {K : PySem.W.Frag} {H : Hp} {l : Addr} {ws : List V} {o : HO} (hl : H l = some (.lst ws)) {v : V} {s : Pass} (h : Dp K H v (passD s)) : Dp K (upd H l o) v (passD s) := by
  obtain ⟨g, rfl, hg⟩ := pass_inv h
  exact .tup (sqT_upd hg hl) (.cons (.int _) (.cons (.int _) (.cons (.int _) .nil)))
theorem passes_upd {K : PySem.W.Frag} {H : Hp} {l : Addr} {ws : List V} {o : HO} (hl : H l = some (.lst ws)) : ∀ {vs : List V} {ss : List Pass}, DpAll K H vs (ss.map passD) → DpAll K (upd H l o) vs (ss.map passD)
  | _, [], .nil => .nil
  | _, s :: ss, .cons h t => .cons (pass_upd hl h) (passes_upd hl t)
end Ct

/-! defs that stand on no guard of a showing (so that str of a list may be asked), exceptions that are kept behind the except suite -/
namespace Ct
open PySem PySem.Spec PyProof.Rows L2
section
variable {P : Program} {w : World} {K : PySem.W.Frag} {mg : Str → Option Value} {base : Heap} {CX : CXT}
/-- as a def's promise, asked only where no guard is below -/
structure FnG (P : Program) (w : World) (K : PySem.W.Frag) (mg : Str → Option Value) (base : Heap) (CX : CXT) (k : Nat) (f : Addr) (fd : FuncData) (ps : List Str) (sp : Sp) : Prop where
  long : ∀ vs H Q E, sp vs H Q E → vs.length = ps.length
  goes : ∀ (A : Around), A.guards = some [] → Room k A → ∀ (below : List Env) (z : Shared) (H : Hp) (given : Args) (ws : List Value) (vs : List V) (Q : VK) (E : XK),
    Env0 P w K mg base A below z H → BindsTo z fd given (ps.zip ws) → Vals vs ws → sp vs H Q E → codeAny (model P w) A (.call (.ref f) given) (CR CX below P w H z Q E) z
theorem FnG.more {j k : Nat} {f : Addr} {fd : FuncData} {ps : List Str} {sp : Sp} (F : FnG P w K mg base CX j f fd ps sp) (h : j ≤ k) : FnG P w K mg base CX k f fd ps sp :=
  ⟨F.long, fun A g r => F.goes A g (r.mono h)⟩
theorem fnG_of {x qual : Str} {st : Stmt} {f : Addr} {fd : FuncData} {N ps : List Str} {k : Nat} {sp : Sp} (F : Fun K x qual st f fd) (S : FnScope N ps (defScope st))
    (len : ∀ vs H Q E, sp vs H Q E → (vs.length = ps.length))
    (inside : ∀ (cdv : Value) (A : Around), A.guards = some [] → ∀ (below : List Env) (z : Shared) (H : Hp) (vs : List V) (Q : VK) (E : XK), Room k (A.deeper (envOfC qual (defScope st) z.heap.objs.size f cdv)) → sp vs H Q E →
      ∃ t, PSs (cxOf CX P w K mg base N qual (defScope st) f cdv A below z H E) (defBody st) t ∧ t { nx := fun _ H' => Q .non H', rt := Q } (start N vs) H) :
    FnG P w K mg base CX (k + 1) f fd ps sp := by
  obtain ⟨oc, od, kV, doc, pm, an, cdv, ct, osl, rfl, there, coded⟩ := F.ex
  constructor
  · exact len
  intro A g room below z H given ws vs Q E env bd rel wish
  have kz : K.In z.heap := env.mod.kin.keeps fun b o q => (env.bs b o q).1
  have nl : z.heap.NoLimit := env.mod.nolimit.keeps fun b o q => (env.bs b o q).1
  refine codeAny_call_function room.depth (kz _ _ there) rfl S.co S.gen rfl (PySem.W.codeRec_of kz coded) (bd _ _ _ _ ?_)
  refine wpAny_newFunctionEnv_cells S.kind ?_ ?_
  · rintro ⟨n, v⟩ hn
    cases S.par n (List.of_mem_zip hn).1 with
    | inl q => exact .inl q
    | inr q => exact .inr ⟨q, PySem.W.cellsFrom_some _ _ _ (.inl q)⟩
  · intro env1 henv z1 laid
    subst henv
    refine ⟨nl.keeps laid.toInCall.keep, codeAny_func ?_⟩
    obtain ⟨t, ht, tq⟩ := inside cdv A g below z H vs Q E (room.deeper _) wish
    have J := inv_start (CX := CX) (E := E) S room.hd env (len _ _ _ _ wish) rel laid
    refine wpAny_mono (ht.run [] z1 (start N vs) H _ J tq) ?_ (fun _ _ q => q)
    intro flow z2 out
    match flow, out with
    | .ret u, ⟨v, σ2, H2, J2, r2, q2⟩ => exact ⟨v, H2, J2.os, J2.bare, J2.base, J2.hok, r2, q2⟩
    | .next, ⟨σ2, H2, J2, q2⟩ => exact ⟨.non, H2, J2.os, J2.bare, J2.base, J2.hok, rfl, q2⟩
    | .brk, ⟨_, _, _, q2⟩ => exact q2.elim
    | .cont, ⟨_, _, _, q2⟩ => exact q2.elim
/-- .. for a def that lets nothing out -/
theorem fnG_of0 {x qual : Str} {st : Stmt} {f : Addr} {fd : FuncData} {N ps : List Str} {k : Nat} {sp : Sp} (F : Fun K x qual st f fd) (S : FnScope N ps (defScope st))
    (len : ∀ vs H Q E, sp vs H Q E → (vs.length = ps.length))
    (inside : ∀ (cdv : Value) (A : Around), A.guards = some [] → ∀ (below : List Env) (z : Shared) (H : Hp) (vs : List V) (Q : VK) (E : XK), Room k (A.deeper (envOfC qual (defScope st) z.heap.objs.size f cdv)) → sp vs H Q E →
      ∃ t, PSs (cxOf CX0 P w K mg base N qual (defScope st) f cdv A below z H E).nox (defBody st) t ∧ t { nx := fun _ H' => Q .non H', rt := Q } (start N vs) H) :
    FnG P w K mg base CX0 (k + 1) f fd ps sp :=
  fnG_of F S len fun cdv A g below z H vs Q E r q => by
    obtain ⟨t, h, tq⟩ := inside cdv A g below z H vs Q E r q
    exact ⟨t, h.nox, tq⟩
end
section
variable {X : Cx} {CX : CXT} {k : Nat} {f : Addr} {fd : FuncData} {ps : List Str} {sp : Sp} {E : XK} {x : Str} {p pos : Pos} {e : Expr} {es : List Expr} {t : TA}
/-- f(e, ..) of such a def -/
theorem pe_callG (F : FnG X.prog X.w X.K X.mg X.base CX k f fd ps sp) (gd : X.A.guards = some []) (room : Room k X.A) (gl : Gl X x) (here : X.mg x = some (.ref f)) (kp : PySem.W.keepIn X.K (.ref f) = true) (bd : Binds X.K fd ps [])
    (out : Passes CX X E) (ha : PA X (e :: es) t) (hdb : (x == ("__debug__" : Str)) = false := by decide)
    (h1 : starEach (e :: es) X.env = (false, eval e X.env) :: starEach es X.env := by rfl) (h2 : (backTo pos (starEach es X.env)).any (·.1) = false := by rfl) :
    PE X (.Call (.Name x p) (e :: es) [] pos) (tCall sp [] E t) := by
  constructor
  intro pins z σ H Q J h
  refine wpAny_Call_Name_kw (ld_glob J gl here ?_ hdb)
  refine PySem.W.callWith_K (h₀ := X.base) J.ok.mod.kin kp (thn (ha.run pos pins z σ H _ J h) ?_) h1 h2
  rintro ws z1 ⟨vs, H1, J1, rel, q⟩
  refine ⟨J1.kIn, wpAny_call (codeAny_mono (F.goes X.A gd room X.stack z1 H1 ⟨ws, []⟩ ws vs Q E J1.env0 ?_ rel (by rw [List.append_nil] at q; exact q)) ?_)⟩
  · have q' : sp vs H1 Q E := by rw [List.append_nil] at q; exact q
    have b := bd z1 ws J1.kIn (by rw [List.append_nil, ← rel.length]; exact F.long _ _ _ _ q')
    rw [List.append_nil] at b
    exact b
  · intro r z2 hq
    match r, hq with
    | .error er, hq => exact out pins σ H1 z1 er z2 J1 hq
    | .ok (.ret u), hq => exact J1.after hq
    | .ok .next, hq => exact (show False from hq).elim
    | .ok .brk, hq => exact (show False from hq).elim
    | .ok .cont, hq => exact (show False from hq).elim
end
end Ct
namespace Ct
open PySem PySem.Spec PyProof.Rows L2
/-- what is tracked at the law's call: the script, unless it is one of the module's own objects -/
def ScrH (K : PySem.W.Frag) (a : Addr) (o : Obj) (ns : List Int) : Hp := fun b => if b = a ∧ K.lookup a = none then some (.frz o (.lst (ns.map V.int))) else none
theorem scrH_cases (K : PySem.W.Frag) (a : Addr) (o : Obj) (ns : List Int) (b : Addr) : ScrH K a o ns b = none ∨ (b = a ∧ K.lookup a = none ∧ ScrH K a o ns b = some (.frz o (.lst (ns.map V.int)))) := by
  unfold ScrH
  by_cases c : b = a ∧ K.lookup a = none
  · exact .inr ⟨c.1, c.2, if_pos c⟩
  · exact .inl (if_neg c)
/-- the law's def, called on the script -/
theorem lawG_call {P : Program} {w : World} {K : PySem.W.Frag} {mg mb : Str → Option Value} {k : Nat} {fa a : Addr} {fd : FuncData} {x : Str} {sp : Sp} {z : Shared} {vs : List Value} {ns : List Int}
    (kz : K.In z.heap) (gl : z.heap.Ns mainGlobals mg) (bl : z.heap.Ns builtinsNs mb) (blt : ∀ y : Str, y ≠ "__name__" → mb y = bootBuiltins y) (lim : z.heap.NoLimit) (gens : z.gens = #[])
    (ha : z.heap.get? a = some { cls := .type "list", data := .seq vs.toArray }) (areInts : IntsAre vs ns) (len : ns.length ≤ sizeLine) (room : Room k callerA)
    (F : ∀ base : Heap, K.In base → base.Ns mainGlobals mg → FnG P w K mg base CX0 k fa fd [x] sp) (bind : ∀ (s : Shared) (u : Value), BindsTo s fd ⟨[u], []⟩ [(x, u)])
    (wish : ∀ H : Hp, Only H → SqL K H a (ns.map V.int) → sp [.ref a] H (fun v _ => v = .bl true) fun _ _ _ => False) :
    codeAny (model P w) callerA (.call (.ref fa) ⟨[.ref a], []⟩) (fun r s' => r = .ok (.ret (.bool true)) ∧ OldK z.heap s'.heap ∧ s'.os = z.os ∧ AllBare s'.gens) z := by
  obtain ⟨o, ho⟩ : ∃ o : Obj, o = { cls := .type "list", data := .seq vs.toArray } := ⟨_, rfl⟩
  rw [← ho] at ha
  have two := scrH_cases K a o ns
  generalize hH : ScrH K a o ns = H at two
  have only : Only H := fun b => (two b).elim .inl fun q => .inr ⟨_, _, q.2.2⟩
  have rel := vals_ints areInts
  have hseq : SqL K H a (ns.map V.int) := by
    rcases two a with q | ⟨_, _, q⟩
    · cases c : K.lookup a with
      | none =>
        rw [← hH] at q
        unfold ScrH at q
        rw [if_pos ⟨rfl, c⟩] at q
        cases q
      | some o' =>
        have e := kz a o' c
        rw [ha] at e
        cases e
        subst ho
        exact .inr ⟨_, vs.toArray, _, c, rfl, rfl, rfl, by rw [List.size_toArray, areInts.length]; exact len, by simpa using rel⟩
    · exact .inl (.inr ⟨o, q⟩)
  have held : HOk P w H z.heap := fun b u e => by
    rcases two b with q | ⟨rfl, _, q⟩
    · rw [q] at e
      cases e
    · rw [q] at e
      cases e
      refine ⟨ha, by rw [List.length_map]; exact len, vs, 0, rel, ?_⟩
      rw [ha, ho]
  have still : ∀ {b : Addr} {u : Obj}, z.heap.get? b = some u → (b = a → K.lookup a ≠ none ∨ u ≠ o) → (hidT z.heap H).get? b = some u := fun {b u} e no => by
    refine hidT_get e ?_
    rcases two b with q | ⟨rfl, q1, _⟩
    · exact q
    · rcases no rfl with q | q
      · exact absurd q1 q
      · rw [ha] at e
        exact absurd (Option.some.inj e).symm q
  have names : ∀ {b : Addr} {m : Str → Option Value}, z.heap.Ns b m → (hidT z.heap H).Ns b m := fun {b m} ⟨u, es, ep, e, d, r⟩ =>
    ⟨u, es, ep, still e (fun _ => .inr fun q => by rw [q, ho] at d; cases d), d, r⟩
  have kb : K.In (hidT z.heap H) := fun b u e => still (kz b u e) fun q => .inl fun n => by rw [← q, e] at n; cases n
  obtain ⟨mc, l1, l2⟩ := lim
  have env : Env0 P w K mg (hidT z.heap H) callerA [] z H :=
    { frames := rfl, mod := ⟨kb, names gl, ⟨mb, names bl, blt⟩, mc, names l1, l2⟩, bs := fun b u e => of_hidT e, bsz := Nat.le_of_eq (hidT_size _ _), funs := trivial, frf := fun b q => (List.not_mem_nil q).elim, hok := held, bare := .of_eq gens }
  refine codeAny_mono ((F _ kb (names gl)).goes callerA rfl room [] z H ⟨[.ref a], []⟩ [.ref a] [.ref a] _ _ env (bind z (.ref a)) (.cons rfl .nil) (wish H only hseq)) ?_
  intro r z2 hq
  match r, hq with
  | .error er, hq => exact (show False from hq).elim
  | .ok .next, hq => exact (show False from hq).elim
  | .ok .brk, hq => exact (show False from hq).elim
  | .ok .cont, hq => exact (show False from hq).elim
  | .ok (.ret u), ⟨v, H2, os, bare, un, held2, rv, q⟩ =>
    have q' : v = .bl true := q
    subst q'
    obtain rfl : u = Value.bool true := rv
    refine ⟨rfl, OldK.of_keep fun b ob e => ?_, os, bare⟩
    rcases two b with n | ⟨rfl, _, n⟩
    · exact un.keep b ob e n (fun m => (List.not_mem_nil m).elim) (fun m => (List.not_mem_nil m).elim)
    · have k2 := (held2 b _ (un.frzs b _ _ n)).1
      rw [ha] at e
      cases e
      exact k2
/-- the end of a law whose def asks str of lists -/
theorem walk_ofG {l : PySem.W.OpenLaw} {n k : Nat} {q : Program} {loose : List Str} {XP : (Str → Option Value) → Heap → Prop} {YP : World → Heap → Prop} {d : DefRec} {K : Params → PySem.W.Frag} {sp : World → Sp} {x : Str}
    (most : l.most = some n) (most2 : n ≤ sizeLine) (nodef : d.params.defaults = []) (room : Room k callerA) (hY : ∀ (w : World) (h : Heap), YP w h → (K w.params).In h)
    (F : ∀ (w : World) (mg : Str → Option Value) (fa : Addr) (h : Heap), (K w.params).In h → h.Ns mainGlobals mg → mg d.name = some (.ref fa) →
      ∃ fd : FuncData, (∀ (s : Shared) (u : Value), BindsTo s fd ⟨[u], []⟩ [(x, u)]) ∧ ∀ base : Heap, (K w.params).In base → base.Ns mainGlobals mg → FnG l.prog w (K w.params) mg base CX0 k fa fd [x] (sp w))
    (wish : ∀ (w : World) (H : Hp) (a : Addr) (ns : List Int), ns.length ≤ n → Only H → SqL (K w.params) H a (ns.map V.int) → sp w [.ref a] H (fun v _ => v = .bl true) fun _ _ _ => False) :
    PySem.W.WalkO q loose XP YP l.row.toRowW d [] (fun f vs => PySem.call f vs) := by
  apply Att.attach_call most nodef
  intro w _ z mg mb fa _ _ _ _ a vs ns ground y _ _ _ named hobj areInts len gens
  obtain ⟨fd, bind, hF⟩ := F w mg fa _ (hY w _ y) ground.T.g named
  exact lawG_call (hY w _ y) ground.T.g ground.T.b ground.T.builtins ground.T.nolimit gens hobj areInts (Nat.le_trans len most2) room hF bind fun H hO hS => wish w H a ns len hO hS
end Ct

/-! str of data with many small numbers in it -/
namespace Ct
open PySem PySem.Spec PyProof.Rows L2
mutual
def okI : PyData → Bool
  | .none => true
  | .bool _ => true
  | .int i => decide (i.natAbs < 2 ^ 200)
  | .str x => PyData.canLay0 (.str x)
  | .list xs => okIs xs
  | .tuple xs => okIs xs
  | .dict _ => false
def okIs : List PyData → Bool
  | [] => true
  | x :: xs => okI x && okIs xs
end
theorem short_int20 {i : Int} (h : i.natAbs < 2 ^ 200) : (PyData.shown (.int i)).length ≤ 100 := by
  have e := int_text_length_le10 (k := 61) (by decide) (Nat.lt_of_lt_of_le h (by decide +kernel))
  show (Str.ofString (toString i)).length ≤ 100
  rw [PySem.ofString_length]
  omega
mutual
theorem okI_facts : ∀ d : PyData, okI d = true → d.showable = true ∧ d.hasDict = false ∧ d.leavesShort 100 = true
  | .none, _ => ⟨rfl, rfl, rfl⟩
  | .bool _, _ => ⟨rfl, rfl, rfl⟩
  | .int i, h => by
    have h' : i.natAbs < 2 ^ 200 := of_decide_eq_true h
    refine ⟨?_, rfl, decide_eq_true (short_int20 h')⟩
    show decide (i.natAbs.log2 < 1920) = true
    by_cases c : i.natAbs = 0
    · rw [c]; decide
    · exact decide_eq_true (Nat.lt_trans ((Nat.log2_lt c).mpr h') (by decide))
  | .str x, h => ⟨rfl, rfl, PyData.leavesShort_of_canLay0 100 (.str x) h rfl⟩
  | .list xs, h => okIs_facts xs h
  | .tuple xs, h => okIs_facts xs h
  | .dict _, h => nomatch h
theorem okIs_facts : ∀ xs : List PyData, okIs xs = true → PyData.showableAll xs = true ∧ PyData.hasDictAll xs = false ∧ PyData.leavesShortAll 100 xs = true
  | [], _ => ⟨rfl, rfl, rfl⟩
  | x :: xs, h => by
    have h' : okI x = true ∧ okIs xs = true := by rw [okIs, Bool.and_eq_true] at h; exact h
    obtain ⟨a1, a2, a3⟩ := okI_facts x h'.1
    obtain ⟨b1, b2, b3⟩ := okIs_facts xs h'.2
    refine ⟨?_, ?_, ?_⟩
    · rw [PyData.showableAll, a1, b1]; rfl
    · rw [PyData.hasDictAll, a2, b2]; rfl
    · rw [PyData.leavesShortAll, a3, b3]; rfl
end
structure Shw (d : PyData) : Prop where
  ok : okI d = true
  lay : d.canLay0 = true ∧ d.depth ≤ 40
  bk : d.bulk ≤ 150000
def rStrB (K : PySem.W.Frag) : List V → Hp → VK → Prop := fun xs H Q => ∃ (a : Addr) (d : PyData), xs = [.ref a] ∧ Dp K H (.ref a) d ∧ Shw d ∧ Q (.str d.shown) H
theorem call_strB {X : Cx} (gd : X.A.guards = some []) (hu : X.A.units + 64 < cLine) : CallR X (.type "str") (rStrB X.K) := by
  rintro pins s σ H xs us Q J r ⟨a, d, rfl, hd, sh, q⟩
  obtain ⟨u, rfl, r1⟩ := vals1 r
  cases (show u = Value.ref a from r1)
  obtain ⟨as, rd⟩ := Dp.reads J d (.ref a) (.ref a) hd rfl
  obtain ⟨f1, f2, f3⟩ := okI_facts d sh.ok
  refine str_of_reads rd f1 (fun z => by rw [f2] at z; cases z) gd (by have := sh.lay.2; omega) (fun _ _ e => e) ?_ ?_
  · intro h' t tk keeps
    exact ⟨.str d.shown, H, J.kept (t' := tk) keeps, ⟨t, rfl⟩, q⟩
  · have b := PyData.shown_le_bulk 100 (by decide) d f3
    have := sh.bk
    have m : (100 + 2) * d.bulk ≤ (100 + 2) * 150000 := Nat.mul_le_mul_left _ this
    rw [sizeLine_eq]
    omega
theorem okIs_ints {ms : List Int} (h : ∀ m ∈ ms, m.natAbs < 2 ^ 20) : okIs (ms.map PyData.int) = true := by
  induction ms with
  | nil => rfl
  | cons m r ih =>
    rw [List.map_cons, okIs, ih fun x hx => h x (List.mem_cons_of_mem _ hx), okI, decide_eq_true (Nat.lt_trans (h m List.mem_cons_self) (by decide))]
    rfl
theorem bulk_ints (ms : List Int) : PyData.bulkAll (ms.map PyData.int) = ms.length := by
  induction ms with
  | nil => rfl
  | cons m r ih =>
    rw [List.map_cons, PyData.bulkAll, ih, List.length_cons, PyData.bulk]
    omega
end Ct

/-! defs that are handed in or picked out of a list, and dicts of the program's own top -/
namespace Ct
open PySem PySem.Spec PyProof.Rows L2
section
variable {X : Cx} {k i : Nat} {R : Addr → Sp → Prop} {x : Str} {p pos : Pos} {e fe : Expr} {es : List Expr} {t : TA} {tf : TE}
/-- the def that stands in a place, one of those that R tells of -/
def tCallR (i : Nat) (R : Addr → Sp → Prop) (t : TA) : TE := fun σ H Q => ∃ f sp, σ[i]? = some (some (.ref f)) ∧ R f sp ∧ t σ H fun vs H1 => sp vs H1 Q L2.E0
theorem nil_app {t : TA} {sp : Sp} {σ : L2.St} {H : Hp} {Q : VK} {E : XK} (h : t σ H fun vs H1 => sp vs H1 Q E) : t σ H fun vs H1 => sp (vs ++ []) H1 Q E := by
  have z : (fun (vs : List V) (H1 : Hp) => sp (vs ++ []) H1 Q E) = fun vs H1 => sp vs H1 Q E := funext fun vs => funext fun H1 => by rw [List.append_nil]
  rw [z]
  exact h
theorem pe_callR (hR : ∀ f sp, R f sp → L2.Held X.prog X.w X.K X.mg X.base k f sp) (hr : Room k X.A) (hN : X.N[i]? = some x) (hv : Vis X.env.scope x) (ha : PA X (e :: es) t) (d1 : (x == ("__debug__" : Str)) = false := by decide) (d2 : (x == ("__classdict__" : Str)) = false := by decide) (h1 : starEach (e :: es) X.env = (false, eval e X.env) :: starEach es X.env := by rfl) (h2 : (backTo pos (starEach es X.env)).any (·.1) = false := by rfl) : PE X (.Call (.Name x p) (e :: es) [] pos) (tCallR i R t) := by
  constructor
  intro pins s σ H Q I q
  obtain ⟨f, sp, at_, r, q⟩ := q
  obtain ⟨fd, ps, F, kp, b⟩ := (hR f sp r).ex
  exact (pe_callL (E := L2.E0) F hr hN hv kp b .nil pass0 ha d1 d2 h1 h2).run pins s σ H Q I ⟨at_, nil_app q⟩
/-- the def that an expression gives -/
def tCallE (R : Addr → Sp → Prop) (tf : TE) (t : TA) : TE := fun σ H Q => tf σ H fun y H1 => ∃ f sp, y = .ref f ∧ R f sp ∧ t σ H1 fun vs H2 => sp vs H2 Q L2.E0
theorem pe_callE (hR : ∀ f sp, R f sp → L2.Held X.prog X.w X.K X.mg X.base k f sp) (hr : Room k X.A) (hf : PE X fe tf) (ha : PA X (e :: es) t) (h0 : eval (.Call fe (e :: es) [] pos) X.env = (do callWith pos (← eval fe X.env) [] (backTo pos (starEach (e :: es) X.env)) (backToKw pos (keywordEach [] X.env))) := by rfl) (h1 : starEach (e :: es) X.env = (false, eval e X.env) :: starEach es X.env := by rfl) (h2 : (backTo pos (starEach es X.env)).any (·.1) = false := by rfl) : PE X (.Call fe (e :: es) [] pos) (tCallE R tf t) := by
  constructor
  intro pins s σ H Q I q
  refine Call_ (thn (hf.run pins s σ H _ I q) ?_) h0
  rintro u s1 ⟨y, H1, I1, ry, f, sp, rfl, r, q⟩
  cases (show u = Value.ref f from ry)
  obtain ⟨fd, ps, F, kp, b⟩ := (hR f sp r).ex
  refine PySem.W.callWith_K (h₀ := X.base) I1.ok.mod.kin kp (thn (ha.run pos pins s1 σ _ _ I1 q) ?_) h1 h2
  rintro us s2 ⟨vs, H2, I2, r2, q2⟩
  exact ⟨I2.kIn, run_fn F hr b .nil pass0 I2 r2 (by rw [List.append_nil]; exact q2)⟩
end
/-- held: one def, by its promise -/
theorem held_at {P : Program} {w : World} {K : PySem.W.Frag} {mg : Str → Option Value} {base : Heap} {k j : Nat} {f : Addr} {fd : FuncData} {ps : List Str} {sp : Sp} (G : FnOk P w K mg base CX0 j f fd ps sp) (h : j ≤ k) (kp : PySem.W.keepIn K (.ref f) = true) (b : Binds K fd ps []) : L2.Held P w K mg base k f sp := ⟨fd, ps, G.mono h, kp, b⟩
theorem held_nil {P : Program} {w : World} {K : PySem.W.Frag} {mg : Str → Option Value} {base : Heap} {k : Nat} : ∀ f sp, (fun (_ : Addr) (_ : Sp) => False) f sp → L2.Held P w K mg base k f sp := fun _ _ h => h.elim
theorem held_cons {P : Program} {w : World} {K : PySem.W.Frag} {mg : Str → Option Value} {base : Heap} {k : Nat} {f0 : Addr} {sp0 : Sp} {R : Addr → Sp → Prop} (h : L2.Held P w K mg base k f0 sp0) (r : ∀ f sp, R f sp → L2.Held P w K mg base k f sp) : ∀ f sp, (fun (f : Addr) (sp : Sp) => (f = f0 ∧ sp = sp0) ∨ R f sp) f sp → L2.Held P w K mg base k f sp := fun f sp z => by
  rcases z with ⟨rfl, rfl⟩ | z
  · exact h
  · exact r f sp z
/-! a dict of the program's own top -/
def KDict (P : Program) (w : World) (K : PySem.W.Frag) (d : Addr) (kvs : List (Key × V)) : Prop := (d == sysModules) = false ∧ ∀ h, K.In h → ∃ vs, KV kvs vs ∧ h.DictOf (mixKind P w) d vs
inductive KdP : List DictEntry → World → List (Key × V) → List (Key × Value) → Prop
  | nil {w : World} : KdP [] w [] []
  | cons {w : World} {x : Str} {t : Tok} {v : V} {u : Value} {es : List DictEntry} {kvs : List (Key × V)} {vs : List (Key × Value)} (r : RelV v u) (h : KdP es w kvs vs) : KdP (⟨hashStr w x, .str x t, u⟩ :: es) w ((Sum.inr x, v) :: kvs) ((Sum.inr x, u) :: vs)
theorem kd_nil {w : World} : KdP [] w [] [] := .nil
theorem kd_cons {w : World} (x : Str) (t : Tok) {v : V} {u : Value} {es : List DictEntry} {kvs : List (Key × V)} {vs : List (Key × Value)} (r : RelV v u) (h : KdP es w kvs vs) : KdP (⟨hashStr w x, .str x t, u⟩ :: es) w ((Sum.inr x, v) :: kvs) ((Sum.inr x, u) :: vs) := .cons r h
theorem kd_all {P : Program} {w : World} : ∀ {es : List DictEntry} {kvs : List (Key × V)} {vs : List (Key × Value)}, KdP es w kvs vs → KV kvs vs ∧ Pairs (mixKind P w) es vs ∧ (∀ e ∈ es, ∃ k, (mixKind P w).is k e.key = true ∧ e.hash = (mixKind P w).hash k) ∧ kvs.map (·.1) = vs.map (·.1)
  | _, _, _, .nil => ⟨.nil, .nil, (fun e h => by cases h), rfl⟩
  | _, _, _, .cons (x := x) (t := t) r h => by
    obtain ⟨a, b, c, d⟩ := kd_all (P := P) h
    refine ⟨.cons ⟨rfl, r⟩ a, .cons (keyIs_str x t) rfl b, fun e he => ?_, by rw [List.map_cons, List.map_cons, d]⟩
    rcases List.mem_cons.mp he with rfl | he
    · exact ⟨Sum.inr x, keyIs_str x t, rfl⟩
    · exact c e he
theorem kdict_mk {P : Program} {w : World} {K : PySem.W.Frag} {d : Addr} {es : Array DictEntry} {ep : Nat} {kvs : List (Key × V)} {vs : List (Key × Value)} (t : K.lookup d = some ⟨.type "dict", none, .dict es ep, #[]⟩) (sys : (d == sysModules) = false) (h : KdP es.toList w kvs vs) (nd : (kvs.map (·.1)).Nodup) : KDict P w K d kvs := by
  obtain ⟨a, b, c, e⟩ := kd_all (P := P) h
  exact ⟨sys, fun hp X => ⟨vs, a, _, es, ep, X _ _ t, ⟨rfl, rfl, rfl⟩, rfl, (fun x hx => c x (Array.mem_def.mp hx)), b, by rw [← e]; exact nd⟩⟩
section
variable {X : Cx} {o i : Expr} {td ty : TE} {pos : Pos} {d : Addr} {kvs : List (Key × V)}
def tKNotIn (d : Addr) (kvs : List (Key × V)) (ty td : TE) : TE := fun σ H Q => ty σ H fun y H1 => td σ H1 fun x H2 => x = .ref d ∧ ∃ k, y = kV k ∧ Q (.bl (!(valV kvs k).isSome)) H2
def tKGet (d : Addr) (kvs : List (Key × V)) (td ty : TE) : TE := fun σ H Q => td σ H fun x H1 => ty σ H1 fun y H2 => x = .ref d ∧ ∃ k v, y = kV k ∧ valV kvs k = some v ∧ Q v H2
theorem pc_knotin (D : KDict X.prog X.w X.K d kvs) (hi : PE X i ty) (ho : PE X o td) : PC X .NotIn i o (tKNotIn d kvs ty td) := by
  constructor
  intro pins s σ H Q I q
  refine thn (hi.run pins s σ H _ I q) ?_
  rintro iv s1 ⟨y, H1, I1, ry, q1⟩
  refine thn (ho.run pins s1 σ H1 _ I1 q1) ?_
  rintro u s2 ⟨x, H2, I2, rx, rfl, k, rfl, q2⟩
  cases (show u = Value.ref d from rx)
  obtain ⟨vs, rel, dd⟩ := D.2 _ I2.kIn
  refine wpAny_notIn_of (kV_is ry) D.1 dd.mapOf ?_
  rw [← (rel.val k).isSome_eq]
  exact ⟨.bl _, H2, I2.tok _, rfl, q2⟩
theorem pe_kget (D : KDict X.prog X.w X.K d kvs) (ho : PE X o td) (hi : PE X i ty) (ns : NoSl i) : PE X (.Subscript o i pos) (tKGet d kvs td ty) := by
  constructor
  intro pins s σ H Q I q
  refine subD_of PySem.F.slot_dict_getitem.lookup ns (thn (ho.run pins s σ H _ I q) ?_)
  rintro u s1 ⟨x, H1, I1, rx, q1⟩
  refine thn (hi.run pins s1 σ H1 _ I1 q1) ?_
  rintro iv s2 ⟨y, H2, I2, ry, rfl, k, v, rfl, hv, q2⟩
  cases (show u = Value.ref d from rx)
  obtain ⟨vs, rel, dd⟩ := D.2 _ I2.kIn
  obtain ⟨z, hz, rz⟩ := RelO.some_of (v := v) (o := valueAt vs k) (by rw [← hv]; exact rel.val k)
  exact ⟨dd.typeIs, wpAny_getItem_of (kV_is ry) dd.mapOf hz ⟨v, H2, I2.tok _, rz, q2⟩⟩
end
section
variable {d : Addr} {kvs : List (Key × V)} {σ : L2.St} {H : Hp} {Q : VK} {ty td tf : TE} {i : Nat} {R : Addr → Sp → Prop} {t : TA}
theorem w_knotin (h : ty σ H fun y H1 => td σ H1 fun x H2 => x = .ref d ∧ ∃ k, y = kV k ∧ Q (.bl (!(valV kvs k).isSome)) H2) : tKNotIn d kvs ty td σ H Q := h
theorem w_kget (h : td σ H fun x H1 => ty σ H1 fun y H2 => x = .ref d ∧ ∃ k v, y = kV k ∧ valV kvs k = some v ∧ Q v H2) : tKGet d kvs td ty σ H Q := h
theorem w_callR {f : Addr} {sp : Sp} (at_ : σ[i]? = some (some (.ref f))) (r : R f sp) (h : t σ H fun vs H1 => sp vs H1 Q L2.E0) : tCallR i R t σ H Q := ⟨f, sp, at_, r, h⟩
theorem w_callE (h : tf σ H fun y H1 => ∃ f sp, y = .ref f ∧ R f sp ∧ t σ H1 fun vs H2 => sp vs H2 Q L2.E0) : tCallE R tf t σ H Q := h
end
end Ct

/-! texts: their rules, and walking them -/
namespace Ct
open PySem PySem.Spec PyProof.Rows L2
abbrev tx (l : List Nat) : Str := SX.S l
theorem tx_len (l : List Nat) : (tx l).length = l.length := SX.S_len l
theorem tx_cat (a b : List Nat) : tx a ++ tx b = tx (a ++ b) := SX.S_cat a b
theorem tx_of (s : String) : Str.ofString s = tx (s.toList.map Char.toNat) := TL.ext_tl (TL.tl_ofString s)
theorem tx_dec (a b : List Nat) : decide (V.str (tx a) = V.str (tx b)) = decide (a = b) := by
  by_cases e : a = b
  · rw [e, decide_eq_true rfl, decide_eq_true rfl]
  · rw [decide_eq_false e, decide_eq_false fun z => e (SX.S_inj (V.str.inj z))]
abbrev nL (n : Nat) : List Nat := TL.numL n
theorem tx_num (n : Nat) : (Str.ofString (toString ((n : Nat) : Int)) : Str) = tx (nL n) := SX.num_S n
section
variable {X : Cx}
def rAddS : R2 := fun x y H Q => ∃ i j, x = .str i ∧ y = .str j ∧ i.length + j.length ≤ sizeLine ∧ Q (.str (i ++ j)) H
theorem op_addS : OpR X (binaryOp .Add) rAddS := op_add_str
/-- a text so many times, none or once -/
def rMulS : R2 := fun x y H Q => ∃ (a : Str) (i : Int), x = .str a ∧ y = .int i ∧ (i = 0 ∨ i = 1) ∧ Q (.str (if i = 1 then a else Str.empty)) H
theorem op_mulS : OpR X (binaryOp .Mult) rMulS := by
  intro pins s σ H x y v u Q I rx ry h
  obtain ⟨a, i, rfl, rfl, c, q⟩ := h
  obtain ⟨t, rfl⟩ := rx
  obtain ⟨t', rfl⟩ := ry
  rcases c with rfl | rfl
  · exact SB.mul ⟨by decide, fun z => absurd (by decide) z, fun z => absurd (by decide) z⟩ fun t' k => ⟨.str Str.empty, H, I.tok _, ⟨_, rfl⟩, q⟩
  · exact SB.mul ⟨by decide, (fun _ z => nomatch z), (fun _ z => nomatch z)⟩ fun t' k => ⟨.str a, H, I.tok _, ⟨_, rfl⟩, q⟩
def rInSg (no : Bool) : R2 := fun x y H Q => ∃ (c : Nat) (z : Str), x = .str ⟨#[c]⟩ ∧ y = .str z ∧ Q (.bl (if no = true then !decide (c ∈ z.cps.toList) else decide (c ∈ z.cps.toList))) H
theorem op_inSg : OpR X (compareOp .In) (rInSg false) := op_in_sign
theorem op_notInSg : OpR X (compareOp .NotIn) (rInSg true) := op_notIn_sign
def rStrI : List V → Hp → VK → Prop := fun xs H Q => ∃ i, xs = [.int i] ∧ i.natAbs.log2 < 1920 ∧ Q (.str (toString i)) H
theorem call_strI : CallR X (.type "str") rStrI := call_str_int
def rIntS : List V → Hp → VK → Prop := fun xs H Q => ∃ a n, xs = [.str a] ∧ PySem.intText? a = some n ∧ a.length ≤ 640 ∧ Q (.int n) H
theorem call_intS : CallR X (.type "int") rIntS := call_int_str
def rLenX : List V → Hp → VK → Prop := fun xs H Q => ∃ a : Str, xs = [.str a] ∧ a.length ≤ sizeLine ∧ Q (.int a.length) H
theorem call_lenX : CallR X (.builtin "len") rLenX := call_len_str
end
section
variable {H : Hp} {Q : VK} {σ : L2.St}
theorem small6 {n : Nat} (h : n ≤ 15000000) : n ≤ sizeLine := Nat.le_trans h (by decide)
theorem w_addS {a b : List Nat} (l : a.length + b.length ≤ 15000000) (q : Q (.str (tx (a ++ b))) H) : rAddS (.str (tx a)) (.str (tx b)) H Q := ⟨_, _, rfl, rfl, by rw [tx_len, tx_len]; exact small6 l, by rw [tx_cat]; exact q⟩
theorem w_eqX {a b : List Nat} (q : Q (.bl (decide (a = b))) H) : rEq (.str (tx a)) (.str (tx b)) H Q := ⟨rfl, by rw [tx_dec]; exact q⟩
theorem w_neX {a b : List Nat} (q : Q (.bl (!decide (a = b))) H) : rNe (.str (tx a)) (.str (tx b)) H Q := ⟨rfl, by rw [tx_dec]; exact q⟩
theorem w_eqXs {a b : List Nat} {s : String} (e : s.toList.map Char.toNat = b) (q : Q (.bl (decide (a = b))) H) : rEq (.str (tx a)) (.str (Str.ofString s)) H Q := by rw [tx_of, e]; exact w_eqX q
theorem w_neXs {a b : List Nat} {s : String} (e : s.toList.map Char.toNat = b) (q : Q (.bl (!decide (a = b))) H) : rNe (.str (tx a)) (.str (Str.ofString s)) H Q := by rw [tx_of, e]; exact w_neX q
theorem log40 {n : Nat} (h : n < 10 ^ 45) : (n : Int).natAbs.log2 < 1920 := by
  rw [Int.natAbs_natCast]
  by_cases z : n = 0
  · rw [z]; decide
  · exact Nat.lt_of_le_of_lt (Nat.le_of_lt_succ ((Nat.log2_lt z).mpr (Nat.lt_of_lt_of_le h (by decide : 10 ^ 45 ≤ 2 ^ 151)))) (by decide)
theorem w_strI {n : Nat} (h : n < 10 ^ 45) (q : Q (.str (tx (nL n))) H) : rStrI [.int (n : Int)] H Q := ⟨_, rfl, log40 h, by rw [show (toString (n : Int) : Str) = tx (nL n) from tx_num n]; exact q⟩
theorem w_fmt {te : TE} (h : te σ H fun x H1 => (∃ y : Str, x = .str y ∧ y.length ≤ sizeLine ∧ Q (.str y) H1) ∨ ∃ i : Int, x = .int i ∧ i.natAbs.log2 < 1920 ∧ Q (.str (toString i)) H1) : tFmt te σ H Q := h
theorem w_fmtS {a : List Nat} (l : a.length ≤ 15000000) (q : Q (.str (tx a)) H) : (∃ y : Str, V.str (tx a) = .str y ∧ y.length ≤ sizeLine ∧ Q (.str y) H) ∨ ∃ i : Int, V.str (tx a) = .int i ∧ i.natAbs.log2 < 1920 ∧ Q (.str (toString i)) H := .inl ⟨_, rfl, by rw [tx_len]; exact small6 l, q⟩
theorem w_fmtI {n : Nat} (h : n < 10 ^ 45) (q : Q (.str (tx (nL n))) H) : (∃ y : Str, V.int (n : Int) = .str y ∧ y.length ≤ sizeLine ∧ Q (.str y) H) ∨ ∃ i : Int, V.int (n : Int) = .int i ∧ i.natAbs.log2 < 1920 ∧ Q (.str (toString i)) H := .inr ⟨_, rfl, log40 h, by rw [show (toString (n : Int) : Str) = tx (nL n) from tx_num n]; exact q⟩
/-! the parts of an f-string -/
def tJ (ts : List TE) (acc : List Nat) (σ : L2.St) (H : Hp) (Q : Str → Hp → Prop) : Prop := tJs ts (tx acc) σ H Q
variable {QT : Str → Hp → Prop}
theorem w_js {ts : List TE} (h : tJ ts [] σ H fun out H1 => Q (.str out) H1) : tJs ts Str.empty σ H fun out H1 => Q (.str out) H1 := h
theorem w_jnil {acc : List Nat} (q : QT (tx acc) H) : tJ [] acc σ H QT := q
def JQ (ts : List TE) (acc : List Nat) (σ : L2.St) (QT : Str → Hp → Prop) : VK := fun x H1 => ∃ y : Str, x = .str y ∧ (tx acc ++ y).length ≤ sizeLine ∧ tJs ts (tx acc ++ y) σ H1 QT
theorem w_jcons {t : TE} {ts : List TE} {acc : List Nat} (h : t σ H (JQ ts acc σ QT)) : tJ (t :: ts) acc σ H QT := h
theorem w_jq {ts : List TE} {acc a : List Nat} (l : acc.length + a.length ≤ 15000000) (h : tJ ts (acc ++ a) σ H QT) : JQ ts acc σ QT (.str (tx a)) H := ⟨_, rfl, by rw [tx_cat, tx_len, List.length_append]; exact small6 l, by rw [tx_cat]; exact h⟩
theorem w_jqs {ts : List TE} {acc a : List Nat} {s : String} (e : s.toList.map Char.toNat = a) (l : acc.length + a.length ≤ 15000000) (h : tJ ts (acc ++ a) σ H QT) : JQ ts acc σ QT (.str (Str.ofString s)) H := by rw [tx_of, e]; exact w_jq l h
/-! splitting, parting, joining -/
theorem w_tm0 {r : V → List V → Hp → VK → Prop} {to : TE} (h : to σ H fun x H1 => (∃ a, x = .str a) ∧ r x [] H1 Q) : tM0 r to σ H Q := h
theorem w_tm1 {r : V → List V → Hp → VK → Prop} {to te : TE} (h : to σ H fun x H1 => (∃ a, x = .str a) ∧ te σ H1 fun y H2 => r x [y] H2 Q) : tM1 r to te σ H Q := h
theorem w_istr {te : TE} {R : It → Hp → Prop} (h : te σ H fun v H1 => ∃ x, v = .str x ∧ R (Its x) H1) : iStr te σ H R := h
theorem tru_txt {K : PySem.W.Frag} {a : List Nat} {k : Bool} (l : a.length ≤ 15000000) (e : ((a.length : Int) != 0) = k) : TruV K (.str (tx a)) H k := ⟨by rw [tx_len]; exact small6 l, by rw [tx_len]; exact e.symm⟩
theorem cut_tx (a : List Nat) (lo hi : Option Int) : cutS (tx a) lo hi = tx ((a.drop (HT.sIx a.length 0 lo)).take (HT.sIx a.length a.length hi - HT.sIx a.length 0 lo)) := by
  unfold cutS
  rw [tx_len]
theorem cut_fromX (a : List Nat) (n : Nat) (h : n ≤ a.length) : cutS (tx a) (some (n : Int)) none = tx (a.drop n) := by
  rw [cut_tx, HT.sIx_none, HT.sIx_nat, Nat.min_eq_left h, List.take_of_length_le (by rw [List.length_drop]; exact Nat.le_refl _)]
theorem cut_toX (a : List Nat) (n : Nat) : cutS (tx a) none (some (n : Int)) = tx (a.take n) := by
  rw [cut_tx, HT.sIx_none, HT.sIx_nat, List.drop_zero, Nat.sub_zero]
  by_cases c : n ≤ a.length
  · rw [Nat.min_eq_left c]
  · rw [Nat.min_eq_right (by omega), List.take_of_length_le (Nat.le_refl _), List.take_of_length_le (by omega)]
theorem cut_twoX (a : List Nat) (n m : Nat) (h : n ≤ a.length) (hm : n + m ≤ a.length) : cutS (tx a) (some (n : Int)) (some ((n + m : Nat) : Int)) = tx ((a.drop n).take m) := by
  rw [cut_tx, HT.sIx_nat, HT.sIx_nat, Nat.min_eq_left h, Nat.min_eq_left hm, show n + m - n = m by omega]
end
end Ct

/-! what is written of deeds, pushes, what was shown, and shows -/
namespace Ct
open PySem PySem.Spec PyProof.Rows L2
def wayT (w : Int) : List Nat := if w = 1 then [43] else [45]
def shT (s : Int) : List Nat := if s = 1 then [61, 49] else if s = 0 then [61, 48] else [61, 45, 49]
def noneT : List Nat := [110, 111, 110, 101]
def listT (ts : List (List Nat)) : List Nat := if ts = [] then noneT else TL.joinL [32] ts
def ShT (s : Int) : Prop := s = 1 ∨ s = 0 ∨ s = -1
def M40 : Nat := 10 ^ 40
def ElT : Nat → PyData → List Nat → Prop
  | 0, d, t => ∃ (i k : Nat) (w : Int), i < M40 ∧ k < M40 ∧ Sign w ∧ d = .tuple [.int i, .int w, .int k] ∧ t = nL i ++ wayT w ++ nL k
  | 1, d, t => ∃ (i : Nat) (w : Int), i < M40 ∧ Sign w ∧ d = .tuple [.int i, .int w] ∧ t = nL i ++ wayT w
  | 2, d, t => ∃ (i : Nat) (w s : Int), i < M40 ∧ Sign w ∧ ShT s ∧ d = .tuple [.int i, .int w, .int s] ∧ t = nL i ++ wayT w ++ shT s
  | _, d, t => ∃ (w s : Int), Sign w ∧ ShT s ∧ d = .tuple [.int w, .int s] ∧ t = wayT w ++ shT s
theorem nL_len {n : Nat} (h : n < M40) : (nL n).length ≤ 40 := TL.numL_len (by decide) h
theorem nL_pos (n : Nat) : 1 ≤ (nL n).length := by
  cases e : nL n with
  | nil => exact absurd e (TL.numL_ne n)
  | cons => exact Nat.succ_le_succ (Nat.zero_le _)
theorem nL_dig {n c : Nat} (h : c ∈ nL n) : 48 ≤ c ∧ c ≤ 57 := by
  have := TL.numL_free (n := n) (s := c)
  by_cases z : c < 48 ∨ 57 < c
  · exact absurd h (this z)
  · omega
theorem wayT_len (w : Int) : (wayT w).length = 1 := by unfold wayT; split <;> rfl
theorem shT_len (s : Int) : (shT s).length ≤ 3 := by unfold shT; split; decide; split <;> decide
theorem wayT_mem {w : Int} {c : Nat} (h : c ∈ wayT w) : c = 43 ∨ c = 45 := by
  unfold wayT at h
  split at h
  · exact .inl (List.mem_singleton.mp h)
  · exact .inr (List.mem_singleton.mp h)
theorem shT_mem {s : Int} {c : Nat} (h : c ∈ shT s) : 45 ≤ c ∧ c ≤ 61 := by
  unfold shT at h
  split at h
  · simp at h; omega
  · split at h
    · simp at h; omega
    · simp at h; omega
theorem elT_free : ∀ {k : Nat} {d : PyData} {t : List Nat}, ElT k d t → ∀ c ∈ t, 43 ≤ c ∧ c ≤ 61
  | 0, _, _, ⟨i, n, w, _, _, _, _, e⟩, c, hc => by
    subst e
    rcases List.mem_append.mp hc with hc | hc
    · rcases List.mem_append.mp hc with hc | hc
      · have := nL_dig hc; omega
      · have := wayT_mem hc; omega
    · have := nL_dig hc; omega
  | 1, _, _, ⟨i, w, _, _, _, e⟩, c, hc => by
    subst e
    rcases List.mem_append.mp hc with hc | hc
    · have := nL_dig hc; omega
    · have := wayT_mem hc; omega
  | 2, _, _, ⟨i, w, s, _, _, _, _, e⟩, c, hc => by
    subst e
    rcases List.mem_append.mp hc with hc | hc
    · rcases List.mem_append.mp hc with hc | hc
      · have := nL_dig hc; omega
      · have := wayT_mem hc; omega
    · have := shT_mem hc; omega
  | n + 3, _, _, h, c, hc => by
    obtain ⟨w, s, _, _, _, e⟩ := (show ∃ (w s : Int), Sign w ∧ ShT s ∧ _ = PyData.tuple [.int w, .int s] ∧ _ = wayT w ++ shT s from h)
    subst e
    rcases List.mem_append.mp hc with hc | hc
    · have := wayT_mem hc; omega
    · have := shT_mem hc; omega
theorem elT_len : ∀ {k : Nat} {d : PyData} {t : List Nat}, ElT k d t → 1 ≤ t.length ∧ t.length ≤ 90
  | 0, _, _, ⟨i, n, w, h1, h2, _, _, e⟩ => by
    subst e
    have := nL_len h1; have := nL_len h2; have := nL_pos i; have := wayT_len w
    rw [List.length_append, List.length_append]; omega
  | 1, _, _, ⟨i, w, h1, _, _, e⟩ => by
    subst e
    have := nL_len h1; have := nL_pos i; have := wayT_len w
    rw [List.length_append]; omega
  | 2, _, _, ⟨i, w, s, h1, _, _, _, e⟩ => by
    subst e
    have := nL_len h1; have := nL_pos i; have := wayT_len w; have := shT_len s
    rw [List.length_append, List.length_append]; omega
  | n + 3, _, _, h => by
    obtain ⟨w, s, _, _, _, e⟩ := (show ∃ (w s : Int), Sign w ∧ ShT s ∧ _ = PyData.tuple [.int w, .int s] ∧ _ = wayT w ++ shT s from h)
    subst e
    have := wayT_len w; have := shT_len s
    rw [List.length_append]; omega
abbrev ElsT (k : Nat) : List PyData → List (List Nat) → Prop := Paired (ElT k)
theorem paired_getT {α β : Type} {R : α → β → Prop} : ∀ {l : List α} {m : List β} {i : Nat} {a : α}, Paired R l m → l[i]? = some a → ∃ b, m[i]? = some b ∧ R a b
  | _, _, _, _, .nil, e => by simp at e
  | _, _, 0, _, .cons h _, e => by
    cases Option.some.inj e
    exact ⟨_, rfl, h⟩
  | _, _, i + 1, _, .cons _ t, e => paired_getT (i := i) t e
theorem paired_memT {α β : Type} {R : α → β → Prop} : ∀ {l : List α} {m : List β} {b : β}, Paired R l m → b ∈ m → ∃ a, R a b
  | _, _, _, .nil, h => by cases h
  | _, _, _, .cons h t, e => by
    rcases List.mem_cons.mp e with rfl | e
    · exact ⟨_, h⟩
    · exact paired_memT t e
theorem elsT_free {k : Nat} {ds : List PyData} {ts : List (List Nat)} (h : ElsT k ds ts) : ∀ t ∈ ts, 32 ∉ t := fun t ht z => by
  obtain ⟨d, hd⟩ := paired_memT h ht
  have := elT_free hd 32 z
  omega
theorem joinT_len {m : Nat} : ∀ {ts : List (List Nat)}, (∀ t ∈ ts, t.length ≤ m) → (TL.joinL [32] ts).length ≤ (m + 1) * ts.length
  | [], _ => Nat.zero_le _
  | [t], h => by
    have := h t List.mem_cons_self
    show t.length ≤ (m + 1) * 1
    omega
  | t :: u :: r, h => by
    have h1 := h t List.mem_cons_self
    have ih := joinT_len (ts := u :: r) fun x hx => h x (List.mem_cons_of_mem _ hx)
    show (t ++ ([32] ++ TL.joinL [32] (u :: r))).length ≤ (m + 1) * ((u :: r).length + 1)
    rw [List.length_append, List.length_append, Nat.mul_succ]
    show t.length + (1 + _) ≤ _
    omega
theorem listT_len {m : Nat} {ts : List (List Nat)} (h : ∀ t ∈ ts, t.length ≤ m) : (listT ts).length ≤ (m + 1) * ts.length + 4 := by
  unfold listT
  split
  · exact Nat.le_add_left _ _
  · exact Nat.le_trans (joinT_len h) (Nat.le_add_right _ _)
theorem elsT_len {k : Nat} {ds : List PyData} {ts : List (List Nat)} (h : ElsT k ds ts) : ∀ t ∈ ts, t.length ≤ 90 := fun t ht => by
  obtain ⟨d, hd⟩ := paired_memT h ht
  exact (elT_len hd).2
theorem join_none {ts : List (List Nat)} (ne : ts ≠ []) (h : ∀ t ∈ ts, 1 ≤ t.length ∧ ∀ c ∈ t, c ≤ 61) : TL.joinL [32] ts ≠ noneT := fun e => by
  cases ts with
  | nil => exact ne rfl
  | cons t r =>
    obtain ⟨h1, h2⟩ := h t List.mem_cons_self
    cases t with
    | nil => cases h1
    | cons c q =>
      have hc := h2 c List.mem_cons_self
      have : (TL.joinL [32] ((c :: q) :: r)).head? = some c := by cases r <;> rfl
      rw [e] at this
      cases (Option.some.inj this)
      omega
theorem elsT_none {k : Nat} {ds : List PyData} {ts : List (List Nat)} (h : ElsT k ds ts) (ne : ts ≠ []) : listT ts ≠ noneT := by
  unfold listT
  rw [if_neg ne]
  refine join_none ne fun t ht => ?_
  obtain ⟨d, hd⟩ := paired_memT h ht
  exact ⟨(elT_len hd).1, fun c hc => (elT_free hd c hc).2⟩
theorem splitT {ts : List (List Nat)} (ne : ts ≠ []) (h : ∀ t ∈ ts, 32 ∉ t) : Txt.split (tx (TL.joinL [32] ts)) (Str.ofString " ") = ts.map tx := by
  rw [tx_of, show (" ".toList.map Char.toNat) = [32] by decide, SX.split_S (by decide) (by decide), SX.spl_join ne h]
theorem joinT (s : String) {sep : List Nat} (e : s.toList.map Char.toNat = sep) (ts : List (List Nat)) : Txt.join (Str.ofString s) (ts.map tx) = tx (TL.joinL sep ts) := by
  rw [tx_of, e, SX.join_S]
/-- a number from one on begins with no nought -/
theorem nL_head : ∀ n : Nat, 1 ≤ n → (nL n).head? ≠ some 48 := fun n => by
  induction n using Nat.strongRecOn with
  | _ n ih =>
    intro h e
    by_cases c : n < 10
    · rw [show nL n = [48 + n] from TL.numL_lt c] at e
      have := Option.some.inj e
      omega
    · have st : nL n = nL (n / 10) ++ [48 + n % 10] := TL.numL_step (by omega)
      rw [st] at e
      have := ih (n / 10) (by omega) (by omega)
      cases z : nL (n / 10) with
      | nil => exact TL.numL_ne _ z
      | cons a r =>
        rw [z] at e this
        exact this e
theorem nL_zero {n : Nat} (h : (nL n).head? = some 48) : (nL n).length = 1 := by
  by_cases z : n = 0
  · rw [z]; decide
  · exact absurd h (nL_head n (by omega))
theorem figs : (Str.ofString "0123456789").cps.toList = [48, 49, 50, 51, 52, 53, 54, 55, 56, 57] := by decide +kernel
theorem in_figs (c : Nat) : decide (c ∈ (Str.ofString "0123456789").cps.toList) = decide (48 ≤ c ∧ c ≤ 57) := by
  rw [figs]
  refine decide_eq_decide.mpr ⟨fun h => ?_, fun h => ?_⟩
  · simp at h; omega
  · simp; omega
theorem int_nL {n : Nat} (h : n < M40) : PySem.intText? (tx (nL n)) = some (n : Int) := by
  rw [← tx_num]
  exact TL.int_num (Nat.le_trans (nL_len h) (by decide))
theorem dpi_inv {K : PySem.W.Frag} {H : Hp} {v : V} {is : List Int} (h : Dp K H v (.tuple (is.map PyData.int))) : ∃ p, v = .ref p ∧ SqT K H p (is.map V.int) := by
  obtain ⟨a, xs, rfl, hs, ht⟩ := tup_inv h
  exact ⟨a, rfl, by rw [← dpAll_ints_inv is ht]; exact hs⟩
theorem shT_say {s : Int} (h : ShT s) : ∃ t : Str, (toString s : Str) = t ∧ t = tx ((shT s).drop 1) := by
  refine ⟨_, rfl, ?_⟩
  rcases h with rfl | rfl | rfl
  · exact (tx_of "1").trans (by decide)
  · exact (tx_of "0").trans (by decide)
  · exact (tx_of "-1").trans (by decide)
theorem w_fmtSh {H : Hp} {Q : VK} {s : Int} (h : ShT s) (q : Q (.str (tx ((shT s).drop 1))) H) : (∃ y : Str, V.int s = .str y ∧ y.length ≤ sizeLine ∧ Q (.str y) H) ∨ ∃ i : Int, V.int s = .int i ∧ i.natAbs.log2 < 1920 ∧ Q (.str (toString i)) H := by
  obtain ⟨t, e1, e2⟩ := shT_say h
  refine .inr ⟨_, rfl, ?_, by rw [show (toString s : Str) = _ from e1, e2]; exact q⟩
  rcases h with rfl | rfl | rfl <;> decide
theorem shT_cons (s : Int) : shT s = 61 :: (shT s).drop 1 := by unfold shT; split; rfl; split <;> rfl
theorem sumT_len {m : Nat} : ∀ {ts : List (List Nat)}, (∀ t ∈ ts, t.length ≤ m) → ((ts.map tx).map (·.length)).sum ≤ m * ts.length
  | [], _ => Nat.zero_le _
  | t :: r, h => by
    have h1 := h t List.mem_cons_self
    have ih := sumT_len (ts := r) fun x hx => h x (List.mem_cons_of_mem _ hx)
    show (tx t).length + ((r.map tx).map (·.length)).sum ≤ m * (r.length + 1)
    rw [tx_len, Nat.mul_succ]
    omega
theorem fitT {ts : List (List Nat)} {s : Str} (h : ∀ t ∈ ts, t.length ≤ 2000) (l : ts.length ≤ 2001) (hs : s.length ≤ 1) : ((ts.map tx).map (·.length)).sum + (ts.map tx).length * s.length ≤ 16777216 := by
  have a := sumT_len h
  have b : 2000 * ts.length ≤ 2000 * 2001 := Nat.mul_le_mul_left _ l
  have c : (ts.map tx).length * s.length ≤ 2001 * 1 := by rw [List.length_map]; exact Nat.mul_le_mul l hs
  omega
theorem atX {c : Nat} {l : List Nat} {i : Nat} (h : l[i]? = some c) : atI (tx l).cps.toList (i : Int) = some c := atI_nat (j := i) h
mutual
/-- data without lists -/
inductive TDT : PyData → Prop
  | int (i : Int) : TDT (.int i)
  | str (x : Str) : TDT (.str x)
  | tup {ds : List PyData} : TDTs ds → TDT (.tuple ds)
inductive TDTs : List PyData → Prop
  | nil : TDTs []
  | cons {d : PyData} {ds : List PyData} : TDT d → TDTs ds → TDTs (d :: ds)
end
theorem tdT_ints : ∀ is : List Int, TDTs (is.map PyData.int)
  | [] => .nil
  | i :: r => .cons (.int i) (tdT_ints r)
theorem tdT_of : ∀ {ds : List PyData}, (∀ d ∈ ds, TDT d) → TDTs ds
  | [], _ => .nil
  | d :: r, h => .cons (h d List.mem_cons_self) (tdT_of fun x hx => h x (List.mem_cons_of_mem _ hx))
mutual
theorem dp_updT {K : PySem.W.Frag} {H : Hp} {l : Addr} {vs ws : List V} (hl : H l = some (.lst vs)) : ∀ {d : PyData}, TDT d → ∀ {v : V}, Dp K H v d → Dp K (upd H l (.lst ws)) v d
  | _, .int _, _, h => by cases h; exact .int _
  | _, .str _, _, h => by cases h; exact .str _
  | _, .tup ts, _, h => by
    obtain ⟨c, xs, rfl, hs, ha⟩ := tup_inv h
    exact .tup (sqT_upd hs hl) (dpAll_updT hl ts ha)
theorem dpAll_updT {K : PySem.W.Frag} {H : Hp} {l : Addr} {vs ws : List V} (hl : H l = some (.lst vs)) : ∀ {ds : List PyData}, TDTs ds → ∀ {xs : List V}, DpAll K H xs ds → DpAll K (upd H l (.lst ws)) xs ds
  | _, .nil, _, h => by cases h; exact .nil
  | _, .cons d ds, _, h => by
    cases h with
    | cons h1 h2 => exact .cons (dp_updT hl d h1) (dpAll_updT hl ds h2)
end
theorem elT_tdT : ∀ {k : Nat} {d : PyData} {t : List Nat}, ElT k d t → TDT d
  | 0, _, _, ⟨i, n, w, _, _, _, e, _⟩ => by subst e; exact .tup (tdT_ints [(i : Int), w, (n : Int)])
  | 1, _, _, ⟨i, w, _, _, e, _⟩ => by subst e; exact .tup (tdT_ints [(i : Int), w])
  | 2, _, _, ⟨i, w, s, _, _, _, e, _⟩ => by subst e; exact .tup (tdT_ints [(i : Int), w, s])
  | n + 3, _, _, h => by
    obtain ⟨w, s, _, _, e, _⟩ := (show ∃ (w s : Int), Sign w ∧ ShT s ∧ _ = PyData.tuple [.int w, .int s] ∧ _ = wayT w ++ shT s from h)
    subst e
    exact .tup (tdT_ints [w, s])
theorem elsT_tdT {k : Nat} {ds : List PyData} {ts : List (List Nat)} (h : ElsT k ds ts) : ∀ d ∈ ds, TDT d := fun d hd => by
  obtain ⟨i, hi⟩ := List.getElem?_of_mem hd
  obtain ⟨t, _, el⟩ := paired_getT h hi
  exact elT_tdT el
theorem splT {ts : List (List Nat)} (e : ts ≠ []) (h : ∀ t ∈ ts, 32 ∉ t) : Txt.split (tx (listT ts)) (Str.ofString " ") = ts.map tx := by
  unfold listT
  rw [if_neg e]
  exact splitT e h
theorem ok_tx {l : List Nat} (h : ∀ c ∈ l, c < 1000) : (PyData.str (tx l)).canLay0 = true ∧ (PyData.str (tx l)).depth ≤ 0 := by
  refine ⟨?_, Nat.le_refl _⟩
  show (tx l).cps.all (· < 0x110000) = true
  rw [Array.all_eq_true_iff_forall_mem]
  intro c hc
  have : c ∈ l := by simpa using hc
  exact decide_eq_true (Nat.lt_trans (h c this) (by decide))
theorem dpAll_strs {K : PySem.W.Frag} {H : Hp} : ∀ ss : List Str, DpAll K H (ss.map V.str) (ss.map PyData.str)
  | [] => .nil
  | s :: r => .cons (.str s) (dpAll_strs r)
theorem lay_txs {ts : List (List Nat)} (h : ∀ t ∈ ts, ∀ c ∈ t, c < 1000) : (PyData.list ((ts.map tx).map PyData.str)).canLay0 = true ∧ (PyData.list ((ts.map tx).map PyData.str)).depth ≤ 1 := lay_lst fun d hd => by
  obtain ⟨s, hs, rfl⟩ := List.mem_map.mp hd
  obtain ⟨t, ht, rfl⟩ := List.mem_map.mp hs
  exact ok_tx (h t ht)
/-- a list of texts against the empty one -/
theorem w_emptyS {K : PySem.W.Frag} {H : Hp} {Q : VK} {a b : Addr} {ts : List (List Nat)} (ha : SqL K H a ((ts.map tx).map V.str)) (hb : H b = some (.lst [])) (h : ∀ t ∈ ts, ∀ c ∈ t, c < 1000) (q : Q (.bl ts.isEmpty) H) : rEqD K (.ref a) (.ref b) H Q := by
  refine ⟨_, .list [], .lst ha (dpAll_strs _), .lst (.of hb) .nil, shaped_of (lay_txs h) (by decide), by decide, ?_⟩
  have : PyData.eqv (.list ((ts.map tx).map PyData.str)) (.list []) = ts.isEmpty := by
    cases ts with
    | nil => rfl
    | cons t r => rfl
  rw [this]
  exact q
theorem w_strSh {H : Hp} {Q : VK} {s : Int} (h : ShT s) (q : Q (.str (tx ((shT s).drop 1))) H) : rStrI [.int s] H Q := by
  obtain ⟨t, e1, e2⟩ := shT_say h
  refine ⟨_, rfl, ?_, by rw [show (toString s : Str) = _ from e1, e2]; exact q⟩
  rcases h with rfl | rfl | rfl <;> decide
/-- the sign of a way, picked out of a text -/
theorem w_waySg {H : Hp} {Q : VK} {w : Int} (hw : Sign w) (q : Q (.str (tx (wayT w))) H) : rIxS (.str (Str.ofString "+-")) (.int (if decide (w < 0) = true then 1 else 0)) H Q := by
  have e : Str.ofString "+-" = tx [43, 45] := tx_of "+-"
  have sz : (Str.ofString "+-").length ≤ sizeLine := by rw [e, tx_len]; decide
  rcases hw with rfl | rfl
  · exact ⟨_, _, 43, rfl, rfl, sz, by rw [e]; rfl, q⟩
  · exact ⟨_, _, 45, rfl, rfl, sz, by rw [e]; rfl, q⟩
theorem w_slTd {K : PySem.W.Frag} {H : Hp} {Q : VK} {g : Addr} {xs : List V} {n : Nat} (h : SqT K H g xs) (hn : n ≤ xs.length) (q : ∀ p H', Same H H' → SqT K H' p (xs.drop n) → Q (.ref p) H') : rSlA K (.ref g) (some (n : Int)) none H Q := by
  have cut : cutV xs (some (n : Int)) none = xs.drop n := by
    unfold cutV
    rw [HT.sIx_none, HT.sIx_nat, Nat.min_eq_left hn]
    exact List.take_of_length_le (by rw [List.length_drop]; exact Nat.le_refl _)
  refine ⟨g, _, rfl, h, fun whole => ?_, fun _ p np => ?_⟩
  · refine q g H (Same.refl H) ?_
    rw [← cut, show cutV xs (some (n : Int)) none = xs by unfold cutV; rw [whole.1, whole.2, List.drop_zero, Nat.sub_zero, List.take_length]]
    exact h
  · exact q p _ (same_upd np) (.of (by rw [upd_same, cut]))
theorem w_slTu {K : PySem.W.Frag} {H : Hp} {Q : VK} {g : Addr} {xs : List V} {n : Nat} (h : SqT K H g xs) (hn : n ≤ xs.length) (q : ∀ p H', Same H H' → SqT K H' p (xs.take n) → Q (.ref p) H') : rSlA K (.ref g) none (some (n : Int)) H Q := by
  have cut : cutV xs none (some (n : Int)) = xs.take n := by
    unfold cutV
    rw [HT.sIx_none, HT.sIx_nat, Nat.min_eq_left hn, List.drop_zero, Nat.sub_zero]
  refine ⟨g, _, rfl, h, fun whole => ?_, fun _ p np => ?_⟩
  · refine q g H (Same.refl H) ?_
    rw [← cut, show cutV xs none (some (n : Int)) = xs by unfold cutV; rw [whole.1, whole.2, List.drop_zero, Nat.sub_zero, List.take_length]]
    exact h
  · exact q p _ (same_upd np) (.of (by rw [upd_same, cut]))
theorem joinE (ts : List (List Nat)) : Txt.join (Str.ofString "") (ts.map tx) = tx ts.flatten := by
  rw [tx_of, show ("".toList.map Char.toNat) = [] from rfl, SX.join_S]
  congr 1
  induction ts with
  | nil => rfl
  | cons t r ih =>
    cases r with
    | nil => show t = t ++ []; rw [List.append_nil]
    | cons u s =>
      show t ++ ([] ++ TL.joinL [] (u :: s)) = t ++ (u :: s).flatten
      rw [List.nil_append, ih]
theorem flat_oneT : ∀ {rs : List Nat}, rs.length ≤ 1 → (∀ r ∈ rs, r < M40) → (rs.map nL).flatten.length ≤ 40
  | [], _, _ => Nat.zero_le _
  | [r], _, h => by
    have := nL_len (h r List.mem_cons_self)
    show ((nL r) ++ []).length ≤ 40
    rw [List.append_nil]
    exact this
  | _ :: _ :: _, h, _ => absurd h (by simp)
theorem allT_true : ∀ n : Nat, (List.replicate n true).all id = true
  | 0 => rfl
  | n + 1 => by rw [List.replicate_succ, List.all_cons, allT_true n]; rfl
theorem elT_ints : ∀ {k : Nat} {d : PyData} {t : List Nat}, ElT k d t → ∃ is : List Int, d = .tuple (is.map PyData.int) ∧ is.length ≤ 3
  | 0, _, _, ⟨i, n, w, _, _, _, e, _⟩ => ⟨[(i : Int), w, (n : Int)], e, Nat.le_refl 3⟩
  | 1, _, _, ⟨i, w, _, _, e, _⟩ => ⟨[(i : Int), w], e, (show 2 ≤ 3 by decide)⟩
  | 2, _, _, ⟨i, w, s, _, _, _, e, _⟩ => ⟨[(i : Int), w, s], e, Nat.le_refl 3⟩
  | n + 3, _, _, h => by
    obtain ⟨w, s, _, _, e, _⟩ := (show ∃ (w s : Int), Sign w ∧ ShT s ∧ _ = PyData.tuple [.int w, .int s] ∧ _ = wayT w ++ shT s from h)
    exact ⟨[w, s], e, (show 2 ≤ 3 by decide)⟩
theorem elsT_lay {k : Nat} {ds : List PyData} {ts : List (List Nat)} (h : ElsT k ds ts) : (PyData.list ds).canLay0 = true ∧ (PyData.list ds).depth ≤ 2 := lay_lst (n := 1) fun d hd => by
  obtain ⟨i, hi⟩ := List.getElem?_of_mem hd
  obtain ⟨t, _, el⟩ := paired_getT h hi
  obtain ⟨is, rfl, _⟩ := elT_ints el
  exact lay_tup (lay_ints is 0)
/-! lists of such things, handed about -/
def LsT (K : PySem.W.Frag) (H : Hp) (i : Nat) (a : Addr) (d : List PyData) (t : List (List Nat)) : Prop := ∃ xs, H a = some (.lst xs) ∧ DpAll K H xs d ∧ ElsT i d t ∧ t.length ≤ 1000
theorem LsT.same {K : PySem.W.Frag} {H H' : Hp} {i : Nat} {a : Addr} {d : List PyData} {t : List (List Nat)} (h : LsT K H i a d t) (s : Same H H') : LsT K H' i a d t := by
  obtain ⟨xs, h1, h2, h3, h4⟩ := h
  exact ⟨xs, s _ _ h1, dpAll_same s h2, h3, h4⟩
theorem LsT.put {K : PySem.W.Frag} {H : Hp} {i : Nat} {a S : Addr} {d : List PyData} {t : List (List Nat)} {vs ws : List V} (h : LsT K H i a d t) (n : a ≠ S) (hS : H S = some (.lst vs)) : LsT K (upd H S (.lst ws)) i a d t := by
  obtain ⟨xs, h1, h2, h3, h4⟩ := h
  exact ⟨xs, by rw [upd_ne n]; exact h1, dpAll_updT hS (tdT_of (elsT_tdT h3)) h2, h3, h4⟩
structure FourT (K : PySem.W.Frag) (H : Hp) (q S : Addr) (d : Nat → List PyData) (t : Nat → List (List Nat)) : Prop where
  ne : q ≠ S
  at_ : ∃ as : Nat → Addr, H q = some (.lst [.ref (as 0), .ref (as 1), .ref (as 2), .ref (as 3)]) ∧ ∀ i, i < 4 → as i ≠ S ∧ LsT K H i (as i) (d i) (t i)
theorem FourT.same {K : PySem.W.Frag} {H H' : Hp} {q S : Addr} {d : Nat → List PyData} {t : Nat → List (List Nat)} (h : FourT K H q S d t) (s : Same H H') : FourT K H' q S d t := by
  obtain ⟨n, as, h1, h2⟩ := h
  exact ⟨n, as, s _ _ h1, fun i hi => ⟨(h2 i hi).1, (h2 i hi).2.same s⟩⟩
theorem FourT.put {K : PySem.W.Frag} {H : Hp} {q S : Addr} {d : Nat → List PyData} {t : Nat → List (List Nat)} {vs ws : List V} (h : FourT K H q S d t) (hS : H S = some (.lst vs)) : FourT K (upd H S (.lst ws)) q S d t := by
  obtain ⟨n, as, h1, h2⟩ := h
  exact ⟨n, as, by rw [upd_ne n]; exact h1, fun i hi => ⟨(h2 i hi).1, (h2 i hi).2.put (h2 i hi).1 hS⟩⟩
theorem FourT.pick {K : PySem.W.Frag} {H : Hp} {q S : Addr} {d : Nat → List PyData} {t : Nat → List (List Nat)} (h : FourT K H q S d t) {i : Nat} (hi : i < 4) : ∃ xs a, H q = some (.lst xs) ∧ atI xs (i : Int) = some (.ref a) ∧ LsT K H i a (d i) (t i) := by
  obtain ⟨n, as, h1, h2⟩ := h
  have : i = 0 ∨ i = 1 ∨ i = 2 ∨ i = 3 := by omega
  rcases this with rfl | rfl | rfl | rfl
  · exact ⟨_, as 0, h1, rfl, (h2 0 hi).2⟩
  · exact ⟨_, as 1, h1, rfl, (h2 1 hi).2⟩
  · exact ⟨_, as 2, h1, rfl, (h2 2 hi).2⟩
  · exact ⟨_, as 3, h1, rfl, (h2 3 hi).2⟩
theorem FourT.dp {K : PySem.W.Frag} {H : Hp} {q S : Addr} {d : Nat → List PyData} {t : Nat → List (List Nat)} (h : FourT K H q S d t) : Dp K H (.ref q) (.list [.list (d 0), .list (d 1), .list (d 2), .list (d 3)]) := by
  obtain ⟨n, as, h1, h2⟩ := h
  have one : ∀ i, i < 4 → Dp K H (.ref (as i)) (.list (d i)) := fun i hi => by
    obtain ⟨_, xs, e1, e2, _⟩ := h2 i hi
    exact .lst (.of e1) e2
  exact .lst (.of h1) (.cons (one 0 (by decide)) (.cons (one 1 (by decide)) (.cons (one 2 (by decide)) (.cons (one 3 (by decide)) .nil))))
theorem dpAll_takeT {K : PySem.W.Frag} {H : Hp} : ∀ (n : Nat) {vs : List V} {ds : List PyData}, DpAll K H vs ds → DpAll K H (vs.take n) (ds.take n)
  | 0, _, _, _ => .nil
  | n + 1, _, _, .nil => .nil
  | n + 1, _, _, .cons h t => .cons h (dpAll_takeT n t)
theorem paired_takeT {α β : Type} {R : α → β → Prop} : ∀ (n : Nat) {l : List α} {m : List β}, Paired R l m → Paired R (l.take n) (m.take n)
  | 0, _, _, _ => .nil
  | n + 1, _, _, .nil => .nil
  | n + 1, _, _, .cons h t => .cons h (paired_takeT n t)
theorem paired_appT {α β : Type} {R : α → β → Prop} : ∀ {l : List α} {m : List β} {l' : List α} {m' : List β}, Paired R l m → Paired R l' m' → Paired R (l ++ l') (m ++ m')
  | _, _, _, _, .nil, h => h
  | _, _, _, _, .cons h t, g => .cons h (paired_appT t g)
theorem dpAll_repT {K : PySem.W.Frag} {H : Hp} {vs : List V} {ds : List PyData} (h : DpAll K H vs ds) : ∀ n : Nat, DpAll K H (List.replicate n vs).flatten (List.replicate n ds).flatten
  | 0 => .nil
  | n + 1 => by
    rw [List.replicate_succ, List.replicate_succ, List.flatten_cons, List.flatten_cons]
    exact dpAll_app h (dpAll_repT h n)
theorem paired_repT {α β : Type} {R : α → β → Prop} {l : List α} {m : List β} (h : Paired R l m) : ∀ n : Nat, Paired R (List.replicate n l).flatten (List.replicate n m).flatten
  | 0 => .nil
  | n + 1 => by
    rw [List.replicate_succ, List.replicate_succ, List.flatten_cons, List.flatten_cons]
    exact paired_appT h (paired_repT h n)
/-- so many times over, and cut off -/
theorem LsT.over {K : PySem.W.Frag} {H : Hp} {i n k : Nat} {b : Addr} {xs : List V} {d : List PyData} {t : List (List Nat)} (hk : k ≤ 1000) (dx : DpAll K H xs d) (els : ElsT i d t) (hb : H b = some (.lst ((List.replicate n xs).flatten.take k))) : LsT K H i b ((List.replicate n d).flatten.take k) ((List.replicate n t).flatten.take k) :=
  ⟨_, hb, dpAll_takeT k (dpAll_repT dx n), paired_takeT k (paired_repT els n), by rw [List.length_take]; omega⟩
end Ct

/-! a tuple told n times, n from 0 on -/
namespace Ct
open PySem PySem.Spec PyProof.Rows L2
theorem tuple_mul1 (l : Addr) (items : Array Value) (n : Nat) (dd : Option Addr) (sl : Array (Option Value)) (u : Tok) :
    Meets (Builtin.«tuple.__mul__» ⟨[.ref l, .int 1 u], []⟩) (fun _ R s => s.heap.get? l = some { cls := .type "tuple", dict := dd, data := .seq items n, slots := sl } ∧
      R (.ok (.ret (Value.ref l))) s) :=
  .of_wp fun prog w A R s h => by
    obtain ⟨hp, g, d, tk, os⟩ := s
    obtain ⟨hl, h⟩ := h
    have f1 := AutoSeq1.idx_int
    have c1 : (items.isEmpty || ((1 : Int) == 1)) = true := by simp
    wp_walk using wpAny_loadPart' hl
    exact ⟨_, rfl, h⟩
theorem tuple_mul0 (l : Addr) (items : Array Value) (n : Nat) (dd : Option Addr) (sl : Array (Option Value)) (u : Tok) (c1 : items.isEmpty = false) :
    Meets (Builtin.«tuple.__mul__» ⟨[.ref l, .int 0 u], []⟩) (fun _ R s => s.heap.get? l = some { cls := .type "tuple", dict := dd, data := .seq items n, slots := sl } ∧
      R (.ok (.ret (Value.ref s.heap.objs.size))) { s with heap := s.heap.push { cls := Value.type "tuple", data := Data.seq #[] }, toks := s.toks }) :=
  .of_wp fun prog w A R s h => by
    obtain ⟨hp, g, d, tk, os⟩ := s
    obtain ⟨hl, h⟩ := h
    have f1 := AutoSeq1.idx_int
    wp_walk using wpAny_loadPart' hl
    exact ⟨_, rfl, h⟩
def rRepZ (K : PySem.W.Frag) : R2 := fun x y H Q => ∃ l k xs, x = .ref l ∧ y = .int k ∧ SqT K H l xs ∧ xs ≠ [] ∧ 0 ≤ k ∧ k ≤ 1000 ∧ xs.length ≤ 1000 ∧ ∀ p H', Same H H' → SqT K H' p (List.replicate k.toNat xs).flatten → Q (.ref p) H'
variable {X : Cx}
theorem op_repZ : OpR X (binaryOp .Mult) (rRepZ X.K) := by
  intro pins s σ H x y v u Q I rx ry h
  obtain ⟨l, k, xs, rfl, rfl, hT, hne, h1, h2, hz, q⟩ := h
  by_cases c : 2 ≤ k
  · exact op_repT pins s σ H _ _ v u Q I rx ry ⟨l, k, xs, rfl, rfl, hT, hne, c, h2, hz, fun p hp => q p _ (same_upd hp) (.of upd_same)⟩
  cases rx
  obtain ⟨t, rfl⟩ := ry
  obtain ⟨its, r, ⟨⟨cls, dd, data, sl⟩, ho, hc, n, hd⟩, hs⟩ := I.tuple hT
  simp only at hc hd
  subst hc hd
  have hle : its.length = xs.length := r.length.symm
  have hn : its ≠ [] := fun e => hne (by
    rw [e] at hle
    exact List.eq_nil_of_length_eq_zero hle.symm)
  have hi : its.toArray.isEmpty = false := by
    cases its with
    | nil => exact absurd rfl hn
    | cons a b => rfl
  have k01 : k = 0 ∨ k = 1 := by omega
  rcases k01 with rfl | rfl
  · refine wpAny_binaryOp_repeat_ref (T := "tuple") (U := "int") (by decide) ⟨_, ho, rfl⟩ (fun s' => typeIs_int s' 0 t) noFill_tuple_mul F.fills_int_mul F.slot_int_rmul repeat_tuple F.slot_int_index.lookup
      (call_meets F.slot_int_rmul (typeIs_int s 0 t) F.entry_int_rmul (F.args_int_rmul_2 _ _) (int_rmul_tuple 0 t l its.toArray n dd sl)
        ⟨ho, rfl, ⟨_, ho, rfl⟩, call_meets F.slot_tuple_mul ⟨_, ho, rfl⟩ F.entry_tuple_mul (F.args_tuple_mul_2 _ _) (tuple_mul0 l its.toArray n dd sl t hi) ⟨ho, ?_⟩⟩)
    refine ⟨.ref s.heap.objs.size, _, I.laid (t' := s.toks) (o := .tup []) (fun b ob q => Heap.get?_push_of_some _ q) (Nat.le_refl _) ?_, rfl, q _ _ (same_upd (I.hok.fresh (Nat.le_refl _))) (.of upd_same)⟩
    exact ⟨Nat.zero_le _, _, .nil, IsTup.new _ _⟩
  · refine wpAny_binaryOp_repeat_ref (T := "tuple") (U := "int") (by decide) ⟨_, ho, rfl⟩ (fun s' => typeIs_int s' 1 t) noFill_tuple_mul F.fills_int_mul F.slot_int_rmul repeat_tuple F.slot_int_index.lookup
      (call_meets F.slot_int_rmul (typeIs_int s 1 t) F.entry_int_rmul (F.args_int_rmul_2 _ _) (int_rmul_tuple 1 t l its.toArray n dd sl)
        ⟨ho, rfl, ⟨_, ho, rfl⟩, call_meets F.slot_tuple_mul ⟨_, ho, rfl⟩ F.entry_tuple_mul (F.args_tuple_mul_2 _ _) (tuple_mul1 l its.toArray n dd sl t) ⟨ho, ?_⟩⟩)
    exact ⟨.ref l, H, I, rfl, q _ _ (fun _ _ z => z) (by rw [show (List.replicate (Int.toNat 1) xs).flatten = xs by simp]; exact hT)⟩
theorem w_repZ {K : PySem.W.Frag} {H : Hp} {l : Addr} {k : Int} {xs : List V} {Q : VK} (hT : SqT K H l xs) (hne : xs ≠ []) (h0 : 0 ≤ k) (h2 : k ≤ 1000) (hz : xs.length ≤ 1000) (q : ∀ p H', Same H H' → SqT K H' p (List.replicate k.toNat xs).flatten → Q (.ref p) H') : rRepZ K (.ref l) (.int k) H Q :=
  ⟨l, k, xs, rfl, rfl, hT, hne, h0, h2, hz, q⟩
end Ct

/-! trains and stands as texts -/
namespace Ct
open PySem PySem.Spec PyProof.Rows L2
def jN (s : Nat) (ns : List Nat) : List Nat := TL.joinL [s] (ns.map nL)
/-- a part of moderate size, and its text -/
def PartS (p : Part) (t : List Nat) : Prop := p.ok ∧
  ((∃ (z : Nat) (ns : List Nat), p = .wheel (z : Int) (ns.map fun n : Nat => (n : Int)) ∧ z < M40 ∧ (∀ n ∈ ns, n < M40) ∧ (ns.length ≤ 300 ∧ (ns.length ≤ 30 ∨ ∀ n ∈ ns, n < 1000)) ∧ t = 119 :: (nL z ++ 58 :: jN 44 ns)) ∨
   (p = .click ∧ t = [99]) ∨ (p = .rocker ∧ t = [114]) ∨ ∃ k : Nat, p = .spring (k : Int) ∧ k < M40 ∧ t = 115 :: nL k)
abbrev TrainT : List Part → List (List Nat) → Prop := Paired PartS
theorem joinG_len {m s : Nat} : ∀ {ts : List (List Nat)}, (∀ t ∈ ts, t.length ≤ m) → (TL.joinL [s] ts).length ≤ (m + 1) * ts.length
  | [], _ => Nat.zero_le _
  | [t], h => by
    have := h t List.mem_cons_self
    show t.length ≤ (m + 1) * 1
    omega
  | t :: u :: r, h => by
    have h1 := h t List.mem_cons_self
    have ih := joinG_len (s := s) (ts := u :: r) fun x hx => h x (List.mem_cons_of_mem _ hx)
    show (t ++ ([s] ++ TL.joinL [s] (u :: r))).length ≤ (m + 1) * ((u :: r).length + 1)
    rw [List.length_append, List.length_append, Nat.mul_succ]
    show t.length + (1 + _) ≤ _
    omega
theorem mem_joinG {s c : Nat} : ∀ {ts : List (List Nat)}, c ∈ TL.joinL [s] ts → c = s ∨ ∃ t ∈ ts, c ∈ t
  | [], h => by cases h
  | [t], h => .inr ⟨t, List.mem_cons_self, h⟩
  | t :: u :: r, h => by
    rcases List.mem_append.mp (show c ∈ t ++ ([s] ++ TL.joinL [s] (u :: r)) from h) with h | h
    · exact .inr ⟨t, List.mem_cons_self, h⟩
    · rcases List.mem_append.mp h with h | h
      · exact .inl (List.mem_singleton.mp h)
      · rcases mem_joinG h with h | ⟨x, hx, hc⟩
        · exact .inl h
        · exact .inr ⟨x, List.mem_cons_of_mem _ hx, hc⟩
theorem jN_len {s : Nat} {ns : List Nat} (h : ∀ n ∈ ns, n < M40) : (jN s ns).length ≤ 41 * ns.length := by
  have := joinG_len (m := 40) (s := s) (ts := ns.map nL) fun t ht => by
    obtain ⟨n, hn, rfl⟩ := List.mem_map.mp ht
    exact nL_len (h n hn)
  rw [List.length_map] at this
  exact this
theorem jN_mem {s c : Nat} {ns : List Nat} (h : c ∈ jN s ns) : c = s ∨ 48 ≤ c ∧ c ≤ 57 := by
  rcases mem_joinG h with h | ⟨t, ht, hc⟩
  · exact .inl h
  · obtain ⟨n, _, rfl⟩ := List.mem_map.mp ht
    exact .inr (nL_dig hc)
theorem splitG {s : Nat} {c : String} (e : c.toList.map Char.toNat = [s]) (hs : s < 256) {ts : List (List Nat)} (ne : ts ≠ []) (h : ∀ t ∈ ts, s ∉ t) : Txt.split (tx (TL.joinL [s] ts)) (Str.ofString c) = ts.map tx := by
  rw [tx_of, e, SX.split_S (List.cons_ne_nil _ _) (by rw [List.all_cons, decide_eq_true hs]; rfl), SX.spl_join ne h]
theorem splitN {s : Nat} {c : String} (e : c.toList.map Char.toNat = [s]) (hs : s < 48 ∨ 57 < s ∧ s < 256) {ns : List Nat} (ne : ns ≠ []) : Txt.split (tx (jN s ns)) (Str.ofString c) = (ns.map nL).map tx :=
  splitG e (by omega) (fun z => ne (List.map_eq_nil_iff.mp z)) fun t ht z => by
    obtain ⟨n, _, rfl⟩ := List.mem_map.mp ht
    have := nL_dig z
    omega
theorem partC {z : Nat} {r : List Nat} : Txt.partition (tx (nL z ++ 58 :: r)) (Str.ofString ":") = (tx (nL z), tx [58], tx r) := by
  rw [tx_of, show ":".toList.map Char.toNat = [58] from rfl]
  exact SX.partition_some (List.cons_ne_nil _ _) (SX.par_head r fun h => by have := nL_dig h; omega)
theorem startT (c : Nat) (r : List Nat) (s : String) {d : Nat} (e : s.toList.map Char.toNat = [d]) : Txt.startswith (tx (c :: r)) (Str.ofString s) = decide (c = d) := by
  rw [tx_of, e]
  unfold Txt.startswith
  rw [StrLaws.subAt_eq, tx_len, tx_len]
  have : decide (0 + [d].length ≤ (c :: r).length) = true := decide_eq_true (by show 1 ≤ r.length + 1; omega)
  rw [this, Bool.true_and]
  show ([c] == [d]) = decide (c = d)
  by_cases z : c = d
  · rw [z, decide_eq_true rfl]
    exact beq_self_eq_true [d]
  · rw [decide_eq_false z]
    exact beq_eq_false_iff_ne.mpr fun h => z (List.cons.inj h).1
theorem partS_len {p : Part} {t : List Nat} (h : PartS p t) : 1 ≤ t.length ∧ t.length ≤ 1300 := by
  rcases h.2 with ⟨z, ns, _, hz, hn, nl, rfl⟩ | ⟨_, rfl⟩ | ⟨_, rfl⟩ | ⟨k, _, hk, rfl⟩
  · have a := nL_len hz
    have b : (jN 44 ns).length ≤ 1230 := by
      rcases nl with ⟨n3, nl | nl⟩
      · have := jN_len (s := 44) hn
        omega
      · have := joinG_len (m := 3) (s := 44) (ts := ns.map nL) fun t ht => by
          obtain ⟨n, hi, rfl⟩ := List.mem_map.mp ht
          exact TL.numL_len (k := 3) (by decide) (nl n hi)
        rw [List.length_map] at this
        show (TL.joinL [44] (ns.map nL)).length ≤ 1230
        omega
    have : (119 :: (nL z ++ 58 :: jN 44 ns)).length = (nL z).length + ((jN 44 ns).length + 1) + 1 := by rw [List.length_cons, List.length_append, List.length_cons]
    omega
  · decide
  · decide
  · have := nL_len hk
    rw [List.length_cons]
    omega
theorem partS_free {p : Part} {t : List Nat} (h : PartS p t) : ∀ c ∈ t, 44 ≤ c ∧ c ≤ 119 := fun c hc => by
  rcases h.2 with ⟨z, ns, _, hz, hn, nl, rfl⟩ | ⟨_, rfl⟩ | ⟨_, rfl⟩ | ⟨k, _, hk, rfl⟩
  · rcases List.mem_cons.mp hc with rfl | hc
    · omega
    rcases List.mem_append.mp hc with hc | hc
    · have := nL_dig hc; omega
    rcases List.mem_cons.mp hc with rfl | hc
    · omega
    · have := jN_mem hc; omega
  · rw [List.mem_singleton.mp hc]; omega
  · rw [List.mem_singleton.mp hc]; omega
  · rcases List.mem_cons.mp hc with rfl | hc
    · omega
    · have := nL_dig hc; omega
theorem trainT_fact {ps : List Part} {ts : List (List Nat)} (h : TrainT ps ts) : ∀ t ∈ ts, 1 ≤ t.length ∧ t.length ≤ 1300 ∧ ∀ c ∈ t, 44 ≤ c ∧ c ≤ 119 := fun t ht => by
  obtain ⟨p, hp⟩ := paired_memT h ht
  exact ⟨(partS_len hp).1, (partS_len hp).2, partS_free hp⟩
theorem trainT_ok {ps : List Part} {ts : List (List Nat)} (h : TrainT ps ts) : ∀ p ∈ ps, p.ok := fun p hp => by
  obtain ⟨i, hi⟩ := List.getElem?_of_mem hp
  obtain ⟨t, _, hs⟩ := paired_getT h hi
  exact hs.1
/-- what a part's data is made of -/
theorem partS_tdT {p : Part} {t : List Nat} (h : PartS p t) : TDT p.data := by
  rcases h.2 with ⟨z, ns, rfl, _⟩ | ⟨rfl, _⟩ | ⟨rfl, _⟩ | ⟨k, rfl, _⟩
  · exact .tup (.cons (.str _) (.cons (.int _) (.cons (.tup (tdT_ints _)) .nil)))
  · exact .tup (.cons (.str _) .nil)
  · exact .tup (.cons (.str _) .nil)
  · exact .tup (.cons (.str _) (.cons (.int _) .nil))
theorem trainT_tdT {ps : List Part} {ts : List (List Nat)} (h : TrainT ps ts) : TDTs (ps.map Part.data) := tdT_of fun d hd => by
  obtain ⟨p, hp, rfl⟩ := List.mem_map.mp hd
  obtain ⟨i, hi⟩ := List.getElem?_of_mem hp
  obtain ⟨t, _, hs⟩ := paired_getT h hi
  exact partS_tdT hs
theorem m40_lt : M40 < 2 ^ 200 := by decide
theorem map_toInt (ns : List Nat) : (ns.map fun n : Nat => (n : Int)).map V.int = ns.map fun n : Nat => V.int (n : Int) := by rw [List.map_map]; rfl
theorem map_toIntD (ns : List Nat) : (ns.map fun n : Nat => (n : Int)).map PyData.int = ns.map fun n : Nat => PyData.int (n : Int) := by rw [List.map_map]; rfl
theorem fitN {s : Str} {ns : List Nat} (h : ∀ n ∈ ns, n < M40) (l : ns.length ≤ 2000) (hs : s.length ≤ 1) : (((ns.map nL).map tx).map (·.length)).sum + ((ns.map nL).map tx).length * s.length ≤ 16777216 :=
  fitT (fun t ht => by
    obtain ⟨n, hn, rfl⟩ := List.mem_map.mp ht
    exact Nat.le_trans (nL_len (h n hn)) (by decide)) (by rw [List.length_map]; omega) hs
theorem take_succN {α β : Type} (f : α → β) {l : List α} {i : Nat} {a : α} (h : l[i]? = some a) : (l.take (i + 1)).map f = (l.take i).map f ++ [f a] := by
  rw [List.take_add_one, h, List.map_append]
  rfl
theorem map_getN {α β : Type} {f : α → β} {l : List α} {i : Nat} {x : β} (h : (l.map f)[i]? = some x) : ∃ a, l[i]? = some a ∧ x = f a := by
  rw [List.getElem?_map] at h
  cases z : l[i]? with
  | none => rw [z] at h; cases h
  | some a =>
    rw [z] at h
    exact ⟨a, rfl, (Option.some.inj h).symm⟩
theorem jN_pos {s : Nat} : ∀ {ns : List Nat}, ns ≠ [] → 1 ≤ (jN s ns).length
  | [], h => absurd rfl h
  | [n], _ => nL_pos n
  | n :: m :: r, _ => by
    show 1 ≤ (nL n ++ ([s] ++ TL.joinL [s] ((m :: r).map nL))).length
    rw [List.length_append]
    have := nL_pos n
    omega
/-- walking what is a list or a tuple -/
def iAny (K : PySem.W.Frag) (tl : TE) : TI := fun σ H R => iList K tl σ H R ∨ iTup K tl σ H R
theorem pi_any {X : Cx} {tg l : Expr} {tl : TE} (hl : PE X l tl) : PI X tg l (iAny X.K tl) :=
  ⟨fun pins s σ H R I h => h.elim ((pi_list hl).run pins s σ H R I) ((pi_tup hl).run pins s σ H R I)⟩
theorem w_isiLT {K : PySem.W.Frag} {H : Hp} {Q : VK} {x : V} {p : Addr} {n : String} {b1 b2 b : Bool} (ty : TyX K H x (.type n)) (hT : H p = some (.tup [.ty "list", .ty "tuple"])) (k1 : PySem.W.kitOne K (.type n) (.type "list") = some b1) (k2 : PySem.W.kitOne K (.type n) (.type "tuple") = some b2) (e : (b1 || b2) = b) (q : Q (.bl b) H) : rIsiT K [x, .ref p] H Q := by
  subst e
  exact
  ⟨x, p, _, .type n, [.type "list", .type "tuple"], b1 || b2, rfl, hT, .cons (.ty _) (.cons (.ty _) .nil), ty, kitAny_cons k1 (fun e => by
    subst e
    exact kitAny_cons k2 (fun e2 => by subst e2; rfl) fun e2 => by subst e2; rfl) (fun e => by subst e; rfl), q⟩
theorem all_rep : ∀ (n : Nat), (List.replicate n true).all id = true := allT_true
theorem w_anyL {K : PySem.W.Frag} {tl : TE} {σ : L2.St} {H : Hp} {R : It → Hp → Prop} (h : tl σ H fun v H1 => IL K v H1 R) : iAny K tl σ H R := .inl h
theorem w_anyT {K : PySem.W.Frag} {tl : TE} {σ : L2.St} {H : Hp} {R : It → Hp → Prop} (h : tl σ H fun v H1 => IT K v H1 R) : iAny K tl σ H R := .inr h
/-- data made of numbers, texts, lists and tuples, so deep at most -/
inductive PlainD : Nat → PyData → Prop
  | int (n : Nat) (i : Int) : PlainD (n + 1) (.int i)
  | str (n : Nat) (x : Str) : PlainD (n + 1) (.str x)
  | lst {n : Nat} {ds : List PyData} : (∀ d ∈ ds, PlainD n d) → ds.length ≤ 1000 → PlainD (n + 1) (.list ds)
  | tup {n : Nat} {ds : List PyData} : (∀ d ∈ ds, PlainD n d) → ds.length ≤ 1000 → PlainD (n + 1) (.tuple ds)
theorem plain_ints {n : Nat} {is : List Int} (l : is.length ≤ 1000) : PlainD (n + 2) (.tuple (is.map PyData.int)) := .tup (fun d hd => by
  obtain ⟨i, _, rfl⟩ := List.mem_map.mp hd
  exact .int n i) (by rw [List.length_map]; exact l)
theorem plain_part {p : Part} {t : List Nat} (h : PartS p t) : PlainD 4 p.data := by
  have c3 : ∀ {x y z : PyData}, PlainD 3 x → PlainD 3 y → PlainD 3 z → PlainD 4 (.tuple [x, y, z]) := fun a b c => .tup (fun d hd => by
    rcases List.mem_cons.mp hd with rfl | hd
    · exact a
    rcases List.mem_cons.mp hd with rfl | hd
    · exact b
    rw [List.mem_singleton.mp hd]
    exact c) (show 3 ≤ 1000 by decide)
  have c2 : ∀ {x y : PyData}, PlainD 3 x → PlainD 3 y → PlainD 4 (.tuple [x, y]) := fun a b => .tup (fun d hd => by
    rcases List.mem_cons.mp hd with rfl | hd
    · exact a
    rw [List.mem_singleton.mp hd]
    exact b) (show 2 ≤ 1000 by decide)
  have c1 : ∀ {x : PyData}, PlainD 3 x → PlainD 4 (.tuple [x]) := fun a => .tup (fun d hd => by
    rw [List.mem_singleton.mp hd]
    exact a) (show 1 ≤ 1000 by decide)
  rcases h.2 with ⟨z, ns, rfl, _, _, nl, _⟩ | ⟨rfl, _⟩ | ⟨rfl, _⟩ | ⟨k, rfl, _⟩
  · exact c3 (.str _ _) (.int _ _) (plain_ints (by rw [List.length_map]; omega))
  · exact c1 (.str _ _)
  · exact c1 (.str _ _)
  · exact c2 (.str _ _) (.int _ _)
theorem plain_train {ps : List Part} {ts : List (List Nat)} (h : TrainT ps ts) (l : ps.length ≤ 1000) : PlainD 5 (.list (ps.map Part.data)) := .lst (fun d hd => by
  obtain ⟨p, hp, rfl⟩ := List.mem_map.mp hd
  obtain ⟨i, hi⟩ := List.getElem?_of_mem hp
  obtain ⟨t, _, hs⟩ := paired_getT h hi
  exact plain_part hs) (by rw [List.length_map]; exact l)
theorem trainT_low {ps : List Part} {ts : List (List Nat)} (h : TrainT ps ts) : ∀ c ∈ TL.joinL [32] ts, c < 1000 := fun c hc => by
  rcases mem_joinG hc with rfl | ⟨t, ht, hc⟩
  · decide
  · have := (trainT_fact h t ht).2.2 c hc
    omega
theorem jN_low {s : Nat} {ns : List Nat} (hs : s < 48) : ∀ c ∈ jN s ns, c < 1000 := fun c hc => by
  have := jN_mem hc
  omega
theorem lay_two {a b : List Nat} (ha : ∀ c ∈ a, c < 1000) (hb : ∀ c ∈ b, c < 1000) : (PyData.list [.str (tx a), .str (tx b)]).canLay0 = true ∧ (PyData.list [.str (tx a), .str (tx b)]).depth ≤ 1 := lay_lst fun d hd => by
  rcases List.mem_cons.mp hd with rfl | hd
  · exact ok_tx ha
  · rw [List.mem_singleton.mp hd]
    exact ok_tx hb
theorem w_eqSameT {K : PySem.W.Frag} {H : Hp} {Q : VK} {x y : V} (d : PyData) {n : Nat} (hx : Dp K H x d) (hy : Dp K H y d) (h : d.canLay0 = true ∧ d.depth ≤ n) (e : n ≤ 64) (q : Q (.bl true) H) : rEqD K x y H Q :=
  ⟨d, d, hx, hy, shaped_of h e, shaped_of h e, by rw [SeqAt.eqv_refl d h.1]; exact q⟩
/-- marks that rise -/
theorem rise_nat {z : Nat} {ns : List Nat} (h : ns.Pairwise (· < ·)) (b : ∀ n ∈ ns, n < z) : Rise (z : Int) (ns.map fun n : Nat => (n : Int)) := by
  refine ⟨?_, fun m hm => ?_⟩
  · rw [List.pairwise_map]
    exact h.imp fun x => by omega
  · obtain ⟨n, hn, rfl⟩ := List.mem_map.mp hm
    have := b n hn
    omega
theorem int200 {k : Nat} (h : k < M40) : (k : Int) < 2 ^ 200 := Int.ofNat_lt.mpr (Nat.lt_trans h m40_lt)
theorem wheelS {z : Nat} {ns : List Nat} (h : ns.Pairwise (· < ·)) (b : ∀ n ∈ ns, n < z) (z0 : 1 ≤ z) (hz : z < M40) (l : ns.length ≤ 30) : PartS (.wheel (z : Int) (ns.map fun n : Nat => (n : Int))) (119 :: (nL z ++ 58 :: jN 44 ns)) :=
  ⟨⟨by omega, int200 hz, rise_nat h b, by rw [List.length_map]; omega⟩, .inl ⟨z, ns, rfl, hz, fun n hn => Nat.lt_trans (b n hn) hz, ⟨by omega, .inl l⟩, rfl⟩⟩
theorem springS {k : Nat} (k0 : 1 ≤ k) (hk : k < M40) : PartS (.spring (k : Int)) (115 :: nL k) :=
  ⟨⟨by omega, int200 hk⟩, .inr (.inr (.inr ⟨k, rfl, hk, rfl⟩))⟩
theorem clickS : PartS .click [99] := ⟨trivial, .inr (.inl ⟨rfl, rfl⟩)⟩
theorem rockerS : PartS .rocker [114] := ⟨trivial, .inr (.inr (.inl ⟨rfl, rfl⟩))⟩
end Ct

/-! max of a tuple of numbers -/
namespace Ct
open PySem PySem.Spec PyProof.Rows L2
theorem depth_intsM : ∀ ms : List Int, PyData.depthAll (ms.map PyData.int) = 0
  | [] => rfl
  | m :: r => by rw [List.map_cons, PyData.depthAll, depth_intsM r]; rfl
def rMaxN (K : PySem.W.Frag) : List V → Hp → VK → Prop := fun xs H Q => ∃ (a : Addr) (n : Int) (ns : List Int), xs = [.ref a] ∧ SqT K H a ((n :: ns).map V.int) ∧ Q (.int (ns.foldl max n)) H
theorem reads_ints {X : Cx} {pins : List (Addr × Obj)} {σ : L2.St} {H : Hp} {s : Shared} (I : Inv X pins σ H s) : ∀ {ns : List Int} {us : List Value}, Vals (ns.map V.int) us → ∃ as, ReadsAll s.heap us (ns.map PyData.int) as
  | [], _, .nil => ⟨_, .nil⟩
  | n :: ns, _, .cons r t => by
    obtain ⟨as, h⟩ := reads_ints I t
    obtain ⟨bs, g⟩ := Dp.reads I (.int n) (.int n) _ (.int n) r
    exact ⟨_, .cons g h⟩
theorem alike_ints (ns : List Int) : PySem.W.AlikeAll (ns.map PyData.int) := by
  refine ⟨fun x hx y hy => ?_, fun x hx e => ?_⟩
  · obtain ⟨a, _, rfl⟩ := List.mem_map.mp hx
    obtain ⟨b, _, rfl⟩ := List.mem_map.mp hy
    simp only [PySem.W.alike]
  · obtain ⟨a, _, rfl⟩ := List.mem_map.mp hx
    cases e
theorem cr_maxN {X : Cx} (hc : X.calm = true) (hu : X.A.units + 64 < cLine) : CallR X (.builtin "max") (rMaxN X.K) := by
  rintro pins s σ H xs us Q I r ⟨a, n, ns, rfl, hs, q⟩
  obtain ⟨its, rv, hl, _⟩ := I.tuple hs
  rw [Vals.ref1 r]
  obtain ⟨as, rds⟩ := reads_ints (ns := n :: ns) I rv
  refine PySem.W.max_tuple_data (I.ok.hd hc) hl (x := .int n) (xs := ns.map .int) rds (alike_ints (n :: ns)) (by
    rw [show PyData.depthAll (PyData.int n :: ns.map PyData.int) = 0 from depth_intsM (n :: ns)]
    omega) fun i v h' tk bs hi rd hk => ?_
  rw [PySem.W.maxD_ints] at rd
  cases rd
  exact ⟨.int _, H, I.kept hk, ⟨_, rfl⟩, q⟩
theorem foldl_maxN : ∀ (ns : List Int) (n : Int), n ≤ ns.foldl max n ∧ (∀ m ∈ ns, m ≤ ns.foldl max n) ∧ (ns.foldl max n = n ∨ ns.foldl max n ∈ ns)
  | [], n => ⟨Int.le_refl _, (fun _ h => nomatch h), .inl rfl⟩
  | m :: r, n => by
    obtain ⟨h1, h2, h3⟩ := foldl_maxN r (max n m)
    show n ≤ r.foldl max (max n m) ∧ (∀ x ∈ m :: r, x ≤ r.foldl max (max n m)) ∧ (r.foldl max (max n m) = n ∨ r.foldl max (max n m) ∈ m :: r)
    refine ⟨by omega, fun x hx => ?_, ?_⟩
    · rcases List.mem_cons.mp hx with rfl | hx
      · omega
      · exact h2 x hx
    · rcases h3 with h3 | h3
      · rw [h3]
        by_cases c : n ≤ m
        · exact .inr (by rw [show max n m = m by omega]; exact List.mem_cons_self)
        · exact .inl (by omega)
      · exact .inr (List.mem_cons_of_mem _ h3)
end Ct

/-! answers as texts -/
namespace Ct
open PySem PySem.Spec PyProof.Rows L2
/-- a stand, and its text -/
def StandA (d : PyData) (t : List Nat) : Prop := ∃ ns : List Nat, d = .tuple ((ns.map fun n : Nat => (n : Int)).map PyData.int) ∧ ns ≠ [] ∧ (∀ n ∈ ns, n < M40) ∧ ns.length ≤ 20 ∧ t = jN 47 ns
def PairA (d : PyData) (t : List Nat) : Prop := ∃ a b ta tb, StandA a ta ∧ StandA b tb ∧ d = .tuple [a, b] ∧ t = ta ++ 126 :: tb
def NumbA (d : PyData) (t : List Nat) : Prop := ∃ a ta, ∃ n : Nat, StandA a ta ∧ n < M40 ∧ d = .tuple [a, .int (n : Int)] ∧ t = ta ++ 58 :: nL n
def BarA (d : PyData) (t : List Nat) : Prop := ∃ j k : Nat, j < M40 ∧ k < M40 ∧ d = .tuple [.int (j : Int), .int (k : Int)] ∧ t = jN 126 [j, k]
def waysT (ws : List Int) : List Nat := if ws = [] then noneT else (ws.map wayT).flatten
/-- the way words stand apart in an answer -/
def tlS (s : String) : List Nat := s.toList.map Char.toNat
def AnsA (d : PyData) (t : List Nat) : Prop :=
  (∃ ds ts, Paired PairA ds ts ∧ ts.length ≤ 2000 ∧ d = .tuple [.str "alike", .list ds] ∧ t = tlS "alike " ++ listT ts) ∨
  (∃ ws : List Int, (∀ w ∈ ws, Sign w) ∧ ws.length ≤ 2000 ∧ d = .tuple [.str "apart", .list (ws.map PyData.int)] ∧ t = tlS "apart " ++ waysT ws) ∨
  (∃ k ds ts es us, k < 2 ∧ ElsT k ds ts ∧ ts.length ≤ 2000 ∧ Paired NumbA es us ∧ us.length ≤ 2000 ∧ d = .tuple [.str "row", .list ds, .list es] ∧ t = tlS "row " ++ listT ts ++ tlS "; " ++ listT us) ∨
  (∃ ds ts, Paired StandA ds ts ∧ ts.length ≤ 2000 ∧ d = .tuple [.str "never", .list ds] ∧ t = tlS "never " ++ listT ts) ∨
  (∃ (z : Nat) (ns : List Nat) (pt : List Nat) (ds : List PyData) (ts : List (List Nat)), PartS (.wheel (z : Int) (ns.map fun n : Nat => (n : Int))) pt ∧ Paired BarA ds ts ∧ ts.length ≤ 1999 ∧ d = .tuple [.str "wheel", .int (z : Int), .tuple ((ns.map fun n : Nat => (n : Int)).map PyData.int), .list ds] ∧ t = tlS "wheel " ++ TL.joinL [32] (pt :: ts)) ∨
  ∃ j k : Nat, j < M40 ∧ k < M40 ∧ d = .tuple [.str "none", .int (j : Int), .int (k : Int)] ∧ t = tlS "none " ++ jN 32 [j, k]
theorem standA_fact {d : PyData} {t : List Nat} (h : StandA d t) : 1 ≤ t.length ∧ t.length ≤ 820 ∧ (∀ c ∈ t, 47 ≤ c ∧ c ≤ 57) ∧ TDT d := by
  obtain ⟨ns, rfl, ne, hn, nl, rfl⟩ := h
  have := jN_len (s := 47) hn
  exact ⟨jN_pos ne, by omega, fun c hc => by have := jN_mem hc; omega, .tup (tdT_ints _)⟩
theorem pairA_fact {d : PyData} {t : List Nat} (h : PairA d t) : 1 ≤ t.length ∧ t.length ≤ 1641 ∧ (∀ c ∈ t, 47 ≤ c ∧ c ≤ 126) ∧ TDT d := by
  obtain ⟨a, b, ta, tb, ha, hb, rfl, rfl⟩ := h
  obtain ⟨a1, a2, a3, a4⟩ := standA_fact ha
  obtain ⟨b1, b2, b3, b4⟩ := standA_fact hb
  refine ⟨by rw [List.length_append]; omega, by rw [List.length_append, List.length_cons]; omega, fun c hc => ?_, .tup (.cons a4 (.cons b4 .nil))⟩
  rcases List.mem_append.mp hc with hc | hc
  · have := a3 c hc; omega
  rcases List.mem_cons.mp hc with rfl | hc
  · omega
  · have := b3 c hc; omega
theorem numbA_fact {d : PyData} {t : List Nat} (h : NumbA d t) : 1 ≤ t.length ∧ t.length ≤ 1300 ∧ (∀ c ∈ t, 47 ≤ c ∧ c ≤ 58) ∧ TDT d := by
  obtain ⟨a, ta, n, ha, hn, rfl, rfl⟩ := h
  obtain ⟨a1, a2, a3, a4⟩ := standA_fact ha
  have l := nL_len hn
  refine ⟨by rw [List.length_append]; omega, by rw [List.length_append, List.length_cons]; omega, fun c hc => ?_, .tup (.cons a4 (.cons (.int _) .nil))⟩
  rcases List.mem_append.mp hc with hc | hc
  · have := a3 c hc; omega
  rcases List.mem_cons.mp hc with rfl | hc
  · omega
  · have := nL_dig hc; omega
theorem barA_fact {d : PyData} {t : List Nat} (h : BarA d t) : 1 ≤ t.length ∧ t.length ≤ 82 ∧ (∀ c ∈ t, 48 ≤ c ∧ c ≤ 126) ∧ TDT d := by
  obtain ⟨j, k, hj, hk, rfl, rfl⟩ := h
  have := jN_len (s := 126) (ns := [j, k]) fun n hn => by
    rcases List.mem_cons.mp hn with rfl | hn
    · exact hj
    · rw [List.mem_singleton.mp hn]; exact hk
  exact ⟨jN_pos (List.cons_ne_nil _ _), this, fun c hc => by have := jN_mem hc; omega, .tup (.cons (.int _) (.cons (.int _) .nil))⟩
/-- parting at a sign that does not stand ahead -/
theorem partA {a r : List Nat} {s : Nat} {c : String} (e : c.toList.map Char.toNat = [s]) (h : s ∉ a) : Txt.partition (tx (a ++ s :: r)) (Str.ofString c) = (tx a, tx [s], tx r) := by
  rw [tx_of, e]
  exact SX.partition_some (List.cons_ne_nil _ _) (SX.par_head r h)
theorem standA_inv {K : PySem.W.Frag} {H : Hp} {v : V} {d : PyData} {t : List Nat} (h : StandA d t) (hv : Dp K H v d) : ∃ (a : Addr) (ns : List Nat), v = .ref a ∧ SqT K H a (ns.map fun n : Nat => V.int (n : Int)) ∧ ns ≠ [] ∧ (∀ n ∈ ns, n < M40) ∧ ns.length ≤ 20 ∧ t = jN 47 ns := by
  obtain ⟨ns, rfl, ne, hn, nl, rfl⟩ := h
  obtain ⟨a, rfl, hs⟩ := dpi_inv hv
  exact ⟨a, ns, rfl, by rw [← map_toInt]; exact hs, ne, hn, nl, rfl⟩
theorem standA_dp {K : PySem.W.Frag} {H : Hp} {a : Addr} {ns : List Nat} (h : SqT K H a (ns.map fun n : Nat => V.int (n : Int))) : Dp K H (.ref a) (.tuple ((ns.map fun n : Nat => (n : Int)).map PyData.int)) := .tup h (by rw [← map_toInt]; exact dpAll_ints _)
theorem w_jsT {ts : List TE} {σ : L2.St} {H : Hp} {QT : Str → Hp → Prop} (h : tJ ts [] σ H QT) : tJs ts Str.empty σ H QT := h
theorem flat_ways : ∀ ws : List Int, (ws.map wayT).flatten.length = ws.length
  | [] => rfl
  | w :: r => by rw [List.map_cons, List.flatten_cons, List.length_append, wayT_len, flat_ways r, List.length_cons]; omega
theorem waysT_len (ws : List Int) : (waysT ws).length ≤ ws.length + 4 := by
  unfold waysT
  split
  · exact Nat.le_add_left _ _
  · rw [flat_ways]
    omega
theorem join_noneH {ts : List (List Nat)} (ne : ts ≠ []) (h : ∀ t ∈ ts, ∃ c r, t = c :: r ∧ c ≤ 61) : listT ts ≠ noneT := fun e => by
  unfold listT at e
  rw [if_neg ne] at e
  cases ts with
  | nil => exact ne rfl
  | cons t r =>
    obtain ⟨c, q, rfl, hc⟩ := h t List.mem_cons_self
    have : (TL.joinL [32] ((c :: q) :: r)).head? = some c := by cases r <;> rfl
    rw [e] at this
    cases (Option.some.inj this)
    omega
theorem standA_head {d : PyData} {t : List Nat} (h : StandA d t) : ∃ c r, t = c :: r ∧ c ≤ 61 := by
  obtain ⟨h1, _, h3, _⟩ := standA_fact h
  cases t with
  | nil => cases h1
  | cons c r => exact ⟨c, r, rfl, by have := h3 c List.mem_cons_self; omega⟩
theorem pairA_head {d : PyData} {t : List Nat} (h : PairA d t) : ∃ c r, t = c :: r ∧ c ≤ 61 := by
  obtain ⟨a, b, ta, tb, ha, hb, rfl, rfl⟩ := h
  obtain ⟨c, r, rfl, hc⟩ := standA_head ha
  exact ⟨c, _, rfl, hc⟩
theorem numbA_head {d : PyData} {t : List Nat} (h : NumbA d t) : ∃ c r, t = c :: r ∧ c ≤ 61 := by
  obtain ⟨a, ta, n, ha, hn, rfl, rfl⟩ := h
  obtain ⟨c, r, rfl, hc⟩ := standA_head ha
  exact ⟨c, _, rfl, hc⟩
theorem partB {a r : List Nat} (h : 59 ∉ a) : Txt.partition (tx (a ++ tlS "; " ++ r)) (Str.ofString "; ") = (tx a, tx [59, 32], tx r) := by
  rw [tx_of, show "; ".toList.map Char.toNat = [59, 32] from by decide, show tlS "; " = [59, 32] from by decide, List.append_assoc]
  exact SX.partition_some (List.cons_ne_nil _ _) (SX.par_head (c := 59) (sep := [32]) r h)
theorem listT_mem {ts : List (List Nat)} {c : Nat} (h : c ∈ listT ts) : c ∈ noneT ∨ c = 32 ∨ ∃ t ∈ ts, c ∈ t := by
  unfold listT at h
  split at h
  · exact .inl h
  · exact .inr (mem_joinG h)
theorem shT_no59 (s : Int) : 59 ∉ shT s := by unfold shT; split; decide; split <;> decide
theorem elT_no59 : ∀ {k : Nat} {d : PyData} {t : List Nat}, ElT k d t → 59 ∉ t
  | 0, _, _, ⟨i, n, w, _, _, _, _, e⟩ => fun hc => by
    subst e
    rcases List.mem_append.mp hc with hc | hc
    · rcases List.mem_append.mp hc with hc | hc
      · have := nL_dig hc; omega
      · have := wayT_mem hc; omega
    · have := nL_dig hc; omega
  | 1, _, _, ⟨i, w, _, _, _, e⟩ => fun hc => by
    subst e
    rcases List.mem_append.mp hc with hc | hc
    · have := nL_dig hc; omega
    · have := wayT_mem hc; omega
  | 2, _, _, ⟨i, w, s, _, _, _, _, e⟩ => fun hc => by
    subst e
    rcases List.mem_append.mp hc with hc | hc
    · rcases List.mem_append.mp hc with hc | hc
      · have := nL_dig hc; omega
      · have := wayT_mem hc; omega
    · exact shT_no59 s hc
  | n + 3, _, _, h => fun hc => by
    obtain ⟨w, s, _, _, _, e⟩ := (show ∃ (w s : Int), Sign w ∧ ShT s ∧ _ = PyData.tuple [.int w, .int s] ∧ _ = wayT w ++ shT s from h)
    subst e
    rcases List.mem_append.mp hc with hc | hc
    · have := wayT_mem hc; omega
    · exact shT_no59 s hc
theorem elsT_no59 {k : Nat} {ds : List PyData} {ts : List (List Nat)} (h : ElsT k ds ts) : 59 ∉ listT ts := fun z => by
  rcases listT_mem z with z | z | ⟨t, ht, hc⟩
  · exact absurd z (by decide)
  · cases z
  · obtain ⟨d, hd⟩ := paired_memT h ht
    exact elT_no59 hd hc
/-- a comprehension over the signs of a text -/
theorem lb_str {l : List Nat} {g : TG} {tt : TT} {te : TE} {vs : List Nat} {σ : L2.St} {H : Hp} {Q : VK} (Pv : Addr → Nat → Hp → Prop) (h0 : ∀ D, H D = none → Pv D 0 (upd H D (.lst [])))
    (hs : ∀ D, H D = none → ∀ i c H1, l[i]? = some c → Pv D i H1 → g (.str (tx [c])) (wipe σ vs) H1 fun σ2 H2 => wipe σ2 vs = wipe σ vs ∧ tt σ2 H2 fun b H3 =>
      if b = true then te σ2 H3 fun y H4 => ∃ acc, H4 D = some (.lst acc) ∧ acc.length < sizeLine ∧ Pv D (i + 1) (upd H4 D (.lst (acc ++ [y]))) else Pv D (i + 1) H3) (hd : ∀ D, H D = none → ∀ H1, Pv D l.length H1 → Q (.ref D) H1) : LB (Its (tx l)) g tt te vs σ H Q := fun D hD => by
  have n : (tx l).cps.size = l.length := tx_len l
  refine lc_it (walk_str (z := tx l)) (Pv D) (h0 D hD) (fun _ _ _ _ => trivial) (fun i x H1 H2 hi p y => ?_) (fun H1 p => hd D hD H1 (by rw [← n]; exact p))
  obtain ⟨rfl, c, hc, rfl⟩ := y
  exact hs D hD i c _ (by rw [← List.getElem?_toArray]; exact hc) p
theorem ways_at : ∀ {ws : List Int} {i c : Nat}, (ws.map wayT).flatten[i]? = some c → ∃ w, ws[i]? = some w ∧ wayT w = [c]
  | [], _, _, h => by cases h
  | w :: r, i, c, h => by
    obtain ⟨x, hx⟩ : ∃ x, wayT w = [x] := List.length_eq_one_iff.mp (wayT_len w)
    rw [List.map_cons, List.flatten_cons, hx] at h
    cases i with
    | zero =>
      cases Option.some.inj h
      exact ⟨w, rfl, hx⟩
    | succ i => exact ways_at (ws := r) (i := i) h
theorem cut_tailA (x : V) (xs : List V) : cutV (x :: xs) (some 1) none = xs := by
  unfold cutV
  rw [HT.sIx_none, show (some (1 : Int)) = some (((1 : Nat)) : Int) from rfl, HT.sIx_nat, Nat.min_eq_left (show 1 ≤ (x :: xs).length from Nat.succ_le_succ (Nat.zero_le _)), List.drop_succ_cons, List.drop_zero, List.take_of_length_le (by rw [List.length_cons]; omega)]
theorem endT (a : List Nat) (c : Nat) (s : String) {d : Nat} (e : s.toList.map Char.toNat = [d]) : Txt.endswith (tx (a ++ [c])) (Str.ofString s) = decide (c = d) := by
  rw [tx_of, e]
  unfold Txt.endswith
  rw [StrLaws.subAt_eq, tx_len, tx_len]
  have l : (a ++ [c]).length = a.length + 1 := List.length_append
  have : decide (0 + [d].length ≤ (a ++ [c]).length) = true := decide_eq_true (by rw [l]; show 0 + 1 ≤ a.length + 1; omega)
  rw [this, Bool.true_and, show (a ++ [c]).length - [d].length = a.length by rw [l]; rfl]
  show (((a ++ [c]).drop a.length).take 1 == [d]) = decide (c = d)
  rw [List.drop_left]
  show ([c] == [d]) = decide (c = d)
  by_cases z : c = d
  · rw [z, decide_eq_true rfl]
    exact beq_self_eq_true [d]
  · rw [decide_eq_false z]
    exact beq_eq_false_iff_ne.mpr fun h => z (List.cons.inj h).1
theorem last_join : ∀ {ts : List (List Nat)}, ts ≠ [] → ∃ a t, t ∈ ts ∧ TL.joinL [32] ts = a ++ t
  | [], h => absurd rfl h
  | [t], _ => ⟨[], t, List.mem_cons_self, rfl⟩
  | t :: u :: r, _ => by
    obtain ⟨a, x, hx, e⟩ := last_join (ts := u :: r) (List.cons_ne_nil _ _)
    refine ⟨t ++ ([32] ++ a), x, List.mem_cons_of_mem _ hx, ?_⟩
    show t ++ ([32] ++ TL.joinL [32] (u :: r)) = _
    rw [e, List.append_assoc, List.append_assoc]
theorem nL_last (n : Nat) : ∃ b c, nL n = b ++ [c] ∧ 48 ≤ c ∧ c ≤ 57 := by
  have h : nL n ≠ [] := TL.numL_ne n
  have e := (List.dropLast_concat_getLast h).symm
  exact ⟨_, _, e, nL_dig (List.getLast_mem h)⟩
theorem moves_end {k : Nat} {ds : List PyData} {ts : List (List Nat)} (hk : k < 2) (h : ElsT k ds ts) : ∃ a c, listT ts = a ++ [c] ∧ ((k = 1 ∧ (c = 43 ∨ c = 45)) ∨ ((k = 0 ∨ ts = []) ∧ c ≠ 43 ∧ c ≠ 45)) := by
  by_cases ne : ts = []
  · subst ne
    exact ⟨[110, 111, 110], 101, rfl, .inr ⟨.inr rfl, by decide, by decide⟩⟩
  obtain ⟨a, t, ht, e⟩ := last_join ne
  have el : listT ts = a ++ t := by
    unfold listT
    rw [if_neg ne, e]
  obtain ⟨d, hd⟩ := paired_memT h ht
  rcases (show k = 0 ∨ k = 1 by omega) with rfl | rfl
  · obtain ⟨i, n, w, _, _, _, _, rfl⟩ := hd
    obtain ⟨b, c, eb, c1, c2⟩ := nL_last n
    exact ⟨a ++ (nL i ++ wayT w ++ b), c, by rw [el, eb, List.append_assoc, List.append_assoc, List.append_assoc, List.append_assoc], .inr ⟨.inl rfl, by omega, by omega⟩⟩
  · obtain ⟨i, w, _, _, _, rfl⟩ := hd
    obtain ⟨c, hc⟩ : ∃ c, wayT w = [c] := List.length_eq_one_iff.mp (wayT_len w)
    exact ⟨a ++ nL i, c, by rw [el, hc, List.append_assoc], .inl ⟨rfl, wayT_mem (by rw [hc]; exact List.mem_cons_self)⟩⟩
theorem w_emptyI {K : PySem.W.Frag} {H : Hp} {Q : VK} {a b : Addr} {ws : List Int} (ha : SqL K H a (ws.map V.int)) (hb : H b = some (.lst [])) (q : Q (.bl ws.isEmpty) H) : rEqD K (.ref a) (.ref b) H Q := by
  refine ⟨_, .list [], .lst ha (dpAll_ints _), .lst (.of hb) .nil, shaped_of (lay_lst (lay_ints ws 0)) (by decide), by decide, ?_⟩
  have : PyData.eqv (.list (ws.map PyData.int)) (.list []) = ws.isEmpty := by
    cases ws with
    | nil => rfl
    | cons t r => rfl
  rw [this]
  exact q
/-- a word and a blank ahead -/
theorem partW (s w : String) {r : List Nat} (e : tlS s = tlS w ++ [32]) (n : 32 ∉ tlS w) (one : " ".toList.map Char.toNat = [32]) : Txt.partition (tx (tlS s ++ r)) (Str.ofString " ") = (Str.ofString w, tx [32], tx r) := by
  rw [tx_of w, tx_of " ", one, e, List.append_assoc]
  exact SX.partition_some (List.cons_ne_nil _ _) (SX.par_head r n)
/-- a told answer: a fresh tuple, its lists fresh ones, too -/
inductive FA where
  | c (d : PyData) | l (a : Addr)
def FA.d (m : Addr → List PyData) : FA → PyData
  | .c d => d
  | .l a => .list (m a)
def lsA : List FA → List Addr
  | [] => []
  | .c _ :: r => lsA r
  | .l a :: r => a :: lsA r
def FldA (K : PySem.W.Frag) (H : Hp) (v : V) : FA → Prop
  | .c d => Dp K H v d ∧ TDT d
  | .l a => v = .ref a
def TDN (e : PyData) : Prop := TDT e ∨ e = .none
structure ToldA (K : PySem.W.Frag) (H : Hp) (p : Addr) (fs : List V) (gs : List FA) (m : Addr → List PyData) : Prop where
  at_ : H p = some (.tup fs)
  fld : Paired (FldA K H) fs gs
  lst : ∀ a ∈ lsA gs, ∃ xs, H a = some (.lst xs) ∧ DpAll K H xs (m a) ∧ ∀ e ∈ m a, TDN e
  nd : (lsA gs).Nodup
def ToldR (K : PySem.W.Frag) (H H' : Hp) (v : V) (d : PyData) : Prop := ∃ p fs gs m x, v = .ref p ∧ ToldA K H' p fs (.c x :: gs) m ∧ d = .tuple ((FA.c x :: gs).map (FA.d m)) ∧ ∀ a ∈ lsA gs, H a = none
theorem mem_lsA {a : Addr} : ∀ {gs : List FA}, FA.l a ∈ gs → a ∈ lsA gs
  | .c _ :: r, h => by
    rcases List.mem_cons.mp h with h | h
    · cases h
    · exact mem_lsA (gs := r) h
  | .l b :: r, h => by
    rcases List.mem_cons.mp h with h | h
    · cases h
      exact List.mem_cons_self
    · exact List.mem_cons_of_mem _ (mem_lsA h)
theorem fldA_same {K : PySem.W.Frag} {H H' : Hp} (s : Same H H') : ∀ {fs : List V} {gs : List FA}, Paired (FldA K H) fs gs → Paired (FldA K H') fs gs
  | _, _, .nil => .nil
  | _, .c _ :: _, .cons h t => .cons ⟨dp_same s h.1, h.2⟩ (fldA_same s t)
  | _, .l _ :: _, .cons h t => .cons h (fldA_same s t)
theorem ToldA.same {K : PySem.W.Frag} {H H' : Hp} {p : Addr} {fs : List V} {gs : List FA} {m : Addr → List PyData} (h : ToldA K H p fs gs m) (s : Same H H') : ToldA K H' p fs gs m :=
  ⟨s _ _ h.at_, fldA_same s h.fld, fun a ha => by
    obtain ⟨xs, h1, h2, h3⟩ := h.lst a ha
    exact ⟨xs, s _ _ h1, dpAll_same s h2, h3⟩, h.nd⟩
theorem fldA_dp {K : PySem.W.Frag} {H : Hp} {m : Addr → List PyData} : ∀ {fs : List V} {gs : List FA}, Paired (FldA K H) fs gs → (∀ a ∈ lsA gs, ∃ xs, H a = some (.lst xs) ∧ DpAll K H xs (m a)) → DpAll K H fs (gs.map (FA.d m))
  | _, _, .nil, _ => .nil
  | _, .c _ :: _, .cons h t, l => .cons h.1 (fldA_dp t l)
  | _, .l a :: _, .cons h t, l => by
    obtain ⟨xs, h1, h2⟩ := l a List.mem_cons_self
    cases (show _ = V.ref a from h)
    exact .cons (.lst (.of h1) h2) (fldA_dp t fun b hb => l b (List.mem_cons_of_mem _ hb))
theorem ToldA.dp {K : PySem.W.Frag} {H : Hp} {p : Addr} {fs : List V} {gs : List FA} {m : Addr → List PyData} (h : ToldA K H p fs gs m) : Dp K H (.ref p) (.tuple (gs.map (FA.d m))) :=
  .tup (.of h.at_) (fldA_dp h.fld fun a ha => by
    obtain ⟨xs, h1, h2, _⟩ := h.lst a ha
    exact ⟨xs, h1, h2⟩)
theorem dp_updN {K : PySem.W.Frag} {H : Hp} {l : Addr} {vs ws : List V} (hl : H l = some (.lst vs)) {d : PyData} (t : TDN d) {v : V} (h : Dp K H v d) : Dp K (upd H l (.lst ws)) v d := by
  rcases t with t | rfl
  · exact dp_updT hl t h
  · cases h
    exact .non
theorem dpAll_updN {K : PySem.W.Frag} {H : Hp} {l : Addr} {vs ws : List V} (hl : H l = some (.lst vs)) : ∀ {ds : List PyData}, (∀ d ∈ ds, TDN d) → ∀ {xs : List V}, DpAll K H xs ds → DpAll K (upd H l (.lst ws)) xs ds
  | _, _, _, .nil => .nil
  | _, t, _, .cons h r => .cons (dp_updN hl (t _ List.mem_cons_self) h) (dpAll_updN hl (fun d hd => t d (List.mem_cons_of_mem _ hd)) r)
theorem fldA_upd {K : PySem.W.Frag} {H : Hp} {l : Addr} {vs ws : List V} (hl : H l = some (.lst vs)) : ∀ {fs : List V} {gs : List FA}, Paired (FldA K H) fs gs → Paired (FldA K (upd H l (.lst ws))) fs gs
  | _, _, .nil => .nil
  | _, .c _ :: _, .cons h t => .cons ⟨dp_updT hl h.2 h.1, h.2⟩ (fldA_upd hl t)
  | _, .l _ :: _, .cons h t => .cons h (fldA_upd hl t)
/-- None put behind one of its lists -/
theorem ToldA.push {K : PySem.W.Frag} {H : Hp} {p a : Addr} {fs xs : List V} {gs : List FA} {m : Addr → List PyData} (h : ToldA K H p fs gs m) (hx : H a = some (.lst xs)) (ma : a ∈ lsA gs) : ToldA K (upd H a (.lst (xs ++ [.non]))) p fs gs (fun b => if b = a then m a ++ [.none] else m b) := by
  refine ⟨?_, fldA_upd hx h.fld, fun b hb => ?_, h.nd⟩
  · rw [upd_ne fun z => by have g := h.at_; rw [z, hx] at g; cases g]
    exact h.at_
  · obtain ⟨ys, h1, h2, h3⟩ := h.lst b hb
    by_cases e : b = a
    · subst e
      rw [hx] at h1
      cases h1
      refine ⟨_, upd_same, ?_, ?_⟩
      · rw [if_pos rfl]
        exact dpAll_app (dpAll_updN hx h3 h2) (.cons .non .nil)
      · rw [if_pos rfl]
        intro e he
        rcases List.mem_append.mp he with he | he
        · exact h3 e he
        · rw [List.mem_singleton.mp he]
          exact .inr rfl
    · refine ⟨ys, by rw [upd_ne e]; exact h1, ?_, ?_⟩
      · rw [if_neg e]
        exact dpAll_updN hx h3 h2
      · rw [if_neg e]
        exact h3
section
variable {K : PySem.W.Frag} {H H' : Hp} {r l a b : Addr} {xs ys : List V} {ds es : List PyData} {x : Str}
theorem toldR_one (er : H' r = some (.tup [.str x, .ref l])) (hl : H' l = some (.lst xs)) (n : H l = none) (d : DpAll K H' xs ds) (t : ∀ e ∈ ds, TDT e) : ToldR K H H' (.ref r) (.tuple [.str x, .list ds]) :=
  ⟨r, _, [.l l], fun _ => ds, .str x, rfl, ⟨er, .cons ⟨.str _, .str _⟩ (.cons rfl .nil), fun c hc => by
    rw [List.mem_singleton.mp hc]
    exact ⟨xs, hl, d, fun e he => .inl (t e he)⟩, List.nodup_cons.mpr ⟨(fun h => nomatch h), List.nodup_nil⟩⟩, rfl, fun c hc => by
    rw [List.mem_singleton.mp hc]
    exact n⟩
theorem toldR_two (er : H' r = some (.tup [.str x, .ref a, .ref b])) (ha : H' a = some (.lst xs)) (hb : H' b = some (.lst ys)) (na : H a = none) (nb : H b = none) (ab : b ≠ a) (d : DpAll K H' xs ds) (t : ∀ e ∈ ds, TDT e) (d2 : DpAll K H' ys es) (t2 : ∀ e ∈ es, TDT e) : ToldR K H H' (.ref r) (.tuple [.str x, .list ds, .list es]) := by
  refine ⟨r, _, [.l a, .l b], fun c => if c = a then ds else es, .str x, rfl, ⟨er, .cons ⟨.str _, .str _⟩ (.cons rfl (.cons rfl .nil)), fun c hc => ?_, List.nodup_cons.mpr ⟨fun h => ab (List.mem_singleton.mp h).symm, List.nodup_cons.mpr ⟨(fun h => nomatch h), List.nodup_nil⟩⟩⟩, ?_, fun c hc => ?_⟩
  · rcases List.mem_cons.mp hc with rfl | hc
    · rw [if_pos rfl]
      exact ⟨xs, ha, d, fun e he => .inl (t e he)⟩
    · cases List.mem_singleton.mp hc
      rw [if_neg ab]
      exact ⟨ys, hb, d2, fun e he => .inl (t2 e he)⟩
  · show _ = PyData.tuple [.str x, .list (if a = a then ds else es), .list (if b = a then ds else es)]
    rw [if_pos rfl, if_neg ab]
  · rcases List.mem_cons.mp hc with rfl | hc
    · exact na
    · cases List.mem_singleton.mp hc
      exact nb
theorem toldR_wheel {z : Int} {is : List Int} (er : H' r = some (.tup [.str x, .int z, .ref b, .ref l])) (hb : SqT K H' b (is.map V.int)) (hl : H' l = some (.lst xs)) (n : H l = none) (d : DpAll K H' xs ds) (t : ∀ e ∈ ds, TDT e) : ToldR K H H' (.ref r) (.tuple [.str x, .int z, .tuple (is.map PyData.int), .list ds]) :=
  ⟨r, _, [.c (.int z), .c (.tuple (is.map PyData.int)), .l l], fun _ => ds, .str x, rfl, ⟨er, .cons ⟨.str _, .str _⟩ (.cons ⟨.int _, .int _⟩ (.cons ⟨.tup hb (dpAll_ints is), .tup (tdT_ints is)⟩ (.cons rfl .nil))), fun c hc => by
    rw [List.mem_singleton.mp hc]
    exact ⟨xs, hl, d, fun e he => .inl (t e he)⟩, List.nodup_cons.mpr ⟨(fun h => nomatch h), List.nodup_nil⟩⟩, rfl, fun c hc => by
    rw [List.mem_singleton.mp hc]
    exact n⟩
theorem toldR_none {i j : Int} (er : H' r = some (.tup [.str x, .int i, .int j])) : ToldR K H H' (.ref r) (.tuple [.str x, .int i, .int j]) :=
  ⟨r, _, [.c (.int i), .c (.int j)], fun _ => [], .str x, rfl, ⟨er, .cons ⟨.str _, .str _⟩ (.cons ⟨.int _, .int _⟩ (.cons ⟨.int _, .int _⟩ .nil)), (fun c hc => nomatch hc), List.nodup_nil⟩, rfl, (fun c hc => nomatch hc)⟩
theorem ToldR.over {H0 : Hp} {v : V} {d : PyData} (h : ToldR K H H' v d) (s : Same H0 H) : ToldR K H0 H' v d := by
  obtain ⟨p, fs, gs, m, x, e1, e2, e3, e4⟩ := h
  exact ⟨p, fs, gs, m, x, e1, e2, e3, fun a ha => s.free (e4 a ha)⟩
theorem tdt_of {α : PyData → List Nat → Prop} {ts : List (List Nat)} (f : ∀ {d t}, α d t → TDT d) (p : Paired α ds ts) : ∀ e ∈ ds, TDT e := fun e he => by
  obtain ⟨i, hi⟩ := List.getElem?_of_mem he
  obtain ⟨t, _, h⟩ := paired_getT p hi
  exact f h
end
end Ct

/-! all, any over the signs of a text -/
namespace Ct
open PySem PySem.Spec PyProof.Rows L2
theorem gb_str {P : Addr} {st : Bool} (l : List Nat) {g : TG} {te : TE} {vs : List Nat} {σ : L2.St} {H : Hp} {Q : VK} (Pv : Nat → Hp → Prop) (hT : H P = some (TabX P)) (h0 : Pv 0 H)
    (hs : ∀ i c H1, l[i]? = some c → Pv i H1 → g (.str (tx [c])) (wipe σ vs) H1 fun σ3 H3 => wipe σ3 vs = wipe σ vs ∧ te σ3 H3 fun y H4 => ∃ b, y = .bl b ∧ if b = st then Q (.bl st) H4 else Pv (i + 1) H4) (hd : ∀ H1, Pv l.length H1 → Q (.bl (!st)) H1) : GB P st (Its (tx l)) g te vs σ H Q := by
  have n : (tx l).cps.size = l.length := tx_len l
  refine gb_it (walk_str (z := tx l)) Pv hT h0 (fun _ _ _ _ => trivial) (fun i x H1 H2 hi p y => ?_) (fun H1 p => hd H1 (by rw [← n]; exact p))
  obtain ⟨rfl, c, hc, rfl⟩ := y
  exact hs i c _ (by rw [← List.getElem?_toArray]; exact hc) p
end Ct

/-! such lists where draws are kept -/
namespace Ct
open PySem PySem.Spec PyProof.Rows L2
theorem Dr.over {H H' H2 : Hp} {D : Addr} {c : Nat} (g : Dr D c H' H2) (s : Same H H') (n : H D = none) : Same H H2 := fun b o e => g.1 b o (fun z => by rw [z, n] at e; cases e) (s b o e)
theorem LsT.dr {K : PySem.W.Frag} {H H' : Hp} {i c c' : Nat} {a D : Addr} {d : List PyData} {t : List (List Nat)} (h : LsT K H i a d t) (g : Dr D c' H H') (hD : H D = some (DrO D c)) : LsT K H' i a d t := by
  obtain ⟨xs, h1, h2, h3, h4⟩ := h
  exact ⟨xs, g.at hD h1, g.all hD h2, h3, h4⟩
theorem FourT.dr {K : PySem.W.Frag} {H H' : Hp} {q S D : Addr} {c c' : Nat} {d : Nat → List PyData} {t : Nat → List (List Nat)} (h : FourT K H q S d t) (g : Dr D c' H H') (hD : H D = some (DrO D c)) : FourT K H' q S d t := by
  obtain ⟨n, as, h1, h2⟩ := h
  exact ⟨n, as, g.at hD h1, fun i hi => ⟨(h2 i hi).1, (h2 i hi).2.dr g hD⟩⟩
end Ct

/-! how often None stands in what is shown -/
namespace Ct
open PySem PySem.Spec PyProof.Rows L2
abbrev NN : List Nat := [78, 111, 110, 101]
def NoneN (s : Str) (n : Nat) : Prop := ∃ ts : List (List Nat), ts.length = n + 1 ∧ (∀ t ∈ ts, 78 ∉ t) ∧ s = tx (TL.joinL NN ts)
theorem noneN_count {s : Str} {n : Nat} (h : NoneN s n) (l : 4 ≤ s.length) : Txt.count s (Str.ofString "None") = n := by
  obtain ⟨ts, tl, free, rfl⟩ := h
  rw [tx_of, show "None".toList.map Char.toNat = NN from by decide]
  have sp : Txt.split (tx (TL.joinL NN ts)) (tx NN) = ts.map tx := by
    rw [SX.split_S (List.cons_ne_nil _ _) (by decide), SX.spl_join (fun z => by rw [z] at tl; cases tl) free]
  have e : (Txt.split (tx (TL.joinL NN ts)) (tx NN)).length = ts.length := by rw [sp, List.length_map]
  generalize hx : tx (TL.joinL NN ts) = x at *
  have ly : (tx NN).length = 4 := tx_len NN
  have c1 : decide (x.length < (tx NN).length) = false := decide_eq_false (by omega)
  have c2 : decide (Builtin.Str.strKind x < Builtin.Str.strKind (tx NN)) = false := decide_eq_false (TL.kind_ok (by decide +kernel))
  unfold Txt.split at e
  rw [c1, c2, if_neg (by decide)] at e
  unfold Txt.count
  split at e
  · rename_i z
    rw [List.isEmpty_iff.mp z]
    rw [tl] at e
    have : n = 0 := by
      have : 1 = n + 1 := e
      omega
    rw [this]
    rfl
  · rw [len_partsBetween] at e
    have : (Builtin.Str.occurrences x (tx NN) 0 x.length (x.length + 1)).length = n := by omega
    rw [this]
theorem join_glue : ∀ (a : List (List Nat)) (x y : List Nat) (b : List (List Nat)), TL.joinL NN (a ++ (x ++ y) :: b) = TL.joinL NN (a ++ [x]) ++ TL.joinL NN (y :: b)
  | [], x, y, [] => rfl
  | [], x, y, c :: b => by
    show x ++ y ++ (NN ++ TL.joinL NN (c :: b)) = x ++ (y ++ (NN ++ TL.joinL NN (c :: b)))
    rw [List.append_assoc]
  | [p], x, y, b => by
    show p ++ (NN ++ TL.joinL NN ((x ++ y) :: b)) = p ++ (NN ++ x) ++ TL.joinL NN (y :: b)
    have := join_glue [] x y b
    rw [show TL.joinL NN ((x ++ y) :: b) = x ++ TL.joinL NN (y :: b) from this, List.append_assoc, List.append_assoc]
  | p :: q :: a, x, y, b => by
    show p ++ (NN ++ TL.joinL NN ((q :: a) ++ (x ++ y) :: b)) = p ++ (NN ++ TL.joinL NN ((q :: a) ++ [x])) ++ TL.joinL NN (y :: b)
    rw [join_glue (q :: a) x y b, List.append_assoc, List.append_assoc]
theorem NoneN.app {a b : Str} {n m : Nat} (h : NoneN a n) (g : NoneN b m) : NoneN (a ++ b) (n + m) := by
  obtain ⟨ts, tl, f1, rfl⟩ := h
  obtain ⟨us, ul, f2, rfl⟩ := g
  have ne : ts ≠ [] := fun z => by rw [z] at tl; cases tl
  have ets := (List.dropLast_concat_getLast ne).symm
  generalize ts.dropLast = p at ets
  generalize ts.getLast ne = x at ets
  subst ets
  cases us with
  | nil => cases ul
  | cons y r =>
    refine ⟨p ++ (x ++ y) :: r, ?_, fun t ht => ?_, by rw [tx_cat, join_glue]⟩
    · rw [List.length_append] at tl ⊢
      rw [List.length_cons] at ul ⊢
      rw [List.length_singleton] at tl
      omega
    · rcases List.mem_append.mp ht with ht | ht
      · exact f1 t (List.mem_append.mpr (.inl ht))
      rcases List.mem_cons.mp ht with rfl | ht
      · intro z
        rcases List.mem_append.mp z with z | z
        · exact f1 x (List.mem_append.mpr (.inr List.mem_cons_self)) z
        · exact f2 y List.mem_cons_self z
      · exact f2 t (List.mem_cons_of_mem _ ht)
theorem noneN_clean {t : List Nat} (h : 78 ∉ t) : NoneN (tx t) 0 := ⟨[t], rfl, fun x hx => by rw [List.mem_singleton.mp hx]; exact h, rfl⟩
theorem noneN_lit {s : String} (h : 78 ∉ s.toList.map Char.toNat) : NoneN (Str.ofString s) 0 := by rw [tx_of]; exact noneN_clean h
theorem noneN_none : NoneN (Str.ofString "None") 1 := by
  rw [tx_of, show "None".toList.map Char.toNat = NN from by decide]
  exact ⟨[[], []], rfl, (fun t ht => by
    rcases List.mem_cons.mp ht with rfl | ht
    · intro z; cases z
    · rw [List.mem_singleton.mp ht]; intro z; cases z), rfl⟩
mutual
def cnN : PyData → Nat
  | .none => 1
  | .list ds => cnNs ds
  | .tuple ds => cnNs ds
  | _ => 0
def cnNs : List PyData → Nat
  | [] => 0
  | d :: r => cnN d + cnNs r
end
mutual
inductive ClN : PyData → Prop
  | non : ClN .none
  | nat (n : Nat) : ClN (.int (n : Int))
  | less : ClN (.int (-1))
  | str {x : Str} : NoneN (reprText x) 0 → ClN (.str x)
  | lst {ds : List PyData} : ClNs ds → ClN (.list ds)
  | tup {ds : List PyData} : ClNs ds → ClN (.tuple ds)
inductive ClNs : List PyData → Prop
  | nil : ClNs []
  | cons {d : PyData} {ds : List PyData} : ClN d → ClNs ds → ClNs (d :: ds)
end
theorem noneN_comma : NoneN (Str.ofString ", ") 0 := noneN_lit (by decide)
mutual
theorem noneN_shown : ∀ {d : PyData}, ClN d → NoneN d.shown (cnN d)
  | _, .non => by rw [PyData.shown_none]; exact noneN_none
  | _, .nat n => by
    rw [PyData.shown_int]
    rw [show (Str.ofString (toString (n : Int)) : Str) = tx (nL n) from tx_num n]
    exact noneN_clean fun h => by have := nL_dig h; omega
  | _, .less => by rw [PyData.shown_int]; exact noneN_lit (by decide)
  | _, .str h => by rw [PyData.shown_str]; exact h
  | _, .lst h => by
    rw [PyData.shown_list]
    have := ((noneN_lit (s := "[") (by decide)).app (noneN_shownAll h)).app (noneN_lit (s := "]") (by decide))
    rw [Nat.zero_add] at this
    exact this
  | _, .tup (ds := ds) h => by
    rw [PyData.shown_tuple]
    have e : NoneN (Str.ofString (if ds.length == 1 then ",)" else ")")) 0 := by
      split
      · exact noneN_lit (by decide)
      · exact noneN_lit (by decide)
    have := ((noneN_lit (s := "(") (by decide)).app (noneN_shownAll h)).app e
    rw [Nat.zero_add] at this
    exact this
theorem noneN_shownAll : ∀ {ds : List PyData}, ClNs ds → NoneN (Str.join ", " (PyData.shownAll ds)) (cnNs ds)
  | _, .nil => noneN_clean (t := []) (fun h => by cases h)
  | _, .cons h .nil => noneN_shown h
  | _, .cons h (.cons g r) => by
    have := ((noneN_shown h).app noneN_comma).app (noneN_shownAll (.cons g r))
    exact this
end
theorem shown_four {d : PyData} {ds : List PyData} (e : 2 ≤ d.shown.length) : 4 ≤ (PyData.tuple (d :: ds)).shown.length := by
  rw [PyData.shown_tuple, Str.length_append, Str.length_append]
  have l1 : (Str.ofString "(").length = 1 := by decide
  have l2 : 1 ≤ (Str.ofString (if (d :: ds).length == 1 then ",)" else ")")).length := by split <;> decide
  have l3 : 2 ≤ (Str.join ", " (PyData.shownAll (d :: ds))).length := by
    cases ds with
    | nil => exact e
    | cons b r =>
      show 2 ≤ (d.shown ++ ", " ++ Str.join ", " (PyData.shownAll (b :: r))).length
      rw [Str.length_append, Str.length_append]
      omega
  omega
/-! an answer's data, small enough for str -/
structure IntE (b : Nat) (e : PyData) : Prop where
  td : TDT e
  cl : ClN e
  no : cnN e = 0
  ok : okI e = true
  lay : e.canLay0 = true ∧ e.depth ≤ 2
  bk : e.bulk ≤ b
theorem cn_ints : ∀ ns : List Int, cnNs (ns.map PyData.int) = 0
  | [] => rfl
  | n :: r => by rw [List.map_cons, cnNs, cn_ints r]; rfl
theorem ok_intsI : ∀ {ns : List Int}, (∀ n ∈ ns, n.natAbs < 2 ^ 200) → okIs (ns.map PyData.int) = true
  | [], _ => rfl
  | n :: r, h => by
    rw [List.map_cons, okIs, ok_intsI fun x hx => h x (List.mem_cons_of_mem _ hx), okI, decide_eq_true (h n List.mem_cons_self)]
    rfl
def SmI (n : Int) : Prop := (∃ k : Nat, k < M40 ∧ n = (k : Int)) ∨ n = -1
theorem SmI.abs {n : Int} (h : SmI n) : n.natAbs < 2 ^ 200 := by
  rcases h with ⟨k, hk, rfl⟩ | rfl
  · rw [Int.natAbs_natCast]
    exact Nat.lt_trans hk m40_lt
  · decide
theorem SmI.cl {n : Int} (h : SmI n) : ClN (.int n) := by
  rcases h with ⟨k, hk, rfl⟩ | rfl
  · exact .nat k
  · exact .less
theorem cl_ints : ∀ {ns : List Int}, (∀ n ∈ ns, SmI n) → ClNs (ns.map PyData.int)
  | [], _ => .nil
  | n :: r, h => .cons (h n List.mem_cons_self).cl (cl_ints fun x hx => h x (List.mem_cons_of_mem _ hx))
theorem smI_sign {w : Int} (h : Sign w) : SmI w := by
  rcases h with rfl | rfl
  · exact .inl ⟨1, by decide, rfl⟩
  · exact .inr rfl
theorem intE_ints {ns : List Int} {b : Nat} (h : ∀ n ∈ ns, SmI n) (l : ns.length ≤ b) : IntE b (.tuple (ns.map PyData.int)) :=
  ⟨.tup (tdT_ints ns), .tup (cl_ints h), cn_ints ns, ok_intsI fun n hn => (h n hn).abs, lay_mono (lay_tup (lay_ints ns 0)) (by decide), by rw [PyData.bulk, bulk_ints]; exact l⟩
theorem intE_int {n : Int} {b : Nat} (h : SmI n) : IntE b (.int n) := ⟨.int n, h.cl, rfl, decide_eq_true h.abs, lay_int 2 n, Nat.zero_le _⟩
theorem intE_two {x y : PyData} {b c : Nat} (hx : IntE b x) (hy : IntE c y) (dx : x.depth ≤ 1) (dy : y.depth ≤ 1) : IntE (b + c + 2) (.tuple [x, y]) := by
  refine ⟨.tup (.cons hx.td (.cons hy.td .nil)), .tup (.cons hx.cl (.cons hy.cl .nil)), ?_, ?_, lay_tup (n := 1) fun d hd => ?_, ?_⟩
  · rw [cnN, cnNs, cnNs, cnNs, hx.no, hy.no]
  · rw [okI, okIs, okIs, okIs, hx.ok, hy.ok]; rfl
  · rcases List.mem_cons.mp hd with rfl | hd
    · exact ⟨hx.lay.1, dx⟩
    · rw [List.mem_singleton.mp hd]
      exact ⟨hy.lay.1, dy⟩
  · rw [PyData.bulk, PyData.bulkAll, PyData.bulkAll, PyData.bulkAll]
    have := hx.bk
    have := hy.bk
    omega
theorem smI_nats {ns : List Nat} (h : ∀ n ∈ ns, n < M40) : ∀ n ∈ (ns.map fun n : Nat => (n : Int)), SmI n := fun n hn => by
  obtain ⟨k, hk, rfl⟩ := List.mem_map.mp hn
  exact .inl ⟨k, h k hk, rfl⟩
theorem standE {d : PyData} {t : List Nat} (h : StandA d t) : IntE 20 d ∧ d.depth ≤ 1 := by
  obtain ⟨ns, rfl, _, hn, nl, _⟩ := h
  exact ⟨intE_ints (smI_nats hn) (by rw [List.length_map]; exact nl), (lay_tup (lay_ints _ 0)).2⟩
theorem pairE {d : PyData} {t : List Nat} (h : PairA d t) : IntE 60 d := by
  obtain ⟨a, b, ta, tb, ha, hb, rfl, _⟩ := h
  have := intE_two (standE ha).1 (standE hb).1 (standE ha).2 (standE hb).2
  exact ⟨this.td, this.cl, this.no, this.ok, this.lay, Nat.le_trans this.bk (by decide)⟩
theorem numbE {d : PyData} {t : List Nat} (h : NumbA d t) : IntE 60 d := by
  obtain ⟨a, ta, n, ha, hn, rfl, _⟩ := h
  have := intE_two (b := 20) (c := 0) (standE ha).1 (intE_int (n := (n : Int)) (.inl ⟨n, hn, rfl⟩)) (standE ha).2 (Nat.zero_le _)
  exact ⟨this.td, this.cl, this.no, this.ok, this.lay, Nat.le_trans this.bk (by decide)⟩
theorem IntE.mono {b c : Nat} {d : PyData} (h : IntE b d) (l : b ≤ c) : IntE c d := ⟨h.td, h.cl, h.no, h.ok, h.lay, Nat.le_trans h.bk l⟩
theorem barE {d : PyData} {t : List Nat} (h : BarA d t) : IntE 60 d := by
  obtain ⟨j, k, hj, hk, rfl, _⟩ := h
  exact intE_ints (ns := [(j : Int), (k : Int)]) (fun n hn => by
    rcases List.mem_cons.mp hn with rfl | hn
    · exact .inl ⟨j, hj, rfl⟩
    · rw [List.mem_singleton.mp hn]; exact .inl ⟨k, hk, rfl⟩) (show 2 ≤ 60 by decide)
theorem elE {k : Nat} {d : PyData} {t : List Nat} (hk : k < 2) (h : ElT k d t) : IntE 60 d := by
  rcases (show k = 0 ∨ k = 1 by omega) with rfl | rfl
  · obtain ⟨i, n, w, h1, h2, hw, rfl, _⟩ := h
    exact intE_ints (ns := [(i : Int), w, (n : Int)]) (fun x hx => by
      rcases List.mem_cons.mp hx with rfl | hx
      · exact .inl ⟨i, h1, rfl⟩
      rcases List.mem_cons.mp hx with rfl | hx
      · exact smI_sign hw
      · rw [List.mem_singleton.mp hx]; exact .inl ⟨n, h2, rfl⟩) (show 3 ≤ 60 by decide)
  · obtain ⟨i, w, h1, hw, rfl, _⟩ := h
    exact intE_ints (ns := [(i : Int), w]) (fun x hx => by
      rcases List.mem_cons.mp hx with rfl | hx
      · exact .inl ⟨i, h1, rfl⟩
      · rw [List.mem_singleton.mp hx]; exact smI_sign hw) (show 2 ≤ 60 by decide)
theorem strE {s : String} (h : (Str.ofString s).cps.size ≤ 300 ∧ (PyData.str s).canLay0 = true ∧ reprText s = Str.ofString ("'" ++ s ++ "'")) (n : 78 ∉ ("'" ++ s ++ "'").toList.map Char.toNat) : IntE 300 (.str s) :=
  ⟨.str _, .str (by rw [h.2.2]; exact noneN_lit n), rfl, h.2.1, ⟨h.2.1, Nat.zero_le _⟩, h.1⟩
/-- each field of an answer -/
theorem ans_flds {fs : List PyData} {t : List Nat} (h : AnsA (.tuple fs) t) : fs.length ≤ 4 ∧ ∀ f ∈ fs, (∃ ds, f = .list ds ∧ ∀ e ∈ ds, IntE 60 e) ∨ IntE 300 f := by
  have one : ∀ {α : PyData → List Nat → Prop} {ds : List PyData} {ts : List (List Nat)}, (∀ {d t}, α d t → IntE 60 d) → Paired α ds ts → ∀ e ∈ ds, IntE 60 e := fun f p e he => by
    obtain ⟨i, hi⟩ := List.getElem?_of_mem he
    obtain ⟨t, _, h⟩ := paired_getT p hi
    exact f h
  have al : IntE 300 (.str "alike") := strE ⟨by decide +kernel, by decide +kernel, by decide +kernel⟩ (by decide +kernel)
  have ap : IntE 300 (.str "apart") := strE ⟨by decide +kernel, by decide +kernel, by decide +kernel⟩ (by decide +kernel)
  have ro : IntE 300 (.str "row") := strE ⟨by decide +kernel, by decide +kernel, by decide +kernel⟩ (by decide +kernel)
  have ne : IntE 300 (.str "never") := strE ⟨by decide +kernel, by decide +kernel, by decide +kernel⟩ (by decide +kernel)
  have wh : IntE 300 (.str "wheel") := strE ⟨by decide +kernel, by decide +kernel, by decide +kernel⟩ (by decide +kernel)
  have no : IntE 300 (.str "none") := strE ⟨by decide +kernel, by decide +kernel, by decide +kernel⟩ (by decide +kernel)
  rcases h with ⟨ds, ts, els, tl, e, _⟩ | ⟨ws, hw, wl, e, _⟩ | ⟨k, ds, ts, es, us, hk, els, tl, nums, ul, e, _⟩ | ⟨ds, ts, els, tl, e, _⟩ | ⟨z, ns, pt, ds, ts, hp, bars, tl, e, _⟩ | ⟨j, k, hj, hk, e, _⟩
  · cases e
    refine ⟨(show 2 ≤ 4 by decide), fun f hf => ?_⟩
    rcases List.mem_cons.mp hf with rfl | hf
    · exact .inr al
    · exact .inl ⟨ds, List.mem_singleton.mp hf, one (fun h => pairE h) els⟩
  · cases e
    refine ⟨(show 2 ≤ 4 by decide), fun f hf => ?_⟩
    rcases List.mem_cons.mp hf with rfl | hf
    · exact .inr ap
    · refine .inl ⟨_, List.mem_singleton.mp hf, fun e he => ?_⟩
      obtain ⟨w, hw2, rfl⟩ := List.mem_map.mp he
      exact intE_int (smI_sign (hw w hw2))
  · cases e
    refine ⟨(show 3 ≤ 4 by decide), fun f hf => ?_⟩
    rcases List.mem_cons.mp hf with rfl | hf
    · exact .inr ro
    rcases List.mem_cons.mp hf with rfl | hf
    · exact .inl ⟨ds, rfl, one (fun h => elE hk h) els⟩
    · exact .inl ⟨es, List.mem_singleton.mp hf, one (fun h => numbE h) nums⟩
  · cases e
    refine ⟨(show 2 ≤ 4 by decide), fun f hf => ?_⟩
    rcases List.mem_cons.mp hf with rfl | hf
    · exact .inr ne
    · exact .inl ⟨ds, List.mem_singleton.mp hf, one (fun h => (standE h).1.mono (by decide)) els⟩
  · cases e
    refine ⟨(show 4 ≤ 4 by decide), fun f hf => ?_⟩
    obtain ⟨ok, h⟩ := hp
    rcases h with ⟨z', ns', ez, hz, hn, nl, _⟩ | ⟨h, _⟩ | ⟨h, _⟩ | ⟨_, h, _⟩
    · injection ez with e1 e2
      rcases List.mem_cons.mp hf with rfl | hf
      · exact .inr wh
      rcases List.mem_cons.mp hf with rfl | hf
      · refine .inr (intE_int (.inl ⟨z', hz, ?_⟩))
        exact e1
      rcases List.mem_cons.mp hf with rfl | hf
      · rw [e2]
        exact .inr (intE_ints (smI_nats hn) (by rw [List.length_map]; exact nl.1))
      · exact .inl ⟨ds, List.mem_singleton.mp hf, one (fun h => barE h) bars⟩
    · cases h
    · cases h
    · cases h
  · cases e
    refine ⟨(show 3 ≤ 4 by decide), fun f hf => ?_⟩
    rcases List.mem_cons.mp hf with rfl | hf
    · exact .inr no
    rcases List.mem_cons.mp hf with rfl | hf
    · exact .inr (intE_int (.inl ⟨j, hj, rfl⟩))
    · rw [List.mem_singleton.mp hf]
      exact .inr (intE_int (.inl ⟨k, hk, rfl⟩))
/-- a field as it may stand later on: its list with Nones behind -/
def FldW (f : PyData) : Prop := (∃ ds, f = .list ds ∧ ds.length ≤ 504 ∧ ∀ e ∈ ds, IntE 60 e ∨ e = .none) ∨ IntE 300 f
theorem lst_ok : ∀ {ds : List PyData}, (∀ e ∈ ds, IntE 60 e ∨ e = .none) → okIs ds = true ∧ (∀ d ∈ ds, d.canLay0 = true ∧ d.depth ≤ 2) ∧ PyData.bulkAll ds ≤ 61 * ds.length ∧ ClNs ds
  | [], _ => ⟨rfl, (fun _ h => nomatch h), Nat.zero_le _, .nil⟩
  | d :: r, h => by
    obtain ⟨h1, h2, h3, h4⟩ := lst_ok fun x hx => h x (List.mem_cons_of_mem _ hx)
    have hd : okI d = true ∧ (d.canLay0 = true ∧ d.depth ≤ 2) ∧ d.bulk ≤ 60 ∧ ClN d := by
      rcases h d List.mem_cons_self with e | rfl
      · exact ⟨e.ok, e.lay, e.bk, e.cl⟩
      · exact ⟨rfl, ⟨rfl, Nat.zero_le _⟩, Nat.zero_le _, .non⟩
    refine ⟨by rw [okIs, hd.1, h1]; rfl, fun x hx => ?_, ?_, .cons hd.2.2.2 h4⟩
    · rcases List.mem_cons.mp hx with rfl | hx
      · exact hd.2.1
      · exact h2 x hx
    · rw [PyData.bulkAll, List.length_cons]
      have := hd.2.2.1
      omega
theorem fldW_ok {f : PyData} (h : FldW f) : okI f = true ∧ (f.canLay0 = true ∧ f.depth ≤ 3) ∧ f.bulk ≤ 31000 ∧ ClN f := by
  rcases h with ⟨ds, rfl, l, h⟩ | h
  · obtain ⟨h1, h2, h3, h4⟩ := lst_ok h
    exact ⟨h1, lay_lst h2, by rw [PyData.bulk]; omega, .lst h4⟩
  · exact ⟨h.ok, lay_mono h.lay (by decide), Nat.le_trans h.bk (by decide), h.cl⟩
theorem tup_ok : ∀ {fs : List PyData}, (∀ f ∈ fs, FldW f) → okIs fs = true ∧ (∀ d ∈ fs, d.canLay0 = true ∧ d.depth ≤ 3) ∧ PyData.bulkAll fs ≤ 31001 * fs.length ∧ ClNs fs
  | [], _ => ⟨rfl, (fun _ h => nomatch h), Nat.zero_le _, .nil⟩
  | d :: r, h => by
    obtain ⟨h1, h2, h3, h4⟩ := tup_ok fun x hx => h x (List.mem_cons_of_mem _ hx)
    obtain ⟨d1, d2, d3, d4⟩ := fldW_ok (h d List.mem_cons_self)
    refine ⟨by rw [okIs, d1, h1]; rfl, fun x hx => ?_, ?_, .cons d4 h4⟩
    · rcases List.mem_cons.mp hx with rfl | hx
      · exact d2
      · exact h2 x hx
    · rw [PyData.bulkAll, List.length_cons]
      omega
theorem shw_flds {fs : List PyData} (h : ∀ f ∈ fs, FldW f) (l : fs.length ≤ 4) : Shw (.tuple fs) ∧ ClN (.tuple fs) := by
  obtain ⟨h1, h2, h3, h4⟩ := tup_ok h
  exact ⟨⟨h1, lay_mono (lay_tup h2) (by decide), by rw [PyData.bulk]; omega⟩, .tup h4⟩
theorem bulk_len : ∀ ds : List PyData, ds.length ≤ PyData.bulkAll ds
  | [] => Nat.le_refl _
  | d :: r => by
    have := bulk_len r
    rw [PyData.bulkAll, List.length_cons]
    omega
mutual
theorem plain_td : ∀ {d : PyData}, TDT d → ∀ {n : Nat}, d.depth ≤ n → d.bulk ≤ 1000 → PlainD (n + 1) d
  | _, .int i, n, _, _ => .int n i
  | _, .str x, n, _, _ => .str n x
  | _, .tup (ds := ds) h, n, hn, hb => by
    rw [PyData.depth] at hn
    rw [PyData.bulk] at hb
    obtain ⟨k, rfl⟩ : ∃ k, n = k + 1 := ⟨n - 1, by omega⟩
    exact .tup (plain_tds h (by omega) hb) (Nat.le_trans (bulk_len ds) hb)
theorem plain_tds : ∀ {ds : List PyData}, TDTs ds → ∀ {n : Nat}, PyData.depthAll ds ≤ n → PyData.bulkAll ds ≤ 1000 → ∀ d ∈ ds, PlainD (n + 1) d
  | _, .nil, _, _, _, _, h => nomatch h
  | _, .cons (d := d) (ds := ds) h t, n, hn, hb, e, he => by
    rw [PyData.depthAll] at hn
    rw [PyData.bulkAll] at hb
    have a := plain_td h (n := n) (by omega) (by omega)
    have b := plain_tds t (n := n) (by omega) (by omega)
    rcases List.mem_cons.mp he with z | he
    · rw [z]; exact a
    · exact b e he
end
theorem IntE.plain {b : Nat} {d : PyData} (h : IntE b d) (hb : b ≤ 1000) : PlainD 3 d := plain_td h.td h.lay.2 (Nat.le_trans h.bk hb)
theorem plain_up : ∀ {n : Nat} {d : PyData}, PlainD n d → PlainD (n + 1) d
  | _, _, .int n i => .int (n + 1) i
  | _, _, .str n x => .str (n + 1) x
  | _, _, .lst h l => .lst (fun d hd => plain_up (h d hd)) l
  | _, _, .tup h l => .tup (fun d hd => plain_up (h d hd)) l
/-- the lists of an answer are not long -/
def FewA : PyData → Prop
  | .tuple fs => ∀ f ∈ fs, ∀ ds, f = .list ds → ds.length ≤ 500
  | _ => False
theorem few_one {x : Str} {ds : List PyData} (h : ds.length ≤ 500) : FewA (.tuple [.str x, .list ds]) := fun f hf es e => by
  rcases List.mem_cons.mp hf with rfl | hf
  · cases e
  · rw [List.mem_singleton.mp hf] at e
    cases e
    exact h
theorem few_two {x : Str} {ds es : List PyData} (h : ds.length ≤ 500) (g : es.length ≤ 500) : FewA (.tuple [.str x, .list ds, .list es]) := fun f hf us e => by
  rcases List.mem_cons.mp hf with rfl | hf
  · cases e
  rcases List.mem_cons.mp hf with rfl | hf
  · cases e
    exact h
  · rw [List.mem_singleton.mp hf] at e
    cases e
    exact g
theorem few_wheel {x : Str} {z : Int} {is : List Int} {ds : List PyData} (h : ds.length ≤ 500) : FewA (.tuple [.str x, .int z, .tuple (is.map PyData.int), .list ds]) := fun f hf us e => by
  rcases List.mem_cons.mp hf with rfl | hf
  · cases e
  rcases List.mem_cons.mp hf with rfl | hf
  · cases e
  rcases List.mem_cons.mp hf with rfl | hf
  · cases e
  · rw [List.mem_singleton.mp hf] at e
    cases e
    exact h
theorem few_none {x : Str} {i j : Int} : FewA (.tuple [.str x, .int i, .int j]) := fun f hf us e => by
  rcases List.mem_cons.mp hf with rfl | hf
  · cases e
  rcases List.mem_cons.mp hf with rfl | hf
  · cases e
  · rw [List.mem_singleton.mp hf] at e
    cases e
/-- an answer is a tuple; its first is shown at some length -/
theorem ans_tup {d : PyData} {t : List Nat} (h : AnsA d t) : ∃ f r, d = .tuple (f :: r) ∧ 2 ≤ f.shown.length := by
  rcases h with ⟨ds, ts, els, tl, e, _⟩ | ⟨ws, hw, wl, e, _⟩ | ⟨k, ds, ts, es, us, hk, els, tl, nums, ul, e, _⟩ | ⟨ds, ts, els, tl, e, _⟩ | ⟨z, ns, pt, ds, ts, hp, bars, tl, e, _⟩ | ⟨j, k, hj, hk, e, _⟩
  all_goals refine ⟨_, _, e, ?_⟩; rw [PyData.shown_str]; decide +kernel
theorem ans_fldW {fs : List PyData} {t : List Nat} (h : AnsA (.tuple fs) t) (w : FewA (.tuple fs)) : fs.length ≤ 4 ∧ (∀ f ∈ fs, (∃ ds, f = .list ds ∧ ds.length ≤ 500 ∧ ∀ e ∈ ds, IntE 60 e) ∨ IntE 300 f) := by
  obtain ⟨l, h⟩ := ans_flds h
  refine ⟨l, fun f hf => ?_⟩
  rcases h f hf with ⟨ds, rfl, g⟩ | g
  · exact .inl ⟨ds, rfl, w _ hf ds rfl, g⟩
  · exact .inr g
theorem fldW_of {f : PyData} (h : (∃ ds, f = .list ds ∧ ds.length ≤ 500 ∧ ∀ e ∈ ds, IntE 60 e) ∨ IntE 300 f) : FldW f := by
  rcases h with ⟨ds, rfl, l, g⟩ | g
  · exact .inl ⟨ds, rfl, by omega, fun e he => .inl (g e he)⟩
  · exact .inr g
theorem ans_plain {fs : List PyData} {t : List Nat} (h : AnsA (.tuple fs) t) (w : FewA (.tuple fs)) : PlainD 5 (.tuple fs) := by
  obtain ⟨l, g⟩ := ans_fldW h w
  refine .tup (fun f hf => ?_) (by omega)
  rcases g f hf with ⟨ds, rfl, l, g⟩ | g
  · exact .lst (fun e he => (g e he).plain (by decide)) (by omega)
  · exact plain_up (g.plain (by decide))
theorem cns_app : ∀ a b : List PyData, cnNs (a ++ b) = cnNs a + cnNs b
  | [], b => by rw [List.nil_append, cnNs, Nat.zero_add]
  | x :: a, b => by rw [List.cons_append, cnNs, cnNs, cns_app a b]; omega
/-- one None more -/
theorem cn_same {a : Addr} {m : Addr → List PyData} {ys : List PyData} : ∀ {gs : List FA}, a ∉ lsA gs → gs.map (FA.d fun b => if b = a then ys else m b) = gs.map (FA.d m)
  | [], _ => rfl
  | .c d :: r, h => by
    rw [List.map_cons, List.map_cons, cn_same (gs := r) h]
    rfl
  | .l b :: r, h => by
    rw [List.map_cons, List.map_cons, cn_same (gs := r) fun z => h (List.mem_cons_of_mem _ z)]
    show PyData.list (if b = a then ys else m b) :: _ = PyData.list (m b) :: _
    rw [if_neg fun z => h (by rw [z]; exact List.mem_cons_self)]
theorem cn_push {a : Addr} {m : Addr → List PyData} : ∀ {gs : List FA}, (lsA gs).Nodup → a ∈ lsA gs → cnNs (gs.map (FA.d fun b => if b = a then m a ++ [.none] else m b)) = cnNs (gs.map (FA.d m)) + 1
  | [], _, h => nomatch h
  | .c d :: r, n, h => by
    rw [List.map_cons, List.map_cons, cnNs, cnNs, cn_push (gs := r) n h]
    show cnN d + _ = cnN d + _ + 1
    omega
  | .l b :: r, n, h => by
    obtain ⟨n1, n2⟩ := List.nodup_cons.mp n
    by_cases e : b = a
    · subst e
      rw [List.map_cons, List.map_cons, cnNs, cnNs, cn_same n1]
      show cnN (.list (if b = b then m b ++ [.none] else m b)) + _ = cnN (.list (m b)) + _ + 1
      rw [if_pos rfl, cnN, cnN, cns_app]
      show cnNs (m b) + 1 + _ = _
      omega
    · have h2 : a ∈ lsA r := by
        rcases List.mem_cons.mp h with h | h
        · exact absurd h.symm e
        · exact h
      rw [List.map_cons, List.map_cons, cnNs, cnNs, cn_push (gs := r) n2 h2]
      show cnN (.list (if b = a then m a ++ [.none] else m b)) + _ = cnN (.list (m b)) + _ + 1
      rw [if_neg e]
      omega
theorem lsA_app : ∀ a b : List FA, lsA (a ++ b) = lsA a ++ lsA b
  | [], _ => rfl
  | .c _ :: r, b => lsA_app r b
  | .l _ :: r, b => by rw [List.cons_append, lsA, lsA, lsA_app r b, List.cons_append]
theorem lsA_len : ∀ gs : List FA, (lsA gs).length ≤ gs.length
  | [] => Nat.le_refl _
  | .c _ :: r => Nat.le_succ_of_le (lsA_len r)
  | .l _ :: r => Nat.succ_le_succ (lsA_len r)
theorem cns_zero : ∀ {ds : List PyData}, (∀ d ∈ ds, cnN d = 0) → cnNs ds = 0
  | [], _ => rfl
  | d :: r, h => by rw [cnNs, h d List.mem_cons_self, cns_zero fun x hx => h x (List.mem_cons_of_mem _ hx)]
/-- a wheel with many small marks -/
theorem wheelW {z : Nat} {ns : List Nat} (h : ns.Pairwise (· < ·)) (b : ∀ n ∈ ns, n < z) (z0 : 1 ≤ z) (hz : z ≤ 1000) (l : ns.length ≤ 300) : PartS (.wheel (z : Int) (ns.map fun n : Nat => (n : Int))) (119 :: (nL z ++ 58 :: jN 44 ns)) :=
  have z4 : z < M40 := Nat.lt_of_le_of_lt hz (by decide)
  ⟨⟨by omega, int200 z4, rise_nat h b, by rw [List.length_map]; omega⟩, .inl ⟨z, ns, rfl, z4, fun n hn => Nat.lt_trans (b n hn) z4, ⟨l, .inr fun n hn => by have := b n hn; omega⟩, rfl⟩⟩
end Ct

/-! told answers where draws are kept -/
namespace Ct
open PySem PySem.Spec PyProof.Rows L2
section
variable {K : PySem.W.Frag} {H H' : Hp} {p S D : Addr} {c c' : Nat} {fs xs ys : List V} {gs : List FA} {m : Addr → List PyData} {v : V} {d : PyData}
theorem fldA_dr (g : Dr D c' H H') (hD : H D = some (DrO D c)) : ∀ {fs : List V} {gs : List FA}, Paired (FldA K H) fs gs → Paired (FldA K H') fs gs
  | _, _, .nil => .nil
  | _, .c _ :: _, .cons h t => .cons ⟨by
      have := g.all hD (DpAll.cons h.1 .nil)
      cases this with
      | cons a _ => exact a, h.2⟩ (fldA_dr g hD t)
  | _, .l _ :: _, .cons h t => .cons h (fldA_dr g hD t)
theorem ToldA.dr (h : ToldA K H p fs gs m) (g : Dr D c' H H') (hD : H D = some (DrO D c)) : ToldA K H' p fs gs m :=
  ⟨g.at hD h.at_, fldA_dr g hD h.fld, fun a ha => by
    obtain ⟨xs, h1, h2, h3⟩ := h.lst a ha
    exact ⟨xs, g.at hD h1, g.all hD h2, h3⟩, h.nd⟩
theorem ToldA.put (h : ToldA K H p fs gs m) (hS : H S = some (.lst xs)) (n : S ∉ lsA gs) : ToldA K (upd H S (.lst ys)) p fs gs m :=
  ⟨by
    rw [upd_ne fun z => by have g := h.at_; rw [z, hS] at g; cases g]
    exact h.at_, fldA_upd hS h.fld, fun a ha => by
    obtain ⟨zs, h1, h2, h3⟩ := h.lst a ha
    exact ⟨zs, by rw [upd_ne fun z => n (by rw [← z]; exact ha)]; exact h1, dpAll_updN hS h3 h2, h3⟩, h.nd⟩
/-- such an answer, apart from a list that is written -/
def TAt (K : PySem.W.Frag) (H : Hp) (S : Addr) (v : V) (d : PyData) : Prop := ∃ p fs gs m x, v = .ref p ∧ ToldA K H p fs (.c x :: gs) m ∧ d = .tuple ((FA.c x :: gs).map (FA.d m)) ∧ S ∉ lsA gs
theorem ToldR.tat {o : HO} (h : ToldR K H H' v d) (hS : H S = some o) : TAt K H' S v d := by
  obtain ⟨p, fs, gs, m, x, e1, e2, e3, e4⟩ := h
  exact ⟨p, fs, gs, m, x, e1, e2, e3, fun z => by have := e4 S z; rw [hS] at this; cases this⟩
theorem TAt.dr (h : TAt K H S v d) (g : Dr D c' H H') (hD : H D = some (DrO D c)) : TAt K H' S v d := by
  obtain ⟨p, fs, gs, m, x, e1, e2, e3, e4⟩ := h
  exact ⟨p, fs, gs, m, x, e1, e2.dr g hD, e3, e4⟩
theorem TAt.put (h : TAt K H S v d) (hS : H S = some (.lst xs)) : TAt K (upd H S (.lst ys)) S v d := by
  obtain ⟨p, fs, gs, m, x, e1, e2, e3, e4⟩ := h
  exact ⟨p, fs, gs, m, x, e1, e2.put hS e4, e3, e4⟩
theorem TAt.dp (h : TAt K H S v d) : Dp K H v d := by
  obtain ⟨p, fs, gs, m, x, rfl, e2, rfl, e4⟩ := h
  exact e2.dp
end
end Ct

/-! list(range(..)), tuple(range(..)) -/
namespace Ct
open PySem PySem.Spec PyProof.Rows L2
section
variable {H : Hp} {σ : L2.St} {Q : VK} {QR : Int → Int → Hp → Prop} {te : L2.St → Hp → (Int → Int → Hp → Prop) → Prop} {ta tb : TE}
theorem w_lstRg (h : te σ H fun a b H1 => RgOk a b ∧ ∀ q, H1 q = none → Q (.ref q) (upd H1 q (.lst (rgV a b)))) : tLstRg te σ H Q := h
theorem w_tupRg (h : te σ H fun a b H1 => RgOk a b ∧ ∀ q, H1 q = none → Q (.ref q) (upd H1 q (.tup (rgV a b)))) : tTupRg te σ H Q := h
theorem w_rg1 (h : ta σ H fun x H1 => ∃ n, x = .int n ∧ QR 0 n H1) : tRg1 ta σ H QR := h
theorem w_rg2 (h : ta σ H fun x H1 => tb σ H1 fun y H2 => ∃ i j, x = .int i ∧ y = .int j ∧ QR i j H2) : tRg2 ta tb σ H QR := h
theorem rgV_nat (n : Nat) : rgV 0 (n : Int) = (List.range n).map fun i : Nat => V.int (i : Int) := by
  unfold rgV
  rw [Int.sub_zero, Int.toNat_natCast]
  exact List.map_congr_left fun i _ => by rw [Int.zero_add]
theorem rgV_ints (n : Nat) : rgV 0 (n : Int) = ((List.range n).map fun i : Nat => (i : Int)).map V.int := by
  rw [rgV_nat, List.map_map]
  rfl
end
end Ct

local macro_rules | `(tactic| walk_at "ct") => `(tactic| repeat (first
  | with_reducible refine Ct.w_seq ?_ | with_reducible refine Ct.w_gen ?_ | with_reducible refine Ct.w_asg ?_ | with_reducible refine Ct.w_ret ?_ | with_reducible refine Ct.w_ifS ?_ | with_reducible refine Ct.w_drop ?_ | with_reducible refine Ct.w_next ?_
  | with_reducible refine Ct.w_op ?_ | with_reducible refine Ct.w_c ?_ | with_reducible refine Ct.w_chain ?_ | with_reducible refine Ct.w_un ?_ | with_reducible refine Ct.w_test ?_ | with_reducible refine Ct.w_B ?_ | with_reducible refine Ct.w_and ?_ | with_reducible refine Ct.w_or ?_ | with_reducible refine Ct.w_not ?_ | with_reducible refine Ct.w_if ?_
  | with_reducible refine Ct.w_andV ?_ | with_reducible refine Ct.w_orV ?_ | with_reducible refine Ct.w_notV ?_
  | with_reducible refine Ct.w_nil ?_ | with_reducible refine Ct.w_cons ?_ | with_reducible refine Ct.w_cb ?_ | with_reducible refine Ct.w_call ?_ | with_reducible refine Ct.w_tup ?_ | with_reducible refine Ct.w_lst ?_ | with_reducible refine Ct.w_bm ?_
  | with_reducible refine Ct.w_knotin ?_ | with_reducible refine Ct.w_kget ?_ | with_reducible refine Ct.w_callE ?_ | with_reducible refine Ct.w_fmt ?_ | with_reducible refine Ct.w_js ?_ | with_reducible refine Ct.w_jnil ?_ | with_reducible refine Ct.w_jcons ?_ | with_reducible refine Ct.w_tm0 ?_ | with_reducible refine Ct.w_tm1 ?_ | with_reducible refine Ct.w_istr ?_ | with_reducible refine Ct.w_lock ?_
  | with_reducible refine Ct.w_for ?_ | with_reducible refine Ct.w_rng1 ?_ | with_reducible refine Ct.w_rng2 ?_ | with_reducible refine Ct.w_ilist ?_ | with_reducible refine Ct.w_itup ?_ | with_reducible refine Ct.w_im ?_ | with_reducible refine Ct.w_enum ?_ | with_reducible refine Ct.w_irev ?_ | with_reducible refine Ct.w_dcT ?_ | with_reducible refine Ct.w_bm0 ?_ | with_reducible refine Ct.w_dnewT ?_ | with_reducible refine Ct.w_dnotin ?_ | with_reducible refine Ct.w_dget ?_ | with_reducible refine Ct.w_dput ?_ | with_reducible refine Ct.w_lc ?_ | with_reducible refine Ct.w_lc2 ?_ | with_reducible refine Ct.w_star ?_ | with_reducible refine Ct.w_revL ?_ | with_reducible refine Ct.w_yes ?_ | with_reducible refine Ct.w_lstRg ?_ | with_reducible refine Ct.w_tupRg ?_ | with_reducible refine Ct.w_rg1 ?_ | with_reducible refine Ct.w_rg2 ?_
  | with_reducible refine Ct.w_gcons ?_ | with_reducible refine Ct.w_gnil ?_ | with_reducible refine Ct.w_gsub ?_ | with_reducible refine Ct.w_sl ?_ | with_reducible refine Ct.w_nopart ?_ | with_reducible refine Ct.w_part ?_
  | with_reducible refine Ct.w_rI0 ?_ | with_reducible refine Ct.w_rU ?_ | with_reducible refine Ct.w_rEqI ?_ | with_reducible refine Ct.w_rNeI ?_ | with_reducible refine Ct.w_ipI ?_ | with_reducible refine Ct.w_bl ?_ | with_reducible refine Ct.w_in ?_ | with_reducible refine Ct.w_break ?_ | with_reducible refine Ct.w_cont ?_ | with_reducible refine Ct.w_nT ?_ | with_reducible refine Ct.w_nF ?_ | with_reducible refine L2.iteT ?_ | with_reducible refine L2.iteF ?_
  | ((with_reducible refine Ct.w_rEqS (b := true) ?ceq ?_); (case ceq => decide +kernel)) | ((with_reducible refine Ct.w_rEqS (b := false) ?ceq ?_); (case ceq => decide +kernel))
  | with_reducible refine Ct.w_var rfl ?_
  | ((with_reducible refine' Ct.w_ixT ?cas ?cix ?_); (case cas => assumption); (case cix => first | exact Ct.at0 | exact Ct.at1 | exact Ct.at2 | exact rfl))
  | ((with_reducible refine' Ct.w_name ?cnm ?_); (case cnm => simp only [L2.wipe, List.map, List.set_cons_zero, List.set_cons_succ]; exact rfl)) ))
local macro_rules | `(tactic| walk_at "cq") => `(tactic| repeat (first
  | with_reducible refine Ct.w_gen ?_ | with_reducible refine Ct.w_asg ?_ | with_reducible refine Ct.w_ret ?_ | with_reducible refine Ct.w_ifS ?_ | with_reducible refine Ct.w_drop ?_ | with_reducible refine Ct.w_next ?_
  | with_reducible refine Ct.w_op ?_ | with_reducible refine Ct.w_c ?_ | with_reducible refine Ct.w_chain ?_ | with_reducible refine Ct.w_un ?_ | with_reducible refine Ct.w_test ?_ | with_reducible refine Ct.w_B ?_ | with_reducible refine Ct.w_and ?_ | with_reducible refine Ct.w_or ?_ | with_reducible refine Ct.w_not ?_ | with_reducible refine Ct.w_if ?_
  | with_reducible refine Ct.w_andV ?_ | with_reducible refine Ct.w_orV ?_ | with_reducible refine Ct.w_notV ?_
  | with_reducible refine Ct.w_nil ?_ | with_reducible refine Ct.w_cons ?_ | with_reducible refine Ct.w_cb ?_ | with_reducible refine Ct.w_call ?_ | with_reducible refine Ct.w_tup ?_ | with_reducible refine Ct.w_lst ?_ | with_reducible refine Ct.w_bm ?_
  | with_reducible refine Ct.w_knotin ?_ | with_reducible refine Ct.w_kget ?_ | with_reducible refine Ct.w_callE ?_ | with_reducible refine Ct.w_fmt ?_ | with_reducible refine Ct.w_js ?_ | with_reducible refine Ct.w_jnil ?_ | with_reducible refine Ct.w_jcons ?_ | with_reducible refine Ct.w_tm0 ?_ | with_reducible refine Ct.w_tm1 ?_ | with_reducible refine Ct.w_istr ?_ | with_reducible refine Ct.w_lock ?_
  | with_reducible refine Ct.w_for ?_ | with_reducible refine Ct.w_rng1 ?_ | with_reducible refine Ct.w_rng2 ?_ | with_reducible refine Ct.w_ilist ?_ | with_reducible refine Ct.w_itup ?_ | with_reducible refine Ct.w_im ?_ | with_reducible refine Ct.w_enum ?_ | with_reducible refine Ct.w_irev ?_ | with_reducible refine Ct.w_dcT ?_ | with_reducible refine Ct.w_bm0 ?_ | with_reducible refine Ct.w_dnewT ?_ | with_reducible refine Ct.w_dnotin ?_ | with_reducible refine Ct.w_dget ?_ | with_reducible refine Ct.w_dput ?_ | with_reducible refine Ct.w_lc ?_ | with_reducible refine Ct.w_lc2 ?_ | with_reducible refine Ct.w_star ?_ | with_reducible refine Ct.w_revL ?_ | with_reducible refine Ct.w_yes ?_ | with_reducible refine Ct.w_lstRg ?_ | with_reducible refine Ct.w_tupRg ?_ | with_reducible refine Ct.w_rg1 ?_ | with_reducible refine Ct.w_rg2 ?_
  | with_reducible refine Ct.w_gcons ?_ | with_reducible refine Ct.w_gnil ?_ | with_reducible refine Ct.w_gsub ?_ | with_reducible refine Ct.w_sl ?_ | with_reducible refine Ct.w_nopart ?_ | with_reducible refine Ct.w_part ?_
  | with_reducible refine Ct.w_rI0 ?_ | with_reducible refine Ct.w_rU ?_ | with_reducible refine Ct.w_rEqI ?_ | with_reducible refine Ct.w_rNeI ?_ | with_reducible refine Ct.w_ipI ?_ | with_reducible refine Ct.w_bl ?_ | with_reducible refine Ct.w_in ?_ | with_reducible refine Ct.w_break ?_ | with_reducible refine Ct.w_cont ?_ | with_reducible refine Ct.w_nT ?_ | with_reducible refine Ct.w_nF ?_ | with_reducible refine L2.iteT ?_ | with_reducible refine L2.iteF ?_
  | ((with_reducible refine Ct.w_rEqS (b := true) ?ceq ?_); (case ceq => decide +kernel)) | ((with_reducible refine Ct.w_rEqS (b := false) ?ceq ?_); (case ceq => decide +kernel))
  | with_reducible refine Ct.w_var rfl ?_
  | ((with_reducible refine' Ct.w_ixT ?cas ?cix ?_); (case cas => assumption); (case cix => first | exact Ct.at0 | exact Ct.at1 | exact Ct.at2 | exact rfl))
  | ((with_reducible refine' Ct.w_name ?cnm ?_); (case cnm => simp only [L2.wipe, List.map, List.set_cons_zero, List.set_cons_succ]; exact rfl)) ))

local macro_rules | `(tactic| walk_at "sf") => `(tactic| (first
  | assumption
  | ((refine L2.Same.trans (by assumption) ?_); (walk_at "sf"))))
local macro_rules | `(tactic| walk_at "sb") => `(tactic| (first
  | assumption
  | ((refine L2.Same.trans ?_ (by assumption)); (walk_at "sb"))))
local macro_rules | `(tactic| walk_at "sm") => `(tactic| (first
  | assumption
  | exact L2.Same.refl _
  | (walk_at "sf")
  | (walk_at "sb")))
local macro_rules | `(tactic| walk_at "mv") => `(tactic| (first
  | assumption
  | ((with_reducible refine Ct.mv_get ?_ (by assumption)); (walk_at "sm"))
  | (with_reducible refine L2.SqL.of (by assumption))
  | (with_reducible refine L2.SqT.of (by assumption))
  | ((with_reducible refine Ct.mv_lst ?_ (by assumption)); (walk_at "sm"))
  | ((with_reducible refine Ct.mv_tup ?_ (by assumption)); (walk_at "sm"))
  | ((with_reducible refine Ct.mv_sql ?_ (by assumption)); (walk_at "sm"))
  | ((with_reducible refine Ct.mv_sqt ?_ (by assumption)); (walk_at "sm"))
  | ((with_reducible refine Ct.mv_dp ?_ (by assumption)); (walk_at "sm"))
  | ((with_reducible refine Ct.mv_dpa ?_ (by assumption)); (walk_at "sm"))
  | ((with_reducible refine Ct.mv_train ?_ (by assumption)); (walk_at "sm"))
  | ((with_reducible refine Ct.mv_free ?_ (by assumption)); (walk_at "sm"))
  | ((with_reducible refine Ct.TrS.same (by assumption) ?_); (walk_at "sm"))
  | (refine L2.SqL.of (by assumption))
  | (refine L2.SqT.of (by assumption))
  | ((refine Ct.mv_lst ?_ (by assumption)); (walk_at "sm"))
  | ((refine Ct.mv_tup ?_ (by assumption)); (walk_at "sm"))
  | ((refine Ct.mv_sql ?_ (by assumption)); (walk_at "sm"))
  | ((refine Ct.mv_sqt ?_ (by assumption)); (walk_at "sm"))
  | (walk_at "sm")))

namespace My
open PySem PySem.Spec PyProof.Rows L2 Ct
def topS (i : Nat) : Stmt := PySem.Challenge.pw_clicktrain_k73_answers_as_texts.main.body.getD i (.Pass ⟨0, 0, 0, 0⟩)
section
variable {P : Program} {w : World} {K : PySem.W.Frag} {mg : Str → Option Value} {base : Heap}
abbrev S_is_whole : Stmt := topS 4
theorem sc_is_whole : FnScope ["thing"] ["thing"] (defScope S_is_whole) := ⟨rfl, rfl, rfl, by decide +kernel, rfl, by decide +kernel, by decide +kernel⟩
def sp_is_whole (K : PySem.W.Frag) : Sp := fun vs H Q _ => ∃ (v : V) (d : PyData), vs = [v] ∧ Dp K H v d ∧ Q (.bl (isW d)) H
theorem ok_is_whole {f : Addr} {fd : FuncData} (F : Fun K "is_whole" "is_whole" S_is_whole f fd) (m_isinstance : mg "isinstance" = none) (m_int : mg "int" = none) (m_bool : mg "bool" = none) :
    FnOk P w K mg base CX0 1 f fd ["thing"] (sp_is_whole K) := by
  refine F.ok sc_is_whole (fun vs H Q E h => ?_) (fun cdv A outer s H vs Q E hr h => ?_)
  ·
    obtain ⟨v, d, rfl, _⟩ := h
    rfl
  ·
    obtain ⟨v, d, rfl, hd, q⟩ := h
    refine ⟨_, (pss_one (ps_ret (pe_and (pe_callB (r := rIsi K) call_isi (by rfl) m_isinstance (by decide +kernel) (pa_cons (pv 0) (pa_cons (pe_bltn (v := .ty "int") (u := .type "int") (by rfl) m_int (by decide +kernel) rfl) pa_nil))) (pe_one (pe_not (pe_callB (r := rIsi K) call_isi (by rfl) m_isinstance (by decide +kernel) (pa_cons (pv 0) (pa_cons (pe_bltn (v := .ty "bool") (u := .type "bool") (by rfl) m_bool (by decide +kernel) rfl) pa_nil)))))))), ?_⟩
    refine w_st (σ' := [some v]) rfl ?_
    walk_at "ct"
    cases hd with
    | non =>
      refine w_isi (b := false) (.base .non) (kit_ty (by decide +kernel)) ?_
      walk_at "ct"
      exact q
    | bl b =>
      refine w_isi (b := true) (.base (.bl b)) (kit_ty (by decide +kernel)) ?_
      walk_at "ct"
      refine w_isi (b := true) (.base (.bl b)) (kit_ty (by decide +kernel)) ?_
      walk_at "ct"
      exact q
    | int i =>
      refine w_isi (b := true) (.base (.int i)) (kit_ty (by decide +kernel)) ?_
      walk_at "ct"
      refine w_isi (b := false) (.base (.int i)) (kit_ty (by decide +kernel)) ?_
      walk_at "ct"
      exact q
    | str x =>
      refine w_isi (b := false) (.base (.str x)) (kit_ty (by decide +kernel)) ?_
      walk_at "ct"
      exact q
    | lst hs ht =>
      refine w_isi (b := false) (tyx_L hs) (kit_ty (by decide +kernel)) ?_
      walk_at "ct"
      exact q
    | tup hs ht =>
      refine w_isi (b := false) (tyx_T hs) (kit_ty (by decide +kernel)) ?_
      walk_at "ct"
      exact q
abbrev S_are_marks : Stmt := topS 5
theorem sc_are_marks : FnScope ["thing", "teeth", "last", "mark"] ["thing", "teeth"] (defScope S_are_marks) := ⟨rfl, rfl, rfl, by decide +kernel, rfl, by decide +kernel, by decide +kernel⟩
def sp_are_marks (K : PySem.W.Frag) : Sp := fun vs H Q _ => ∃ (v : V) (d : PyData) (z : Int), vs = [v, .int z] ∧ Dp K H v d ∧ Q (.bl (areM d z)) H
theorem ok_are_marks {f : Addr} {fd : FuncData} {f_is_whole : Addr} {fd_is_whole : FuncData} (F : Fun K "are_marks" "are_marks" S_are_marks f fd)
    (F_is_whole : Fun K "is_whole" "is_whole" S_is_whole f_is_whole fd_is_whole) (b_is_whole : Binds K fd_is_whole ["thing"] []) (g_is_whole : mg "is_whole" = some (.ref f_is_whole)) (G_is_whole : FnOk P w K mg base CX0 1 f_is_whole fd_is_whole ["thing"] (sp_is_whole K)) (m_isinstance : mg "isinstance" = none) (m_tuple : mg "tuple" = none) :
    FnOk P w K mg base CX0 2 f fd ["thing", "teeth"] (sp_are_marks K) := by
  refine F.ok sc_are_marks (fun vs H Q E h => ?_) (fun cdv A outer s H vs Q E hr h => ?_)
  ·
    obtain ⟨v, d, z, rfl, _⟩ := h
    rfl
  ·
    obtain ⟨v, d, z, rfl, hd, q⟩ := h
    refine ⟨_, (pss_cons (ps_if (pt_not (pt_val (pe_callB (r := rIsi K) call_isi (by rfl) m_isinstance (by decide +kernel) (pa_cons (pv 0) (pa_cons (pe_bltn (v := .ty "tuple") (u := .type "tuple") (by rfl) m_tuple (by decide +kernel) rfl) pa_nil))))) (pss_one (ps_ret pe_bl)) pss_nil)
      (pss_cons (ps_set (i := 2) sc_are_marks.nd rfl (.inl rfl) (pe_un un_neg pe_int))
      (pss_cons (ps_for PassesOwn.never rfl (pi_tup (pv 0)) (pg_name (i := 3) sc_are_marks.nd rfl (.inl rfl))
      (pss_cons (ps_if (PW.pt (pw_or (pt_not (pt_val (pe_call G_is_whole (hr.mono (by decide)) (by rfl) g_is_whole F_is_whole.kp b_is_whole .nil pass0 (pa_cons (pv 3) pa_nil)))) (pw_or (pt_cmpR op_le (pv 3) (pv 2) (nomark _)) (pw_or1 (pt_cmpR op_ge (pv 3) (pv 1) (nomark _)))))) (pss_one (ps_ret pe_bl)) pss_nil)
      (pss_one (ps_set (i := 2) sc_are_marks.nd rfl (.inl rfl) (pv 3)))))
      (pss_one (ps_ret pe_bl))))), ?_⟩
    refine w_st (σ' := [some v, some (.int z), none, none]) rfl ?_
    walk_at "ct"
    cases hd with
    | non =>
      refine w_isi (b := false) (.base .non) (kit_ty (by decide +kernel)) ?_
      walk_at "ct"
      exact q
    | bl b =>
      refine w_isi (b := false) (.base (.bl b)) (kit_ty (by decide +kernel)) ?_
      walk_at "ct"
      exact q
    | int i =>
      refine w_isi (b := false) (.base (.int i)) (kit_ty (by decide +kernel)) ?_
      walk_at "ct"
      exact q
    | str x =>
      refine w_isi (b := false) (.base (.str x)) (kit_ty (by decide +kernel)) ?_
      walk_at "ct"
      exact q
    | lst hs ht =>
      refine w_isi (b := false) (tyx_L hs) (kit_ty (by decide +kernel)) ?_
      walk_at "ct"
      exact q
    | @tup a xs ds hs ht =>
      refine w_isi (b := true) (tyx_T hs) (kit_ty (by decide +kernel)) ?_
      walk_at "ct"
      refine w_IT hs ?_
      have hxl := dpAll_len ht
      refine fb_tup xs (fun n σ H' => ∃ (last : Int) (y : Option V), σ = [some (.ref a), some (.int z), some (.int last), y] ∧ H' = H ∧ risesD (-1) z ds = risesD last z (ds.drop n)) ⟨-1, none, rfl, rfl, rfl⟩ ?_ ?_ ?_
      · rintro n σ H' hn ⟨last, y, rfl, rfl, _⟩
        exact hs
      · rintro n x σ H' hx ⟨last, y, rfl, rfl, hr⟩
        have hn : n < xs.length := (List.getElem?_eq_some_iff.mp hx).1
        obtain ⟨e, he⟩ : ∃ e, ds[n]? = some e := ⟨_, List.getElem?_eq_getElem (by omega)⟩
        obtain ⟨x', hx', hde⟩ := dpAll_get ht he
        cases Option.some.inj (hx.symm.trans hx')
        have hdr : ds.drop n = e :: ds.drop (n + 1) := by
          rw [List.drop_eq_getElem_cons (by omega)]
          congr 1
          rw [List.getElem?_eq_getElem (by omega)] at he
          exact Option.some.inj he
        rw [hdr] at hr
        have hq : risesD last z (e :: ds.drop (n + 1)) = false → Q (.bl false) H' := fun z => by
          rw [z] at hr
          rw [show areM (.tuple ds) _ = risesD (-1) _ ds from rfl, hr] at q
          exact q
        walk_at "ct"
        refine ⟨x, e, rfl, hde, ?_⟩
        cases hde with
        | int m =>
          refine w_bl (w_nT ?_)
          walk_at "ct"
          refine w_ite (fun e1 => ?_) (fun e1 => ?_)
          · walk_at "ct"
            exact hq (if_pos (.inl e1))
          · walk_at "ct"
            refine w_ite (fun e2 => ?_) (fun e2 => ?_)
            · walk_at "ct"
              exact hq (if_pos (.inr e2))
            · walk_at "ct"
              exact ⟨m, _, rfl, rfl, hr.trans (if_neg (by omega))⟩
        | non =>
          refine w_bl (w_nF ?_)
          walk_at "ct"
          exact hq rfl
        | bl b =>
          refine w_bl (w_nF ?_)
          walk_at "ct"
          exact hq rfl
        | str s =>
          refine w_bl (w_nF ?_)
          walk_at "ct"
          exact hq rfl
        | lst h1 h2 =>
          refine w_bl (w_nF ?_)
          walk_at "ct"
          exact hq rfl
        | tup h1 h2 =>
          refine w_bl (w_nF ?_)
          walk_at "ct"
          exact hq rfl
      · rintro σ H' ⟨last, y, rfl, rfl, hr⟩
        walk_at "ct"
        rw [show areM (.tuple ds) z = risesD (-1) z ds from rfl, hr, List.drop_of_length_le (by omega)] at q
        exact q
abbrev S_is_part : Stmt := topS 6
theorem sc_is_part : FnScope ["thing"] ["thing"] (defScope S_is_part) := ⟨rfl, rfl, rfl, by decide +kernel, rfl, by decide +kernel, by decide +kernel⟩
def sp_is_part (K : PySem.W.Frag) : Sp := fun vs H Q _ => ∃ (v : V) (d : PyData) (n : Nat), vs = [v] ∧ Dp K H v d ∧ d.canLay0 = true ∧ d.depth ≤ n ∧ n ≤ 60 ∧ ∀ H', Same H H' → Q (.bl (isP d)) H'
theorem ok_is_part {f : Addr} {fd : FuncData} {f_is_whole : Addr} {fd_is_whole : FuncData} {f_are_marks : Addr} {fd_are_marks : FuncData} (F : Fun K "is_part" "is_part" S_is_part f fd)
    (F_is_whole : Fun K "is_whole" "is_whole" S_is_whole f_is_whole fd_is_whole) (b_is_whole : Binds K fd_is_whole ["thing"] []) (g_is_whole : mg "is_whole" = some (.ref f_is_whole)) (G_is_whole : FnOk P w K mg base CX0 1 f_is_whole fd_is_whole ["thing"] (sp_is_whole K))
    (F_are_marks : Fun K "are_marks" "are_marks" S_are_marks f_are_marks fd_are_marks) (b_are_marks : Binds K fd_are_marks ["thing", "teeth"] []) (g_are_marks : mg "are_marks" = some (.ref f_are_marks)) (G_are_marks : FnOk P w K mg base CX0 2 f_are_marks fd_are_marks ["thing", "teeth"] (sp_are_marks K)) (m_isinstance : mg "isinstance" = none) (m_tuple : mg "tuple" = none) (m_len : mg "len" = none) :
    FnOk P w K mg base CX0 3 f fd ["thing"] (sp_is_part K) := by
  refine F.ok sc_is_part (fun vs H Q E h => ?_) (fun cdv A outer s H vs Q E hr h => ?_)
  ·
    obtain ⟨v, d, n, rfl, _⟩ := h
    rfl
  ·
    obtain ⟨v, d, n, rfl, hd, lay, dep, n60, q⟩ := h
    refine ⟨_, (pss_cons (ps_if (PW.pt (pw_or (pt_not (pt_val (pe_callB (r := rIsi K) call_isi (by rfl) m_isinstance (by decide +kernel) (pa_cons (pv 0) (pa_cons (pe_bltn (v := .ty "tuple") (u := .type "tuple") (by rfl) m_tuple (by decide +kernel) rfl) pa_nil))))) (pw_or1 (pt_cmpR op_eq (pe_callB call_len_seq (by rfl) m_len (by decide +kernel) (pa_cons (pv 0) pa_nil)) pe_int (nomark _))))) (pss_one (ps_ret pe_bl)) pss_nil)
      (pss_cons (ps_if (pt_cmpR (r := rEqD K) (op_eqD hr.units) (pe_ix (r := rIxT K) ix_tup (pv 0) pe_int (fun _ _ => rfl)) pe_str (nomark _)) (pss_one (ps_ret (pe_and (pe_cmpR op_eq (pe_callB call_len_seq (by rfl) m_len (by decide +kernel) (pa_cons (pv 0) pa_nil)) pe_int (nomark _)) (pe_and (pe_call G_is_whole (hr.mono (by decide)) (by rfl) g_is_whole F_is_whole.kp b_is_whole .nil pass0 (pa_cons (pe_ix (r := rIxT K) ix_tup (pv 0) pe_int (fun _ _ => rfl)) pa_nil)) (pe_and (pe_cmpR op_ge (pe_ix (r := rIxT K) ix_tup (pv 0) pe_int (fun _ _ => rfl)) pe_int (nomark _)) (pe_one (pe_call G_are_marks (hr.mono (by decide)) (by rfl) g_are_marks F_are_marks.kp b_are_marks .nil pass0 (pa_cons (pe_ix (r := rIxT K) ix_tup (pv 0) pe_int (fun _ _ => rfl)) (pa_cons (pe_ix (r := rIxT K) ix_tup (pv 0) pe_int (fun _ _ => rfl)) pa_nil))))))))) pss_nil)
      (pss_cons (ps_if (pt_cmpR (r := rEqD K) (op_eqD hr.units) (pe_ix (r := rIxT K) ix_tup (pv 0) pe_int (fun _ _ => rfl)) pe_str (nomark _)) (pss_one (ps_ret (pe_and (pe_cmpR op_eq (pe_callB call_len_seq (by rfl) m_len (by decide +kernel) (pa_cons (pv 0) pa_nil)) pe_int (nomark _)) (pe_and (pe_call G_is_whole (hr.mono (by decide)) (by rfl) g_is_whole F_is_whole.kp b_is_whole .nil pass0 (pa_cons (pe_ix (r := rIxT K) ix_tup (pv 0) pe_int (fun _ _ => rfl)) pa_nil)) (pe_one (pe_cmpR op_ge (pe_ix (r := rIxT K) ix_tup (pv 0) pe_int (fun _ _ => rfl)) pe_int (nomark _))))))) pss_nil)
      (pss_one (ps_ret (pe_or (pe_cmpR (r := rEqD K) (op_eqD hr.units) (pv 0) (pe_tup (pa_cons pe_str pa_nil)) (nomark _)) (pe_one (pe_cmpR (r := rEqD K) (op_eqD hr.units) (pv 0) (pe_tup (pa_cons pe_str pa_nil)) (nomark _))))))))), ?_⟩
    refine w_st (σ' := [some v]) rfl ?_
    walk_at "ct"
    cases hd with
    | non =>
      refine w_isi (b := false) (.base .non) (kit_ty (by decide +kernel)) ?_
      walk_at "ct"
      exact q H (Same.refl H)
    | bl b =>
      refine w_isi (b := false) (.base (.bl b)) (kit_ty (by decide +kernel)) ?_
      walk_at "ct"
      exact q H (Same.refl H)
    | int i =>
      refine w_isi (b := false) (.base (.int i)) (kit_ty (by decide +kernel)) ?_
      walk_at "ct"
      exact q H (Same.refl H)
    | str x =>
      refine w_isi (b := false) (.base (.str x)) (kit_ty (by decide +kernel)) ?_
      walk_at "ct"
      exact q H (Same.refl H)
    | lst hs ht =>
      refine w_isi (b := false) (tyx_L hs) (kit_ty (by decide +kernel)) ?_
      walk_at "ct"
      exact q H (Same.refl H)
    | @tup a xs ds hs ht =>
      refine w_isi (b := true) (tyx_T hs) (kit_ty (by decide +kernel)) ?_
      walk_at "ct"
      refine ⟨a, xs, rfl, .inr hs, ?_⟩
      walk_at "ct"
      cases ht with
      | nil =>
        refine w_ite (fun e => ?_) (fun e => absurd rfl e)
        walk_at "ct"
        exact q H (Same.refl H)
      | @cons v0 vs0 d0 ds0 h0 t0 =>
        have hw : SeqAt.shaped (.str "wheel") = true := by decide +kernel
        have hsp : SeqAt.shaped (.str "spring") = true := by decide +kernel
        rw [PyData.canLay0, PyData.canLayAll0, Bool.and_eq_true] at lay
        rw [PyData.depth, PyData.depthAll] at dep
        have sh0 : SeqAt.shaped d0 = true := shaped_of (n := n) ⟨lay.1, by omega⟩ (by omega)
        have hwhole : ∀ H', Same H H' → Dp K H' (.ref a) (.tuple (d0 :: ds0)) := fun H' s => .tup (Same.tup s hs) (.cons (dp_same s h0) (dpAll_same s t0))
        have shw : SeqAt.shaped (.tuple (d0 :: ds0)) = true := shaped_of (n := n) ⟨by rw [PyData.canLay0, PyData.canLayAll0, lay.1, lay.2]; rfl, by rw [PyData.depth, PyData.depthAll]; omega⟩ (by omega)
        refine w_ite (fun e => absurd e (by rw [List.length_cons]; omega)) (fun e => ?_)
        walk_at "ct"
        refine ⟨d0, .str "wheel", h0, .str _, sh0, hw, ?_⟩
        walk_at "ct"
        by_cases e1 : PyData.eqv d0 (.str "wheel") = true
        · rw [if_pos e1]
          have hq : ∀ b : Bool, b = isP (.tuple (d0 :: ds0)) → Q (.bl b) H := fun b hb => by
            rw [hb]
            exact q H (Same.refl H)
          have hP : isP (.tuple (d0 :: ds0)) = wheelT ds0 := by
            simp only [isP, if_pos e1]
          walk_at "ct"
          refine ⟨a, _, rfl, .inr hs, ?_⟩
          walk_at "ct"
          have l0 := dpAll_len t0
          cases t0 with
          | nil =>
            refine w_ite (fun e => absurd e (by show ¬ ((1 : Nat) : Int) = 3; decide)) (fun e => ?_)
            exact hq _ hP.symm
          | @cons v1 vs1 d1 ds1 h1 t1 =>
            cases t1 with
            | nil =>
              refine w_ite (fun e => absurd e (by show ¬ ((2 : Nat) : Int) = 3; decide)) (fun e => ?_)
              exact hq _ (by rw [hP]; cases d1 <;> rfl)
            | @cons v2 vs2 d2 ds2 h2 t2 =>
              cases t2 with
              | nil =>
                refine w_ite (fun e => ?_) (fun e => absurd rfl e)
                walk_at "ct"
                refine ⟨v1, d1, rfl, h1, ?_⟩
                cases h1 with
                | int z =>
                  refine w_bl ?_
                  refine iteT ?_
                  walk_at "ct"
                  refine w_ite (fun e => ?_) (fun e => ?_)
                  · walk_at "ct"
                    refine ⟨v2, d2, z, rfl, h2, ?_⟩
                    exact hq _ (by rw [hP]; show _ = (decide (1 ≤ z) && areM d2 z); rw [decide_eq_true e]; rfl)
                  · exact hq _ (by rw [hP]; show _ = (decide (1 ≤ z) && areM d2 z); rw [decide_eq_false e]; rfl)
                | non => exact w_bl (iteF (hq _ hP.symm))
                | bl b => exact w_bl (iteF (hq _ hP.symm))
                | str s => exact w_bl (iteF (hq _ hP.symm))
                | lst g1 g2 => exact w_bl (iteF (hq _ hP.symm))
                | tup g1 g2 => exact w_bl (iteF (hq _ hP.symm))
              | @cons v3 vs3 d3 ds3 h3 t3 =>
                refine w_ite (fun e => absurd e (by rw [List.length_cons, List.length_cons, List.length_cons, List.length_cons]; omega)) (fun e => ?_)
                exact hq _ (by rw [hP]; cases d1 <;> rfl)
        · rw [if_neg e1]
          walk_at "ct"
          refine ⟨d0, .str "spring", h0, .str _, sh0, hsp, ?_⟩
          walk_at "ct"
          by_cases e2 : PyData.eqv d0 (.str "spring") = true
          · rw [if_pos e2]
            have hq : ∀ b : Bool, b = isP (.tuple (d0 :: ds0)) → Q (.bl b) H := fun b hb => by
              rw [hb]
              exact q H (Same.refl H)
            have hP : isP (.tuple (d0 :: ds0)) = springT ds0 := by
              simp only [isP, if_neg e1, if_pos e2]
            walk_at "ct"
            refine ⟨a, _, rfl, .inr hs, ?_⟩
            walk_at "ct"
            cases t0 with
            | nil =>
              refine w_ite (fun e => absurd e (by show ¬ ((1 : Nat) : Int) = 2; decide)) (fun e => ?_)
              exact hq _ hP.symm
            | @cons v1 vs1 d1 ds1 h1 t1 =>
              cases t1 with
              | nil =>
                refine w_ite (fun e => ?_) (fun e => absurd rfl e)
                walk_at "ct"
                refine ⟨v1, d1, rfl, h1, ?_⟩
                cases h1 with
                | int z =>
                  refine w_bl ?_
                  refine iteT ?_
                  walk_at "ct"
                  exact hq _ hP.symm
                | non => exact w_bl (iteF (hq _ hP.symm))
                | bl b => exact w_bl (iteF (hq _ hP.symm))
                | str s => exact w_bl (iteF (hq _ hP.symm))
                | lst g1 g2 => exact w_bl (iteF (hq _ hP.symm))
                | tup g1 g2 => exact w_bl (iteF (hq _ hP.symm))
              | @cons v2 vs2 d2 ds2 h2 t2 =>
                refine w_ite (fun e => absurd e (by rw [List.length_cons, List.length_cons, List.length_cons]; omega)) (fun e => ?_)
                exact hq _ (by rw [hP]; cases d1 <;> rfl)
          · rw [if_neg e2]
            have hP : isP (.tuple (d0 :: ds0)) = (PyData.eqv (.tuple (d0 :: ds0)) (.tuple [.str "click"]) || PyData.eqv (.tuple (d0 :: ds0)) (.tuple [.str "rocker"])) := by
              simp only [isP, if_neg e1, if_neg e2]
            rw [hP] at q
            walk_at "ct"
            refine ⟨len2 rfl, fun p np => ?_⟩
            have s1 : Same H (upd H p (.tup [.str "click"])) := same_upd np
            refine ⟨.tuple (d0 :: ds0), .tuple [.str "click"], hwhole _ s1, .tup (.of upd_same) (.cons (.str _) .nil), shw, by decide +kernel, ?_⟩
            walk_at "ct"
            by_cases e3 : PyData.eqv (.tuple (d0 :: ds0)) (.tuple [.str "click"]) = true
            · rw [if_pos e3]
              rw [e3] at q
              exact q _ s1
            · rw [if_neg e3]
              rw [Bool.not_eq_true] at e3
              rw [e3] at q
              walk_at "ct"
              refine ⟨len2 rfl, fun p2 np2 => ?_⟩
              have s2 := same_new (o := .tup [.str "rocker"]) s1 (s1.free np2)
              refine ⟨.tuple (d0 :: ds0), .tuple [.str "rocker"], hwhole _ s2, .tup (.of upd_same) (.cons (.str _) .nil), shw, by decide +kernel, ?_⟩
              exact q _ s2
abbrev S_show_way : Stmt := topS 11
theorem sc_show_way : FnScope ["way"] ["way"] (defScope S_show_way) := ⟨rfl, rfl, rfl, by decide +kernel, rfl, by decide +kernel, by decide +kernel⟩
def sp_show_way (K : PySem.W.Frag) : Sp := fun vs H Q _ => ∃ w : Int, vs = [.int w] ∧ Sign w ∧ Q (.str (tx (wayT w))) H
theorem ok_show_way {f : Addr} {fd : FuncData} (F : Fun K "show_way" "show_way" S_show_way f fd) :
    FnOk P w K mg base CX0 1 f fd ["way"] (sp_show_way K) := by
  refine F.ok sc_show_way (fun vs H Q E h => ?_) (fun cdv A outer s H vs Q E hr h => ?_)
  ·
    obtain ⟨w, rfl, _⟩ := h
    rfl
  ·
    obtain ⟨w, rfl, hw, q⟩ := h
    refine ⟨_, (pss_one (ps_ret (pe_ifExp (pt_cmpR op_eq (pv 0) pe_int (nomark _)) pe_str pe_str))), ?_⟩
    refine w_st (σ' := [some (.int w)]) rfl ?_
    walk_at "ct"
    refine w_ite (fun e => ?_) (fun e => ?_)
    · walk_at "ct"
      unfold wayT at q
      rw [if_pos e] at q
      exact q
    · walk_at "ct"
      unfold wayT at q
      rw [if_neg e] at q
      exact q
abbrev S_show_list : Stmt := topS 12
theorem sc_show_list : FnScope ["things", "show_one", "thing"] ["things", "show_one"] (defScope S_show_list) := ⟨rfl, rfl, rfl, by decide +kernel, rfl, by decide +kernel, by decide +kernel⟩
def sp_show_list (K : PySem.W.Frag) (R : Addr → Sp → Prop) : Sp := fun vs H Q _ => ∃ (a f : Addr) (sp : Sp) (xs : List V) (ts : List (List Nat)), vs = [.ref a, .ref f] ∧ R f sp ∧ SqL K H a xs ∧ xs.length = ts.length ∧ (∀ (i : Nat) (x : V) (t : List Nat), xs[i]? = some x → ts[i]? = some t → ∀ (H1 : Hp) (Q1 : VK), Same H H1 → (∀ H2, Same H1 H2 → Q1 (.str (tx t)) H2) → sp [x] H1 Q1 L2.E0) ∧ (∀ t ∈ ts, t.length ≤ 2000) ∧ ts.length ≤ 2000 ∧ ∀ H', Same H H' → Q (.str (tx (listT ts))) H'
theorem ok_show_list {f : Addr} {fd : FuncData} {R : Addr → Sp → Prop} (F : Fun K "show_list" "show_list" S_show_list f fd)
    (HR : ∀ f sp, R f sp → L2.Held P w K mg base 12 f sp) :
    FnOk P w K mg base CX0 13 f fd ["things", "show_one"] (sp_show_list K R) := by
  refine F.ok sc_show_list (fun vs H Q E h => ?_) (fun cdv A outer s H vs Q E hr h => ?_)
  ·
    obtain ⟨a, f, sp, xs, ts, rfl, _⟩ := h
    rfl
  ·
    obtain ⟨a, f, sp, xs, ts, rfl, r, hxs, len, one, l1, l2, q⟩ := h
    refine ⟨_, (pss_cons (ps_if (pt_not (pt_truth (pv 0) (by intro _; rfl))) (pss_one (ps_ret pe_str)) pss_nil)
      (pss_one (ps_ret (pe_join pe_str (pe_lc (own := [("thing", 2)]) (g := gName 2)  rfl sc_show_list.nd  (pi_list (pv 0)) (blkOk_by (own := [("thing", 2)]) (N := ["things", "show_one", "thing"]) (sc := defScope S_show_list) (by decide +kernel)) (fun _ _ _ _ _ => pg_name (i := 2) sc_show_list.nd rfl (Or.inl rfl)) (fun _ _ _ _ _ => pts_nil) (fun _ _ _ _ _ => (pe_callR (i := 1) (R := R) HR (hr.mono (by decide)) (by rfl) (by first | exact Or.inl rfl | exact Or.inr (Or.inl rfl) | exact Or.inr (Or.inr rfl)) (pa_cons (pv 2) pa_nil)))))))), ?_⟩
    refine w_st (σ' := [some (.ref a), some (.ref f), none]) rfl ?_
    walk_at "ct"
    refine ⟨!xs.isEmpty, .inl ⟨xs, hxs, rfl⟩, ?_⟩
    cases ts with
    | nil =>
      cases xs with
      | cons x r => cases len
      | nil =>
        refine L2.iteT ?_
        walk_at "ct"
        rw [tx_of]
        exact q H (Same.refl H)
    | cons t0 tr =>
      cases xs with
      | nil => cases len
      | cons x0 xr =>
        refine L2.iteF ?_
        walk_at "ct"
        refine ⟨⟨_, rfl⟩, ?_⟩
        walk_at "ct"
        refine w_IL hxs ?_
        refine lb_list (x0 :: xr) (fun D i J => Same H J ∧ J D = some (.lst ((((t0 :: tr).take i).map tx).map V.str))) (fun D nD => ⟨same_upd nD, upd_same⟩) (fun D nD i J _ h => h.1.seq hxs) ?_ ?_
        · rintro D nD i x J hx ⟨sJ, hD⟩
          have hi : i < (x0 :: xr).length := (List.getElem?_eq_some_iff.mp hx).1
          obtain ⟨t, ht⟩ : ∃ t, (t0 :: tr)[i]? = some t := ⟨_, List.getElem?_eq_getElem (by omega)⟩
          walk_at "ct"
          refine ⟨rfl, ?_⟩
          walk_at "ct"
          refine w_callR (f := f) rfl r ?_
          walk_at "ct"
          refine one i x t hx ht _ _ sJ fun J2 s2 => ?_
          refine ⟨_, s2 _ _ hD, by rw [List.length_map, List.length_map, List.length_take]; exact Nat.lt_of_le_of_lt (show _ ≤ 2000 by omega) (by decide), same_new (sJ.trans s2) nD, ?_⟩
          rw [upd_same, List.take_add_one, ht, List.map_append, List.map_append]
          rfl
        rintro D nD J ⟨sJ, hD⟩
        rw [len, List.take_of_length_le (Nat.le_refl _)] at hD
        refine ⟨_, D, _, rfl, rfl, .inl (.of hD), ?_, ?_⟩
        · exact fitT l1 (Nat.le_succ_of_le l2) (by decide)
        · rw [joinT " " (sep := [32]) (by decide)]
          have := q J sJ
          unfold listT at this
          rw [if_neg (fun z => nomatch z)] at this
          exact this
abbrev S_show_part : Stmt := topS 13
theorem sc_show_part : FnScope ["part", "marks", "mark"] ["part"] (defScope S_show_part) := ⟨rfl, rfl, rfl, by decide +kernel, rfl, by decide +kernel, by decide +kernel⟩
def sp_show_part (K : PySem.W.Frag) : Sp := fun vs H Q _ => ∃ (v : V) (p : Part) (t : List Nat), vs = [v] ∧ Dp K H v p.data ∧ PartS p t ∧ ∀ H', Same H H' → Q (.str (tx t)) H'
theorem ok_show_part {f : Addr} {fd : FuncData} (F : Fun K "show_part" "show_part" S_show_part f fd) (m_str : mg "str" = none) :
    FnOk P w K mg base CX0 1 f fd ["part"] (sp_show_part K) := by
  refine F.ok sc_show_part (fun vs H Q E h => ?_) (fun cdv A outer s H vs Q E hr h => ?_)
  ·
    obtain ⟨v, p, t, rfl, _⟩ := h
    rfl
  ·
    obtain ⟨v, p, t, rfl, hv, hp, q⟩ := h
    refine ⟨_, (pss_cons (ps_if (pt_cmpR op_eq (pe_ix (r := rIxT K) ix_tup (pv 0) pe_int (fun _ _ => rfl)) pe_str (nomark _)) (pss_cons (ps_set (i := 1) sc_show_part.nd rfl (.inl rfl) (pe_join pe_str (pe_lc (own := [("mark", 2)]) (g := gName 2)  rfl sc_show_part.nd  (pi_tup (pe_ix (r := rIxT K) ix_tup (pv 0) pe_int (fun _ _ => rfl))) (blkOk_by (own := [("mark", 2)]) (N := ["part", "marks", "mark"]) (sc := defScope S_show_part) (by decide +kernel)) (fun _ _ _ _ _ => pg_name (i := 2) sc_show_part.nd rfl (Or.inl rfl)) (fun _ _ _ _ _ => pts_nil) (fun _ _ _ _ _ => (pe_callTy (r := rStrI) call_strI (by rfl) m_str (by decide +kernel) (pa_cons (pv 2) pa_nil))))))
      (pss_one (ps_ret (pe_joined (.cons pe_str (.cons (pe_fmt (pe_ix (r := rIxT K) ix_tup (pv 0) pe_int (fun _ _ => rfl))) (.cons pe_str (.cons (pe_fmt (pv 1)) .nil)))))))) pss_nil)
      (pss_cons (ps_if (pt_cmpR op_eq (pe_ix (r := rIxT K) ix_tup (pv 0) pe_int (fun _ _ => rfl)) pe_str (nomark _)) (pss_one (ps_ret (pe_joined (.cons pe_str (.cons (pe_fmt (pe_ix (r := rIxT K) ix_tup (pv 0) pe_int (fun _ _ => rfl))) .nil))))) pss_nil)
      (pss_one (ps_ret (pe_ifExp (pt_cmpR op_eq (pe_ix (r := rIxT K) ix_tup (pv 0) pe_int (fun _ _ => rfl)) pe_str (nomark _)) pe_str pe_str))))), ?_⟩
    refine w_st (σ' := [some v, none, none]) rfl ?_
    rcases hp.2 with ⟨z, ns, rfl, hz, hn, nl, rfl⟩ | ⟨rfl, rfl⟩ | ⟨rfl, rfl⟩ | ⟨k, rfl, hk, rfl⟩
    · obtain ⟨a, b, rfl, hs, hb⟩ := wheel_inv hv
      have hb : SqT K H b (ns.map fun n : Nat => V.int (n : Int)) := by rw [← map_toInt]; exact hb
      walk_at "ct"
      refine ⟨⟨_, rfl⟩, ?_⟩
      walk_at "ct"
      refine w_IT hb ?_
      refine lb_tup (ns.map fun n : Nat => V.int (n : Int)) (fun D i J => Same H J ∧ J D = some (.lst ((ns.take i).map fun n : Nat => V.str (tx (nL n))))) (fun D nD => ⟨same_upd nD, upd_same⟩) (fun D nD i J _ h => Same.tup h.1 hb) ?_ ?_
      · rintro D nD i x J hx ⟨sJ, hD⟩
        obtain ⟨n, hi, rfl⟩ := map_getN hx
        walk_at "ct"
        refine ⟨rfl, ?_⟩
        walk_at "ct"
        refine w_strI (Nat.lt_trans (hn n (List.mem_of_getElem? hi)) (by decide)) ?_
        refine ⟨_, hD, by rw [List.length_map, List.length_take]; exact Nat.lt_of_le_of_lt (show _ ≤ 2000 by omega) (by decide), same_new sJ nD, ?_⟩
        rw [upd_same, take_succN _ hi]
      rintro D nD J ⟨sJ, hD⟩
      rw [List.length_map, List.take_length] at hD
      have hD2 : J D = some (.lst (((ns.map nL).map tx).map V.str)) := by rw [hD, List.map_map, List.map_map]; rfl
      refine ⟨_, D, _, rfl, rfl, .inl (.of hD2), fitN hn (by omega) (by decide), ?_⟩
      rw [joinT "," (sep := [44]) (by decide)]

      have l1 := nL_len hz
      have l2 := jN_len (s := 44) hn
      refine w_jqs (s := "w") (a := [119]) (by decide) (by show 0 + 1 ≤ _; omega) ?_
      have hs := Same.tup sJ hs
      walk_at "ct"
      refine w_fmtI (Nat.lt_trans hz (by decide)) ?_
      refine w_jq (by rw [List.nil_append]; show 1 + _ ≤ _; omega) ?_
      walk_at "ct"
      refine w_jqs (s := ":") (a := [58]) (by decide) (by rw [List.nil_append, List.length_append]; show 1 + _ + 1 ≤ _; omega) ?_
      walk_at "ct"
      refine w_fmtS (a := jN 44 ns) (by omega) ?_
      refine w_jq (by rw [List.nil_append, List.length_append, List.length_append]; show 1 + _ + 1 + _ ≤ _; omega) ?_
      walk_at "ct"
      have e : [] ++ [119] ++ nL z ++ [58] ++ jN 44 ns = 119 :: (nL z ++ 58 :: jN 44 ns) := by rw [List.nil_append, List.append_assoc, List.append_assoc]; rfl
      rw [e]
      exact q J sJ
    · obtain ⟨a, rfl, hs⟩ := click_inv hv
      walk_at "ct"
      exact q H (Same.refl H)
    · obtain ⟨a, rfl, hs⟩ := rocker_inv hv
      walk_at "ct"
      exact q H (Same.refl H)
    · obtain ⟨a, rfl, hs⟩ := spring_inv hv
      have l1 := nL_len hk
      walk_at "ct"
      refine w_jqs (s := "s") (a := [115]) (by decide) (by show 0 + 1 ≤ _; omega) ?_
      walk_at "ct"
      refine w_fmtI (Nat.lt_trans hk (by decide)) ?_
      refine w_jq (by rw [List.nil_append]; show 1 + _ ≤ _; omega) ?_
      walk_at "ct"
      exact q H (Same.refl H)
abbrev S_show_stand : Stmt := topS 14
theorem sc_show_stand : FnScope ["stand", "place"] ["stand"] (defScope S_show_stand) := ⟨rfl, rfl, rfl, by decide +kernel, rfl, by decide +kernel, by decide +kernel⟩
def sp_show_stand (K : PySem.W.Frag) : Sp := fun vs H Q _ => ∃ (a : Addr) (ns : List Nat), vs = [.ref a] ∧ SqT K H a (ns.map fun n : Nat => V.int (n : Int)) ∧ (∀ n ∈ ns, n < M40) ∧ ns.length ≤ 30 ∧ ∀ H', Same H H' → Q (.str (tx (jN 47 ns))) H'
theorem ok_show_stand {f : Addr} {fd : FuncData} (F : Fun K "show_stand" "show_stand" S_show_stand f fd) (m_str : mg "str" = none) :
    FnOk P w K mg base CX0 1 f fd ["stand"] (sp_show_stand K) := by
  refine F.ok sc_show_stand (fun vs H Q E h => ?_) (fun cdv A outer s H vs Q E hr h => ?_)
  ·
    obtain ⟨a, ns, rfl, _⟩ := h
    rfl
  ·
    obtain ⟨a, ns, rfl, hs, hn, nl, q⟩ := h
    refine ⟨_, (pss_one (ps_ret (pe_join pe_str (pe_lc (own := [("place", 1)]) (g := gName 1)  rfl sc_show_stand.nd  (pi_tup (pv 0)) (blkOk_by (own := [("place", 1)]) (N := ["stand", "place"]) (sc := defScope S_show_stand) (by decide +kernel)) (fun _ _ _ _ _ => pg_name (i := 1) sc_show_stand.nd rfl (Or.inl rfl)) (fun _ _ _ _ _ => pts_nil) (fun _ _ _ _ _ => (pe_callTy (r := rStrI) call_strI (by rfl) m_str (by decide +kernel) (pa_cons (pv 1) pa_nil))))))), ?_⟩
    refine w_st (σ' := [some (.ref a), none]) rfl ?_
    walk_at "ct"
    refine ⟨⟨_, rfl⟩, ?_⟩
    walk_at "ct"
    refine w_IT hs ?_
    refine lb_tup (ns.map fun n : Nat => V.int (n : Int)) (fun D i J => Same H J ∧ J D = some (.lst ((ns.take i).map fun n : Nat => V.str (tx (nL n))))) (fun D nD => ⟨same_upd nD, upd_same⟩) (fun D nD i J _ h => Same.tup h.1 hs) ?_ ?_
    · rintro D nD i x J hx ⟨sJ, hD⟩
      obtain ⟨n, hi, rfl⟩ := map_getN hx
      walk_at "ct"
      refine ⟨rfl, ?_⟩
      walk_at "ct"
      refine w_strI (Nat.lt_trans (hn n (List.mem_of_getElem? hi)) (by decide)) ?_
      refine ⟨_, hD, by rw [List.length_map, List.length_take]; exact Nat.lt_of_le_of_lt (show _ ≤ 2000 by omega) (by decide), same_new sJ nD, ?_⟩
      rw [upd_same, take_succN _ hi]
    rintro D nD J ⟨sJ, hD⟩
    rw [List.length_map, List.take_length] at hD
    have hD2 : J D = some (.lst (((ns.map nL).map tx).map V.str)) := by rw [hD, List.map_map, List.map_map]; rfl
    refine ⟨_, D, _, rfl, rfl, .inl (.of hD2), fitN hn (by omega) (by decide), ?_⟩
    rw [joinT "/" (sep := [47]) (by decide)]
    exact q J sJ
abbrev S_show_deed : Stmt := topS 15
theorem sc_show_deed : FnScope ["deed", "i", "way", "times"] ["deed"] (defScope S_show_deed) := ⟨rfl, rfl, rfl, by decide +kernel, rfl, by decide +kernel, by decide +kernel⟩
def sp_show_deed (K : PySem.W.Frag) : Sp := fun vs H Q _ => ∃ (v : V) (d : PyData) (t : List Nat), vs = [v] ∧ Dp K H v d ∧ ElT 0 d t ∧ Q (.str (tx t)) H
theorem ok_show_deed {f : Addr} {fd : FuncData} {f_show_way : Addr} {fd_show_way : FuncData} (F : Fun K "show_deed" "show_deed" S_show_deed f fd)
    (F_show_way : Fun K "show_way" "show_way" S_show_way f_show_way fd_show_way) (b_show_way : Binds K fd_show_way ["way"] []) (g_show_way : mg "show_way" = some (.ref f_show_way)) (G_show_way : FnOk P w K mg base CX0 1 f_show_way fd_show_way ["way"] (sp_show_way K)) :
    FnOk P w K mg base CX0 2 f fd ["deed"] (sp_show_deed K) := by
  refine F.ok sc_show_deed (fun vs H Q E h => ?_) (fun cdv A outer s H vs Q E hr h => ?_)
  ·
    obtain ⟨v, d, t, rfl, _⟩ := h
    rfl
  ·
    obtain ⟨v, d, t, rfl, hv, ⟨i, k, w, hi, hk, hw, rfl, rfl⟩, q⟩ := h
    refine ⟨_, (pss_cons (ps_asg (pv 0) (pg_tup rfl (pgs_cons (pg_name (i := 1) sc_show_deed.nd rfl (.inl rfl)) (pgs_cons (pg_name (i := 2) sc_show_deed.nd rfl (.inl rfl)) (pgs_cons (pg_name (i := 3) sc_show_deed.nd rfl (.inl rfl)) pgs_nil)))))
      (pss_one (ps_ret (pe_joined (.cons (pe_fmt (pv 1)) (.cons (pe_fmt (pe_call G_show_way (hr.mono (by decide)) (by rfl) g_show_way F_show_way.kp b_show_way .nil pass0 (pa_cons (pv 2) pa_nil))) (.cons (pe_fmt (pv 3)) .nil))))))), ?_⟩
    refine w_st (σ' := [some v, none, none, none]) rfl ?_
    obtain ⟨a, rfl, hs⟩ := dpi_inv (is := [(i : Int), w, (k : Int)]) hv
    have hs : SqT K H a [.int (i : Int), .int w, .int (k : Int)] := hs
    walk_at "ct"
    refine w_gtup hs rfl ?_
    walk_at "ct"
    refine w_fmtI (Nat.lt_trans hi (by decide)) ?_
    have l1 := nL_len hi
    have l2 := nL_len hk
    have l3 := wayT_len w
    refine w_jq (by show 0 + _ ≤ _; omega) ?_
    walk_at "ct"
    refine ⟨w, rfl, hw, ?_⟩
    refine w_fmtS (by omega) ?_
    refine w_jq (by rw [List.nil_append]; omega) ?_
    walk_at "ct"
    refine w_fmtI (Nat.lt_trans hk (by decide)) ?_
    refine w_jq (by rw [List.nil_append, List.length_append]; omega) ?_
    walk_at "ct"
    exact q
abbrev S_show_row : Stmt := topS 16
theorem sc_show_row : FnScope ["row"] ["row"] (defScope S_show_row) := ⟨rfl, rfl, rfl, by decide +kernel, rfl, by decide +kernel, by decide +kernel⟩
def sp_show_row (K : PySem.W.Frag) : Sp := fun vs H Q _ => ∃ (a : Addr) (xs : List V) (ds : List PyData) (ts : List (List Nat)), vs = [.ref a] ∧ SqL K H a xs ∧ DpAll K H xs ds ∧ ElsT 0 ds ts ∧ ts.length ≤ 2000 ∧ ∀ H', Same H H' → Q (.str (tx (listT ts))) H'
theorem ok_show_row {f : Addr} {fd : FuncData} {f_show_list : Addr} {fd_show_list : FuncData} {f_show_deed : Addr} {fd_show_deed : FuncData} (F : Fun K "show_row" "show_row" S_show_row f fd)
    (F_show_list : Fun K "show_list" "show_list" S_show_list f_show_list fd_show_list) (b_show_list : Binds K fd_show_list ["things", "show_one"] []) (g_show_list : mg "show_list" = some (.ref f_show_list)) (G_show_list : ∀ R, (∀ f sp, R f sp → L2.Held P w K mg base 12 f sp) → FnOk P w K mg base CX0 13 f_show_list fd_show_list ["things", "show_one"] (sp_show_list K R))
    (F_show_deed : Fun K "show_deed" "show_deed" S_show_deed f_show_deed fd_show_deed) (b_show_deed : Binds K fd_show_deed ["deed"] []) (g_show_deed : mg "show_deed" = some (.ref f_show_deed)) (G_show_deed : FnOk P w K mg base CX0 2 f_show_deed fd_show_deed ["deed"] (sp_show_deed K)) :
    FnOk P w K mg base CX0 14 f fd ["row"] (sp_show_row K) := by
  refine F.ok sc_show_row (fun vs H Q E h => ?_) (fun cdv A outer s H vs Q E hr h => ?_)
  ·
    obtain ⟨a, xs, ds, ts, rfl, _⟩ := h
    rfl
  ·
    obtain ⟨a, xs, ds, ts, rfl, hxs, hds, els, l2, q⟩ := h
    refine ⟨_, (pss_one (ps_ret (pe_call (G_show_list (fun (f : Addr) (sp : Sp) => (f = f_show_deed ∧ sp = (sp_show_deed K)) ∨ (fun (_ : Addr) (_ : Sp) => False) f sp) (held_cons (held_at (k := 12) G_show_deed (by decide) F_show_deed.kp b_show_deed) held_nil)) (hr.mono (by decide)) (by rfl) g_show_list F_show_list.kp b_show_list .nil pass0 (pa_cons (pv 0) (pa_cons (pe_glob (v := .ref f_show_deed) (by rfl) g_show_deed rfl) pa_nil))))), ?_⟩
    refine w_st (σ' := [some (.ref a)]) rfl ?_
    walk_at "ct"
    refine ⟨a, f_show_deed, _, xs, ts, rfl, .inl ⟨rfl, rfl⟩, hxs, by rw [dpAll_len hds, Paired.length els], fun i x t hx ht H1 Q1 s1 q1 => ?_, fun t ht => Nat.le_trans (elsT_len els t ht) (by decide), l2, q⟩
    have hi := (List.getElem?_eq_some_iff.mp hx).1
    obtain ⟨d, hd⟩ : ∃ d, ds[i]? = some d := ⟨_, List.getElem?_eq_getElem (by rw [← dpAll_len hds]; exact hi)⟩
    obtain ⟨x', hx', dx⟩ := dpAll_get hds hd
    cases Option.some.inj (hx.symm.trans hx')
    obtain ⟨t', ht', el⟩ := paired_getT els hd
    cases Option.some.inj (ht.symm.trans ht')
    exact ⟨x, d, t, rfl, dp_same s1 dx, el, q1 H1 (Same.refl _)⟩
abbrev S_show_push : Stmt := topS 17
theorem sc_show_push : FnScope ["push", "i", "way"] ["push"] (defScope S_show_push) := ⟨rfl, rfl, rfl, by decide +kernel, rfl, by decide +kernel, by decide +kernel⟩
def sp_show_push (K : PySem.W.Frag) : Sp := fun vs H Q _ => ∃ (v : V) (d : PyData) (t : List Nat), vs = [v] ∧ Dp K H v d ∧ ElT 1 d t ∧ Q (.str (tx t)) H
theorem ok_show_push {f : Addr} {fd : FuncData} {f_show_way : Addr} {fd_show_way : FuncData} (F : Fun K "show_push" "show_push" S_show_push f fd)
    (F_show_way : Fun K "show_way" "show_way" S_show_way f_show_way fd_show_way) (b_show_way : Binds K fd_show_way ["way"] []) (g_show_way : mg "show_way" = some (.ref f_show_way)) (G_show_way : FnOk P w K mg base CX0 1 f_show_way fd_show_way ["way"] (sp_show_way K)) :
    FnOk P w K mg base CX0 2 f fd ["push"] (sp_show_push K) := by
  refine F.ok sc_show_push (fun vs H Q E h => ?_) (fun cdv A outer s H vs Q E hr h => ?_)
  ·
    obtain ⟨v, d, t, rfl, _⟩ := h
    rfl
  ·
    obtain ⟨v, d, t, rfl, hv, ⟨i, w, hi, hw, rfl, rfl⟩, q⟩ := h
    refine ⟨_, (pss_cons (ps_asg (pv 0) (pg_tup rfl (pgs_cons (pg_name (i := 1) sc_show_push.nd rfl (.inl rfl)) (pgs_cons (pg_name (i := 2) sc_show_push.nd rfl (.inl rfl)) pgs_nil))))
      (pss_one (ps_ret (pe_joined (.cons (pe_fmt (pv 1)) (.cons (pe_fmt (pe_call G_show_way (hr.mono (by decide)) (by rfl) g_show_way F_show_way.kp b_show_way .nil pass0 (pa_cons (pv 2) pa_nil))) .nil)))))), ?_⟩
    refine w_st (σ' := [some v, none, none]) rfl ?_
    obtain ⟨a, rfl, hs⟩ := dpi_inv (is := [(i : Int), w]) hv
    have hs : SqT K H a [.int (i : Int), .int w] := hs
    walk_at "ct"
    refine w_gtup hs rfl ?_
    walk_at "ct"
    refine w_fmtI (Nat.lt_trans hi (by decide)) ?_
    have l1 := nL_len hi
    have l3 := wayT_len w
    refine w_jq (by show 0 + _ ≤ _; omega) ?_
    walk_at "ct"
    refine ⟨w, rfl, hw, ?_⟩
    refine w_fmtS (by omega) ?_
    refine w_jq (by rw [List.nil_append]; omega) ?_
    walk_at "ct"
    exact q
abbrev S_show_pushes : Stmt := topS 18
theorem sc_show_pushes : FnScope ["pushes"] ["pushes"] (defScope S_show_pushes) := ⟨rfl, rfl, rfl, by decide +kernel, rfl, by decide +kernel, by decide +kernel⟩
def sp_show_pushes (K : PySem.W.Frag) : Sp := fun vs H Q _ => ∃ (a : Addr) (xs : List V) (ds : List PyData) (ts : List (List Nat)), vs = [.ref a] ∧ SqL K H a xs ∧ DpAll K H xs ds ∧ ElsT 1 ds ts ∧ ts.length ≤ 2000 ∧ ∀ H', Same H H' → Q (.str (tx (listT ts))) H'
theorem ok_show_pushes {f : Addr} {fd : FuncData} {f_show_list : Addr} {fd_show_list : FuncData} {f_show_push : Addr} {fd_show_push : FuncData} (F : Fun K "show_pushes" "show_pushes" S_show_pushes f fd)
    (F_show_list : Fun K "show_list" "show_list" S_show_list f_show_list fd_show_list) (b_show_list : Binds K fd_show_list ["things", "show_one"] []) (g_show_list : mg "show_list" = some (.ref f_show_list)) (G_show_list : ∀ R, (∀ f sp, R f sp → L2.Held P w K mg base 12 f sp) → FnOk P w K mg base CX0 13 f_show_list fd_show_list ["things", "show_one"] (sp_show_list K R))
    (F_show_push : Fun K "show_push" "show_push" S_show_push f_show_push fd_show_push) (b_show_push : Binds K fd_show_push ["push"] []) (g_show_push : mg "show_push" = some (.ref f_show_push)) (G_show_push : FnOk P w K mg base CX0 2 f_show_push fd_show_push ["push"] (sp_show_push K)) :
    FnOk P w K mg base CX0 14 f fd ["pushes"] (sp_show_pushes K) := by
  refine F.ok sc_show_pushes (fun vs H Q E h => ?_) (fun cdv A outer s H vs Q E hr h => ?_)
  ·
    obtain ⟨a, xs, ds, ts, rfl, _⟩ := h
    rfl
  ·
    obtain ⟨a, xs, ds, ts, rfl, hxs, hds, els, l2, q⟩ := h
    refine ⟨_, (pss_one (ps_ret (pe_call (G_show_list (fun (f : Addr) (sp : Sp) => (f = f_show_push ∧ sp = (sp_show_push K)) ∨ (fun (_ : Addr) (_ : Sp) => False) f sp) (held_cons (held_at (k := 12) G_show_push (by decide) F_show_push.kp b_show_push) held_nil)) (hr.mono (by decide)) (by rfl) g_show_list F_show_list.kp b_show_list .nil pass0 (pa_cons (pv 0) (pa_cons (pe_glob (v := .ref f_show_push) (by rfl) g_show_push rfl) pa_nil))))), ?_⟩
    refine w_st (σ' := [some (.ref a)]) rfl ?_
    walk_at "ct"
    refine ⟨a, f_show_push, _, xs, ts, rfl, .inl ⟨rfl, rfl⟩, hxs, by rw [dpAll_len hds, Paired.length els], fun i x t hx ht H1 Q1 s1 q1 => ?_, fun t ht => Nat.le_trans (elsT_len els t ht) (by decide), l2, q⟩
    have hi := (List.getElem?_eq_some_iff.mp hx).1
    obtain ⟨d, hd⟩ : ∃ d, ds[i]? = some d := ⟨_, List.getElem?_eq_getElem (by rw [← dpAll_len hds]; exact hi)⟩
    obtain ⟨x', hx', dx⟩ := dpAll_get hds hd
    cases Option.some.inj (hx.symm.trans hx')
    obtain ⟨t', ht', el⟩ := paired_getT els hd
    cases Option.some.inj (ht.symm.trans ht')
    exact ⟨x, d, t, rfl, dp_same s1 dx, el, q1 H1 (Same.refl _)⟩
abbrev S_show_ways : Stmt := topS 19
theorem sc_show_ways : FnScope ["ways", "way"] ["ways"] (defScope S_show_ways) := ⟨rfl, rfl, rfl, by decide +kernel, rfl, by decide +kernel, by decide +kernel⟩
def sp_show_ways (K : PySem.W.Frag) : Sp := fun vs H Q _ => ∃ (a : Addr) (ws : List Int), vs = [.ref a] ∧ SqL K H a (ws.map V.int) ∧ (∀ w ∈ ws, Sign w) ∧ ws.length ≤ 2000 ∧ ∀ H', Same H H' → Q (.str (tx (waysT ws))) H'
theorem ok_show_ways {f : Addr} {fd : FuncData} {f_show_way : Addr} {fd_show_way : FuncData} (F : Fun K "show_ways" "show_ways" S_show_ways f fd)
    (F_show_way : Fun K "show_way" "show_way" S_show_way f_show_way fd_show_way) (b_show_way : Binds K fd_show_way ["way"] []) (g_show_way : mg "show_way" = some (.ref f_show_way)) (G_show_way : FnOk P w K mg base CX0 1 f_show_way fd_show_way ["way"] (sp_show_way K)) :
    FnOk P w K mg base CX0 2 f fd ["ways"] (sp_show_ways K) := by
  refine F.ok sc_show_ways (fun vs H Q E h => ?_) (fun cdv A outer s H vs Q E hr h => ?_)
  ·
    obtain ⟨a, ws, rfl, _⟩ := h
    rfl
  ·
    obtain ⟨a, ws, rfl, hs, hw, wl, q⟩ := h
    refine ⟨_, (pss_cons (ps_if (pt_not (pt_truth (pv 0) (by intro _; rfl))) (pss_one (ps_ret pe_str)) pss_nil)
      (pss_one (ps_ret (pe_join pe_str (pe_lc (own := [("way", 1)]) (g := gName 1)  rfl sc_show_ways.nd  (pi_list (pv 0)) (blkOk_by (own := [("way", 1)]) (N := ["ways", "way"]) (sc := defScope S_show_ways) (by decide +kernel)) (fun _ _ _ _ _ => pg_name (i := 1) sc_show_ways.nd rfl (Or.inl rfl)) (fun _ _ _ _ _ => pts_nil) (fun _ _ _ _ _ => (pe_call G_show_way (hr.mono (by decide)) (by rfl) g_show_way F_show_way.kp b_show_way .nil pass0 (pa_cons (pv 1) pa_nil)))))))), ?_⟩
    refine w_st (σ' := [some (.ref a), none]) rfl ?_
    walk_at "ct"
    refine ⟨!(ws.map V.int).isEmpty, .inl ⟨_, hs, rfl⟩, ?_⟩
    by_cases e : ws = []
    · subst e
      refine L2.iteT ?_
      walk_at "ct"
      rw [tx_of]
      exact q H (Same.refl H)
    have ne : (ws.map V.int).isEmpty = false := by
      cases ws with
      | nil => exact absurd rfl e
      | cons => rfl
    rw [ne]
    refine L2.iteF ?_
    walk_at "ct"
    refine ⟨⟨_, rfl⟩, ?_⟩
    walk_at "ct"
    refine w_IL hs ?_
    refine lb_list (ws.map V.int) (fun D i J => Same H J ∧ J D = some (.lst (((ws.take i).map wayT).map fun t => V.str (tx t)))) (fun D nD => ⟨same_upd nD, upd_same⟩) (fun D nD i J _ h => Same.seq h.1 hs) ?_ ?_
    · rintro D nD i x J hx ⟨sJ, hD⟩
      obtain ⟨w', hi, rfl⟩ := map_getN hx
      walk_at "ct"
      refine ⟨rfl, ?_⟩
      walk_at "ct"
      refine ⟨w', rfl, hw w' (List.mem_of_getElem? hi), ?_⟩
      refine ⟨_, hD, by rw [List.length_map, List.length_map, List.length_take]; exact Nat.lt_of_le_of_lt (show _ ≤ 2000 by omega) (by decide), same_new sJ nD, ?_⟩
      rw [upd_same, take_succN _ hi, List.map_append]
      rfl
    rintro D nD J ⟨sJ, hD⟩
    rw [List.length_map, List.take_length] at hD
    have hD2 : J D = some (.lst (((ws.map wayT).map tx).map V.str)) := by rw [hD, List.map_map, List.map_map, List.map_map]; rfl
    refine ⟨_, D, _, rfl, rfl, .inl (.of hD2), fitT (fun t ht => by
      obtain ⟨w', _, rfl⟩ := List.mem_map.mp ht
      rw [wayT_len]; decide) (by rw [List.length_map]; omega) (by decide), ?_⟩
    rw [joinE]
    have := q J sJ
    unfold waysT at this
    rw [if_neg e] at this
    exact this
abbrev S_show_pair : Stmt := topS 20
theorem sc_show_pair : FnScope ["pair", "here", "there"] ["pair"] (defScope S_show_pair) := ⟨rfl, rfl, rfl, by decide +kernel, rfl, by decide +kernel, by decide +kernel⟩
def sp_show_pair (K : PySem.W.Frag) : Sp := fun vs H Q _ => ∃ (v : V) (d : PyData) (t : List Nat), vs = [v] ∧ Dp K H v d ∧ PairA d t ∧ ∀ H', Same H H' → Q (.str (tx t)) H'
theorem ok_show_pair {f : Addr} {fd : FuncData} {f_show_stand : Addr} {fd_show_stand : FuncData} (F : Fun K "show_pair" "show_pair" S_show_pair f fd)
    (F_show_stand : Fun K "show_stand" "show_stand" S_show_stand f_show_stand fd_show_stand) (b_show_stand : Binds K fd_show_stand ["stand"] []) (g_show_stand : mg "show_stand" = some (.ref f_show_stand)) (G_show_stand : FnOk P w K mg base CX0 1 f_show_stand fd_show_stand ["stand"] (sp_show_stand K)) :
    FnOk P w K mg base CX0 2 f fd ["pair"] (sp_show_pair K) := by
  refine F.ok sc_show_pair (fun vs H Q E h => ?_) (fun cdv A outer s H vs Q E hr h => ?_)
  ·
    obtain ⟨v, d, t, rfl, _⟩ := h
    rfl
  ·
    obtain ⟨v, d, t, rfl, hv, ⟨a, b, ta, tb, ha, hb, rfl, rfl⟩, q⟩ := h
    refine ⟨_, (pss_cons (ps_asg (pv 0) (pg_tup rfl (pgs_cons (pg_name (i := 1) sc_show_pair.nd rfl (.inl rfl)) (pgs_cons (pg_name (i := 2) sc_show_pair.nd rfl (.inl rfl)) pgs_nil))))
      (pss_one (ps_ret (pe_joined (.cons (pe_fmt (pe_call G_show_stand (hr.mono (by decide)) (by rfl) g_show_stand F_show_stand.kp b_show_stand .nil pass0 (pa_cons (pv 1) pa_nil))) (.cons pe_str (.cons (pe_fmt (pe_call G_show_stand (hr.mono (by decide)) (by rfl) g_show_stand F_show_stand.kp b_show_stand .nil pass0 (pa_cons (pv 2) pa_nil))) .nil))))))), ?_⟩
    refine w_st (σ' := [some v, none, none]) rfl ?_
    obtain ⟨p, xs, rfl, hs, hd⟩ := tup_inv hv
    cases hd with
    | cons d1 r =>
      cases r with
      | cons d2 r2 =>
        cases r2
        obtain ⟨pa, na, rfl, sa, nea, hna, nla, rfl⟩ := standA_inv ha d1
        obtain ⟨pb, nb, rfl, sb, neb, hnb, nlb, rfl⟩ := standA_inv hb d2
        have la := jN_len (s := 47) hna
        have lb := jN_len (s := 47) hnb
        walk_at "ct"
        refine w_gtup hs rfl ?_
        walk_at "ct"
        refine ⟨pa, na, rfl, sa, hna, by omega, fun H1 s1 => ?_⟩
        refine w_fmtS (by omega) ?_
        refine w_jq (by show 0 + _ ≤ _; omega) ?_
        walk_at "ct"
        refine w_jqs (s := "~") (a := [126]) (by decide) (by rw [List.nil_append]; show _ + 1 ≤ _; omega) ?_
        walk_at "ct"
        refine ⟨pb, nb, rfl, Same.tup s1 sb, hnb, by omega, fun H2 s2 => ?_⟩
        refine w_fmtS (by omega) ?_
        refine w_jq (by rw [List.nil_append, List.length_append]; show _ + 1 + _ ≤ _; omega) ?_
        walk_at "ct"
        rw [show [] ++ jN 47 na ++ [126] ++ jN 47 nb = jN 47 na ++ 126 :: jN 47 nb by rw [List.nil_append, List.append_assoc]; rfl]
        exact q H2 (s1.trans s2)
abbrev S_show_numbered : Stmt := topS 21
theorem sc_show_numbered : FnScope ["numbered", "stand", "number"] ["numbered"] (defScope S_show_numbered) := ⟨rfl, rfl, rfl, by decide +kernel, rfl, by decide +kernel, by decide +kernel⟩
def sp_show_numbered (K : PySem.W.Frag) : Sp := fun vs H Q _ => ∃ (v : V) (d : PyData) (t : List Nat), vs = [v] ∧ Dp K H v d ∧ NumbA d t ∧ ∀ H', Same H H' → Q (.str (tx t)) H'
theorem ok_show_numbered {f : Addr} {fd : FuncData} {f_show_stand : Addr} {fd_show_stand : FuncData} (F : Fun K "show_numbered" "show_numbered" S_show_numbered f fd)
    (F_show_stand : Fun K "show_stand" "show_stand" S_show_stand f_show_stand fd_show_stand) (b_show_stand : Binds K fd_show_stand ["stand"] []) (g_show_stand : mg "show_stand" = some (.ref f_show_stand)) (G_show_stand : FnOk P w K mg base CX0 1 f_show_stand fd_show_stand ["stand"] (sp_show_stand K)) :
    FnOk P w K mg base CX0 2 f fd ["numbered"] (sp_show_numbered K) := by
  refine F.ok sc_show_numbered (fun vs H Q E h => ?_) (fun cdv A outer s H vs Q E hr h => ?_)
  ·
    obtain ⟨v, d, t, rfl, _⟩ := h
    rfl
  ·
    obtain ⟨v, d, t, rfl, hv, ⟨a, ta, n, ha, hn, rfl, rfl⟩, q⟩ := h
    refine ⟨_, (pss_cons (ps_asg (pv 0) (pg_tup rfl (pgs_cons (pg_name (i := 1) sc_show_numbered.nd rfl (.inl rfl)) (pgs_cons (pg_name (i := 2) sc_show_numbered.nd rfl (.inl rfl)) pgs_nil))))
      (pss_one (ps_ret (pe_joined (.cons (pe_fmt (pe_call G_show_stand (hr.mono (by decide)) (by rfl) g_show_stand F_show_stand.kp b_show_stand .nil pass0 (pa_cons (pv 1) pa_nil))) (.cons pe_str (.cons (pe_fmt (pv 2)) .nil))))))), ?_⟩
    refine w_st (σ' := [some v, none, none]) rfl ?_
    obtain ⟨p, xs, rfl, hs, hd⟩ := tup_inv hv
    cases hd with
    | cons d1 r =>
      cases r with
      | cons d2 r2 =>
        cases r2
        cases d2
        obtain ⟨pa, na, rfl, sa, nea, hna, nla, rfl⟩ := standA_inv ha d1
        have la := jN_len (s := 47) hna
        have ln := nL_len hn
        walk_at "ct"
        refine w_gtup hs rfl ?_
        walk_at "ct"
        refine ⟨pa, na, rfl, sa, hna, by omega, fun H1 s1 => ?_⟩
        refine w_fmtS (by omega) ?_
        refine w_jq (by show 0 + _ ≤ _; omega) ?_
        walk_at "ct"
        refine w_jqs (s := ":") (a := [58]) (by decide) (by rw [List.nil_append]; show _ + 1 ≤ _; omega) ?_
        walk_at "ct"
        refine w_fmtI (Nat.lt_trans hn (by decide)) ?_
        refine w_jq (by rw [List.nil_append, List.length_append]; show _ + 1 + _ ≤ _; omega) ?_
        walk_at "ct"
        rw [show [] ++ jN 47 na ++ [58] ++ nL n = jN 47 na ++ 58 :: nL n by rw [List.nil_append, List.append_assoc]; rfl]
        exact q H1 s1
abbrev S_show_moves : Stmt := topS 22
theorem sc_show_moves : FnScope ["moves"] ["moves"] (defScope S_show_moves) := ⟨rfl, rfl, rfl, by decide +kernel, rfl, by decide +kernel, by decide +kernel⟩
def sp_show_moves (K : PySem.W.Frag) : Sp := fun vs H Q _ => ∃ (k : Nat) (a : Addr) (xs : List V) (ds : List PyData) (ts : List (List Nat)), vs = [.ref a] ∧ k < 2 ∧ SqL K H a xs ∧ DpAll K H xs ds ∧ ElsT k ds ts ∧ ts.length ≤ 2000 ∧ ∀ H', Same H H' → Q (.str (tx (listT ts))) H'
theorem ok_show_moves {f : Addr} {fd : FuncData} {f_show_row : Addr} {fd_show_row : FuncData} {f_show_pushes : Addr} {fd_show_pushes : FuncData} (F : Fun K "show_moves" "show_moves" S_show_moves f fd)
    (F_show_row : Fun K "show_row" "show_row" S_show_row f_show_row fd_show_row) (b_show_row : Binds K fd_show_row ["row"] []) (g_show_row : mg "show_row" = some (.ref f_show_row)) (G_show_row : FnOk P w K mg base CX0 14 f_show_row fd_show_row ["row"] (sp_show_row K))
    (F_show_pushes : Fun K "show_pushes" "show_pushes" S_show_pushes f_show_pushes fd_show_pushes) (b_show_pushes : Binds K fd_show_pushes ["pushes"] []) (g_show_pushes : mg "show_pushes" = some (.ref f_show_pushes)) (G_show_pushes : FnOk P w K mg base CX0 14 f_show_pushes fd_show_pushes ["pushes"] (sp_show_pushes K)) (m_len : mg "len" = none) :
    FnOk P w K mg base CX0 15 f fd ["moves"] (sp_show_moves K) := by
  refine F.ok sc_show_moves (fun vs H Q E h => ?_) (fun cdv A outer s H vs Q E hr h => ?_)
  ·
    obtain ⟨k, a, xs, ds, ts, rfl, _⟩ := h
    rfl
  ·
    obtain ⟨k, a, xs, ds, ts, rfl, hk, hs, hd, els, tl, q⟩ := h
    refine ⟨_, (pss_cons (ps_if (PW.pt (pw_and (pt_truth (pv 0) (by intro _; rfl)) (pw_and1 (pt_cmpR op_eq (pe_callB call_len_seq (by rfl) m_len (by decide +kernel) (pa_cons (pe_ix (r := rIxL K) ix_list (pv 0) pe_int (fun _ _ => rfl)) pa_nil)) pe_int (nomark _))))) (pss_one (ps_ret (pe_call G_show_pushes (hr.mono (by decide)) (by rfl) g_show_pushes F_show_pushes.kp b_show_pushes .nil pass0 (pa_cons (pv 0) pa_nil)))) pss_nil)
      (pss_one (ps_ret (pe_call G_show_row (hr.mono (by decide)) (by rfl) g_show_row F_show_row.kp b_show_row .nil pass0 (pa_cons (pv 0) pa_nil))))), ?_⟩
    refine w_st (σ' := [some (.ref a)]) rfl ?_
    walk_at "ct"
    refine ⟨!xs.isEmpty, .inl ⟨xs, hs, rfl⟩, ?_⟩
    cases hd with
    | nil =>
      cases els
      refine L2.iteF ?_
      walk_at "ct"
      exact ⟨a, [], [], [], rfl, hs, .nil, .nil, by decide, q⟩
    | @cons x xr d1 dr hx hr =>
      cases els with
      | @cons _ t1 _ tr e1 er =>
        refine L2.iteT ?_
        walk_at "ct"
        refine w_ixL hs (v := x) at0 ?_
        walk_at "ct"
        rcases (show k = 0 ∨ k = 1 by omega) with rfl | rfl
        · obtain ⟨i, n, w', hi, hn, hw, rfl, rfl⟩ := e1
          obtain ⟨p, rfl, hp⟩ := dpi_inv (is := [(i : Int), w', (n : Int)]) hx
          have hp : SqT K H p [.int (i : Int), .int w', .int (n : Int)] := hp
          refine ⟨p, _, rfl, .inr hp, ?_⟩
          walk_at "ct"
          refine L2.iteF ?_
          walk_at "ct"
          exact ⟨a, _, _, _, rfl, hs, (DpAll.cons hx hr), .cons ⟨i, n, w', hi, hn, hw, rfl, rfl⟩ er, tl, q⟩
        · obtain ⟨i, w', hi, hw, rfl, rfl⟩ := e1
          obtain ⟨p, rfl, hp⟩ := dpi_inv (is := [(i : Int), w']) hx
          have hp : SqT K H p [.int (i : Int), .int w'] := hp
          refine ⟨p, _, rfl, .inr hp, ?_⟩
          walk_at "ct"
          refine L2.iteT ?_
          walk_at "ct"
          exact ⟨a, _, _, _, rfl, hs, .cons hx hr, .cons ⟨i, w', hi, hw, rfl, rfl⟩ er, tl, q⟩
abbrev S_show_wheel : Stmt := topS 23
theorem sc_show_wheel : FnScope ["teeth", "marks", "bars", "texts", "j", "k"] ["teeth", "marks", "bars"] (defScope S_show_wheel) := ⟨rfl, rfl, rfl, by decide +kernel, rfl, by decide +kernel, by decide +kernel⟩
def sp_show_wheel (K : PySem.W.Frag) : Sp := fun vs H Q _ => ∃ (m b : Addr) (z : Nat) (ns pt : List Nat) (xs : List V) (ds : List PyData) (ts : List (List Nat)), vs = [.int (z : Int), .ref m, .ref b] ∧ PartS (.wheel (z : Int) (ns.map fun n : Nat => (n : Int))) pt ∧ SqT K H m (ns.map fun n : Nat => V.int (n : Int)) ∧ SqL K H b xs ∧ DpAll K H xs ds ∧ Paired BarA ds ts ∧ ts.length ≤ 1999 ∧ ∀ H', Same H H' → Q (.str (tx (TL.joinL [32] (pt :: ts)))) H'
theorem ok_show_wheel {f : Addr} {fd : FuncData} {f_show_part : Addr} {fd_show_part : FuncData} (F : Fun K "show_wheel" "show_wheel" S_show_wheel f fd)
    (F_show_part : Fun K "show_part" "show_part" S_show_part f_show_part fd_show_part) (b_show_part : Binds K fd_show_part ["part"] []) (g_show_part : mg "show_part" = some (.ref f_show_part)) (G_show_part : FnOk P w K mg base CX0 1 f_show_part fd_show_part ["part"] (sp_show_part K)) :
    FnOk P w K mg base CX0 2 f fd ["teeth", "marks", "bars"] (sp_show_wheel K) := by
  refine F.ok sc_show_wheel (fun vs H Q E h => ?_) (fun cdv A outer s H vs Q E hr h => ?_)
  ·
    obtain ⟨m, b, z, ns, pt, xs, ds, ts, rfl, _⟩ := h
    rfl
  ·
    obtain ⟨m, b, z, ns, pt, xs, ds, ts, rfl, hp, hm, hb, hd, bars, tl, q⟩ := h
    refine ⟨_, (pss_cons (ps_set (i := 3) sc_show_wheel.nd rfl (.inl rfl) (pe_lst (pa_cons (pe_call G_show_part (hr.mono (by decide)) (by rfl) g_show_part F_show_part.kp b_show_part .nil pass0 (pa_cons (pe_tup (pa_cons pe_str (pa_cons (pv 0) (pa_cons (pv 1) pa_nil)))) pa_nil)) pa_nil)))
      (pss_cons (ps_expr (pe_bm PySem.F.plainAttrs_list PySem.F.slot_list_extend PySem.F.type_list_extend mt_extend (pv 3) (pa_cons (pe_lc (own := [("j", 4), ("k", 5)]) (g := gTup K 2 (gCons (gName 4) (gCons (gName 5) gNil)))  rfl sc_show_wheel.nd  (pi_list (pv 2)) (blkOk_by (own := [("j", 4), ("k", 5)]) (N := ["teeth", "marks", "bars", "texts", "j", "k"]) (sc := defScope S_show_wheel) (by decide +kernel)) (fun _ _ _ _ _ => pg_tup rfl (pgs_cons (pg_name (i := 4) sc_show_wheel.nd rfl (Or.inl rfl)) (pgs_cons (pg_name (i := 5) sc_show_wheel.nd rfl (Or.inl rfl)) pgs_nil))) (fun _ _ _ _ _ => pts_nil) (fun _ _ _ _ _ => (pe_joined (.cons (pe_fmt (pv 4)) (.cons pe_str (.cons (pe_fmt (pv 5)) .nil)))))) pa_nil)))
      (pss_one (ps_ret (pe_join pe_str (pv 3)))))), ?_⟩
    refine w_st (σ' := [some (.int (z : Int)), some (.ref m), some (.ref b), none, none, none]) rfl ?_
    walk_at "ct"
    refine ⟨len2 rfl, fun wt n_wt => ?_⟩
    generalize h_G1 : upd _ wt _ = G1
    obtain ⟨s_G1, e_wt⟩ := Ct.upd_new h_G1 n_wt
    clear h_G1
    walk_at "ct"
    refine ⟨.ref wt, _, pt, rfl, wheel_dp (.of e_wt) (by rw [map_toInt]; exact Same.tup s_G1 hm), hp, fun H1 s1 => ?_⟩
    walk_at "ct"
    refine ⟨len2 rfl, fun l n_l => ?_⟩
    generalize h_G2 : upd _ l _ = G2
    obtain ⟨s_G2, e_l⟩ := Ct.upd_new h_G2 n_l
    clear h_G2
    walk_at "ct"
    refine ⟨ty_list e_l, ?_⟩
    have s12 := (s_G1.trans s1).trans s_G2
    have hb2 := s12.seq hb
    have hd2 := dpAll_same s12 hd
    have xl : xs.length = ts.length := by rw [dpAll_len hd, Paired.length bars]
    walk_at "ct"
    refine w_IL hb2 ?_
    refine lb_list xs (fun D i J => Same G2 J ∧ J D = some (.lst (((ts.take i).map tx).map V.str))) (fun D nD => ⟨same_upd nD, upd_same⟩) (fun D nD i J _ h => Same.seq h.1 hb2) ?_ ?_
    · rintro D nD i x J hx ⟨sJ, hD⟩
      have hi := (List.getElem?_eq_some_iff.mp hx).1
      obtain ⟨d, hdi⟩ : ∃ d, ds[i]? = some d := ⟨_, List.getElem?_eq_getElem (by rw [← dpAll_len hd]; exact hi)⟩
      obtain ⟨x', hx', dx⟩ := dpAll_get hd2 hdi
      cases Option.some.inj (hx.symm.trans hx')
      obtain ⟨t, ht, ⟨j, k, hj, hk, rfl, rfl⟩⟩ := paired_getT bars hdi
      obtain ⟨p, rfl, hp2⟩ := dpi_inv (is := [(j : Int), (k : Int)]) (dp_same sJ dx)
      have hp2 : SqT K J p [.int (j : Int), .int (k : Int)] := hp2
      have lj := nL_len hj
      have lk := nL_len hk
      walk_at "ct"
      refine w_gtup hp2 rfl ?_
      walk_at "ct"
      refine ⟨rfl, ?_⟩
      walk_at "ct"
      refine w_jsT ?_
      walk_at "ct"
      refine w_fmtI (Nat.lt_trans hj (by decide)) ?_
      refine w_jq (by show 0 + _ ≤ _; omega) ?_
      walk_at "ct"
      refine w_jqs (s := "~") (a := [126]) (by decide) (by rw [List.nil_append]; show _ + 1 ≤ _; omega) ?_
      walk_at "ct"
      refine w_fmtI (Nat.lt_trans hk (by decide)) ?_
      refine w_jq (by rw [List.nil_append, List.length_append]; show _ + 1 + _ ≤ _; omega) ?_
      walk_at "ct"
      refine ⟨_, hD, by rw [List.length_map, List.length_map, List.length_take]; exact Nat.lt_of_le_of_lt (show _ ≤ 2000 by omega) (by decide), same_new sJ nD, ?_⟩
      rw [upd_same, List.take_add_one, ht, List.map_append, List.map_append, show [] ++ nL j ++ [126] ++ nL k = jN 126 [j, k] by rw [List.nil_append, List.append_assoc]; rfl]
      rfl
    rintro D nD J ⟨sJ, hD⟩
    rw [xl, List.take_length] at hD
    walk_at "ct"
    have e_l2 := sJ _ _ e_l
    refine ⟨l, D, _, _, rfl, rfl, e_l2, hD, by rw [List.length_map, List.length_map]; show 1 + _ ≤ _; exact Nat.le_trans (show 1 + ts.length ≤ 2000 by omega) (by decide), ?_⟩
    have e_l3 : (upd J l (.lst ([.str (tx pt)] ++ (ts.map tx).map V.str))) l = some (.lst (((pt :: ts).map tx).map V.str)) := upd_same
    have sl : Same H (upd J l (.lst ([.str (tx pt)] ++ (ts.map tx).map V.str))) := same_new (s12.trans sJ) ((s_G1.trans s1).free n_l)
    generalize upd J l _ = G5 at *
    walk_at "ct"
    refine ⟨⟨_, rfl⟩, ?_⟩
    walk_at "ct"
    have bar_len : ∀ t ∈ pt :: ts, t.length ≤ 2000 := fun t ht => by
      rcases List.mem_cons.mp ht with rfl | ht
      · exact Nat.le_trans (partS_len hp).2 (by decide)
      · obtain ⟨d, hb⟩ := paired_memT bars ht
        exact Nat.le_trans (barA_fact hb).2.1 (by decide)
    refine ⟨_, l, _, rfl, rfl, .inl (.of e_l3), fitT bar_len (show ts.length + 1 ≤ 2001 by omega) (by decide), ?_⟩
    rw [joinT " " (sep := [32]) (by decide)]
    exact q G5 sl
abbrev S_show_answer : Stmt := topS 24
theorem sc_show_answer : FnScope ["told", "word"] ["told"] (defScope S_show_answer) := ⟨rfl, rfl, rfl, by decide +kernel, rfl, by decide +kernel, by decide +kernel⟩
def sp_show_answer (K : PySem.W.Frag) : Sp := fun vs H Q _ => ∃ (v : V) (d : PyData) (t : List Nat), vs = [v] ∧ Dp K H v d ∧ AnsA d t ∧ ∀ H', Same H H' → Q (.str (tx t)) H'
theorem ok_show_answer {f : Addr} {fd : FuncData} {f_show_wheel : Addr} {fd_show_wheel : FuncData} {f_show_list : Addr} {fd_show_list : FuncData} {f_show_stand : Addr} {fd_show_stand : FuncData} {f_show_numbered : Addr} {fd_show_numbered : FuncData} {f_show_moves : Addr} {fd_show_moves : FuncData} {f_show_ways : Addr} {fd_show_ways : FuncData} {f_show_pair : Addr} {fd_show_pair : FuncData} (F : Fun K "show_answer" "show_answer" S_show_answer f fd)
    (F_show_wheel : Fun K "show_wheel" "show_wheel" S_show_wheel f_show_wheel fd_show_wheel) (b_show_wheel : Binds K fd_show_wheel ["teeth", "marks", "bars"] []) (g_show_wheel : mg "show_wheel" = some (.ref f_show_wheel)) (G_show_wheel : FnOk P w K mg base CX0 2 f_show_wheel fd_show_wheel ["teeth", "marks", "bars"] (sp_show_wheel K))
    (F_show_list : Fun K "show_list" "show_list" S_show_list f_show_list fd_show_list) (b_show_list : Binds K fd_show_list ["things", "show_one"] []) (g_show_list : mg "show_list" = some (.ref f_show_list)) (G_show_list : ∀ R, (∀ f sp, R f sp → L2.Held P w K mg base 12 f sp) → FnOk P w K mg base CX0 13 f_show_list fd_show_list ["things", "show_one"] (sp_show_list K R))
    (F_show_stand : Fun K "show_stand" "show_stand" S_show_stand f_show_stand fd_show_stand) (b_show_stand : Binds K fd_show_stand ["stand"] []) (g_show_stand : mg "show_stand" = some (.ref f_show_stand)) (G_show_stand : FnOk P w K mg base CX0 1 f_show_stand fd_show_stand ["stand"] (sp_show_stand K))
    (F_show_numbered : Fun K "show_numbered" "show_numbered" S_show_numbered f_show_numbered fd_show_numbered) (b_show_numbered : Binds K fd_show_numbered ["numbered"] []) (g_show_numbered : mg "show_numbered" = some (.ref f_show_numbered)) (G_show_numbered : FnOk P w K mg base CX0 2 f_show_numbered fd_show_numbered ["numbered"] (sp_show_numbered K))
    (F_show_moves : Fun K "show_moves" "show_moves" S_show_moves f_show_moves fd_show_moves) (b_show_moves : Binds K fd_show_moves ["moves"] []) (g_show_moves : mg "show_moves" = some (.ref f_show_moves)) (G_show_moves : FnOk P w K mg base CX0 15 f_show_moves fd_show_moves ["moves"] (sp_show_moves K))
    (F_show_ways : Fun K "show_ways" "show_ways" S_show_ways f_show_ways fd_show_ways) (b_show_ways : Binds K fd_show_ways ["ways"] []) (g_show_ways : mg "show_ways" = some (.ref f_show_ways)) (G_show_ways : FnOk P w K mg base CX0 2 f_show_ways fd_show_ways ["ways"] (sp_show_ways K))
    (F_show_pair : Fun K "show_pair" "show_pair" S_show_pair f_show_pair fd_show_pair) (b_show_pair : Binds K fd_show_pair ["pair"] []) (g_show_pair : mg "show_pair" = some (.ref f_show_pair)) (G_show_pair : FnOk P w K mg base CX0 2 f_show_pair fd_show_pair ["pair"] (sp_show_pair K)) :
    FnOk P w K mg base CX0 16 f fd ["told"] (sp_show_answer K) := by
  refine F.ok sc_show_answer (fun vs H Q E h => ?_) (fun cdv A outer s H vs Q E hr h => ?_)
  ·
    obtain ⟨v, d, t, rfl, _⟩ := h
    rfl
  ·
    obtain ⟨v, d, t, rfl, hv, ans, q⟩ := h
    refine ⟨_, (pss_cons (ps_set (i := 1) sc_show_answer.nd rfl (.inl rfl) (pe_ix (r := rIxT K) ix_tup (pv 0) pe_int (fun _ _ => rfl)))
      (pss_cons (ps_if (pt_cmpR op_eq (pv 1) pe_str (nomark _)) (pss_one (ps_ret (pe_joined (.cons pe_str (.cons (pe_fmt (pe_call (G_show_list (fun (f : Addr) (sp : Sp) => (f = f_show_pair ∧ sp = (sp_show_pair K)) ∨ (fun (_ : Addr) (_ : Sp) => False) f sp) (held_cons (held_at (k := 12) G_show_pair (by decide) F_show_pair.kp b_show_pair) held_nil)) (hr.mono (by decide)) (by rfl) g_show_list F_show_list.kp b_show_list .nil pass0 (pa_cons (pe_ix (r := rIxT K) ix_tup (pv 0) pe_int (fun _ _ => rfl)) (pa_cons (pe_glob (v := .ref f_show_pair) (by rfl) g_show_pair rfl) pa_nil)))) .nil))))) pss_nil)
      (pss_cons (ps_if (pt_cmpR op_eq (pv 1) pe_str (nomark _)) (pss_one (ps_ret (pe_joined (.cons pe_str (.cons (pe_fmt (pe_call G_show_ways (hr.mono (by decide)) (by rfl) g_show_ways F_show_ways.kp b_show_ways .nil pass0 (pa_cons (pe_ix (r := rIxT K) ix_tup (pv 0) pe_int (fun _ _ => rfl)) pa_nil))) .nil))))) pss_nil)
      (pss_cons (ps_if (pt_cmpR op_eq (pv 1) pe_str (nomark _)) (pss_one (ps_ret (pe_joined (.cons pe_str (.cons (pe_fmt (pe_call G_show_moves (hr.mono (by decide)) (by rfl) g_show_moves F_show_moves.kp b_show_moves .nil pass0 (pa_cons (pe_ix (r := rIxT K) ix_tup (pv 0) pe_int (fun _ _ => rfl)) pa_nil))) (.cons pe_str (.cons (pe_fmt (pe_call (G_show_list (fun (f : Addr) (sp : Sp) => (f = f_show_numbered ∧ sp = (sp_show_numbered K)) ∨ (fun (_ : Addr) (_ : Sp) => False) f sp) (held_cons (held_at (k := 12) G_show_numbered (by decide) F_show_numbered.kp b_show_numbered) held_nil)) (hr.mono (by decide)) (by rfl) g_show_list F_show_list.kp b_show_list .nil pass0 (pa_cons (pe_ix (r := rIxT K) ix_tup (pv 0) pe_int (fun _ _ => rfl)) (pa_cons (pe_glob (v := .ref f_show_numbered) (by rfl) g_show_numbered rfl) pa_nil)))) .nil))))))) pss_nil)
      (pss_cons (ps_if (pt_cmpR op_eq (pv 1) pe_str (nomark _)) (pss_one (ps_ret (pe_joined (.cons pe_str (.cons (pe_fmt (pe_call (G_show_list (fun (f : Addr) (sp : Sp) => (f = f_show_stand ∧ sp = (sp_show_stand K)) ∨ (fun (_ : Addr) (_ : Sp) => False) f sp) (held_cons (held_at (k := 12) G_show_stand (by decide) F_show_stand.kp b_show_stand) held_nil)) (hr.mono (by decide)) (by rfl) g_show_list F_show_list.kp b_show_list .nil pass0 (pa_cons (pe_ix (r := rIxT K) ix_tup (pv 0) pe_int (fun _ _ => rfl)) (pa_cons (pe_glob (v := .ref f_show_stand) (by rfl) g_show_stand rfl) pa_nil)))) .nil))))) pss_nil)
      (pss_cons (ps_if (pt_cmpR op_eq (pv 1) pe_str (nomark _)) (pss_one (ps_ret (pe_joined (.cons pe_str (.cons (pe_fmt (pe_call G_show_wheel (hr.mono (by decide)) (by rfl) g_show_wheel F_show_wheel.kp b_show_wheel .nil pass0 (pa_cons (pe_ix (r := rIxT K) ix_tup (pv 0) pe_int (fun _ _ => rfl)) (pa_cons (pe_ix (r := rIxT K) ix_tup (pv 0) pe_int (fun _ _ => rfl)) (pa_cons (pe_ix (r := rIxT K) ix_tup (pv 0) pe_int (fun _ _ => rfl)) pa_nil))))) .nil))))) pss_nil)
      (pss_one (ps_ret (pe_joined (.cons pe_str (.cons (pe_fmt (pe_ix (r := rIxT K) ix_tup (pv 0) pe_int (fun _ _ => rfl))) (.cons pe_str (.cons (pe_fmt (pe_ix (r := rIxT K) ix_tup (pv 0) pe_int (fun _ _ => rfl))) .nil))))))))))))), ?_⟩
    refine w_st (σ' := [some v, none]) rfl ?_
    have tupd : ∀ {ds : List PyData} {u : V}, Dp K H u (.tuple ds) → ∃ p xs, u = V.ref p ∧ SqT K H p xs ∧ DpAll K H xs ds := fun h => tup_inv h
    rcases ans with ⟨ds, ts, els, tl, rfl, rfl⟩ | ⟨ws, hw, wl, rfl, rfl⟩ | ⟨k, ds, ts, es, us, hk, els, tl, nums, ul, rfl, rfl⟩ | ⟨ds, ts, els, tl, rfl, rfl⟩ | ⟨z, ns, pt, ds, ts, hp, bars, tl, rfl, rfl⟩ | ⟨j, k, hj, hk, rfl, rfl⟩
    · obtain ⟨p, xs, rfl, hs, hd⟩ := tupd hv
      cases hd with
      | cons d1 r =>
        cases r with
        | cons d2 r2 =>
          cases r2
          cases d1
          obtain ⟨a, ys, rfl, ha, hds⟩ := lst_inv d2
          walk_at "ct"
          refine w_jqs (s := "alike ") (a := tlS "alike ") rfl (by decide) ?_
          walk_at "ct"
          have fact : ∀ t ∈ ts, t.length ≤ 2000 := fun t ht => by
            obtain ⟨d, hp⟩ := paired_memT els ht
            exact Nat.le_trans (pairA_fact hp).2.1 (by decide)
          have ll := listT_len fact
          have lm : (2000 + 1) * ts.length ≤ (2000 + 1) * 2000 := Nat.mul_le_mul_left _ tl
          refine ⟨a, f_show_pair, _, ys, ts, rfl, .inl ⟨rfl, rfl⟩, ha, by rw [dpAll_len hds, Paired.length els], fun i x t hx ht H1 Q1 s1 q1 => ?_, fact, tl, fun H1 s1 => ?_⟩
          · have hi := (List.getElem?_eq_some_iff.mp hx).1
            obtain ⟨d, hd⟩ : ∃ d, ds[i]? = some d := ⟨_, List.getElem?_eq_getElem (by rw [← dpAll_len hds]; exact hi)⟩
            obtain ⟨x', hx', dx⟩ := dpAll_get hds hd
            cases Option.some.inj (hx.symm.trans hx')
            obtain ⟨t', ht', el⟩ := paired_getT els hd
            cases Option.some.inj (ht.symm.trans ht')
            exact ⟨x, d, t, rfl, dp_same s1 dx, el, q1⟩
          refine w_fmtS (by omega) ?_
          refine w_jq (by show 6 + _ ≤ _; omega) ?_
          walk_at "ct"
          exact q H1 s1
    · obtain ⟨p, xs, rfl, hs, hd⟩ := tupd hv
      cases hd with
      | cons d1 r =>
        cases r with
        | cons d2 r2 =>
          cases r2
          cases d1
          obtain ⟨a, ys, rfl, ha, hds⟩ := lst_inv d2
          cases dpAll_ints_inv ws hds
          walk_at "ct"
          refine w_jqs (s := "apart ") (a := tlS "apart ") rfl (by decide) ?_
          walk_at "ct"
          refine ⟨a, ws, rfl, ha, hw, wl, fun H1 s1 => ?_⟩
          have lw := waysT_len ws
          refine w_fmtS (by omega) ?_
          refine w_jq (by show 6 + _ ≤ _; omega) ?_
          walk_at "ct"
          exact q H1 s1
    · obtain ⟨p, xs, rfl, hs, hd⟩ := tupd hv
      cases hd with
      | cons d1 r =>
        cases r with
        | cons d2 r2 =>
          cases r2 with
          | cons d3 r3 =>
            cases r3
            cases d1
            obtain ⟨a, ys, rfl, ha, hds⟩ := lst_inv d2
            obtain ⟨b, zs, rfl, hb, hes⟩ := lst_inv d3
            walk_at "ct"
            refine w_jqs (s := "row ") (a := tlS "row ") rfl (by decide) ?_
            walk_at "ct"
            refine ⟨k, a, ys, ds, ts, rfl, hk, ha, hds, els, tl, fun H1 s1 => ?_⟩
            have fact0 : ∀ t ∈ ts, t.length ≤ 2000 := fun t ht => Nat.le_trans (elsT_len els t ht) (by decide)
            have ll0 := listT_len fact0
            have lm0 : (2000 + 1) * ts.length ≤ (2000 + 1) * 2000 := Nat.mul_le_mul_left _ tl
            refine w_fmtS (by omega) ?_
            refine w_jq (by show 4 + _ ≤ _; omega) ?_
            walk_at "ct"
            have hs := Same.tup s1 hs
            refine w_jqs (s := "; ") (a := tlS "; ") rfl (by rw [List.nil_append, List.length_append]; show 4 + _ + 2 ≤ _; omega) ?_
            walk_at "ct"
            have fact : ∀ t ∈ us, t.length ≤ 2000 := fun t ht => by
              obtain ⟨d, hp⟩ := paired_memT nums ht
              exact Nat.le_trans (numbA_fact hp).2.1 (by decide)
            have ll := listT_len fact
            have lm : (2000 + 1) * us.length ≤ (2000 + 1) * 2000 := Nat.mul_le_mul_left _ ul
            refine ⟨b, f_show_numbered, _, zs, us, rfl, .inl ⟨rfl, rfl⟩, s1.seq hb, by rw [dpAll_len hes, Paired.length nums], fun i x t hx ht H2 Q1 s2 q1 => ?_, fact, ul, fun H2 s2 => ?_⟩
            · have hi := (List.getElem?_eq_some_iff.mp hx).1
              obtain ⟨d, hd⟩ : ∃ d, es[i]? = some d := ⟨_, List.getElem?_eq_getElem (by rw [← dpAll_len hes]; exact hi)⟩
              obtain ⟨x', hx', dx⟩ := dpAll_get hes hd
              cases Option.some.inj (hx.symm.trans hx')
              obtain ⟨t', ht', el⟩ := paired_getT nums hd
              cases Option.some.inj (ht.symm.trans ht')
              exact ⟨x, d, t, rfl, dp_same (s1.trans s2) dx, el, q1⟩
            refine w_fmtS (by omega) ?_
            refine w_jq (by rw [List.nil_append, List.length_append, List.length_append]; show 4 + _ + 2 + _ ≤ _; omega) ?_
            walk_at "ct"
            exact q H2 (s1.trans s2)
    · obtain ⟨p, xs, rfl, hs, hd⟩ := tupd hv
      cases hd with
      | cons d1 r =>
        cases r with
        | cons d2 r2 =>
          cases r2
          cases d1
          obtain ⟨a, ys, rfl, ha, hds⟩ := lst_inv d2
          walk_at "ct"
          refine w_jqs (s := "never ") (a := tlS "never ") rfl (by decide) ?_
          walk_at "ct"
          have fact : ∀ t ∈ ts, t.length ≤ 2000 := fun t ht => by
            obtain ⟨d, hp⟩ := paired_memT els ht
            exact Nat.le_trans (standA_fact hp).2.1 (by decide)
          have ll := listT_len fact
          have lm : (2000 + 1) * ts.length ≤ (2000 + 1) * 2000 := Nat.mul_le_mul_left _ tl
          refine ⟨a, f_show_stand, _, ys, ts, rfl, .inl ⟨rfl, rfl⟩, ha, by rw [dpAll_len hds, Paired.length els], fun i x t hx ht H1 Q1 s1 q1 => ?_, fact, tl, fun H1 s1 => ?_⟩
          · have hi := (List.getElem?_eq_some_iff.mp hx).1
            obtain ⟨d, hd⟩ : ∃ d, ds[i]? = some d := ⟨_, List.getElem?_eq_getElem (by rw [← dpAll_len hds]; exact hi)⟩
            obtain ⟨x', hx', dx⟩ := dpAll_get hds hd
            cases Option.some.inj (hx.symm.trans hx')
            obtain ⟨t', ht', el⟩ := paired_getT els hd
            cases Option.some.inj (ht.symm.trans ht')
            obtain ⟨pa, na, rfl, sa, nea, hna, nla, rfl⟩ := standA_inv el (dp_same s1 dx)
            exact ⟨pa, na, rfl, sa, hna, by omega, q1⟩
          refine w_fmtS (by omega) ?_
          refine w_jq (by show 6 + _ ≤ _; omega) ?_
          walk_at "ct"
          exact q H1 s1
    · obtain ⟨p, xs, rfl, hs, hd⟩ := tupd hv
      cases hd with
      | cons d1 r =>
        cases r with
        | cons d2 r2 =>
          cases r2 with
          | cons d3 r3 =>
            cases r3 with
            | cons d4 r4 =>
              cases r4
              cases d1
              cases d2
              obtain ⟨m, rfl, hm⟩ := dpi_inv d3
              obtain ⟨b, zs, rfl, hb, hds⟩ := lst_inv d4
              rw [map_toInt] at hm
              walk_at "ct"
              refine w_jqs (s := "wheel ") (a := tlS "wheel ") rfl (by decide) ?_
              walk_at "ct"
              refine ⟨m, b, z, ns, pt, zs, ds, ts, rfl, hp, hm, hb, hds, bars, tl, fun H1 s1 => ?_⟩
              have bar_len : ∀ t ∈ pt :: ts, t.length ≤ 2000 := fun t ht => by
                rcases List.mem_cons.mp ht with rfl | ht
                · exact Nat.le_trans (partS_len hp).2 (by decide)
                · obtain ⟨d, hb⟩ := paired_memT bars ht
                  exact Nat.le_trans (barA_fact hb).2.1 (by decide)
              have ll := joinG_len (s := 32) bar_len
              have lm : (2000 + 1) * (pt :: ts).length ≤ (2000 + 1) * 2000 := Nat.mul_le_mul_left _ (show ts.length + 1 ≤ 2000 by omega)
              refine w_fmtS (by omega) ?_
              refine w_jq (by show 6 + _ ≤ _; omega) ?_
              walk_at "ct"
              exact q H1 s1
    · obtain ⟨p, rfl, hs⟩ : ∃ p, v = V.ref p ∧ SqT K H p [.str "none", .int (j : Int), .int (k : Int)] := by
        obtain ⟨p, xs, rfl, hs, hd⟩ := tupd hv
        cases hd with
        | cons d1 r =>
          cases r with
          | cons d2 r2 =>
            cases r2 with
            | cons d3 r3 =>
              cases r3
              cases d1
              cases d2
              cases d3
              exact ⟨p, rfl, hs⟩
      have lj := nL_len hj
      have lk := nL_len hk
      walk_at "ct"
      refine w_jqs (s := "none ") (a := tlS "none ") rfl (by decide) ?_
      walk_at "ct"
      refine w_fmtI (Nat.lt_trans hj (by decide)) ?_
      refine w_jq (by show 5 + _ ≤ _; omega) ?_
      walk_at "ct"
      refine w_jqs (s := " ") (a := [32]) (by decide) (by rw [List.nil_append, List.length_append]; show 5 + _ + 1 ≤ _; omega) ?_
      walk_at "ct"
      refine w_fmtI (Nat.lt_trans hk (by decide)) ?_
      refine w_jq (by rw [List.nil_append, List.length_append, List.length_append]; show 5 + _ + 1 + _ ≤ _; omega) ?_
      walk_at "ct"
      rw [show [] ++ tlS "none " ++ nL j ++ [32] ++ nL k = tlS "none " ++ jN 32 [j, k] by rw [List.nil_append, List.append_assoc, List.append_assoc]; rfl]
      exact q H (Same.refl H)
abbrev S_read_number : Stmt := topS 25
theorem sc_read_number : FnScope ["text", "sign"] ["text"] (defScope S_read_number) := ⟨rfl, rfl, rfl, by decide +kernel, rfl, by decide +kernel, by decide +kernel⟩
def sp_read_number (K : PySem.W.Frag) (T : List Addr) : Sp := fun vs H Q _ => ∃ n : Nat, vs = [.str (tx (nL n))] ∧ n < M40 ∧ Tb T H ∧ ∀ H', Same H H' → Q (.int (n : Int)) H'
theorem ok_read_number {f : Addr} {fd : FuncData} {tk_FIGURES : Tok} {tk_MOST_FIGURES : Tok} {T : List Addr} {cT PT : Addr} (F : Fun K "read_number" "read_number" S_read_number f fd) (m_any : mg "any" = none) (m_int : mg "int" = none) (m_len : mg "len" = none) (g_FIGURES : mg "FIGURES" = some (.str "0123456789" tk_FIGURES)) (g_MOST_FIGURES : mg "MOST_FIGURES" = some (.int 40 tk_MOST_FIGURES))
    (TB_read_number : GxR.TabB base mg cT PT) (HC_read_number : fd.code = .ref cT) (tm : PT ∈ T) :
    FnOk P w K mg base CX0 2 f fd ["text"] (sp_read_number K T) := by
  refine okC F sc_read_number (fun vs H Q E h => ?_) (fun A outer s H vs Q E hr h => ?_)
  ·
    obtain ⟨n, rfl, _⟩ := h
    rfl
  ·
    obtain ⟨n, rfl, hn, hTb, q⟩ := h
    refine ⟨_, (pss_cons (ps_if (PW.pt (pw_or (pt_cmpR op_eq (pe_callB (r := rLenX) call_lenX (by rfl) m_len (by decide +kernel) (pa_cons (pv 0) pa_nil)) pe_int (nomark _)) (pw_or (pt_cmpR op_gt (pe_callB (r := rLenX) call_lenX (by rfl) m_len (by decide +kernel) (pa_cons (pv 0) pa_nil)) (pe_glob (v := .int 40) (by rfl) g_MOST_FIGURES ⟨_, rfl⟩) (nomark _)) (pw_or1 (PW.pt (pw_and (pt_cmpR op_eq (pe_ix (r := rIxS) ix_str (pv 0) pe_int (fun _ _ => rfl)) pe_str (nomark _)) (pw_and1 (pt_cmpR op_gt (pe_callB (r := rLenX) call_lenX (by rfl) m_len (by decide +kernel) (pa_cons (pv 0) pa_nil)) pe_int (nomark _))))))))) (pss_one ps_never) pss_nil)
      (pss_cons (ps_if (pt_val (pe_anyX (own := [("sign", 1)]) (g := (gName 1)) hr (by rfl) m_any rfl sc_read_number.nd TB_read_number HC_read_number (pi_str (pv 0)) (blkOk_by (own := [("sign", 1)]) (N := ["text", "sign"]) (sc := defScope S_read_number) (by decide +kernel)) (by decide +kernel) rfl (by decide +kernel) (fun _ _ _ _ _ _ _ _ => (pg_name (i := 1) sc_read_number.nd rfl (Or.inl rfl))) (fun _ _ _ _ _ _ _ _ hr => (pe_cmpR (r := rInSg true) op_notInSg (pv 1) (pe_glob (v := .str "0123456789") (by rfl) g_FIGURES ⟨_, rfl⟩) (by rfl))))) (pss_one ps_never) pss_nil)
      (pss_one (ps_ret (pe_callTy (r := rIntS) call_intS (by rfl) m_int (by decide +kernel) (pa_cons (pv 0) pa_nil)))))), ?_⟩
    refine w_st (σ' := [some (.str (tx (nL n))), none]) rfl ?_
    have l1 := nL_len hn
    have l0 := nL_pos n
    have sz : (tx (nL n)).length ≤ sizeLine := by rw [tx_len]; exact small6 (by omega)
    obtain ⟨c, r, e⟩ : ∃ c r, nL n = c :: r := by
      cases z : nL n with
      | nil => exact absurd z (TL.numL_ne n)
      | cons c r => exact ⟨c, r, rfl⟩
    walk_at "cq"
    with_reducible refine w_join (fun σ G => σ = [some (.str (tx (nL n))), none] ∧ H = G) ?_ ?_
    · rintro σ G ⟨rfl, rfl⟩
      walk_at "ct"
      refine ⟨_, rfl, ?_⟩
      refine gb_str (nL n) (fun i G => Same H G) (hTb _ tm) (Same.refl _) ?_ ?_
      · rintro i d G hd sG
        have dig := nL_dig (List.mem_of_getElem? hd)
        walk_at "ct"
        refine ⟨rfl, ?_⟩
        walk_at "ct"
        refine ⟨d, _, rfl, rfl, ?_⟩
        rw [if_pos rfl, in_figs, decide_eq_true dig]
        walk_at "ct"
        exact sG
      intro G sG
      walk_at "ct"
      exact ⟨_, n, rfl, int_nL hn, by rw [tx_len]; omega, q G sG⟩
    intro N hN
    walk_at "ct"
    refine ⟨tx (nL n), rfl, sz, ?_⟩
    rw [tx_len]
    walk_at "ct"
    refine w_ite (fun z => absurd z (by omega)) (fun _ => ?_)
    walk_at "ct"
    refine ⟨tx (nL n), rfl, sz, ?_⟩
    rw [tx_len]
    walk_at "ct"
    refine w_ite (fun z => absurd z (by omega)) (fun _ => ?_)
    walk_at "ct"
    refine ⟨_, _, c, rfl, rfl, sz, atX (i := 0) (by rw [e]; rfl), ?_⟩
    walk_at "ct"
    refine w_eqXs (s := "0") (a := [c]) (b := [48]) (by decide) ?_
    walk_at "ct"
    by_cases z : [c] = [48]
    · rw [decide_eq_true z]
      walk_at "ct"
      refine ⟨tx (nL n), rfl, sz, ?_⟩
      have one : (nL n).length = 1 := nL_zero (by rw [e, (List.cons.inj z).1]; rfl)
      rw [tx_len, one]
      walk_at "ct"
      refine L2.iteF ?_
      walk_at "ct"
      exact hN _ _ ⟨rfl, rfl⟩
    · rw [decide_eq_false z]
      walk_at "ct"
      exact hN _ _ ⟨rfl, rfl⟩
abbrev S_read_numbers : Stmt := topS 26
theorem sc_read_numbers : FnScope ["text", "between", "word"] ["text", "between"] (defScope S_read_numbers) := ⟨rfl, rfl, rfl, by decide +kernel, rfl, by decide +kernel, by decide +kernel⟩
def sp_read_numbers (K : PySem.W.Frag) (T : List Addr) : Sp := fun vs H Q _ => ∃ (ns : List Nat) (s : Nat) (b : String), vs = [.str (tx (jN s ns)), .str (Str.ofString b)] ∧ b.toList.map Char.toNat = [s] ∧ (s < 48 ∨ 57 < s ∧ s < 256) ∧ ns ≠ [] ∧ (∀ n ∈ ns, n < M40) ∧ ns.length ≤ 300 ∧ Tb T H ∧ ∀ l H', Same H H' → H l = none → H' l = some (.lst (ns.map fun n : Nat => V.int (n : Int))) → Q (.ref l) H'
theorem ok_read_numbers {f : Addr} {fd : FuncData} {f_read_number : Addr} {fd_read_number : FuncData} {T : List Addr} (F : Fun K "read_numbers" "read_numbers" S_read_numbers f fd)
    (F_read_number : Fun K "read_number" "read_number" S_read_number f_read_number fd_read_number) (b_read_number : Binds K fd_read_number ["text"] []) (g_read_number : mg "read_number" = some (.ref f_read_number)) (G_read_number : FnOk P w K mg base CX0 2 f_read_number fd_read_number ["text"] (sp_read_number K T)) :
    FnOk P w K mg base CX0 3 f fd ["text", "between"] (sp_read_numbers K T) := by
  refine F.ok sc_read_numbers (fun vs H Q E h => ?_) (fun cdv A outer s H vs Q E hr h => ?_)
  ·
    obtain ⟨ns, s, b, rfl, _⟩ := h
    rfl
  ·
    obtain ⟨ns, s, b, rfl, eb, sb, ne, hn, nl, hTb, q⟩ := h
    refine ⟨_, (pss_one (ps_ret (pe_lc (own := [("word", 2)]) (g := gName 2)  rfl sc_read_numbers.nd  (pi_list (pe_split (pv 0) (pv 1))) (blkOk_by (own := [("word", 2)]) (N := ["text", "between", "word"]) (sc := defScope S_read_numbers) (by decide +kernel)) (fun _ _ _ _ _ => pg_name (i := 2) sc_read_numbers.nd rfl (Or.inl rfl)) (fun _ _ _ _ _ => pts_nil) (fun _ _ _ _ _ => (pe_call G_read_number (hr.mono (by decide)) (by rfl) g_read_number F_read_number.kp b_read_number .nil pass0 (pa_cons (pv 2) pa_nil)))))), ?_⟩
    refine w_st (σ' := [some (.str (tx (jN s ns))), some (.str (Str.ofString b)), none]) rfl ?_
    have ll := jN_len (s := s) hn
    walk_at "ct"
    refine ⟨⟨_, rfl⟩, ?_⟩
    walk_at "ct"
    refine ⟨_, _, rfl, rfl, by rw [tx_of, eb]; rfl, by rw [tx_len]; exact small6 (by omega), fun p n_p => ?_⟩
    rw [splitN eb sb ne]
    generalize h_G : upd _ p _ = G
    obtain ⟨s_G, e_p⟩ := Ct.upd_new h_G n_p
    clear h_G
    walk_at "ct"
    refine w_IL (.of e_p) ?_
    refine lb_list (((ns.map nL).map tx).map V.str) (fun D i J => Same G J ∧ J D = some (.lst ((ns.take i).map fun n : Nat => V.int (n : Int)))) (fun D nD => ⟨same_upd nD, upd_same⟩) (fun D nD i J _ h => .of (h.1 _ _ e_p)) ?_ ?_
    · rintro D nD i x J hx ⟨sJ, hD⟩
      rw [List.map_map, List.map_map] at hx
      obtain ⟨n, hi, rfl⟩ := map_getN hx
      show gName _ (V.str (tx (nL n))) _ _ _
      walk_at "ct"
      refine ⟨rfl, ?_⟩
      walk_at "ct"
      refine ⟨n, rfl, hn n (List.mem_of_getElem? hi), hTb.same (s_G.trans sJ), fun J2 s2 => ?_⟩
      refine ⟨_, s2 _ _ hD, by rw [List.length_map, List.length_take]; exact Nat.lt_of_le_of_lt (show _ ≤ 2000 by omega) (by decide), same_new (sJ.trans s2) nD, ?_⟩
      rw [upd_same, take_succN _ hi]
    rintro D nD J ⟨sJ, hD⟩
    rw [List.length_map, List.length_map, List.length_map, List.take_length] at hD
    exact q D J (s_G.trans sJ) (s_G.free nD) hD
abbrev S_read_way : Stmt := topS 27
theorem sc_read_way : FnScope ["text"] ["text"] (defScope S_read_way) := ⟨rfl, rfl, rfl, by decide +kernel, rfl, by decide +kernel, by decide +kernel⟩
def sp_read_way (K : PySem.W.Frag) : Sp := fun vs H Q _ => ∃ w : Int, vs = [.str (tx (wayT w))] ∧ Sign w ∧ Q (.int w) H
theorem ok_read_way {f : Addr} {fd : FuncData} {q0_WAY_OF_SIGN : Addr} (F : Fun K "read_way" "read_way" S_read_way f fd) (g_WAY_OF_SIGN : mg "WAY_OF_SIGN" = some (.ref q0_WAY_OF_SIGN)) (D_WAY_OF_SIGN : KDict P w K q0_WAY_OF_SIGN [(Sum.inr "+", V.int (1)), (Sum.inr "-", V.int (-1))]) :
    FnOk P w K mg base CX0 1 f fd ["text"] (sp_read_way K) := by
  refine F.ok sc_read_way (fun vs H Q E h => ?_) (fun cdv A outer s H vs Q E hr h => ?_)
  ·
    obtain ⟨w, rfl, _⟩ := h
    rfl
  ·
    obtain ⟨w, rfl, hw, q⟩ := h
    refine ⟨_, (pss_cons (ps_if (pt_cmp (pc_knotin D_WAY_OF_SIGN (pv 0) (pe_glob (v := .ref q0_WAY_OF_SIGN) (by rfl) g_WAY_OF_SIGN rfl))) (pss_one ps_never) pss_nil)
      (pss_one (ps_ret (pe_kget D_WAY_OF_SIGN (pe_glob (v := .ref q0_WAY_OF_SIGN) (by rfl) g_WAY_OF_SIGN rfl) (pv 0) (fun _ _ => rfl))))), ?_⟩
    refine w_st (σ' := [some (.str (tx (wayT w)))]) rfl ?_
    obtain ⟨k, ek, ev⟩ : ∃ k : Key, V.str (tx (wayT w)) = kV k ∧ valV [(Sum.inr (Str.ofString "+"), V.int (1)), (Sum.inr (Str.ofString "-"), V.int (-1))] k = some (.int w) := by
      rcases hw with rfl | rfl
      · exact ⟨Sum.inr (Str.ofString "+"), congrArg V.str ((tx_of "+").symm), by decide +kernel⟩
      · exact ⟨Sum.inr (Str.ofString "-"), congrArg V.str ((tx_of "-").symm), by decide +kernel⟩
    walk_at "ct"
    refine ⟨rfl, k, ek, ?_⟩
    walk_at "ct"
    rw [ev]
    refine L2.iteF ?_
    walk_at "ct"
    exact ⟨rfl, k, .int w, ek, ev, q⟩
abbrev S_read_list : Stmt := topS 28
theorem sc_read_list : FnScope ["text", "read_one", "word"] ["text", "read_one"] (defScope S_read_list) := ⟨rfl, rfl, rfl, by decide +kernel, rfl, by decide +kernel, by decide +kernel⟩
def sp_read_list (K : PySem.W.Frag) (R : Addr → Sp → Prop) : Sp := fun vs H Q _ => ∃ (f : Addr) (sp : Sp) (ds : List PyData) (ts : List (List Nat)), vs = [.str (tx (listT ts)), .ref f] ∧ R f sp ∧ ds.length = ts.length ∧ (∀ (i : Nat) (d : PyData) (t : List Nat), ds[i]? = some d → ts[i]? = some t → ∀ (H1 : Hp) (Q1 : VK), Same H H1 → (∀ v H2, Same H1 H2 → Dp K H2 v d → Q1 v H2) → sp [.str (tx t)] H1 Q1 L2.E0) ∧ (∀ d ∈ ds, TDT d) ∧ (∀ t ∈ ts, 32 ∉ t ∧ t.length ≤ 2000) ∧ ts.length ≤ 2000 ∧ (ts ≠ [] → listT ts ≠ noneT) ∧ ∀ l xs H', Same H H' → H l = none → H' l = some (.lst xs) → DpAll K H' xs ds → Q (.ref l) H'
theorem ok_read_list {f : Addr} {fd : FuncData} {R : Addr → Sp → Prop} (F : Fun K "read_list" "read_list" S_read_list f fd)
    (HR : ∀ f sp, R f sp → L2.Held P w K mg base 12 f sp) :
    FnOk P w K mg base CX0 13 f fd ["text", "read_one"] (sp_read_list K R) := by
  refine F.ok sc_read_list (fun vs H Q E h => ?_) (fun cdv A outer s H vs Q E hr h => ?_)
  ·
    obtain ⟨f, sp, ds, ts, rfl, _⟩ := h
    rfl
  ·
    obtain ⟨f, sp, ds, ts, rfl, r, len, one, tup, l1, l2, nn, q⟩ := h
    refine ⟨_, (pss_cons (ps_if (pt_cmpR op_eq (pv 0) pe_str (nomark _)) (pss_one (ps_ret (pe_lst pa_nil))) pss_nil)
      (pss_one (ps_ret (pe_lc (own := [("word", 2)]) (g := gName 2)  rfl sc_read_list.nd  (pi_list (pe_split (pv 0) pe_str)) (blkOk_by (own := [("word", 2)]) (N := ["text", "read_one", "word"]) (sc := defScope S_read_list) (by decide +kernel)) (fun _ _ _ _ _ => pg_name (i := 2) sc_read_list.nd rfl (Or.inl rfl)) (fun _ _ _ _ _ => pts_nil) (fun _ _ _ _ _ => (pe_callR (i := 1) (R := R) HR (hr.mono (by decide)) (by rfl) (by first | exact Or.inl rfl | exact Or.inr (Or.inl rfl) | exact Or.inr (Or.inr rfl)) (pa_cons (pv 2) pa_nil))))))), ?_⟩
    refine w_st (σ' := [some (.str (tx (listT ts))), some (.ref f), none]) rfl ?_
    walk_at "ct"
    refine w_eqXs (s := "none") (b := noneT) (by decide) ?_
    walk_at "ct"
    by_cases e : ts = []
    · subst e
      have : listT [] = noneT := rfl
      rw [this, decide_eq_true rfl]
      walk_at "ct"
      refine ⟨len2 rfl, fun l n_l => ?_⟩
      generalize h_G : upd _ l _ = G
      obtain ⟨s_G, e_l⟩ := Ct.upd_new h_G n_l
      clear h_G
      have e0 : ds = [] := List.eq_nil_of_length_eq_zero len
      subst e0
      exact q l [] G s_G n_l e_l .nil
    rw [decide_eq_false (nn e)]
    walk_at "ct"
    have ll := listT_len (m := 2000) fun t ht => (l1 t ht).2
    have ll2 : (2000 + 1) * ts.length ≤ (2000 + 1) * 2000 := Nat.mul_le_mul_left _ l2
    refine ⟨⟨_, rfl⟩, ?_⟩
    walk_at "ct"
    refine ⟨_, _, rfl, rfl, by decide, by rw [tx_len]; exact small6 (by omega), fun p n_p => ?_⟩
    rw [splT e fun t ht => (l1 t ht).1]
    generalize h_G : upd _ p _ = G
    obtain ⟨s_G, e_p⟩ := Ct.upd_new h_G n_p
    clear h_G
    walk_at "ct"
    refine w_IL (.of e_p) ?_
    refine lb_list ((ts.map tx).map V.str) (fun D i J => ∃ xs, Same G J ∧ J D = some (.lst xs) ∧ xs.length = i ∧ DpAll K J xs (ds.take i)) (fun D nD => ⟨[], same_upd nD, upd_same, rfl, .nil⟩) (fun D nD i J _ h => by obtain ⟨xs, sJ, _⟩ := h; exact .of (sJ _ _ e_p)) ?_ ?_
    · rintro D nD i x J hx ⟨xs, sJ, hD, xl, dxs⟩
      have hi : i < ts.length := by
        have := (List.getElem?_eq_some_iff.mp hx).1
        rw [List.length_map, List.length_map] at this
        exact this
      obtain ⟨t, ht⟩ : ∃ t, ts[i]? = some t := ⟨_, List.getElem?_eq_getElem hi⟩
      obtain ⟨d, hd⟩ : ∃ d, ds[i]? = some d := ⟨_, List.getElem?_eq_getElem (by omega)⟩
      have : x = .str (tx t) := by
        rw [List.getElem?_map, List.getElem?_map, ht] at hx
        exact (Option.some.inj hx).symm
      subst this
      walk_at "ct"
      refine ⟨rfl, ?_⟩
      walk_at "ct"
      refine w_callR (f := f) rfl r ?_
      walk_at "ct"
      refine one i d t hd ht _ _ (s_G.trans sJ) fun v J2 s2 dv => ?_
      have hD2 := s2 _ _ hD
      refine ⟨xs, hD2, Nat.lt_of_le_of_lt (show xs.length ≤ 2000 by omega) (by decide), xs ++ [v], same_new (sJ.trans s2) nD, upd_same, by rw [List.length_append, xl]; rfl, ?_⟩
      rw [List.take_add_one, hd]
      have td : TDTs (ds.take i ++ [d]) := tdT_of fun z hz => by
        rcases List.mem_append.mp hz with hz | hz
        · exact tup z (List.mem_of_mem_take hz)
        · rw [List.mem_singleton.mp hz]; exact tup d (List.mem_of_getElem? hd)
      exact dpAll_updT hD2 td (dpAll_app (dpAll_same s2 dxs) (.cons dv .nil))
    rintro D nD J ⟨xs, sJ, hD, xl, dxs⟩
    rw [List.length_map, List.length_map, ← len, List.take_of_length_le (Nat.le_refl _)] at dxs
    exact q D xs J (s_G.trans sJ) (s_G.free nD) hD dxs
abbrev S_read_wheel : Stmt := topS 29
theorem sc_read_wheel : FnScope ["text", "teeth", "colon", "marks"] ["text"] (defScope S_read_wheel) := ⟨rfl, rfl, rfl, by decide +kernel, rfl, by decide +kernel, by decide +kernel⟩
def sp_read_wheel (K : PySem.W.Frag) (T : List Addr) : Sp := fun vs H Q _ => ∃ (z : Nat) (ns : List Nat), vs = [.str (tx (119 :: (nL z ++ 58 :: jN 44 ns)))] ∧ z < M40 ∧ (∀ n ∈ ns, n < M40) ∧ ns.length ≤ 300 ∧ Tb T H ∧ ∀ v H', Same H H' → Dp K H' v (Part.wheel (z : Int) (ns.map fun n : Nat => (n : Int))).data → Q v H'
theorem ok_read_wheel {f : Addr} {fd : FuncData} {f_read_numbers : Addr} {fd_read_numbers : FuncData} {f_read_number : Addr} {fd_read_number : FuncData} {T : List Addr} (F : Fun K "read_wheel" "read_wheel" S_read_wheel f fd)
    (F_read_numbers : Fun K "read_numbers" "read_numbers" S_read_numbers f_read_numbers fd_read_numbers) (b_read_numbers : Binds K fd_read_numbers ["text", "between"] []) (g_read_numbers : mg "read_numbers" = some (.ref f_read_numbers)) (G_read_numbers : FnOk P w K mg base CX0 3 f_read_numbers fd_read_numbers ["text", "between"] (sp_read_numbers K T))
    (F_read_number : Fun K "read_number" "read_number" S_read_number f_read_number fd_read_number) (b_read_number : Binds K fd_read_number ["text"] []) (g_read_number : mg "read_number" = some (.ref f_read_number)) (G_read_number : FnOk P w K mg base CX0 2 f_read_number fd_read_number ["text"] (sp_read_number K T)) (m_tuple : mg "tuple" = none) :
    FnOk P w K mg base CX0 4 f fd ["text"] (sp_read_wheel K T) := by
  refine F.ok sc_read_wheel (fun vs H Q E h => ?_) (fun cdv A outer s H vs Q E hr h => ?_)
  ·
    obtain ⟨z, ns, rfl, _⟩ := h
    rfl
  ·
    obtain ⟨z, ns, rfl, hz, hn, nl, hTb, q⟩ := h
    refine ⟨_, (pss_cons (ps_asg (pe_partition (pe_slice (r := rSlS) sl_str (pv 0) (po_some pe_int) po_none) pe_str) (pg_tup rfl (pgs_cons (pg_name (i := 1) sc_read_wheel.nd rfl (.inl rfl)) (pgs_cons (pg_name (i := 2) sc_read_wheel.nd rfl (.inl rfl)) (pgs_cons (pg_name (i := 3) sc_read_wheel.nd rfl (.inl rfl)) pgs_nil)))))
      (pss_cons (ps_if (pt_cmpR op_eq (pv 2) pe_str (nomark _)) (pss_one ps_never) pss_nil)
      (pss_one (ps_ret (pe_tup (pa_cons pe_str (pa_cons (pe_call G_read_number (hr.mono (by decide)) (by rfl) g_read_number F_read_number.kp b_read_number .nil pass0 (pa_cons (pv 1) pa_nil)) (pa_cons (pe_ifExp (pt_truth (pv 3) (by intro _; rfl)) (pe_callTy call_tuple_of (by rfl) m_tuple (by decide +kernel) (pa_cons (pe_call G_read_numbers (hr.mono (by decide)) (by rfl) g_read_numbers F_read_numbers.kp b_read_numbers .nil pass0 (pa_cons (pv 3) (pa_cons pe_str pa_nil))) pa_nil)) (pe_tup pa_nil)) pa_nil)))))))), ?_⟩
    obtain ⟨l, hl⟩ : ∃ l, nL z ++ 58 :: jN 44 ns = l := ⟨_, rfl⟩
    rw [hl]
    refine w_st (σ' := [some (.str (tx (119 :: l))), none, none, none]) rfl ?_
    have l1 := nL_len hz
    have l2 := jN_len (s := 44) hn
    have l3 : l.length = (nL z).length + ((jN 44 ns).length + 1) := by rw [← hl, List.length_append, List.length_cons]
    walk_at "ct"
    refine ⟨_, rfl, by rw [tx_len, List.length_cons]; exact small6 (by omega), ?_⟩
    rw [show (some (1 : Int)) = some (((1 : Nat)) : Int) from rfl, cut_fromX _ _ (by rw [List.length_cons]; omega)]
    show (∃ a, V.str (tx l) = V.str a) ∧ _
    refine ⟨⟨_, rfl⟩, ?_⟩
    walk_at "ct"
    refine ⟨_, _, rfl, rfl, by decide, by rw [tx_len, List.drop_succ_cons, List.drop_zero]; exact small6 (by omega), fun p n_p => ?_⟩
    rw [List.drop_succ_cons, List.drop_zero, ← hl, partC]
    generalize h_G : upd _ p _ = G
    obtain ⟨s_G, e_p⟩ := Ct.upd_new h_G n_p
    clear h_G
    refine w_gtup (.of e_p) rfl ?_
    walk_at "ct"
    refine ⟨z, rfl, hz, hTb.same s_G, fun H1 s1 => ?_⟩
    walk_at "ct"
    by_cases e : ns = []
    · subst e
      refine ⟨false, tru_txt (a := []) (by decide) (by decide), ?_⟩
      refine L2.iteF ?_
      walk_at "ct"
      refine ⟨len2 rfl, fun b n_b => ?_⟩
      generalize h_G2 : upd _ b _ = G2
      obtain ⟨s_G2, e_b⟩ := Ct.upd_new h_G2 n_b
      clear h_G2
      walk_at "ct"
      refine ⟨len2 rfl, fun p2 n_p2 => ?_⟩
      generalize h_G3 : upd _ p2 _ = G3
      obtain ⟨s_G3, e_p2⟩ := Ct.upd_new h_G3 n_p2
      clear h_G3
      exact q (.ref p2) G3 (((s_G.trans s1).trans s_G2).trans s_G3) (wheel_dp (.of e_p2) (.of (s_G3 _ _ e_b)))
    have lp := jN_pos (s := 44) e
    refine ⟨true, tru_txt (by omega) (by
      rw [bne_iff_ne]
      omega), ?_⟩
    refine L2.iteT ?_
    walk_at "ct"
    refine ⟨ns, 44, ",", rfl, rfl, .inl (by decide), e, hn, nl, hTb.same (s_G.trans s1), fun l2 H2 s2 n_l2 h_l2 => ?_⟩
    walk_at "ct"
    refine ⟨l2, _, rfl, .inl ⟨.of h_l2, fun b n_b => ?_⟩⟩
    generalize h_G2 : upd _ b _ = G2
    obtain ⟨s_G2, e_b⟩ := Ct.upd_new h_G2 n_b
    clear h_G2
    walk_at "ct"
    refine ⟨len2 rfl, fun p2 n_p2 => ?_⟩
    generalize h_G3 : upd _ p2 _ = G3
    obtain ⟨s_G3, e_p2⟩ := Ct.upd_new h_G3 n_p2
    clear h_G3
    exact q (.ref p2) G3 ((((s_G.trans s1).trans s2).trans s_G2).trans s_G3) (wheel_dp (.of e_p2) (.of (by rw [s_G3 _ _ e_b, map_toInt])))
abbrev S_read_part : Stmt := topS 30
theorem sc_read_part : FnScope ["text"] ["text"] (defScope S_read_part) := ⟨rfl, rfl, rfl, by decide +kernel, rfl, by decide +kernel, by decide +kernel⟩
def sp_read_part (K : PySem.W.Frag) (T : List Addr) : Sp := fun vs H Q _ => ∃ (p : Part) (t : List Nat), vs = [.str (tx t)] ∧ PartS p t ∧ Tb T H ∧ ∀ v H', Same H H' → Dp K H' v p.data → Q v H'
theorem ok_read_part {f : Addr} {fd : FuncData} {f_read_number : Addr} {fd_read_number : FuncData} {f_read_wheel : Addr} {fd_read_wheel : FuncData} {T : List Addr} (F : Fun K "read_part" "read_part" S_read_part f fd)
    (F_read_number : Fun K "read_number" "read_number" S_read_number f_read_number fd_read_number) (b_read_number : Binds K fd_read_number ["text"] []) (g_read_number : mg "read_number" = some (.ref f_read_number)) (G_read_number : FnOk P w K mg base CX0 2 f_read_number fd_read_number ["text"] (sp_read_number K T))
    (F_read_wheel : Fun K "read_wheel" "read_wheel" S_read_wheel f_read_wheel fd_read_wheel) (b_read_wheel : Binds K fd_read_wheel ["text"] []) (g_read_wheel : mg "read_wheel" = some (.ref f_read_wheel)) (G_read_wheel : FnOk P w K mg base CX0 4 f_read_wheel fd_read_wheel ["text"] (sp_read_wheel K T)) :
    FnOk P w K mg base CX0 5 f fd ["text"] (sp_read_part K T) := by
  refine F.ok sc_read_part (fun vs H Q E h => ?_) (fun cdv A outer s H vs Q E hr h => ?_)
  ·
    obtain ⟨p, t, rfl, _⟩ := h
    rfl
  ·
    obtain ⟨p, t, rfl, hp, hTb, q⟩ := h
    refine ⟨_, (pss_cons (ps_if (pt_cmpR op_eq (pv 0) pe_str (nomark _)) (pss_one (ps_ret (pe_tup (pa_cons pe_str pa_nil)))) pss_nil)
      (pss_cons (ps_if (pt_cmpR op_eq (pv 0) pe_str (nomark _)) (pss_one (ps_ret (pe_tup (pa_cons pe_str pa_nil)))) pss_nil)
      (pss_cons (ps_if (pt_val (pe_m1 PySem.F.slot_str_startswith PySem.F.type_str_startswith mt_startswith (pv 0) pe_str)) (pss_one (ps_ret (pe_call G_read_wheel (hr.mono (by decide)) (by rfl) g_read_wheel F_read_wheel.kp b_read_wheel .nil pass0 (pa_cons (pv 0) pa_nil)))) pss_nil)
      (pss_cons (ps_if (pt_val (pe_m1 PySem.F.slot_str_startswith PySem.F.type_str_startswith mt_startswith (pv 0) pe_str)) (pss_one (ps_ret (pe_tup (pa_cons pe_str (pa_cons (pe_call G_read_number (hr.mono (by decide)) (by rfl) g_read_number F_read_number.kp b_read_number .nil pass0 (pa_cons (pe_slice (r := rSlS) sl_str (pv 0) (po_some pe_int) po_none) pa_nil)) pa_nil))))) pss_nil)
      (pss_one ps_never))))), ?_⟩
    refine w_st (σ' := [some (.str (tx t))]) rfl ?_
    rcases hp.2 with ⟨z, ns, rfl, hz, hn, nl, rfl⟩ | ⟨rfl, rfl⟩ | ⟨rfl, rfl⟩ | ⟨k, rfl, hk, rfl⟩
    · obtain ⟨r, er⟩ : ∃ r, nL z ++ 58 :: jN 44 ns = r := ⟨_, rfl⟩
      rw [er]
      walk_at "ct"
      refine w_eqXs (s := "c") (b := [99]) (by decide) ?_
      rw [decide_eq_false fun y => absurd (List.cons.inj y).1 (by decide)]
      walk_at "ct"
      refine w_eqXs (s := "r") (b := [114]) (by decide) ?_
      rw [decide_eq_false fun y => absurd (List.cons.inj y).1 (by decide)]
      walk_at "ct"
      refine ⟨⟨_, rfl⟩, ?_⟩
      walk_at "ct"
      refine ⟨_, _, rfl, rfl, ?_⟩
      rw [startT 119 r "w" (d := 119) (by decide), decide_eq_true rfl]
      walk_at "ct"
      exact ⟨z, ns, by rw [er]; rfl, hz, hn, nl.1, hTb, q⟩
    · walk_at "ct"
      refine ⟨len2 rfl, fun p n_p => ?_⟩
      generalize h_G : upd _ p _ = G
      obtain ⟨s_G, e_p⟩ := Ct.upd_new h_G n_p
      clear h_G
      exact q (.ref p) G s_G (click_dp (.of e_p))
    · walk_at "ct"
      refine ⟨len2 rfl, fun p n_p => ?_⟩
      generalize h_G : upd _ p _ = G
      obtain ⟨s_G, e_p⟩ := Ct.upd_new h_G n_p
      clear h_G
      exact q (.ref p) G s_G (rocker_dp (.of e_p))
    · have l1 := nL_len hk
      walk_at "ct"
      refine w_eqXs (s := "c") (b := [99]) (by decide) ?_
      rw [decide_eq_false fun y => absurd (List.cons.inj y).1 (by decide)]
      walk_at "ct"
      refine w_eqXs (s := "r") (b := [114]) (by decide) ?_
      rw [decide_eq_false fun y => absurd (List.cons.inj y).1 (by decide)]
      walk_at "ct"
      refine ⟨⟨_, rfl⟩, ?_⟩
      walk_at "ct"
      refine ⟨_, _, rfl, rfl, ?_⟩
      rw [startT 115 (nL k) "w" (d := 119) (by decide), decide_eq_false (by decide)]
      walk_at "ct"
      refine ⟨⟨_, rfl⟩, ?_⟩
      walk_at "ct"
      refine ⟨_, _, rfl, rfl, ?_⟩
      rw [startT 115 (nL k) "s" (d := 115) (by decide), decide_eq_true rfl]
      walk_at "ct"
      refine ⟨_, rfl, by rw [tx_len, List.length_cons]; exact small6 (by omega), ?_⟩
      rw [show (some (1 : Int)) = some (((1 : Nat)) : Int) from rfl, cut_fromX _ _ (by rw [List.length_cons]; omega), List.drop_succ_cons, List.drop_zero]
      walk_at "ct"
      refine ⟨k, rfl, hk, hTb, fun H1 s1 => ?_⟩
      walk_at "ct"
      refine ⟨len2 rfl, fun p n_p => ?_⟩
      generalize h_G : upd _ p _ = G
      obtain ⟨s_G, e_p⟩ := Ct.upd_new h_G n_p
      clear h_G
      exact q (.ref p) G (s1.trans s_G) (spring_dp (.of e_p))
abbrev S_read_stand : Stmt := topS 31
theorem sc_read_stand : FnScope ["text"] ["text"] (defScope S_read_stand) := ⟨rfl, rfl, rfl, by decide +kernel, rfl, by decide +kernel, by decide +kernel⟩
def sp_read_stand (K : PySem.W.Frag) (T : List Addr) : Sp := fun vs H Q _ => ∃ ns : List Nat, vs = [.str (tx (jN 47 ns))] ∧ ns ≠ [] ∧ (∀ n ∈ ns, n < M40) ∧ ns.length ≤ 30 ∧ Tb T H ∧ ∀ p H', Same H H' → SqT K H' p (ns.map fun n : Nat => V.int (n : Int)) → Q (.ref p) H'
theorem ok_read_stand {f : Addr} {fd : FuncData} {f_read_numbers : Addr} {fd_read_numbers : FuncData} {T : List Addr} (F : Fun K "read_stand" "read_stand" S_read_stand f fd)
    (F_read_numbers : Fun K "read_numbers" "read_numbers" S_read_numbers f_read_numbers fd_read_numbers) (b_read_numbers : Binds K fd_read_numbers ["text", "between"] []) (g_read_numbers : mg "read_numbers" = some (.ref f_read_numbers)) (G_read_numbers : FnOk P w K mg base CX0 3 f_read_numbers fd_read_numbers ["text", "between"] (sp_read_numbers K T)) (m_tuple : mg "tuple" = none) :
    FnOk P w K mg base CX0 4 f fd ["text"] (sp_read_stand K T) := by
  refine F.ok sc_read_stand (fun vs H Q E h => ?_) (fun cdv A outer s H vs Q E hr h => ?_)
  ·
    obtain ⟨ns, rfl, _⟩ := h
    rfl
  ·
    obtain ⟨ns, rfl, ne, hn, nl, hTb, q⟩ := h
    refine ⟨_, (pss_one (ps_ret (pe_callTy call_tuple_of (by rfl) m_tuple (by decide +kernel) (pa_cons (pe_call G_read_numbers (hr.mono (by decide)) (by rfl) g_read_numbers F_read_numbers.kp b_read_numbers .nil pass0 (pa_cons (pv 0) (pa_cons pe_str pa_nil))) pa_nil)))), ?_⟩
    refine w_st (σ' := [some (.str (tx (jN 47 ns)))]) rfl ?_
    walk_at "ct"
    refine ⟨ns, 47, "/", rfl, rfl, .inl (by decide), ne, hn, by omega, hTb, fun l H1 s1 nl1 hl => ?_⟩
    walk_at "ct"
    refine ⟨l, _, rfl, .inl ⟨.of hl, fun p n_p => ?_⟩⟩
    generalize h_G : upd _ p _ = G
    obtain ⟨s_G, e_p⟩ := Ct.upd_new h_G n_p
    clear h_G
    exact q p G (s1.trans s_G) (.of e_p)
abbrev S_split_push : Stmt := topS 32
theorem sc_split_push : FnScope ["text", "at"] ["text"] (defScope S_split_push) := ⟨rfl, rfl, rfl, by decide +kernel, rfl, by decide +kernel, by decide +kernel⟩
def sp_split_push (K : PySem.W.Frag) (T : List Addr) : Sp := fun vs H Q _ => ∃ (i : Nat) (w : Int) (r : List Nat), vs = [.str (tx (nL i ++ wayT w ++ r))] ∧ i < M40 ∧ Sign w ∧ r.length ≤ 2000 ∧ Tb T H ∧ ∀ q H', Same H H' → H' q = some (.tup [.int (i : Int), .int w, .str (tx r)]) → Q (.ref q) H'
theorem ok_split_push {f : Addr} {fd : FuncData} {f_read_way : Addr} {fd_read_way : FuncData} {f_read_number : Addr} {fd_read_number : FuncData} {tk_FIGURES : Tok} {T : List Addr} (F : Fun K "split_push" "split_push" S_split_push f fd)
    (F_read_way : Fun K "read_way" "read_way" S_read_way f_read_way fd_read_way) (b_read_way : Binds K fd_read_way ["text"] []) (g_read_way : mg "read_way" = some (.ref f_read_way)) (G_read_way : FnOk P w K mg base CX0 1 f_read_way fd_read_way ["text"] (sp_read_way K))
    (F_read_number : Fun K "read_number" "read_number" S_read_number f_read_number fd_read_number) (b_read_number : Binds K fd_read_number ["text"] []) (g_read_number : mg "read_number" = some (.ref f_read_number)) (G_read_number : FnOk P w K mg base CX0 2 f_read_number fd_read_number ["text"] (sp_read_number K T)) (m_len : mg "len" = none) (g_FIGURES : mg "FIGURES" = some (.str "0123456789" tk_FIGURES)) :
    FnOk P w K mg base CX0 3 f fd ["text"] (sp_split_push K T) := by
  refine F.ok sc_split_push (fun vs H Q E h => ?_) (fun cdv A outer s H vs Q E hr h => ?_)
  ·
    obtain ⟨i, w, r, rfl, _⟩ := h
    rfl
  ·
    obtain ⟨i, w, r, rfl, hi, hw, lr, hTb, q⟩ := h
    refine ⟨_, (pss_cons (ps_set (i := 1) sc_split_push.nd rfl (.inl rfl) pe_int)
      (pss_cons (ps_while PassesOwn.never (PW.pt (pw_and (pt_cmpR op_lt (pv 1) (pe_callB (r := rLenX) call_lenX (by rfl) m_len (by decide +kernel) (pa_cons (pv 0) pa_nil)) (nomark _)) (pw_and1 (pt_cmpR (r := rInSg false) op_inSg (pe_ix (r := rIxS) ix_str (pv 0) (pv 1) (fun _ _ => rfl)) (pe_glob (v := .str "0123456789") (by rfl) g_FIGURES ⟨_, rfl⟩) (by rfl))))) (pss_one (ps_aug (i := 1) sc_split_push.nd rfl (.inl rfl) pe_int ip_add)))
      (pss_one (ps_ret (pe_tup (pa_cons (pe_call G_read_number (hr.mono (by decide)) (by rfl) g_read_number F_read_number.kp b_read_number .nil pass0 (pa_cons (pe_slice (r := rSlS) sl_str (pv 0) po_none (po_some (pv 1))) pa_nil)) (pa_cons (pe_call G_read_way (hr.mono (by decide)) (by rfl) g_read_way F_read_way.kp b_read_way .nil pass0 (pa_cons (pe_slice (r := rSlS) sl_str (pv 0) (po_some (pv 1)) (po_some (pe_op op_add (pv 1) pe_int))) pa_nil)) (pa_cons (pe_slice (r := rSlS) sl_str (pv 0) (po_some (pe_op op_add (pv 1) pe_int)) po_none) pa_nil)))))))), ?_⟩
    obtain ⟨l, hl⟩ : ∃ l, nL i ++ wayT w ++ r = l := ⟨_, rfl⟩
    have l1 := nL_len hi
    have l0 := nL_pos i
    have lw := wayT_len w
    have ll : l.length = (nL i).length + 1 + r.length := by rw [← hl, List.length_append, List.length_append, lw]
    rw [hl]
    have sz : (tx l).length ≤ sizeLine := by rw [tx_len]; exact small6 (by omega)
    refine w_st (σ' := [some (.str (tx l)), none]) rfl ?_
    walk_at "ct"
    refine ⟨fun mm σ J => ∃ k : Nat, σ = [some (.str (tx l)), some (.int (k : Int))] ∧ J = H ∧ k ≤ (nL i).length ∧ mm = (nL i).length - k, ⟨_, 0, rfl, rfl, Nat.zero_le _, rfl⟩, ?_⟩
    rintro mm σ J ⟨k, rfl, rfl, kl, rfl⟩
    walk_at "ct"
    refine ⟨tx l, rfl, sz, ?_⟩
    rw [tx_len]
    walk_at "ct"
    rw [decide_eq_true (show (k : Int) < (l.length : Int) by omega)]
    walk_at "ct"
    obtain ⟨c, hc⟩ : ∃ c, l[k]? = some c := ⟨_, List.getElem?_eq_getElem (by omega)⟩
    refine ⟨_, _, c, rfl, rfl, sz, atX hc, ?_⟩
    walk_at "ct"
    refine ⟨c, _, rfl, rfl, ?_⟩
    rw [if_neg Bool.false_ne_true, in_figs]
    walk_at "ct"
    by_cases e : k < (nL i).length
    · have dig : 48 ≤ c ∧ c ≤ 57 := by
        rw [← hl, List.append_assoc, List.getElem?_append_left e] at hc
        exact nL_dig (List.mem_of_getElem? hc)
      rw [decide_eq_true dig]
      refine L2.iteT ?_
      refine ⟨_, fun _ _ h => h, ?_⟩
      walk_at "ct"
      refine w_aug rfl ?_
      walk_at "ct"
      exact ⟨(nL i).length - (k + 1), by omega, k + 1, rfl, rfl, by omega, rfl⟩
    have ek : k = (nL i).length := by omega
    subst ek
    have nd : ¬ (48 ≤ c ∧ c ≤ 57) := by
      rw [← hl, List.append_assoc, List.getElem?_append_right (Nat.le_refl _), Nat.sub_self] at hc
      have : c ∈ wayT w := by
        cases z : wayT w with
        | nil => rw [z] at lw; cases lw
        | cons a b =>
          rw [z] at hc
          cases Option.some.inj hc
          exact List.mem_cons_self
      have := wayT_mem this
      omega
    rw [decide_eq_false nd]
    refine L2.iteF ?_
    walk_at "ct"
    have t1 : l.take (nL i).length = nL i := by rw [← hl, List.append_assoc, List.take_left]
    have t2 : (l.drop (nL i).length).take 1 = wayT w := by rw [← hl, List.append_assoc, List.drop_left, List.take_append_of_le_length (by omega), List.take_of_length_le (by omega)]
    have t3 : l.drop ((nL i).length + 1) = r := by rw [← hl, ← lw, ← List.length_append, List.drop_left]
    refine ⟨_, rfl, sz, ?_⟩
    rw [cut_toX, t1]
    walk_at "ct"
    refine ⟨i, rfl, hi, hTb, fun H1 s1 => ?_⟩
    walk_at "ct"
    rw [show ((nL i).length : Int) + 1 = (((nL i).length + 1 : Nat) : Int) by omega]
    refine ⟨_, rfl, sz, ?_⟩
    rw [cut_twoX _ _ _ (by omega) (by omega), t2]
    walk_at "ct"
    refine ⟨w, rfl, hw, ?_⟩
    walk_at "ct"
    rw [show ((nL i).length : Int) + 1 = (((nL i).length + 1 : Nat) : Int) by omega]
    refine ⟨_, rfl, sz, ?_⟩
    rw [cut_fromX _ _ (by omega), t3]
    walk_at "ct"
    refine ⟨len2 rfl, fun p n_p => ?_⟩
    generalize h_G : upd _ p _ = G
    obtain ⟨s_G, e_p⟩ := Ct.upd_new h_G n_p
    clear h_G
    exact q p G (s1.trans s_G) e_p
abbrev S_read_deed : Stmt := topS 33
theorem sc_read_deed : FnScope ["text", "i", "way", "times"] ["text"] (defScope S_read_deed) := ⟨rfl, rfl, rfl, by decide +kernel, rfl, by decide +kernel, by decide +kernel⟩
def sp_read_deed (K : PySem.W.Frag) (T : List Addr) : Sp := fun vs H Q _ => ∃ (d : PyData) (t : List Nat), vs = [.str (tx t)] ∧ ElT 0 d t ∧ Tb T H ∧ ∀ v H', Same H H' → Dp K H' v d → Q v H'
theorem ok_read_deed {f : Addr} {fd : FuncData} {f_read_number : Addr} {fd_read_number : FuncData} {f_split_push : Addr} {fd_split_push : FuncData} {T : List Addr} (F : Fun K "read_deed" "read_deed" S_read_deed f fd)
    (F_read_number : Fun K "read_number" "read_number" S_read_number f_read_number fd_read_number) (b_read_number : Binds K fd_read_number ["text"] []) (g_read_number : mg "read_number" = some (.ref f_read_number)) (G_read_number : FnOk P w K mg base CX0 2 f_read_number fd_read_number ["text"] (sp_read_number K T))
    (F_split_push : Fun K "split_push" "split_push" S_split_push f_split_push fd_split_push) (b_split_push : Binds K fd_split_push ["text"] []) (g_split_push : mg "split_push" = some (.ref f_split_push)) (G_split_push : FnOk P w K mg base CX0 3 f_split_push fd_split_push ["text"] (sp_split_push K T)) :
    FnOk P w K mg base CX0 4 f fd ["text"] (sp_read_deed K T) := by
  refine F.ok sc_read_deed (fun vs H Q E h => ?_) (fun cdv A outer s H vs Q E hr h => ?_)
  ·
    obtain ⟨d, t, rfl, _⟩ := h
    rfl
  ·
    obtain ⟨d, t, rfl, ⟨i, k, w, hi, hk, hw, rfl, rfl⟩, hTb, q⟩ := h
    refine ⟨_, (pss_cons (ps_asg (pe_call G_split_push (hr.mono (by decide)) (by rfl) g_split_push F_split_push.kp b_split_push .nil pass0 (pa_cons (pv 0) pa_nil)) (pg_tup rfl (pgs_cons (pg_name (i := 1) sc_read_deed.nd rfl (.inl rfl)) (pgs_cons (pg_name (i := 2) sc_read_deed.nd rfl (.inl rfl)) (pgs_cons (pg_name (i := 3) sc_read_deed.nd rfl (.inl rfl)) pgs_nil)))))
      (pss_one (ps_ret (pe_tup (pa_cons (pv 1) (pa_cons (pv 2) (pa_cons (pe_call G_read_number (hr.mono (by decide)) (by rfl) g_read_number F_read_number.kp b_read_number .nil pass0 (pa_cons (pv 3) pa_nil)) pa_nil))))))), ?_⟩
    obtain ⟨t, ht⟩ : ∃ t, nL i ++ wayT w ++ nL k = t := ⟨_, rfl⟩
    rw [ht]
    refine w_st (σ' := [some (.str (tx t)), none, none, none]) rfl ?_
    have lr := nL_len hk
    walk_at "ct"
    refine ⟨i, w, nL k, (by rw [← ht]; rfl), hi, hw, by omega, hTb, fun p1 H1 s1 e_p1 => ?_⟩
    refine w_gtup (.of e_p1) rfl ?_
    walk_at "ct"
    refine ⟨k, rfl, hk, hTb.same s1, fun H2 s2 => ?_⟩
    walk_at "ct"
    refine ⟨len2 rfl, fun p n_p => ?_⟩
    generalize h_G : upd _ p _ = G
    obtain ⟨s_G, e_p⟩ := Ct.upd_new h_G n_p
    clear h_G
    exact q (.ref p) G ((s1.trans s2).trans s_G) (.tup (.of e_p) (dpAll_ints [(i : Int), w, (k : Int)]))
abbrev S_read_row : Stmt := topS 34
theorem sc_read_row : FnScope ["text"] ["text"] (defScope S_read_row) := ⟨rfl, rfl, rfl, by decide +kernel, rfl, by decide +kernel, by decide +kernel⟩
def sp_read_row (K : PySem.W.Frag) (T : List Addr) : Sp := fun vs H Q _ => ∃ (ds : List PyData) (ts : List (List Nat)), vs = [.str (tx (listT ts))] ∧ ElsT 0 ds ts ∧ ts.length ≤ 2000 ∧ Tb T H ∧ ∀ l xs H', Same H H' → H l = none → H' l = some (.lst xs) → DpAll K H' xs ds → Q (.ref l) H'
theorem ok_read_row {f : Addr} {fd : FuncData} {f_read_list : Addr} {fd_read_list : FuncData} {f_read_deed : Addr} {fd_read_deed : FuncData} {T : List Addr} (F : Fun K "read_row" "read_row" S_read_row f fd)
    (F_read_list : Fun K "read_list" "read_list" S_read_list f_read_list fd_read_list) (b_read_list : Binds K fd_read_list ["text", "read_one"] []) (g_read_list : mg "read_list" = some (.ref f_read_list)) (G_read_list : ∀ R, (∀ f sp, R f sp → L2.Held P w K mg base 12 f sp) → FnOk P w K mg base CX0 13 f_read_list fd_read_list ["text", "read_one"] (sp_read_list K R))
    (F_read_deed : Fun K "read_deed" "read_deed" S_read_deed f_read_deed fd_read_deed) (b_read_deed : Binds K fd_read_deed ["text"] []) (g_read_deed : mg "read_deed" = some (.ref f_read_deed)) (G_read_deed : FnOk P w K mg base CX0 4 f_read_deed fd_read_deed ["text"] (sp_read_deed K T)) :
    FnOk P w K mg base CX0 14 f fd ["text"] (sp_read_row K T) := by
  refine F.ok sc_read_row (fun vs H Q E h => ?_) (fun cdv A outer s H vs Q E hr h => ?_)
  ·
    obtain ⟨ds, ts, rfl, _⟩ := h
    rfl
  ·
    obtain ⟨ds, ts, rfl, els, l2, hTb, q⟩ := h
    refine ⟨_, (pss_one (ps_ret (pe_call (G_read_list (fun (f : Addr) (sp : Sp) => (f = f_read_deed ∧ sp = (sp_read_deed K T)) ∨ (fun (_ : Addr) (_ : Sp) => False) f sp) (held_cons (held_at (k := 12) G_read_deed (by decide) F_read_deed.kp b_read_deed) held_nil)) (hr.mono (by decide)) (by rfl) g_read_list F_read_list.kp b_read_list .nil pass0 (pa_cons (pv 0) (pa_cons (pe_glob (v := .ref f_read_deed) (by rfl) g_read_deed rfl) pa_nil))))), ?_⟩
    refine w_st (σ' := [some (.str (tx (listT ts)))]) rfl ?_
    walk_at "ct"
    refine ⟨f_read_deed, _, ds, ts, rfl, .inl ⟨rfl, rfl⟩, Paired.length els, fun i d t hd ht H1 Q1 s1 q1 => ?_, elsT_tdT els, fun t ht => ⟨elsT_free els t ht, Nat.le_trans (elsT_len els t ht) (by decide)⟩, l2, elsT_none els, q⟩
    obtain ⟨t', ht', el⟩ := paired_getT els hd
    cases Option.some.inj (ht.symm.trans ht')
    exact ⟨d, t, rfl, el, hTb.same s1, fun v H2 s2 dv => q1 v H2 s2 dv⟩
abbrev S_read_push : Stmt := topS 35
theorem sc_read_push : FnScope ["text", "i", "way", "behind"] ["text"] (defScope S_read_push) := ⟨rfl, rfl, rfl, by decide +kernel, rfl, by decide +kernel, by decide +kernel⟩
def sp_read_push (K : PySem.W.Frag) (T : List Addr) : Sp := fun vs H Q _ => ∃ (d : PyData) (t : List Nat), vs = [.str (tx t)] ∧ ElT 1 d t ∧ Tb T H ∧ ∀ v H', Same H H' → Dp K H' v d → Q v H'
theorem ok_read_push {f : Addr} {fd : FuncData} {f_split_push : Addr} {fd_split_push : FuncData} {T : List Addr} (F : Fun K "read_push" "read_push" S_read_push f fd)
    (F_split_push : Fun K "split_push" "split_push" S_split_push f_split_push fd_split_push) (b_split_push : Binds K fd_split_push ["text"] []) (g_split_push : mg "split_push" = some (.ref f_split_push)) (G_split_push : FnOk P w K mg base CX0 3 f_split_push fd_split_push ["text"] (sp_split_push K T)) :
    FnOk P w K mg base CX0 4 f fd ["text"] (sp_read_push K T) := by
  refine F.ok sc_read_push (fun vs H Q E h => ?_) (fun cdv A outer s H vs Q E hr h => ?_)
  ·
    obtain ⟨d, t, rfl, _⟩ := h
    rfl
  ·
    obtain ⟨d, t, rfl, ⟨i, w, hi, hw, rfl, rfl⟩, hTb, q⟩ := h
    refine ⟨_, (pss_cons (ps_asg (pe_call G_split_push (hr.mono (by decide)) (by rfl) g_split_push F_split_push.kp b_split_push .nil pass0 (pa_cons (pv 0) pa_nil)) (pg_tup rfl (pgs_cons (pg_name (i := 1) sc_read_push.nd rfl (.inl rfl)) (pgs_cons (pg_name (i := 2) sc_read_push.nd rfl (.inl rfl)) (pgs_cons (pg_name (i := 3) sc_read_push.nd rfl (.inl rfl)) pgs_nil)))))
      (pss_cons (ps_if (pt_cmpR op_ne (pv 3) pe_str (nomark _)) (pss_one ps_never) pss_nil)
      (pss_one (ps_ret (pe_tup (pa_cons (pv 1) (pa_cons (pv 2) pa_nil))))))), ?_⟩
    obtain ⟨t, ht⟩ : ∃ t, nL i ++ wayT w = t := ⟨_, rfl⟩
    rw [ht]
    refine w_st (σ' := [some (.str (tx t)), none, none, none]) rfl ?_
    have lr : ([] : List Nat).length ≤ 3 := by decide
    walk_at "ct"
    refine ⟨i, w, [], (by show [V.str (tx t)] = _; rw [← ht, List.append_nil]), hi, hw, by omega, hTb, fun p1 H1 s1 e_p1 => ?_⟩
    refine w_gtup (.of e_p1) rfl ?_
    walk_at "ct"
    refine w_neXs (s := "") (a := []) (b := []) (by decide) ?_
    rw [decide_eq_true rfl]
    walk_at "ct"
    refine ⟨len2 rfl, fun p n_p => ?_⟩
    generalize h_G : upd _ p _ = G
    obtain ⟨s_G, e_p⟩ := Ct.upd_new h_G n_p
    clear h_G
    exact q (.ref p) G (s1.trans s_G) (.tup (.of e_p) (dpAll_ints [(i : Int), w]))
abbrev S_read_pushes : Stmt := topS 36
theorem sc_read_pushes : FnScope ["text"] ["text"] (defScope S_read_pushes) := ⟨rfl, rfl, rfl, by decide +kernel, rfl, by decide +kernel, by decide +kernel⟩
def sp_read_pushes (K : PySem.W.Frag) (T : List Addr) : Sp := fun vs H Q _ => ∃ (ds : List PyData) (ts : List (List Nat)), vs = [.str (tx (listT ts))] ∧ ElsT 1 ds ts ∧ ts.length ≤ 2000 ∧ Tb T H ∧ ∀ l xs H', Same H H' → H l = none → H' l = some (.lst xs) → DpAll K H' xs ds → Q (.ref l) H'
theorem ok_read_pushes {f : Addr} {fd : FuncData} {f_read_list : Addr} {fd_read_list : FuncData} {f_read_push : Addr} {fd_read_push : FuncData} {T : List Addr} (F : Fun K "read_pushes" "read_pushes" S_read_pushes f fd)
    (F_read_list : Fun K "read_list" "read_list" S_read_list f_read_list fd_read_list) (b_read_list : Binds K fd_read_list ["text", "read_one"] []) (g_read_list : mg "read_list" = some (.ref f_read_list)) (G_read_list : ∀ R, (∀ f sp, R f sp → L2.Held P w K mg base 12 f sp) → FnOk P w K mg base CX0 13 f_read_list fd_read_list ["text", "read_one"] (sp_read_list K R))
    (F_read_push : Fun K "read_push" "read_push" S_read_push f_read_push fd_read_push) (b_read_push : Binds K fd_read_push ["text"] []) (g_read_push : mg "read_push" = some (.ref f_read_push)) (G_read_push : FnOk P w K mg base CX0 4 f_read_push fd_read_push ["text"] (sp_read_push K T)) :
    FnOk P w K mg base CX0 14 f fd ["text"] (sp_read_pushes K T) := by
  refine F.ok sc_read_pushes (fun vs H Q E h => ?_) (fun cdv A outer s H vs Q E hr h => ?_)
  ·
    obtain ⟨ds, ts, rfl, _⟩ := h
    rfl
  ·
    obtain ⟨ds, ts, rfl, els, l2, hTb, q⟩ := h
    refine ⟨_, (pss_one (ps_ret (pe_call (G_read_list (fun (f : Addr) (sp : Sp) => (f = f_read_push ∧ sp = (sp_read_push K T)) ∨ (fun (_ : Addr) (_ : Sp) => False) f sp) (held_cons (held_at (k := 12) G_read_push (by decide) F_read_push.kp b_read_push) held_nil)) (hr.mono (by decide)) (by rfl) g_read_list F_read_list.kp b_read_list .nil pass0 (pa_cons (pv 0) (pa_cons (pe_glob (v := .ref f_read_push) (by rfl) g_read_push rfl) pa_nil))))), ?_⟩
    refine w_st (σ' := [some (.str (tx (listT ts)))]) rfl ?_
    walk_at "ct"
    refine ⟨f_read_push, _, ds, ts, rfl, .inl ⟨rfl, rfl⟩, Paired.length els, fun i d t hd ht H1 Q1 s1 q1 => ?_, elsT_tdT els, fun t ht => ⟨elsT_free els t ht, Nat.le_trans (elsT_len els t ht) (by decide)⟩, l2, elsT_none els, q⟩
    obtain ⟨t', ht', el⟩ := paired_getT els hd
    cases Option.some.inj (ht.symm.trans ht')
    exact ⟨d, t, rfl, el, hTb.same s1, fun v H2 s2 dv => q1 v H2 s2 dv⟩
abbrev S_read_ways : Stmt := topS 37
theorem sc_read_ways : FnScope ["text", "sign"] ["text"] (defScope S_read_ways) := ⟨rfl, rfl, rfl, by decide +kernel, rfl, by decide +kernel, by decide +kernel⟩
def sp_read_ways (K : PySem.W.Frag) : Sp := fun vs H Q _ => ∃ ws : List Int, vs = [.str (tx (waysT ws))] ∧ (∀ w ∈ ws, Sign w) ∧ ws.length ≤ 2000 ∧ ∀ l H', Same H H' → H l = none → H' l = some (.lst (ws.map V.int)) → Q (.ref l) H'
theorem ok_read_ways {f : Addr} {fd : FuncData} {f_read_way : Addr} {fd_read_way : FuncData} (F : Fun K "read_ways" "read_ways" S_read_ways f fd)
    (F_read_way : Fun K "read_way" "read_way" S_read_way f_read_way fd_read_way) (b_read_way : Binds K fd_read_way ["text"] []) (g_read_way : mg "read_way" = some (.ref f_read_way)) (G_read_way : FnOk P w K mg base CX0 1 f_read_way fd_read_way ["text"] (sp_read_way K)) :
    FnOk P w K mg base CX0 2 f fd ["text"] (sp_read_ways K) := by
  refine F.ok sc_read_ways (fun vs H Q E h => ?_) (fun cdv A outer s H vs Q E hr h => ?_)
  ·
    obtain ⟨ws, rfl, _⟩ := h
    rfl
  ·
    obtain ⟨ws, rfl, hw, wl, q⟩ := h
    refine ⟨_, (pss_cons (ps_if (pt_cmpR op_eq (pv 0) pe_str (nomark _)) (pss_one (ps_ret (pe_lst pa_nil))) pss_nil)
      (pss_cons (ps_if (pt_cmpR op_eq (pv 0) pe_str (nomark _)) (pss_one ps_never) pss_nil)
      (pss_one (ps_ret (pe_lc (own := [("sign", 1)]) (g := gName 1)  rfl sc_read_ways.nd  (pi_str (pv 0)) (blkOk_by (own := [("sign", 1)]) (N := ["text", "sign"]) (sc := defScope S_read_ways) (by decide +kernel)) (fun _ _ _ _ _ => pg_name (i := 1) sc_read_ways.nd rfl (Or.inl rfl)) (fun _ _ _ _ _ => pts_nil) (fun _ _ _ _ _ => (pe_call G_read_way (hr.mono (by decide)) (by rfl) g_read_way F_read_way.kp b_read_way .nil pass0 (pa_cons (pv 1) pa_nil)))))))), ?_⟩
    have lw := waysT_len ws
    refine w_st (σ' := [some (.str (tx (waysT ws))), none]) rfl ?_
    walk_at "ct"
    refine w_eqXs (s := "none") (b := noneT) (by decide) ?_
    by_cases e : ws = []
    · subst e
      rw [show waysT [] = noneT from rfl, decide_eq_true rfl]
      walk_at "ct"
      refine ⟨len2 rfl, fun l n_l => ?_⟩
      generalize h_G : upd _ l _ = G
      obtain ⟨s_G, e_l⟩ := Ct.upd_new h_G n_l
      clear h_G
      exact q l G s_G n_l e_l
    have ew : waysT ws = (ws.map wayT).flatten := if_neg e
    rw [ew] at lw ⊢
    have lens := flat_ways ws
    have low : ∀ c ∈ (ws.map wayT).flatten, c = 43 ∨ c = 45 := fun c hc => by
      obtain ⟨t, ht, hc⟩ := List.mem_flatten.mp hc
      obtain ⟨w', _, rfl⟩ := List.mem_map.mp ht
      exact wayT_mem hc
    have ne1 : 1 ≤ ws.length := by
      cases ws with
      | nil => exact absurd rfl e
      | cons => exact Nat.succ_le_succ (Nat.zero_le _)
    rw [decide_eq_false fun z => by
      have := low 110 (by rw [z]; decide)
      omega]
    walk_at "ct"
    refine w_eqXs (s := "") (b := []) (by decide) ?_
    rw [decide_eq_false fun z => by
      rw [z] at lens
      simp at lens
      omega]
    walk_at "ct"
    refine ⟨_, rfl, ?_⟩
    refine lb_str (l := (ws.map wayT).flatten) (fun D i J => Same H J ∧ J D = some (.lst ((ws.take i).map V.int))) (fun D nD => ⟨same_upd nD, upd_same⟩) ?_ ?_
    · rintro D nD i c J hc ⟨sJ, hD⟩
      obtain ⟨w', hi, ec⟩ := ways_at hc
      rw [← ec]
      walk_at "ct"
      refine ⟨rfl, ?_⟩
      walk_at "ct"
      refine ⟨w', rfl, hw w' (List.mem_of_getElem? hi), ?_⟩
      refine ⟨_, hD, by rw [List.length_map, List.length_take]; exact Nat.lt_of_le_of_lt (show _ ≤ 2000 by omega) (by decide), same_new sJ nD, ?_⟩
      rw [upd_same, take_succN _ hi]
    rintro D nD J ⟨sJ, hD⟩
    rw [lens, List.take_length] at hD
    exact q D J sJ nD hD
abbrev S_read_pair : Stmt := topS 38
theorem sc_read_pair : FnScope ["text", "here", "between", "there"] ["text"] (defScope S_read_pair) := ⟨rfl, rfl, rfl, by decide +kernel, rfl, by decide +kernel, by decide +kernel⟩
def sp_read_pair (K : PySem.W.Frag) (T : List Addr) : Sp := fun vs H Q _ => ∃ (d : PyData) (t : List Nat), vs = [.str (tx t)] ∧ PairA d t ∧ Tb T H ∧ ∀ v H', Same H H' → Dp K H' v d → Q v H'
theorem ok_read_pair {f : Addr} {fd : FuncData} {f_read_stand : Addr} {fd_read_stand : FuncData} {T : List Addr} (F : Fun K "read_pair" "read_pair" S_read_pair f fd)
    (F_read_stand : Fun K "read_stand" "read_stand" S_read_stand f_read_stand fd_read_stand) (b_read_stand : Binds K fd_read_stand ["text"] []) (g_read_stand : mg "read_stand" = some (.ref f_read_stand)) (G_read_stand : FnOk P w K mg base CX0 4 f_read_stand fd_read_stand ["text"] (sp_read_stand K T)) :
    FnOk P w K mg base CX0 5 f fd ["text"] (sp_read_pair K T) := by
  refine F.ok sc_read_pair (fun vs H Q E h => ?_) (fun cdv A outer s H vs Q E hr h => ?_)
  ·
    obtain ⟨d, t, rfl, _⟩ := h
    rfl
  ·
    obtain ⟨d, t, rfl, ⟨a, b, ta, tb, ha, hb, rfl, rfl⟩, hTb, q⟩ := h
    obtain ⟨a1, a2, a3, a4⟩ := standA_fact ha
    obtain ⟨b1, b2, b3, b4⟩ := standA_fact hb
    obtain ⟨na, rfl, nea, hna, nla, rfl⟩ := ha
    obtain ⟨nb, rfl, neb, hnb, nlb, rfl⟩ := hb
    refine ⟨_, (pss_cons (ps_asg (pe_partition (pv 0) pe_str) (pg_tup rfl (pgs_cons (pg_name (i := 1) sc_read_pair.nd rfl (.inl rfl)) (pgs_cons (pg_name (i := 2) sc_read_pair.nd rfl (.inl rfl)) (pgs_cons (pg_name (i := 3) sc_read_pair.nd rfl (.inl rfl)) pgs_nil)))))
      (pss_one (ps_ret (pe_tup (pa_cons (pe_call G_read_stand (hr.mono (by decide)) (by rfl) g_read_stand F_read_stand.kp b_read_stand .nil pass0 (pa_cons (pv 1) pa_nil)) (pa_cons (pe_call G_read_stand (hr.mono (by decide)) (by rfl) g_read_stand F_read_stand.kp b_read_stand .nil pass0 (pa_cons (pv 3) pa_nil)) pa_nil)))))), ?_⟩
    refine w_st (σ' := [some (.str (tx (jN 47 na ++ 126 :: jN 47 nb))), none, none, none]) rfl ?_
    walk_at "ct"
    refine ⟨⟨_, rfl⟩, ?_⟩
    walk_at "ct"
    refine ⟨_, _, rfl, rfl, by decide, by rw [tx_len, List.length_append, List.length_cons]; exact small6 (by omega), fun p n_p => ?_⟩
    rw [partA (s := 126) rfl fun z => by have := a3 126 z; omega]
    generalize h_G : upd _ p _ = G
    obtain ⟨s_G, e_p⟩ := Ct.upd_new h_G n_p
    clear h_G
    refine w_gtup (.of e_p) rfl ?_
    walk_at "ct"
    refine ⟨na, rfl, nea, hna, by omega, hTb.same s_G, fun u H1 s1 hu => ?_⟩
    walk_at "ct"
    refine ⟨nb, rfl, neb, hnb, by omega, hTb.same (s_G.trans s1), fun w2 H2 s2 hw => ?_⟩
    walk_at "ct"
    refine ⟨len2 rfl, fun r n_r => ?_⟩
    generalize h_G2 : upd _ r _ = G2
    obtain ⟨s_G2, e_r⟩ := Ct.upd_new h_G2 n_r
    clear h_G2
    exact q (.ref r) G2 (((s_G.trans s1).trans s2).trans s_G2) (.tup (.of e_r) (.cons (standA_dp (Same.tup (s2.trans s_G2) hu)) (.cons (standA_dp (Same.tup s_G2 hw)) .nil)))
abbrev S_read_numbered : Stmt := topS 39
theorem sc_read_numbered : FnScope ["text", "stand", "between", "number"] ["text"] (defScope S_read_numbered) := ⟨rfl, rfl, rfl, by decide +kernel, rfl, by decide +kernel, by decide +kernel⟩
def sp_read_numbered (K : PySem.W.Frag) (T : List Addr) : Sp := fun vs H Q _ => ∃ (d : PyData) (t : List Nat), vs = [.str (tx t)] ∧ NumbA d t ∧ Tb T H ∧ ∀ v H', Same H H' → Dp K H' v d → Q v H'
theorem ok_read_numbered {f : Addr} {fd : FuncData} {f_read_number : Addr} {fd_read_number : FuncData} {f_read_stand : Addr} {fd_read_stand : FuncData} {T : List Addr} (F : Fun K "read_numbered" "read_numbered" S_read_numbered f fd)
    (F_read_number : Fun K "read_number" "read_number" S_read_number f_read_number fd_read_number) (b_read_number : Binds K fd_read_number ["text"] []) (g_read_number : mg "read_number" = some (.ref f_read_number)) (G_read_number : FnOk P w K mg base CX0 2 f_read_number fd_read_number ["text"] (sp_read_number K T))
    (F_read_stand : Fun K "read_stand" "read_stand" S_read_stand f_read_stand fd_read_stand) (b_read_stand : Binds K fd_read_stand ["text"] []) (g_read_stand : mg "read_stand" = some (.ref f_read_stand)) (G_read_stand : FnOk P w K mg base CX0 4 f_read_stand fd_read_stand ["text"] (sp_read_stand K T)) :
    FnOk P w K mg base CX0 5 f fd ["text"] (sp_read_numbered K T) := by
  refine F.ok sc_read_numbered (fun vs H Q E h => ?_) (fun cdv A outer s H vs Q E hr h => ?_)
  ·
    obtain ⟨d, t, rfl, _⟩ := h
    rfl
  ·
    obtain ⟨d, t, rfl, ⟨a, ta, n, ha, hn, rfl, rfl⟩, hTb, q⟩ := h
    obtain ⟨a1, a2, a3, a4⟩ := standA_fact ha
    obtain ⟨na, rfl, nea, hna, nla, rfl⟩ := ha
    have ln := nL_len hn
    refine ⟨_, (pss_cons (ps_asg (pe_partition (pv 0) pe_str) (pg_tup rfl (pgs_cons (pg_name (i := 1) sc_read_numbered.nd rfl (.inl rfl)) (pgs_cons (pg_name (i := 2) sc_read_numbered.nd rfl (.inl rfl)) (pgs_cons (pg_name (i := 3) sc_read_numbered.nd rfl (.inl rfl)) pgs_nil)))))
      (pss_one (ps_ret (pe_tup (pa_cons (pe_call G_read_stand (hr.mono (by decide)) (by rfl) g_read_stand F_read_stand.kp b_read_stand .nil pass0 (pa_cons (pv 1) pa_nil)) (pa_cons (pe_call G_read_number (hr.mono (by decide)) (by rfl) g_read_number F_read_number.kp b_read_number .nil pass0 (pa_cons (pv 3) pa_nil)) pa_nil)))))), ?_⟩
    refine w_st (σ' := [some (.str (tx (jN 47 na ++ 58 :: nL n))), none, none, none]) rfl ?_
    walk_at "ct"
    refine ⟨⟨_, rfl⟩, ?_⟩
    walk_at "ct"
    refine ⟨_, _, rfl, rfl, by decide, by rw [tx_len, List.length_append, List.length_cons]; exact small6 (by omega), fun p n_p => ?_⟩
    rw [partA (s := 58) rfl fun z => by have := a3 58 z; omega]
    generalize h_G : upd _ p _ = G
    obtain ⟨s_G, e_p⟩ := Ct.upd_new h_G n_p
    clear h_G
    refine w_gtup (.of e_p) rfl ?_
    walk_at "ct"
    refine ⟨na, rfl, nea, hna, by omega, hTb.same s_G, fun u H1 s1 hu => ?_⟩
    walk_at "ct"
    refine ⟨n, rfl, hn, hTb.same (s_G.trans s1), fun H2 s2 => ?_⟩
    walk_at "ct"
    refine ⟨len2 rfl, fun r n_r => ?_⟩
    generalize h_G2 : upd _ r _ = G2
    obtain ⟨s_G2, e_r⟩ := Ct.upd_new h_G2 n_r
    clear h_G2
    exact q (.ref r) G2 (((s_G.trans s1).trans s2).trans s_G2) (.tup (.of e_r) (.cons (standA_dp (Same.tup (s2.trans s_G2) hu)) (.cons (.int _) .nil)))
abbrev S_read_moves : Stmt := topS 40
theorem sc_read_moves : FnScope ["text"] ["text"] (defScope S_read_moves) := ⟨rfl, rfl, rfl, by decide +kernel, rfl, by decide +kernel, by decide +kernel⟩
def sp_read_moves (K : PySem.W.Frag) (T : List Addr) : Sp := fun vs H Q _ => ∃ (k : Nat) (ds : List PyData) (ts : List (List Nat)), vs = [.str (tx (listT ts))] ∧ k < 2 ∧ ElsT k ds ts ∧ ts.length ≤ 2000 ∧ Tb T H ∧ ∀ l xs H', Same H H' → H l = none → H' l = some (.lst xs) → DpAll K H' xs ds → Q (.ref l) H'
theorem ok_read_moves {f : Addr} {fd : FuncData} {f_read_row : Addr} {fd_read_row : FuncData} {f_read_pushes : Addr} {fd_read_pushes : FuncData} {T : List Addr} (F : Fun K "read_moves" "read_moves" S_read_moves f fd)
    (F_read_row : Fun K "read_row" "read_row" S_read_row f_read_row fd_read_row) (b_read_row : Binds K fd_read_row ["text"] []) (g_read_row : mg "read_row" = some (.ref f_read_row)) (G_read_row : FnOk P w K mg base CX0 14 f_read_row fd_read_row ["text"] (sp_read_row K T))
    (F_read_pushes : Fun K "read_pushes" "read_pushes" S_read_pushes f_read_pushes fd_read_pushes) (b_read_pushes : Binds K fd_read_pushes ["text"] []) (g_read_pushes : mg "read_pushes" = some (.ref f_read_pushes)) (G_read_pushes : FnOk P w K mg base CX0 14 f_read_pushes fd_read_pushes ["text"] (sp_read_pushes K T)) :
    FnOk P w K mg base CX0 15 f fd ["text"] (sp_read_moves K T) := by
  refine F.ok sc_read_moves (fun vs H Q E h => ?_) (fun cdv A outer s H vs Q E hr h => ?_)
  ·
    obtain ⟨k, ds, ts, rfl, _⟩ := h
    rfl
  ·
    obtain ⟨k, ds, ts, rfl, hk, els, tl, hTb, q⟩ := h
    refine ⟨_, (pss_cons (ps_if (PW.pt (pw_or (pt_val (pe_m1 PySem.F.slot_str_endswith PySem.F.type_str_endswith mt_endswith (pv 0) pe_str)) (pw_or1 (pt_val (pe_m1 PySem.F.slot_str_endswith PySem.F.type_str_endswith mt_endswith (pv 0) pe_str))))) (pss_one (ps_ret (pe_call G_read_pushes (hr.mono (by decide)) (by rfl) g_read_pushes F_read_pushes.kp b_read_pushes .nil pass0 (pa_cons (pv 0) pa_nil)))) pss_nil)
      (pss_one (ps_ret (pe_call G_read_row (hr.mono (by decide)) (by rfl) g_read_row F_read_row.kp b_read_row .nil pass0 (pa_cons (pv 0) pa_nil))))), ?_⟩
    obtain ⟨a, c, el, hc⟩ := moves_end hk els
    have e1 : Txt.endswith (tx (listT ts)) (Str.ofString "+") = decide (c = 43) := by rw [el]; exact endT a c "+" (by decide)
    have e2 : Txt.endswith (tx (listT ts)) (Str.ofString "-") = decide (c = 45) := by rw [el]; exact endT a c "-" (by decide)
    refine w_st (σ' := [some (.str (tx (listT ts)))]) rfl ?_
    have push : k = 1 → sp_read_pushes K T [.str (tx (listT ts))] H Q E := fun z => by
      subst z
      exact ⟨ds, ts, rfl, els, tl, hTb, q⟩
    have row : k = 0 ∨ ts = [] → sp_read_row K T [.str (tx (listT ts))] H Q E := fun z => by
      rcases z with rfl | rfl
      · exact ⟨ds, ts, rfl, els, tl, hTb, q⟩
      · cases els
        exact ⟨[], [], rfl, .nil, Nat.zero_le _, hTb, q⟩
    walk_at "ct"
    refine ⟨⟨_, rfl⟩, ?_⟩
    walk_at "ct"
    refine ⟨_, _, rfl, rfl, ?_⟩
    rw [e1]
    by_cases p : c = 43
    · rw [decide_eq_true p]
      walk_at "ct"
      rcases hc with ⟨z, _⟩ | ⟨_, z, _⟩
      · exact push z
      · exact absurd p z
    rw [decide_eq_false p]
    walk_at "ct"
    refine ⟨⟨_, rfl⟩, ?_⟩
    walk_at "ct"
    refine ⟨_, _, rfl, rfl, ?_⟩
    rw [e2]
    by_cases m : c = 45
    · rw [decide_eq_true m]
      walk_at "ct"
      rcases hc with ⟨z, _⟩ | ⟨_, _, z⟩
      · exact push z
      · exact absurd m z
    rw [decide_eq_false m]
    walk_at "ct"
    rcases hc with ⟨_, z⟩ | ⟨z, _, _⟩
    · omega
    · exact row z
abbrev S_read_row_answer : Stmt := topS 41
theorem sc_read_row_answer : FnScope ["text", "moves", "between", "numbers"] ["text"] (defScope S_read_row_answer) := ⟨rfl, rfl, rfl, by decide +kernel, rfl, by decide +kernel, by decide +kernel⟩
def sp_read_row_answer (K : PySem.W.Frag) (T : List Addr) : Sp := fun vs H Q _ => ∃ (k : Nat) (ds es : List PyData) (ts us : List (List Nat)), vs = [.str (tx (listT ts ++ tlS "; " ++ listT us))] ∧ k < 2 ∧ ElsT k ds ts ∧ ts.length ≤ 2000 ∧ Paired NumbA es us ∧ us.length ≤ 2000 ∧ Tb T H ∧ ∀ v H', Same H H' → ToldR K H H' v (.tuple [.str "row", .list ds, .list es]) → Q v H'
theorem ok_read_row_answer {f : Addr} {fd : FuncData} {f_read_list : Addr} {fd_read_list : FuncData} {f_read_numbered : Addr} {fd_read_numbered : FuncData} {f_read_moves : Addr} {fd_read_moves : FuncData} {T : List Addr} (F : Fun K "read_row_answer" "read_row_answer" S_read_row_answer f fd)
    (F_read_list : Fun K "read_list" "read_list" S_read_list f_read_list fd_read_list) (b_read_list : Binds K fd_read_list ["text", "read_one"] []) (g_read_list : mg "read_list" = some (.ref f_read_list)) (G_read_list : ∀ R, (∀ f sp, R f sp → L2.Held P w K mg base 12 f sp) → FnOk P w K mg base CX0 13 f_read_list fd_read_list ["text", "read_one"] (sp_read_list K R))
    (F_read_numbered : Fun K "read_numbered" "read_numbered" S_read_numbered f_read_numbered fd_read_numbered) (b_read_numbered : Binds K fd_read_numbered ["text"] []) (g_read_numbered : mg "read_numbered" = some (.ref f_read_numbered)) (G_read_numbered : FnOk P w K mg base CX0 5 f_read_numbered fd_read_numbered ["text"] (sp_read_numbered K T))
    (F_read_moves : Fun K "read_moves" "read_moves" S_read_moves f_read_moves fd_read_moves) (b_read_moves : Binds K fd_read_moves ["text"] []) (g_read_moves : mg "read_moves" = some (.ref f_read_moves)) (G_read_moves : FnOk P w K mg base CX0 15 f_read_moves fd_read_moves ["text"] (sp_read_moves K T)) :
    FnOk P w K mg base CX0 16 f fd ["text"] (sp_read_row_answer K T) := by
  refine F.ok sc_read_row_answer (fun vs H Q E h => ?_) (fun cdv A outer s H vs Q E hr h => ?_)
  ·
    obtain ⟨k, ds, es, ts, us, rfl, _⟩ := h
    rfl
  ·
    obtain ⟨k, ds, es, ts, us, rfl, hk, els, tl, nums, ul, hTb, q⟩ := h
    refine ⟨_, (pss_cons (ps_asg (pe_partition (pv 0) pe_str) (pg_tup rfl (pgs_cons (pg_name (i := 1) sc_read_row_answer.nd rfl (.inl rfl)) (pgs_cons (pg_name (i := 2) sc_read_row_answer.nd rfl (.inl rfl)) (pgs_cons (pg_name (i := 3) sc_read_row_answer.nd rfl (.inl rfl)) pgs_nil)))))
      (pss_one (ps_ret (pe_tup (pa_cons pe_str (pa_cons (pe_call G_read_moves (hr.mono (by decide)) (by rfl) g_read_moves F_read_moves.kp b_read_moves .nil pass0 (pa_cons (pv 1) pa_nil)) (pa_cons (pe_call (G_read_list (fun (f : Addr) (sp : Sp) => (f = f_read_numbered ∧ sp = (sp_read_numbered K T)) ∨ (fun (_ : Addr) (_ : Sp) => False) f sp) (held_cons (held_at (k := 12) G_read_numbered (by decide) F_read_numbered.kp b_read_numbered) held_nil)) (hr.mono (by decide)) (by rfl) g_read_list F_read_list.kp b_read_list .nil pass0 (pa_cons (pv 3) (pa_cons (pe_glob (v := .ref f_read_numbered) (by rfl) g_read_numbered rfl) pa_nil))) pa_nil))))))), ?_⟩
    refine w_st (σ' := [some (.str (tx (listT ts ++ tlS "; " ++ listT us))), none, none, none]) rfl ?_
    walk_at "ct"
    refine ⟨⟨_, rfl⟩, ?_⟩
    walk_at "ct"
    have fact : ∀ t ∈ us, 1 ≤ t.length ∧ t.length ≤ 2000 ∧ (∀ c ∈ t, 47 ≤ c ∧ c ≤ 58) := fun t ht => by
      obtain ⟨d, hp⟩ := paired_memT nums ht
      obtain ⟨f1, f2, f3, _⟩ := numbA_fact hp
      exact ⟨f1, Nat.le_trans f2 (by decide), f3⟩
    have lm : (2000 + 1) * us.length ≤ (2000 + 1) * 2000 := Nat.mul_le_mul_left _ ul
    have ll := listT_len (m := 2000) (ts := us) fun t ht => (fact t ht).2.1
    have lm0 : (90 + 1) * ts.length ≤ (90 + 1) * 2000 := Nat.mul_le_mul_left _ tl
    have ll0 := listT_len (m := 90) (ts := ts) fun t ht => elsT_len els t ht
    refine ⟨_, _, rfl, rfl, by decide, by rw [tx_len, List.length_append, List.length_append]; exact small6 (show _ + 2 + _ ≤ _ by omega), fun p n_p => ?_⟩
    rw [partB (elsT_no59 els)]
    generalize h_G : upd _ p _ = G
    obtain ⟨s_G, e_p⟩ := Ct.upd_new h_G n_p
    clear h_G
    refine w_gtup (.of e_p) rfl ?_
    walk_at "ct"
    refine ⟨k, ds, ts, rfl, hk, els, tl, hTb.same s_G, fun l xs H1 s1 n_l h_l d_l => ?_⟩
    walk_at "ct"
    refine ⟨f_read_numbered, _, es, us, rfl, .inl ⟨rfl, rfl⟩, Paired.length nums, fun i d t hd ht H2 Q2 s2 q2 => ?_, fun d hd => ?_, fun t ht => ⟨fun z => by have := (fact t ht).2.2 32 z; omega, (fact t ht).2.1⟩, ul, fun ne => join_noneH ne fun t ht => ?_, fun m ys H2 s2 n_m h_m d_m => ?_⟩
    · obtain ⟨t', ht', el⟩ := paired_getT nums hd
      cases Option.some.inj (ht.symm.trans ht')
      exact ⟨d, t, rfl, el, hTb.same ((s_G.trans s1).trans s2), fun v H3 s3 dv => q2 v H3 s3 dv⟩
    · obtain ⟨i, hi⟩ := List.getElem?_of_mem hd
      obtain ⟨t, _, el⟩ := paired_getT nums hi
      exact (numbA_fact el).2.2.2
    · obtain ⟨d, hp⟩ := paired_memT nums ht
      exact numbA_head hp
    walk_at "ct"
    refine ⟨len2 rfl, fun r n_r => ?_⟩
    generalize h_G2 : upd _ r _ = G2
    obtain ⟨s_G2, e_r⟩ := Ct.upd_new h_G2 n_r
    clear h_G2
    exact q (.ref r) G2 (((s_G.trans s1).trans s2).trans s_G2) (toldR_two e_r ((s2.trans s_G2) _ _ h_l) (s_G2 _ _ h_m) (s_G.free n_l) (s_G.free (s1.free n_m)) (fun z => by rw [z, h_l] at n_m; cases n_m) (dpAll_same (s2.trans s_G2) d_l) (elsT_tdT els) (dpAll_same s_G2 d_m) (tdt_of (fun h => (numbA_fact h).2.2.2) nums))
abbrev S_read_two : Stmt := topS 42
theorem sc_read_two : FnScope ["text", "between", "numbers"] ["text", "between"] (defScope S_read_two) := ⟨rfl, rfl, rfl, by decide +kernel, rfl, by decide +kernel, by decide +kernel⟩
def sp_read_two (K : PySem.W.Frag) (T : List Addr) : Sp := fun vs H Q _ => ∃ (j k s : Nat) (b : String), vs = [.str (tx (jN s [j, k])), .str (Str.ofString b)] ∧ b.toList.map Char.toNat = [s] ∧ (s < 48 ∨ 57 < s ∧ s < 256) ∧ j < M40 ∧ k < M40 ∧ Tb T H ∧ ∀ p H', Same H H' → H' p = some (.tup [.int (j : Int), .int (k : Int)]) → Q (.ref p) H'
theorem ok_read_two {f : Addr} {fd : FuncData} {f_read_numbers : Addr} {fd_read_numbers : FuncData} {T : List Addr} (F : Fun K "read_two" "read_two" S_read_two f fd)
    (F_read_numbers : Fun K "read_numbers" "read_numbers" S_read_numbers f_read_numbers fd_read_numbers) (b_read_numbers : Binds K fd_read_numbers ["text", "between"] []) (g_read_numbers : mg "read_numbers" = some (.ref f_read_numbers)) (G_read_numbers : FnOk P w K mg base CX0 3 f_read_numbers fd_read_numbers ["text", "between"] (sp_read_numbers K T)) (m_len : mg "len" = none) :
    FnOk P w K mg base CX0 4 f fd ["text", "between"] (sp_read_two K T) := by
  refine F.ok sc_read_two (fun vs H Q E h => ?_) (fun cdv A outer s H vs Q E hr h => ?_)
  ·
    obtain ⟨j, k, s, b, rfl, _⟩ := h
    rfl
  ·
    obtain ⟨j, k, sg, b, rfl, eb, hs, hj, hk, hTb, q⟩ := h
    refine ⟨_, (pss_cons (ps_set (i := 2) sc_read_two.nd rfl (.inl rfl) (pe_call G_read_numbers (hr.mono (by decide)) (by rfl) g_read_numbers F_read_numbers.kp b_read_numbers .nil pass0 (pa_cons (pv 0) (pa_cons (pv 1) pa_nil))))
      (pss_cons (ps_if (pt_cmpR op_ne (pe_callB call_len_seq (by rfl) m_len (by decide +kernel) (pa_cons (pv 2) pa_nil)) pe_int (nomark _)) (pss_one ps_never) pss_nil)
      (pss_one (ps_ret (pe_tup (pa_cons (pe_ix (r := rIxL K) ix_list (pv 2) pe_int (fun _ _ => rfl)) (pa_cons (pe_ix (r := rIxL K) ix_list (pv 2) pe_int (fun _ _ => rfl)) pa_nil))))))), ?_⟩
    refine w_st (σ' := [some (.str (tx (jN sg [j, k]))), some (.str (Str.ofString b)), none]) rfl ?_
    walk_at "ct"
    refine ⟨[j, k], sg, b, rfl, eb, hs, (fun z => nomatch z), fun n hn => ?_, (show 2 ≤ 300 by decide), hTb, fun l H1 s1 n_l h_l => ?_⟩
    · rcases List.mem_cons.mp hn with rfl | hn
      · exact hj
      · rw [List.mem_singleton.mp hn]; exact hk
    have h_l : H1 l = some (.lst [.int (j : Int), .int (k : Int)]) := h_l
    walk_at "ct"
    refine ⟨l, _, rfl, .inl (.of h_l), ?_⟩
    walk_at "ct"
    refine L2.iteF ?_
    walk_at "ct"
    refine w_ixL (.of h_l) (v := .int (j : Int)) rfl ?_
    walk_at "ct"
    refine w_ixL (.of h_l) (v := .int (k : Int)) rfl ?_
    walk_at "ct"
    refine ⟨len2 rfl, fun p n_p => ?_⟩
    generalize h_G : upd _ p _ = G
    obtain ⟨s_G, e_p⟩ := Ct.upd_new h_G n_p
    clear h_G
    exact q p G (s1.trans s_G) e_p
abbrev S_read_wheel_answer : Stmt := topS 43
theorem sc_read_wheel_answer : FnScope ["text", "words", "part", "word"] ["text"] (defScope S_read_wheel_answer) := ⟨rfl, rfl, rfl, by decide +kernel, rfl, by decide +kernel, by decide +kernel⟩
def sp_read_wheel_answer (K : PySem.W.Frag) (T : List Addr) : Sp := fun vs H Q _ => ∃ (z : Nat) (ns pt : List Nat) (ds : List PyData) (ts : List (List Nat)), vs = [.str (tx (TL.joinL [32] (pt :: ts)))] ∧ PartS (.wheel (z : Int) (ns.map fun n : Nat => (n : Int))) pt ∧ Paired BarA ds ts ∧ ts.length ≤ 1999 ∧ Tb T H ∧ ∀ v H', Same H H' → ToldR K H H' v (.tuple [.str "wheel", .int (z : Int), .tuple ((ns.map fun n : Nat => (n : Int)).map PyData.int), .list ds]) → Q v H'
theorem ok_read_wheel_answer {f : Addr} {fd : FuncData} {f_read_two : Addr} {fd_read_two : FuncData} {f_is_part : Addr} {fd_is_part : FuncData} {f_read_part : Addr} {fd_read_part : FuncData} {T : List Addr} (F : Fun K "read_wheel_answer" "read_wheel_answer" S_read_wheel_answer f fd)
    (F_read_two : Fun K "read_two" "read_two" S_read_two f_read_two fd_read_two) (b_read_two : Binds K fd_read_two ["text", "between"] []) (g_read_two : mg "read_two" = some (.ref f_read_two)) (G_read_two : FnOk P w K mg base CX0 4 f_read_two fd_read_two ["text", "between"] (sp_read_two K T))
    (F_is_part : Fun K "is_part" "is_part" S_is_part f_is_part fd_is_part) (b_is_part : Binds K fd_is_part ["thing"] []) (g_is_part : mg "is_part" = some (.ref f_is_part)) (G_is_part : FnOk P w K mg base CX0 3 f_is_part fd_is_part ["thing"] (sp_is_part K))
    (F_read_part : Fun K "read_part" "read_part" S_read_part f_read_part fd_read_part) (b_read_part : Binds K fd_read_part ["text"] []) (g_read_part : mg "read_part" = some (.ref f_read_part)) (G_read_part : FnOk P w K mg base CX0 5 f_read_part fd_read_part ["text"] (sp_read_part K T)) :
    FnOk P w K mg base CX0 6 f fd ["text"] (sp_read_wheel_answer K T) := by
  refine F.ok sc_read_wheel_answer (fun vs H Q E h => ?_) (fun cdv A outer s H vs Q E hr h => ?_)
  ·
    obtain ⟨z, ns, pt, ds, ts, rfl, _⟩ := h
    rfl
  ·
    obtain ⟨z, ns, pt, ds, ts, rfl, hp, bars, tl, hTb, q⟩ := h
    refine ⟨_, (pss_cons (ps_set (i := 1) sc_read_wheel_answer.nd rfl (.inl rfl) (pe_split (pv 0) pe_str))
      (pss_cons (ps_set (i := 2) sc_read_wheel_answer.nd rfl (.inl rfl) (pe_call G_read_part (hr.mono (by decide)) (by rfl) g_read_part F_read_part.kp b_read_part .nil pass0 (pa_cons (pe_ix (r := rIxL K) ix_list (pv 1) pe_int (fun _ _ => rfl)) pa_nil)))
      (pss_cons (ps_if (PW.pt (pw_or (pt_cmpR op_ne (pe_ix (r := rIxT K) ix_tup (pv 2) pe_int (fun _ _ => rfl)) pe_str (nomark _)) (pw_or1 (pt_not (pt_val (pe_call G_is_part (hr.mono (by decide)) (by rfl) g_is_part F_is_part.kp b_is_part .nil pass0 (pa_cons (pv 2) pa_nil))))))) (pss_one ps_never) pss_nil)
      (pss_one (ps_ret (pe_tup (pa_cons pe_str (pa_cons (pe_ix (r := rIxT K) ix_tup (pv 2) pe_int (fun _ _ => rfl)) (pa_cons (pe_ix (r := rIxT K) ix_tup (pv 2) pe_int (fun _ _ => rfl)) (pa_cons (pe_lc (own := [("word", 3)]) (g := gName 3)  rfl sc_read_wheel_answer.nd  (pi_list (pe_slice (r := rSlL K) sl_list (pv 1) (po_some pe_int) po_none)) (blkOk_by (own := [("word", 3)]) (N := ["text", "words", "part", "word"]) (sc := defScope S_read_wheel_answer) (by decide +kernel)) (fun _ _ _ _ _ => pg_name (i := 3) sc_read_wheel_answer.nd rfl (Or.inl rfl)) (fun _ _ _ _ _ => pts_nil) (fun _ _ _ _ _ => (pe_call G_read_two (hr.mono (by decide)) (by rfl) g_read_two F_read_two.kp b_read_two .nil pass0 (pa_cons (pv 3) (pa_cons pe_str pa_nil))))) pa_nil)))))))))), ?_⟩
    refine w_st (σ' := [some (.str (tx (TL.joinL [32] (pt :: ts)))), none, none, none]) rfl ?_
    walk_at "ct"
    refine ⟨⟨_, rfl⟩, ?_⟩
    walk_at "ct"
    have bar : ∀ t ∈ pt :: ts, t.length ≤ 2000 ∧ 32 ∉ t := fun t ht => by
      rcases List.mem_cons.mp ht with rfl | ht
      · exact ⟨Nat.le_trans (partS_len hp).2 (by decide), fun h => by have := partS_free hp 32 h; omega⟩
      · obtain ⟨d, hb⟩ := paired_memT bars ht
        obtain ⟨_, b2, b3, _⟩ := barA_fact hb
        exact ⟨Nat.le_trans b2 (by decide), fun h => by have := b3 32 h; omega⟩
    have ll := joinG_len (s := 32) (ts := pt :: ts) fun t ht => (bar t ht).1
    have lm : (2000 + 1) * (pt :: ts).length ≤ (2000 + 1) * 2000 := Nat.mul_le_mul_left _ (show ts.length + 1 ≤ 2000 by omega)
    refine ⟨_, _, rfl, rfl, by decide, by rw [tx_len]; exact small6 (by omega), fun p n_p => ?_⟩
    rw [splitG (s := 32) (by decide) (by decide) (List.cons_ne_nil _ _) fun t ht => (bar t ht).2]
    generalize h_G : upd _ p _ = G
    obtain ⟨s_G, e_p⟩ := Ct.upd_new h_G n_p
    clear h_G
    walk_at "ct"
    have e_p : G p = some (.lst (V.str (tx pt) :: (ts.map tx).map V.str)) := e_p
    refine w_ixL (.of e_p) (v := .str (tx pt)) at0 ?_
    walk_at "ct"
    refine ⟨_, pt, rfl, hp, hTb.same s_G, fun v H1 s1 dv => ?_⟩
    obtain ⟨a, b, rfl, hs, hb⟩ := wheel_inv dv
    walk_at "ct"
    refine ⟨rfl, ?_⟩
    rw [decide_eq_true rfl]
    walk_at "ct"
    refine ⟨.ref a, _, 2, rfl, wheel_dp hs hb, (lay_part _).1, (lay_part _).2, by decide, fun H2 s2 => ?_⟩
    rw [isP_of hp.1]
    have hs2 := Same.tup s2 hs
    have hb2 := Same.tup s2 hb
    walk_at "ct"
    refine w_slL (.of ((s1.trans s2) _ _ e_p)) fun g n_g => ?_
    rw [cut_tailA]
    generalize h_G3 : upd _ g _ = G3
    obtain ⟨s_G3, e_g⟩ := Ct.upd_new h_G3 n_g
    clear h_G3
    walk_at "ct"
    refine w_IL (.of e_g) ?_
    have bl : ds.length = ts.length := Paired.length bars
    refine lb_list ((ts.map tx).map V.str) (fun D i J => ∃ xs, Same G3 J ∧ J D = some (.lst xs) ∧ xs.length = i ∧ DpAll K J xs (ds.take i)) (fun D nD => ⟨[], same_upd nD, upd_same, rfl, .nil⟩) (fun D nD i J _ h => by obtain ⟨xs, sJ, _⟩ := h; exact .of (sJ _ _ e_g)) ?_ ?_
    · rintro D nD i x J hx ⟨xs, sJ, hD, xl, dxs⟩
      rw [List.map_map] at hx
      obtain ⟨t, ht, rfl⟩ := map_getN hx
      have hi := (List.getElem?_eq_some_iff.mp ht).1
      obtain ⟨d, hd⟩ : ∃ d, ds[i]? = some d := ⟨_, List.getElem?_eq_getElem (by omega)⟩
      obtain ⟨t', ht', el⟩ := paired_getT bars hd
      cases Option.some.inj (ht.symm.trans ht')
      obtain ⟨j, k, hj, hk, rfl, rfl⟩ := el
      show gName _ (V.str (tx (jN 126 [j, k]))) _ _ _
      walk_at "ct"
      refine ⟨rfl, ?_⟩
      walk_at "ct"
      refine ⟨j, k, 126, "~", rfl, rfl, .inr (by decide), hj, hk, hTb.same ((((s_G.trans s1).trans s2).trans s_G3).trans sJ), fun u J2 s2' hu => ?_⟩
      have hD2 := s2' _ _ hD
      refine ⟨xs, hD2, Nat.lt_of_le_of_lt (show xs.length ≤ 2000 by omega) (by decide), xs ++ [.ref u], same_new (sJ.trans s2') nD, upd_same, by rw [List.length_append, xl]; rfl, ?_⟩
      rw [List.take_add_one, hd]
      have td : TDTs (ds.take i ++ [PyData.tuple [.int (j : Int), .int (k : Int)]]) := tdT_of fun z hz => by
        rcases List.mem_append.mp hz with hz | hz
        · obtain ⟨i', hi'⟩ := List.getElem?_of_mem (List.mem_of_mem_take hz)
          obtain ⟨_, _, hh⟩ := paired_getT bars hi'
          exact (barA_fact hh).2.2.2
        · rw [List.mem_singleton.mp hz]
          exact .tup (tdT_ints [(j : Int), (k : Int)])
      exact dpAll_updT hD2 td (dpAll_app (dpAll_same s2' dxs) (.cons (.tup (.of hu) (dpAll_ints [(j : Int), (k : Int)])) .nil))
    rintro D nD J ⟨xs, sJ, hD, xl, dxs⟩
    rw [List.length_map, List.length_map, ← bl, List.take_length] at dxs
    walk_at "ct"
    refine ⟨len2 rfl, fun r n_r => ?_⟩
    generalize h_G4 : upd _ r _ = G4
    obtain ⟨s_G4, e_r⟩ := Ct.upd_new h_G4 n_r
    clear h_G4
    have sb := (Same.trans s_G3 sJ).trans s_G4
    exact q (.ref r) G4 (((((s_G.trans s1).trans s2).trans s_G3).trans sJ).trans s_G4) (toldR_wheel e_r (Same.tup sb hb2) (s_G4 _ _ hD) ((((s_G.trans s1).trans s2).trans s_G3).free nD) (dpAll_same s_G4 dxs) (tdt_of (fun h => (barA_fact h).2.2.2) bars))
abbrev S_read_answer : Stmt := topS 44
theorem sc_read_answer : FnScope ["text", "word", "blank", "rest", "j", "k"] ["text"] (defScope S_read_answer) := ⟨rfl, rfl, rfl, by decide +kernel, rfl, by decide +kernel, by decide +kernel⟩
def sp_read_answer (K : PySem.W.Frag) (T : List Addr) : Sp := fun vs H Q _ => ∃ (d : PyData) (t : List Nat), vs = [.str (tx t)] ∧ AnsA d t ∧ Tb T H ∧ ∀ v H', Same H H' → Dp K H' v d → ToldR K H H' v d → Q v H'
theorem ok_read_answer {f : Addr} {fd : FuncData} {f_read_two : Addr} {fd_read_two : FuncData} {f_read_wheel_answer : Addr} {fd_read_wheel_answer : FuncData} {f_read_list : Addr} {fd_read_list : FuncData} {f_read_stand : Addr} {fd_read_stand : FuncData} {f_read_row_answer : Addr} {fd_read_row_answer : FuncData} {f_read_ways : Addr} {fd_read_ways : FuncData} {f_read_pair : Addr} {fd_read_pair : FuncData} {T : List Addr} (F : Fun K "read_answer" "read_answer" S_read_answer f fd)
    (F_read_two : Fun K "read_two" "read_two" S_read_two f_read_two fd_read_two) (b_read_two : Binds K fd_read_two ["text", "between"] []) (g_read_two : mg "read_two" = some (.ref f_read_two)) (G_read_two : FnOk P w K mg base CX0 4 f_read_two fd_read_two ["text", "between"] (sp_read_two K T))
    (F_read_wheel_answer : Fun K "read_wheel_answer" "read_wheel_answer" S_read_wheel_answer f_read_wheel_answer fd_read_wheel_answer) (b_read_wheel_answer : Binds K fd_read_wheel_answer ["text"] []) (g_read_wheel_answer : mg "read_wheel_answer" = some (.ref f_read_wheel_answer)) (G_read_wheel_answer : FnOk P w K mg base CX0 6 f_read_wheel_answer fd_read_wheel_answer ["text"] (sp_read_wheel_answer K T))
    (F_read_list : Fun K "read_list" "read_list" S_read_list f_read_list fd_read_list) (b_read_list : Binds K fd_read_list ["text", "read_one"] []) (g_read_list : mg "read_list" = some (.ref f_read_list)) (G_read_list : ∀ R, (∀ f sp, R f sp → L2.Held P w K mg base 12 f sp) → FnOk P w K mg base CX0 13 f_read_list fd_read_list ["text", "read_one"] (sp_read_list K R))
    (F_read_stand : Fun K "read_stand" "read_stand" S_read_stand f_read_stand fd_read_stand) (b_read_stand : Binds K fd_read_stand ["text"] []) (g_read_stand : mg "read_stand" = some (.ref f_read_stand)) (G_read_stand : FnOk P w K mg base CX0 4 f_read_stand fd_read_stand ["text"] (sp_read_stand K T))
    (F_read_row_answer : Fun K "read_row_answer" "read_row_answer" S_read_row_answer f_read_row_answer fd_read_row_answer) (b_read_row_answer : Binds K fd_read_row_answer ["text"] []) (g_read_row_answer : mg "read_row_answer" = some (.ref f_read_row_answer)) (G_read_row_answer : FnOk P w K mg base CX0 16 f_read_row_answer fd_read_row_answer ["text"] (sp_read_row_answer K T))
    (F_read_ways : Fun K "read_ways" "read_ways" S_read_ways f_read_ways fd_read_ways) (b_read_ways : Binds K fd_read_ways ["text"] []) (g_read_ways : mg "read_ways" = some (.ref f_read_ways)) (G_read_ways : FnOk P w K mg base CX0 2 f_read_ways fd_read_ways ["text"] (sp_read_ways K))
    (F_read_pair : Fun K "read_pair" "read_pair" S_read_pair f_read_pair fd_read_pair) (b_read_pair : Binds K fd_read_pair ["text"] []) (g_read_pair : mg "read_pair" = some (.ref f_read_pair)) (G_read_pair : FnOk P w K mg base CX0 5 f_read_pair fd_read_pair ["text"] (sp_read_pair K T)) :
    FnOk P w K mg base CX0 17 f fd ["text"] (sp_read_answer K T) := by
  refine F.ok sc_read_answer (fun vs H Q E h => ?_) (fun cdv A outer s H vs Q E hr h => ?_)
  ·
    obtain ⟨d, t, rfl, _⟩ := h
    rfl
  ·
    obtain ⟨d, t, rfl, ans, hTb, q⟩ := h
    refine ⟨_, (pss_cons (ps_asg (pe_partition (pv 0) pe_str) (pg_tup rfl (pgs_cons (pg_name (i := 1) sc_read_answer.nd rfl (.inl rfl)) (pgs_cons (pg_name (i := 2) sc_read_answer.nd rfl (.inl rfl)) (pgs_cons (pg_name (i := 3) sc_read_answer.nd rfl (.inl rfl)) pgs_nil)))))
      (pss_cons (ps_if (pt_cmpR op_eq (pv 1) pe_str (nomark _)) (pss_one (ps_ret (pe_tup (pa_cons pe_str (pa_cons (pe_call (G_read_list (fun (f : Addr) (sp : Sp) => (f = f_read_pair ∧ sp = (sp_read_pair K T)) ∨ (fun (_ : Addr) (_ : Sp) => False) f sp) (held_cons (held_at (k := 12) G_read_pair (by decide) F_read_pair.kp b_read_pair) held_nil)) (hr.mono (by decide)) (by rfl) g_read_list F_read_list.kp b_read_list .nil pass0 (pa_cons (pv 3) (pa_cons (pe_glob (v := .ref f_read_pair) (by rfl) g_read_pair rfl) pa_nil))) pa_nil))))) pss_nil)
      (pss_cons (ps_if (pt_cmpR op_eq (pv 1) pe_str (nomark _)) (pss_one (ps_ret (pe_tup (pa_cons pe_str (pa_cons (pe_call G_read_ways (hr.mono (by decide)) (by rfl) g_read_ways F_read_ways.kp b_read_ways .nil pass0 (pa_cons (pv 3) pa_nil)) pa_nil))))) pss_nil)
      (pss_cons (ps_if (pt_cmpR op_eq (pv 1) pe_str (nomark _)) (pss_one (ps_ret (pe_call G_read_row_answer (hr.mono (by decide)) (by rfl) g_read_row_answer F_read_row_answer.kp b_read_row_answer .nil pass0 (pa_cons (pv 3) pa_nil)))) pss_nil)
      (pss_cons (ps_if (pt_cmpR op_eq (pv 1) pe_str (nomark _)) (pss_one (ps_ret (pe_tup (pa_cons pe_str (pa_cons (pe_call (G_read_list (fun (f : Addr) (sp : Sp) => (f = f_read_stand ∧ sp = (sp_read_stand K T)) ∨ (fun (_ : Addr) (_ : Sp) => False) f sp) (held_cons (held_at (k := 12) G_read_stand (by decide) F_read_stand.kp b_read_stand) held_nil)) (hr.mono (by decide)) (by rfl) g_read_list F_read_list.kp b_read_list .nil pass0 (pa_cons (pv 3) (pa_cons (pe_glob (v := .ref f_read_stand) (by rfl) g_read_stand rfl) pa_nil))) pa_nil))))) pss_nil)
      (pss_cons (ps_if (pt_cmpR op_eq (pv 1) pe_str (nomark _)) (pss_one (ps_ret (pe_call G_read_wheel_answer (hr.mono (by decide)) (by rfl) g_read_wheel_answer F_read_wheel_answer.kp b_read_wheel_answer .nil pass0 (pa_cons (pv 3) pa_nil)))) pss_nil)
      (pss_cons (ps_if (pt_cmpR op_eq (pv 1) pe_str (nomark _)) (pss_cons (ps_asg (pe_call G_read_two (hr.mono (by decide)) (by rfl) g_read_two F_read_two.kp b_read_two .nil pass0 (pa_cons (pv 3) (pa_cons pe_str pa_nil))) (pg_tup rfl (pgs_cons (pg_name (i := 4) sc_read_answer.nd rfl (.inl rfl)) (pgs_cons (pg_name (i := 5) sc_read_answer.nd rfl (.inl rfl)) pgs_nil))))
      (pss_one (ps_ret (pe_tup (pa_cons pe_str (pa_cons (pv 4) (pa_cons (pv 5) pa_nil))))))) pss_nil)
      (pss_one ps_never)))))))), ?_⟩
    have q : ∀ v H', Same H H' → ToldR K H H' v d → Q v H' := fun v H' s td => q v H' s (by
      obtain ⟨p, fs, gs, m, x, rfl, e2, e3, _⟩ := td
      rw [e3]
      exact e2.dp) td
    refine w_st (σ' := [some (.str (tx t)), none, none, none, none, none]) rfl ?_
    rcases ans with ⟨ds, ts, els, tl, rfl, rfl⟩ | ⟨ws, hw, wl, rfl, rfl⟩ | ⟨k, ds, ts, es, us, hk, els, tl, nums, ul, rfl, rfl⟩ | ⟨ds, ts, els, tl, rfl, rfl⟩ | ⟨z, ns, pt, ds, ts, hp, bars, tl, rfl, rfl⟩ | ⟨j, k, hj, hk, rfl, rfl⟩
    · have fact : ∀ t ∈ ts, 1 ≤ t.length ∧ t.length ≤ 2000 ∧ (∀ c ∈ t, 47 ≤ c ∧ c ≤ 126) := fun t ht => by
        obtain ⟨d, hp⟩ := paired_memT els ht
        obtain ⟨f1, f2, f3, _⟩ := pairA_fact hp
        exact ⟨f1, Nat.le_trans f2 (by decide), fun c hc => by have := f3 c hc; omega⟩
      have lm : (2000 + 1) * ts.length ≤ (2000 + 1) * 2000 := Nat.mul_le_mul_left _ tl
      have ll := listT_len (m := 2000) (ts := ts) fun t ht => (fact t ht).2.1
      walk_at "ct"
      refine ⟨⟨_, rfl⟩, ?_⟩
      walk_at "ct"
      refine ⟨_, _, rfl, rfl, by decide, by rw [tx_len, List.length_append]; exact small6 (by show 6 + _ ≤ _; omega), fun p n_p => ?_⟩
      rw [partW "alike " "alike" (by decide) (by decide) (by decide)]
      generalize h_G : upd _ p _ = G
      obtain ⟨s_G, e_p⟩ := Ct.upd_new h_G n_p
      clear h_G
      refine w_gtup (.of e_p) rfl ?_
      walk_at "ct"
      refine ⟨f_read_pair, _, ds, ts, rfl, .inl ⟨rfl, rfl⟩, Paired.length els, fun i d t hd ht H2 Q2 s2 q2 => ?_, fun d hd => ?_, fun t ht => ⟨fun z => by have := (fact t ht).2.2 32 z; omega, (fact t ht).2.1⟩, tl, fun ne => join_noneH ne fun t ht => ?_, fun m ys H2 s2 n_m h_m d_m => ?_⟩
      · obtain ⟨t', ht', el⟩ := paired_getT els hd
        cases Option.some.inj (ht.symm.trans ht')
        exact ⟨d, t, rfl, el, hTb.same (s_G.trans s2), fun v H3 s3 dv => q2 v H3 s3 dv⟩
      · obtain ⟨i, hi⟩ := List.getElem?_of_mem hd
        obtain ⟨t, _, el⟩ := paired_getT els hi
        exact (pairA_fact el).2.2.2
      · obtain ⟨d, hp⟩ := paired_memT els ht
        exact pairA_head hp
      walk_at "ct"
      refine ⟨len2 rfl, fun r n_r => ?_⟩
      generalize h_G2 : upd _ r _ = G2
      obtain ⟨s_G2, e_r⟩ := Ct.upd_new h_G2 n_r
      clear h_G2
      exact q (.ref r) G2 ((s_G.trans s2).trans s_G2) (toldR_one e_r (s_G2 _ _ h_m) (s_G.free n_m) (dpAll_same s_G2 d_m) (tdt_of (fun h => (pairA_fact h).2.2.2) els))
    · have lw := waysT_len ws
      walk_at "ct"
      refine ⟨⟨_, rfl⟩, ?_⟩
      walk_at "ct"
      refine ⟨_, _, rfl, rfl, by decide, by rw [tx_len, List.length_append]; exact small6 (by show 6 + _ ≤ _; omega), fun p n_p => ?_⟩
      rw [partW "apart " "apart" (by decide) (by decide) (by decide)]
      generalize h_G : upd _ p _ = G
      obtain ⟨s_G, e_p⟩ := Ct.upd_new h_G n_p
      clear h_G
      refine w_gtup (.of e_p) rfl ?_
      walk_at "ct"
      refine ⟨ws, rfl, hw, wl, fun l H2 s2 n_l h_l => ?_⟩
      walk_at "ct"
      refine ⟨len2 rfl, fun r n_r => ?_⟩
      generalize h_G2 : upd _ r _ = G2
      obtain ⟨s_G2, e_r⟩ := Ct.upd_new h_G2 n_r
      clear h_G2
      exact q (.ref r) G2 ((s_G.trans s2).trans s_G2) (toldR_one e_r (s_G2 _ _ h_l) (s_G.free n_l) (dpAll_ints ws) fun e he => by
        obtain ⟨i, _, rfl⟩ := List.mem_map.mp he
        exact .int i)
    · have lm0 : (90 + 1) * ts.length ≤ (90 + 1) * 2000 := Nat.mul_le_mul_left _ tl
      have ll0 := listT_len (m := 90) (ts := ts) fun t ht => elsT_len els t ht
      have lm : (2000 + 1) * us.length ≤ (2000 + 1) * 2000 := Nat.mul_le_mul_left _ ul
      have ll := listT_len (m := 2000) (ts := us) fun t ht => by
        obtain ⟨d, hp⟩ := paired_memT nums ht
        exact Nat.le_trans (numbA_fact hp).2.1 (by decide)
      have lr : (listT ts ++ tlS "; " ++ listT us).length = (listT ts).length + 2 + (listT us).length := by rw [List.length_append, List.length_append]; rfl
      rw [List.append_assoc, List.append_assoc, ← List.append_assoc (listT ts)]
      walk_at "ct"
      refine ⟨⟨_, rfl⟩, ?_⟩
      walk_at "ct"
      refine ⟨_, _, rfl, rfl, by decide, by rw [tx_len, List.length_append]; exact small6 (by show 4 + _ ≤ _; omega), fun p n_p => ?_⟩
      rw [partW "row " "row" (by decide) (by decide) (by decide)]
      generalize h_G : upd _ p _ = G
      obtain ⟨s_G, e_p⟩ := Ct.upd_new h_G n_p
      clear h_G
      refine w_gtup (.of e_p) rfl ?_
      walk_at "ct"
      exact ⟨k, ds, es, ts, us, rfl, hk, els, tl, nums, ul, hTb.same s_G, fun v H2 s2 dv => q v H2 (s_G.trans s2) (dv.over s_G)⟩
    · have fact : ∀ t ∈ ts, 1 ≤ t.length ∧ t.length ≤ 2000 ∧ (∀ c ∈ t, 47 ≤ c ∧ c ≤ 126) := fun t ht => by
        obtain ⟨d, hp⟩ := paired_memT els ht
        obtain ⟨f1, f2, f3, _⟩ := standA_fact hp
        exact ⟨f1, Nat.le_trans f2 (by decide), fun c hc => by have := f3 c hc; omega⟩
      have lm : (2000 + 1) * ts.length ≤ (2000 + 1) * 2000 := Nat.mul_le_mul_left _ tl
      have ll := listT_len (m := 2000) (ts := ts) fun t ht => (fact t ht).2.1
      walk_at "ct"
      refine ⟨⟨_, rfl⟩, ?_⟩
      walk_at "ct"
      refine ⟨_, _, rfl, rfl, by decide, by rw [tx_len, List.length_append]; exact small6 (by show 6 + _ ≤ _; omega), fun p n_p => ?_⟩
      rw [partW "never " "never" (by decide) (by decide) (by decide)]
      generalize h_G : upd _ p _ = G
      obtain ⟨s_G, e_p⟩ := Ct.upd_new h_G n_p
      clear h_G
      refine w_gtup (.of e_p) rfl ?_
      walk_at "ct"
      refine ⟨f_read_stand, _, ds, ts, rfl, .inl ⟨rfl, rfl⟩, Paired.length els, fun i d t hd ht H2 Q2 s2 q2 => ?_, fun d hd => ?_, fun t ht => ⟨fun z => by have := (fact t ht).2.2 32 z; omega, (fact t ht).2.1⟩, tl, fun ne => join_noneH ne fun t ht => ?_, fun m ys H2 s2 n_m h_m d_m => ?_⟩
      · obtain ⟨t', ht', el⟩ := paired_getT els hd
        cases Option.some.inj (ht.symm.trans ht')
        obtain ⟨nb, rfl, neb, hnb, nlb, rfl⟩ := el
        exact ⟨nb, rfl, neb, hnb, by omega, hTb.same (s_G.trans s2), fun u H3 s3 hu => q2 _ H3 s3 (standA_dp hu)⟩
      · obtain ⟨i, hi⟩ := List.getElem?_of_mem hd
        obtain ⟨t, _, el⟩ := paired_getT els hi
        exact (standA_fact el).2.2.2
      · obtain ⟨d, hp⟩ := paired_memT els ht
        exact standA_head hp
      walk_at "ct"
      refine ⟨len2 rfl, fun r n_r => ?_⟩
      generalize h_G2 : upd _ r _ = G2
      obtain ⟨s_G2, e_r⟩ := Ct.upd_new h_G2 n_r
      clear h_G2
      exact q (.ref r) G2 ((s_G.trans s2).trans s_G2) (toldR_one e_r (s_G2 _ _ h_m) (s_G.free n_m) (dpAll_same s_G2 d_m) (tdt_of (fun h => (standA_fact h).2.2.2) els))
    · have bar_len : ∀ t ∈ pt :: ts, t.length ≤ 2000 := fun t ht => by
        rcases List.mem_cons.mp ht with rfl | ht
        · exact Nat.le_trans (partS_len hp).2 (by decide)
        · obtain ⟨d, hb⟩ := paired_memT bars ht
          exact Nat.le_trans (barA_fact hb).2.1 (by decide)
      have ll := joinG_len (s := 32) bar_len
      have lm : (2000 + 1) * (pt :: ts).length ≤ (2000 + 1) * 2000 := Nat.mul_le_mul_left _ (show ts.length + 1 ≤ 2000 by omega)
      walk_at "ct"
      refine ⟨⟨_, rfl⟩, ?_⟩
      walk_at "ct"
      refine ⟨_, _, rfl, rfl, by decide, by rw [tx_len, List.length_append]; exact small6 (by show 6 + _ ≤ _; omega), fun p n_p => ?_⟩
      rw [partW "wheel " "wheel" (by decide) (by decide) (by decide)]
      generalize h_G : upd _ p _ = G
      obtain ⟨s_G, e_p⟩ := Ct.upd_new h_G n_p
      clear h_G
      refine w_gtup (.of e_p) rfl ?_
      walk_at "ct"
      exact ⟨z, ns, pt, ds, ts, rfl, hp, bars, tl, hTb.same s_G, fun v H2 s2 dv => q v H2 (s_G.trans s2) (dv.over s_G)⟩
    · have l2 := jN_len (s := 32) (ns := [j, k]) fun n hn => by
        rcases List.mem_cons.mp hn with rfl | hn
        · exact hj
        · rw [List.mem_singleton.mp hn]; exact hk
      have l2 : (jN 32 [j, k]).length ≤ 82 := l2
      walk_at "ct"
      refine ⟨⟨_, rfl⟩, ?_⟩
      walk_at "ct"
      refine ⟨_, _, rfl, rfl, by decide, by rw [tx_len, List.length_append]; exact small6 (by show 5 + _ ≤ _; omega), fun p n_p => ?_⟩
      rw [partW "none " "none" (by decide) (by decide) (by decide)]
      generalize h_G : upd _ p _ = G
      obtain ⟨s_G, e_p⟩ := Ct.upd_new h_G n_p
      clear h_G
      refine w_gtup (.of e_p) rfl ?_
      walk_at "ct"
      refine ⟨j, k, 32, " ", rfl, rfl, .inl (by decide), hj, hk, hTb.same s_G, fun u H2 s2 hu => ?_⟩
      refine w_gtup (.of hu) rfl ?_
      walk_at "ct"
      refine ⟨len2 rfl, fun r n_r => ?_⟩
      generalize h_G2 : upd _ r _ = G2
      obtain ⟨s_G2, e_r⟩ := Ct.upd_new h_G2 n_r
      clear h_G2
      exact q (.ref r) G2 ((s_G.trans s2).trans s_G2) (toldR_none e_r)
abbrev S__law_draws : Stmt := topS 46
theorem sc__law_draws : FnScope ["_law_cell"] ["_law_cell"] (defScope S__law_draws) := ⟨rfl, rfl, rfl, by decide +kernel, rfl, by decide +kernel, by decide +kernel⟩
def sp__law_draws (K : PySem.W.Frag) : Sp := fun vs H Q _ => ∃ c : Int, vs = [.int c] ∧ ∀ D H', Same H H' → H D = none → H' D = some (DrO D 0) → Q (.ref D) H'
theorem ok__law_draws {f : Addr} {fd : FuncData} (F : Fun K "_law_draws" "_law_draws" S__law_draws f fd) :
    FnOk P w K mg base CX0 1 f fd ["_law_cell"] (sp__law_draws K) := by
  refine F.ok sc__law_draws (fun vs H Q E h => ?_) (fun cdv A outer s H vs Q E hr h => ?_)
  ·
    obtain ⟨c, rfl, _⟩ := h
    rfl
  ·
    obtain ⟨c, rfl, q⟩ := h
    refine ⟨_, (pss_cons (ps_if (pt_cmpR op_lt (pv 0) (pe_op op_powB pe_int pe_int) (nomark _)) (pss_one (ps_ret (pe_lstDr (pa_cons (pv 0) (pa_cons pe_int (pa_cons pe_bl pa_nil)))))) pss_nil)
      (pss_one (ps_ret (pe_lstDr (pa_cons (pe_op op_mod (pv 0) (pe_op op_powB (pe_op op_powB (pe_op op_powB pe_int pe_int) pe_int) pe_int)) (pa_cons pe_int (pa_cons pe_bl pa_nil))))))), ?_⟩
    refine w_st (σ' := [some (.int c)]) rfl ?_
    walk_at "ct"
    refine w_rIv (.int 1000000000000000000) ⟨by decide, by decide⟩ rfl ?_
    walk_at "ct"
    refine w_ite (fun e => ?_) (fun e => ?_)
    · walk_at "ct"
      refine w_lstDr ?_
      walk_at "ct"
      exact ⟨c, 0, false, rfl, fun p np => q p _ (same_upd np) np upd_same⟩
    · walk_at "ct"
      refine w_lstDr ?_
      walk_at "ct"
      refine w_rI ⟨by decide, by decide +kernel⟩ ?_
      walk_at "ct"
      refine w_rI ⟨by decide, by decide +kernel⟩ ?_
      walk_at "ct"
      refine w_rI ⟨by decide, by decide +kernel⟩ ?_
      refine w_mod (Int.pow_pos (Int.pow_pos (Int.pow_pos (by decide)))) fun r _ _ => ?_
      walk_at "ct"
      exact ⟨r, 0, true, rfl, fun p np => q p _ (same_upd np) np upd_same⟩
abbrev S__law_next : Stmt := topS 47
theorem sc__law_next : FnScope ["_law_draws_here", "_law_k", "_law_number_here"] ["_law_draws_here"] (defScope S__law_next) := ⟨rfl, rfl, rfl, by decide +kernel, rfl, by decide +kernel, by decide +kernel⟩
def sp__law_next (K : PySem.W.Frag) : Sp := fun vs H Q _ => ∃ (D : Addr) (c : Nat), vs = [.ref D] ∧ H D = some (DrO D c) ∧ c < 1000000 ∧ ∀ n : Int, 0 ≤ n → n < 2147483648 → Q (.int n) (upd H D (DrO D (c + 1)))
theorem ok__law_next {f : Addr} {fd : FuncData} (F : Fun K "_law_next" "_law_next" S__law_next f fd) :
    FnOk P w K mg base CX0 1 f fd ["_law_draws_here"] (sp__law_next K) := by
  refine F.ok sc__law_next (fun vs H Q E h => ?_) (fun cdv A outer s H vs Q E hr h => ?_)
  ·
    obtain ⟨D, c, rfl, _⟩ := h
    rfl
  ·
    obtain ⟨D, c, rfl, hD, hc, q⟩ := h
    refine ⟨_, (pss_cons (ps_asg (pe_op op_add (pe_ix (r := rIxDr) ix_dr (pv 0) pe_int (fun _ _ => rfl)) pe_int) (pg_sub (pv 0) pe_int set_dr))
      (pss_cons (ps_set (i := 1) sc__law_next.nd rfl (.inl rfl) (pe_ix (r := rIxDr) ix_dr (pv 0) pe_int (fun _ _ => rfl)))
      (pss_cons (ps_if (pt_val (pe_ix (r := rIxDr) ix_dr (pv 0) pe_int (fun _ _ => rfl))) (pss_cons (ps_set (i := 2) sc__law_next.nd rfl (.inl rfl) (pe_op op_mod (pe_ix (r := rIxDr) ix_dr (pv 0) pe_int (fun _ _ => rfl)) (pe_op op_powB pe_int pe_int)))
      (pss_cons (ps_asg (pe_op op_fdivW (pe_ix (r := rIxDr) ix_dr (pv 0) pe_int (fun _ _ => rfl)) (pe_op op_powB pe_int pe_int)) (pg_sub (pv 0) pe_int set_dr))
      (pss_one (ps_ret (pv 2))))) pss_nil)
      (pss_cons (ps_set (i := 2) sc__law_next.nd rfl (.inl rfl) (pe_op op_mod (pe_op op_mulW (pe_op op_add (pe_op op_add (pe_op op_mod (pe_ix (r := rIxDr) ix_dr (pv 0) pe_int (fun _ _ => rfl)) pe_int) (pe_op op_mulW (pe_op op_mulW (pv 1) (pv 1)) pe_int)) (pv 1)) pe_int) pe_int))
      (pss_cons (ps_set (i := 2) sc__law_next.nd rfl (.inl rfl) (pe_op op_mod (pe_op op_mulW (pv 2) (pv 2)) pe_int))
      (pss_one (ps_ret (pe_op op_fdivW (pe_op op_mod (pe_op op_mulW (pv 2) (pe_op op_add (pv 2) pe_int)) pe_int) pe_int)))))))), ?_⟩
    refine w_st (σ' := [some (.ref D), none, none]) rfl ?_
    walk_at "ct"
    refine w_dr1 hD ?_
    walk_at "ct"
    refine ⟨D, 1, c, rfl, rfl, hD, .inr ⟨rfl, c + 1, by rw [show ((c + 1 : Nat) : Int) = (c : Int) + 1 by omega], ?_⟩⟩
    have h1 : (upd H D (DrO D (c + 1))) D = some (DrO D (c + 1)) := upd_same
    have e2 : upd (upd H D (DrO D (c + 1))) D (DrO D (c + 1)) = upd H D (DrO D (c + 1)) := by
      funext a
      by_cases z : a = D
      · rw [z, upd_same, upd_same]
      · rw [upd_ne z]
    generalize upd H D (DrO D (c + 1)) = H1 at *
    walk_at "ct"
    refine w_dr1 h1 ?_
    walk_at "ct"
    refine w_dr2 h1 fun b => ?_
    obtain ⟨k, hk⟩ : ∃ k : Int, ((c + 1 : Nat) : Int) = k := ⟨_, rfl⟩
    have k0 : 0 ≤ k := by omega
    have k1 : k ≤ 1000000 := by omega
    rw [hk]
    cases b with
    | true =>
      walk_at "ct"
      refine w_dr0 h1 fun n => ?_
      walk_at "ct"
      refine w_rIv (.int 1000000) ⟨by decide, by decide⟩ rfl ?_
      refine w_mod (by decide) fun r r0 r1 => ?_
      walk_at "ct"
      refine w_dr0 h1 fun n2 => ?_
      walk_at "ct"
      refine w_rIv (.int 1000000) ⟨by decide, by decide⟩ rfl ?_
      refine w_div (div_ok (by decide) (by decide)) fun r' => ?_
      walk_at "ct"
      refine ⟨D, 0, c + 1, rfl, rfl, h1, .inl ⟨rfl, ⟨_, rfl⟩, ?_⟩⟩
      rw [e2]
      walk_at "ct"
      exact q r r0 (by omega)
    | false =>
      walk_at "ct"
      refine w_dr0 h1 fun n => ?_
      walk_at "ct"
      refine w_mod (by decide) fun r0 a0 a1 => ?_
      walk_at "ct"
      have kk : 0 ≤ k * k ∧ k * k ≤ 1000000 * 1000000 := ⟨Int.mul_nonneg k0 k0, Int.mul_le_mul k1 k1 k0 (by decide)⟩
      refine w_rI (mul_ok (by omega) (by omega) (by omega) (by omega)) ?_
      walk_at "ct"
      refine w_rI (mul_ok (by omega) (by omega) (by omega) (by omega)) ?_
      walk_at "ct"
      refine w_rI (mul_ok (by omega) (by omega) (by omega) (by omega)) ?_
      walk_at "ct"
      refine w_mod (by decide) fun r1 b0 b1 => ?_
      walk_at "ct"
      refine w_rI (mul_ok (by omega) (by omega) (by omega) (by omega)) ?_
      walk_at "ct"
      refine w_mod (by decide) fun r2 c0 c1 => ?_
      walk_at "ct"
      refine w_rI (mul_ok (by omega) (by omega) (by omega) (by omega)) ?_
      walk_at "ct"
      refine w_mod (by decide) fun r3 d0 d1 => ?_
      walk_at "ct"
      refine w_rI (div_ok (by decide) (by decide)) ?_
      exact q _ (by omega) (by omega)
abbrev S__law_whole : Stmt := topS 48
theorem sc__law_whole : FnScope ["_law_found"] ["_law_found"] (defScope S__law_whole) := ⟨rfl, rfl, rfl, by decide +kernel, rfl, by decide +kernel, by decide +kernel⟩
def sp__law_whole (K : PySem.W.Frag) : Sp := fun vs H Q _ => ∃ (v : V) (d : PyData), vs = [v] ∧ Dp K H v d ∧ Q (.bl (isW d)) H
theorem ok__law_whole {f : Addr} {fd : FuncData} (F : Fun K "_law_whole" "_law_whole" S__law_whole f fd) (m_isinstance : mg "isinstance" = none) (m_int : mg "int" = none) (m_bool : mg "bool" = none) :
    FnOk P w K mg base CX0 1 f fd ["_law_found"] (sp__law_whole K) := by
  refine F.ok sc__law_whole (fun vs H Q E h => ?_) (fun cdv A outer s H vs Q E hr h => ?_)
  ·
    obtain ⟨v, d, rfl, _⟩ := h
    rfl
  ·
    obtain ⟨v, d, rfl, hd, q⟩ := h
    refine ⟨_, (pss_one (ps_ret (pe_and (pe_callB (r := rIsi K) call_isi (by rfl) m_isinstance (by decide +kernel) (pa_cons (pv 0) (pa_cons (pe_bltn (v := .ty "int") (u := .type "int") (by rfl) m_int (by decide +kernel) rfl) pa_nil))) (pe_one (pe_not (pe_callB (r := rIsi K) call_isi (by rfl) m_isinstance (by decide +kernel) (pa_cons (pv 0) (pa_cons (pe_bltn (v := .ty "bool") (u := .type "bool") (by rfl) m_bool (by decide +kernel) rfl) pa_nil)))))))), ?_⟩
    refine w_st (σ' := [some v]) rfl ?_
    walk_at "ct"
    cases hd with
    | non =>
      refine w_isi (b := false) (.base .non) (kit_ty (by decide +kernel)) ?_
      walk_at "ct"
      exact q
    | bl b =>
      refine w_isi (b := true) (.base (.bl b)) (kit_ty (by decide +kernel)) ?_
      walk_at "ct"
      refine w_isi (b := true) (.base (.bl b)) (kit_ty (by decide +kernel)) ?_
      walk_at "ct"
      exact q
    | int i =>
      refine w_isi (b := true) (.base (.int i)) (kit_ty (by decide +kernel)) ?_
      walk_at "ct"
      refine w_isi (b := false) (.base (.int i)) (kit_ty (by decide +kernel)) ?_
      walk_at "ct"
      exact q
    | str x =>
      refine w_isi (b := false) (.base (.str x)) (kit_ty (by decide +kernel)) ?_
      walk_at "ct"
      exact q
    | lst hs ht =>
      refine w_isi (b := false) (tyx_L hs) (kit_ty (by decide +kernel)) ?_
      walk_at "ct"
      exact q
    | tup hs ht =>
      refine w_isi (b := false) (tyx_T hs) (kit_ty (by decide +kernel)) ?_
      walk_at "ct"
      exact q
abbrev S__law_number : Stmt := topS 49
theorem sc__law_number : FnScope ["_law_draws_here", "_law_wide_here", "_law_number_here", "_law_turn"] ["_law_draws_here"] (defScope S__law_number) := ⟨rfl, rfl, rfl, by decide +kernel, rfl, by decide +kernel, by decide +kernel⟩
def sp__law_number (K : PySem.W.Frag) : Sp := fun vs H Q _ => ∃ (D : Addr) (c : Nat), vs = [.ref D] ∧ H D = some (DrO D c) ∧ c ≤ 900000 ∧ ∀ (n c' : Nat) H', Dr D c' H H' → c' ≤ c + 9 → n < M40 → Q (.int (n : Int)) H'
theorem ok__law_number {f : Addr} {fd : FuncData} {f__law_next : Addr} {fd__law_next : FuncData} (F : Fun K "_law_number" "_law_number" S__law_number f fd)
    (F__law_next : Fun K "_law_next" "_law_next" S__law_next f__law_next fd__law_next) (b__law_next : Binds K fd__law_next ["_law_draws_here"] []) (g__law_next : mg "_law_next" = some (.ref f__law_next)) (G__law_next : FnOk P w K mg base CX0 1 f__law_next fd__law_next ["_law_draws_here"] (sp__law_next K)) (m_range : mg "range" = none) :
    FnOk P w K mg base CX0 2 f fd ["_law_draws_here"] (sp__law_number K) := by
  refine F.ok sc__law_number (fun vs H Q E h => ?_) (fun cdv A outer s H vs Q E hr h => ?_)
  ·
    obtain ⟨D, c, rfl, _⟩ := h
    rfl
  ·
    obtain ⟨D, c, rfl, hD, hc, q⟩ := h
    refine ⟨_, (pss_cons (ps_set (i := 1) sc__law_number.nd rfl (.inl rfl) (pe_op op_mod (pe_call G__law_next (hr.mono (by decide)) (by rfl) g__law_next F__law_next.kp b__law_next .nil pass0 (pa_cons (pv 0) pa_nil)) pe_int))
      (pss_cons (ps_set (i := 2) sc__law_number.nd rfl (.inl rfl) (pe_op op_mod (pe_call G__law_next (hr.mono (by decide)) (by rfl) g__law_next F__law_next.kp b__law_next .nil pass0 (pa_cons (pv 0) pa_nil)) (pe_ix (r := rIxL K) ix_list (pe_lst (pa_cons pe_int (pa_cons pe_int (pa_cons pe_int (pa_cons (pe_op op_powB pe_int pe_int) pa_nil))))) (pv 1) (fun _ _ => rfl))))
      (pss_cons (ps_if (pt_cmpR op_eq (pe_op op_mod (pe_call G__law_next (hr.mono (by decide)) (by rfl) g__law_next F__law_next.kp b__law_next .nil pass0 (pa_cons (pv 0) pa_nil)) pe_int) pe_int (nomark _)) (pss_cons (ps_for PassesOwn.never rfl (pi_range1 (by rfl) m_range (pa_cons pe_int pa_nil)) (pg_name (i := 3) sc__law_number.nd rfl (.inl rfl))
      (pss_one (ps_set (i := 2) sc__law_number.nd rfl (.inl rfl) (pe_op op_add (pe_op op_mulW (pv 2) (pe_op op_powB pe_int pe_int)) (pe_op op_mod (pe_call G__law_next (hr.mono (by decide)) (by rfl) g__law_next F__law_next.kp b__law_next .nil pass0 (pa_cons (pv 0) pa_nil)) (pe_op op_powB pe_int pe_int))))))
      (pss_one (ps_set (i := 2) sc__law_number.nd rfl (.inl rfl) (pe_op op_mod (pv 2) (pe_op op_powB pe_int pe_int))))) pss_nil)
      (pss_one (ps_ret (pv 2)))))), ?_⟩
    refine w_st (σ' := [some (.ref D), none, none, none]) rfl ?_
    have d0 := Dr.refl hD
    walk_at "ct"
    refine ⟨D, c, rfl, hD, by omega, fun n1 _ _ => ?_⟩
    have d1 := d0.next (c + 1)
    generalize upd H D _ = H1 at *
    walk_at "ct"
    refine w_mod (by decide) fun wd wd0 wd1 => ?_
    walk_at "ct"
    refine ⟨D, c + 1, rfl, d1.2, by omega, fun n2 _ _ => ?_⟩
    have d2 := d1.next (c + 2)
    generalize upd H1 D _ = H2 at *
    walk_at "ct"
    refine w_rIv (.int 1000000) ⟨by decide, by decide⟩ rfl ?_
    walk_at "ct"
    refine ⟨len2 rfl, fun g n_g => ?_⟩
    generalize h_H3 : upd _ g _ = H3
    obtain ⟨s_H3, e_g⟩ := Ct.upd_new h_H3 n_g
    clear h_H3
    have d3 := d2.same s_H3
    walk_at "ct"
    obtain ⟨top, htop, t0, t1⟩ : ∃ top : Int, atI [V.int 3, .int 30, .int 1000, .int 1000000] wd = some (.int top) ∧ 1 ≤ top ∧ top ≤ 1000000 := by
      have : wd = 0 ∨ wd = 1 ∨ wd = 2 ∨ wd = 3 := by omega
      rcases this with rfl | rfl | rfl | rfl
      · exact ⟨3, at0, by decide, by decide⟩
      · exact ⟨30, at1, by decide, by decide⟩
      · exact ⟨1000, at2, by decide, by decide⟩
      · exact ⟨1000000, rfl, by decide, by decide⟩
    refine w_ixL (.of e_g) htop ?_
    refine w_mod (by omega) fun n n0 n9 => ?_
    walk_at "ct"
    refine ⟨D, c + 2, rfl, d3.2, by omega, fun n3 _ _ => ?_⟩
    have d4 := d3.next (c + 3)
    generalize upd H3 D _ = H4 at *
    walk_at "ct"
    refine w_mod (by decide) fun r8 _ _ => ?_
    walk_at "ct"
    refine w_ite (fun e => ?_) (fun e => ?_)
    · walk_at "ct"
      refine w_RG1 (by decide) (by decide) ?_
      refine fb_range (fun i σ G => ∃ (k : Nat) (y : Option V), σ = [some (.ref D), some (.int wd), some (.int (k : Int)), y] ∧ Dr D (c + 3 + i) H G ∧ k < 1000000 * 1000000 ^ i) ⟨n.toNat, _, by rw [Int.toNat_of_nonneg n0], d4, by show n.toNat < 1000000 * 1; omega⟩ ?_ ?_
      · rintro i σ G hi ⟨k, y, rfl, dG, kb⟩
        have hi6 : i < 6 := hi
        have pw : 1000000 * 1000000 ^ i ≤ 1000000 * 1000000 ^ 5 := Nat.mul_le_mul_left _ (Nat.pow_le_pow_right (by decide) (by omega))
        have pv : 1000000 * 1000000 ^ 5 = 10 ^ 36 := by decide
        obtain ⟨B, hB⟩ : ∃ B, 1000000 * 1000000 ^ i = B := ⟨_, rfl⟩
        rw [hB] at kb pw
        have kz : (k : Int) < 2 ^ 200 := by
          have : k < 10 ^ 36 := by omega
          have : (10 : Nat) ^ 36 ≤ 2 ^ 200 := by decide
          have h2 : k < 2 ^ 200 := by omega
          exact_mod_cast h2
        walk_at "ct"
        refine w_rIv (.int 1000000) ⟨by decide, by decide⟩ rfl ?_
        walk_at "ct"
        refine w_rI (mul_ok (by omega) (by omega) (by decide) (by decide)) ?_
        walk_at "ct"
        refine ⟨D, c + 3 + i, rfl, dG.2, by omega, fun n4 _ _ => ?_⟩
        have dG2 := dG.next (c + 3 + i + 1)
        walk_at "ct"
        refine w_rIv (.int 1000000) ⟨by decide, by decide⟩ rfl ?_
        refine w_mod (by decide) fun r r0 r1 => ?_
        walk_at "ct"
        refine ⟨k * 1000000 + r.toNat, _, by rw [show ((k * 1000000 + r.toNat : Nat) : Int) = (k : Int) * 1000000 + r by omega], dG2, ?_⟩
        rw [Nat.pow_succ, ← Nat.mul_assoc, hB]
        omega
      rintro σ G ⟨k, y, rfl, dG, kb⟩
      walk_at "ct"
      refine w_rIv (.int (10 ^ 40)) ⟨by decide, by decide⟩ rfl ?_
      refine w_rIv (.int ((k % M40 : Nat) : Int)) (show (0 : Int) < 10 ^ 40 by decide) (by rw [Int.natCast_emod]; rfl) ?_
      walk_at "ct"
      exact q _ _ G dG (by show c + 3 + 6 ≤ _; omega) (Nat.mod_lt _ (by decide))
    · walk_at "ct"
      rw [show n = ((n.toNat : Nat) : Int) by omega]
      refine q _ _ H4 d4 (by omega) (Nat.lt_of_lt_of_le (show n.toNat < 1000000 by omega) (by decide))
abbrev S__law_rising : Stmt := topS 50
theorem sc__law_rising : FnScope ["_law_draws_here", "_law_many", "_law_found", "_law_here", "_law_k"] ["_law_draws_here", "_law_many"] (defScope S__law_rising) := ⟨rfl, rfl, rfl, by decide +kernel, rfl, by decide +kernel, by decide +kernel⟩
def M28 : Nat := 10 ^ 28
def sp__law_rising (K : PySem.W.Frag) : Sp := fun vs H Q _ => ∃ (D : Addr) (c m : Nat), vs = [.ref D, .int (m : Int)] ∧ H D = some (DrO D c) ∧ c ≤ 850000 ∧ 1 ≤ m ∧ m ≤ 31 ∧ ∀ (p : Addr) (ns : List Nat) c' H', Dr D c' H H' → c' ≤ c + 300 → H' p = some (.tup (ns.map fun n : Nat => V.int (n : Int))) → ns.Pairwise (· < ·) → (∀ n ∈ ns, n < 31 * M28) → ns.length < m → Q (.ref p) H'
theorem ok__law_rising {f : Addr} {fd : FuncData} {f__law_next : Addr} {fd__law_next : FuncData} {f__law_number : Addr} {fd__law_number : FuncData} (F : Fun K "_law_rising" "_law_rising" S__law_rising f fd)
    (F__law_next : Fun K "_law_next" "_law_next" S__law_next f__law_next fd__law_next) (b__law_next : Binds K fd__law_next ["_law_draws_here"] []) (g__law_next : mg "_law_next" = some (.ref f__law_next)) (G__law_next : FnOk P w K mg base CX0 1 f__law_next fd__law_next ["_law_draws_here"] (sp__law_next K))
    (F__law_number : Fun K "_law_number" "_law_number" S__law_number f__law_number fd__law_number) (b__law_number : Binds K fd__law_number ["_law_draws_here"] []) (g__law_number : mg "_law_number" = some (.ref f__law_number)) (G__law_number : FnOk P w K mg base CX0 2 f__law_number fd__law_number ["_law_draws_here"] (sp__law_number K)) (m_range : mg "range" = none) (m_tuple : mg "tuple" = none) :
    FnOk P w K mg base CX0 3 f fd ["_law_draws_here", "_law_many"] (sp__law_rising K) := by
  refine F.ok sc__law_rising (fun vs H Q E h => ?_) (fun cdv A outer s H vs Q E hr h => ?_)
  ·
    obtain ⟨D, c, m, rfl, _⟩ := h
    rfl
  ·
    obtain ⟨D, c, m, rfl, hD, hc, m0, m1, q⟩ := h
    refine ⟨_, (pss_cons (ps_set (i := 2) sc__law_rising.nd rfl (.inl rfl) (pe_lst pa_nil))
      (pss_cons (ps_set (i := 3) sc__law_rising.nd rfl (.inl rfl) (pe_op op_sub pe_int pe_int))
      (pss_cons (ps_for PassesOwn.never rfl (pi_range1 (by rfl) m_range (pa_cons (pe_op op_mod (pe_call G__law_next (hr.mono (by decide)) (by rfl) g__law_next F__law_next.kp b__law_next .nil pass0 (pa_cons (pv 0) pa_nil)) (pv 1)) pa_nil)) (pg_name (i := 4) sc__law_rising.nd rfl (.inl rfl))
      (pss_cons (ps_set (i := 3) sc__law_rising.nd rfl (.inl rfl) (pe_op op_add (pe_op op_add (pv 3) pe_int) (pe_op op_mod (pe_call G__law_number (hr.mono (by decide)) (by rfl) g__law_number F__law_number.kp b__law_number .nil pass0 (pa_cons (pv 0) pa_nil)) (pe_op op_powB pe_int pe_int))))
      (pss_one (ps_expr (pe_bm PySem.F.plainAttrs_list PySem.F.slot_list_append PySem.F.type_list_append mt_append (pv 2) (pa_cons (pv 3) pa_nil))))))
      (pss_one (ps_ret (pe_callTy call_tuple_of (by rfl) m_tuple (by decide +kernel) (pa_cons (pv 2) pa_nil))))))), ?_⟩
    refine w_st (σ' := [some (.ref D), some (.int (m : Int)), none, none, none]) rfl ?_
    walk_at "ct"
    refine ⟨len2 rfl, fun l n_l => ?_⟩
    generalize h_H1 : upd _ l _ = H1
    obtain ⟨s_H1, e_l⟩ := Ct.upd_new h_H1 n_l
    clear h_H1
    have d1 := (Dr.refl hD).same s_H1
    walk_at "ct"
    refine ⟨D, c, rfl, d1.2, by omega, fun n1 _ _ => ?_⟩
    have hl2 := (Dr.step d1.2 (c + 1)).at d1.2 e_l
    have d2 := d1.trans (Dr.step d1.2 (c + 1))
    generalize upd H1 D _ = H2 at *
    walk_at "ct"
    refine w_mod (by omega) fun r r0 r1 => ?_
    walk_at "ct"
    refine w_RG1 (by omega) (by omega) ?_
    refine fb_range (fun i σ G => ∃ (h : Int) (y : Option V) (ns : List Nat) (c' : Nat), σ = [some (.ref D), some (.int (m : Int)), some (.ref l), some (.int h), y] ∧ Dr D c' H G ∧ c' ≤ c + 1 + 9 * i ∧ G l = some (.lst (ns.map fun n : Nat => V.int (n : Int))) ∧ -1 ≤ h ∧ h < (i * M28 : Nat) ∧ (∀ n ∈ ns, (n : Int) ≤ h) ∧ ns.Pairwise (· < ·) ∧ ns.length = i) ⟨-1, none, [], c + 1, rfl, d2, by omega, hl2, by decide, by omega, (fun _ z => nomatch z), .nil, rfl⟩ ?_ ?_
    · rintro i σ G hi ⟨h, y, ns, c', rfl, dG, cb, hl, h0, h1, hb, pw, nl⟩
      have hS := Nat.succ_mul i M28
      have hS2 : i * M28 ≤ 30 * M28 := Nat.mul_le_mul_right _ (by omega)
      obtain ⟨S, eS⟩ : ∃ S, i * M28 = S := ⟨_, rfl⟩
      rw [eS] at h1 hS hS2
      have big : 31 * M28 < 2 ^ 199 := by decide
      have b28 : ((10 : Int) ^ 28) = ((M28 : Nat) : Int) := by decide
      walk_at "ct"
      refine ⟨D, c', rfl, dG.2, by omega, fun n c2 G2 e2 ce nb => ?_⟩
      have hl2 := e2.at dG.2 hl
      have dG2 := dG.trans e2
      walk_at "ct"
      refine w_rIv (.int (10 ^ 28)) ⟨by decide, by decide⟩ rfl ?_
      rw [b28]
      refine w_rIv (.int ((n % M28 : Nat) : Int)) (show (0 : Int) < ((M28 : Nat) : Int) by decide) (by rw [Int.natCast_emod]) ?_
      have rb : n % M28 < M28 := Nat.mod_lt _ (by decide)
      obtain ⟨x, hx⟩ : ∃ x, n % M28 = x := ⟨_, rfl⟩
      rw [hx] at rb ⊢
      walk_at "ct"
      refine ⟨ty_list hl2, ?_⟩
      walk_at "ct"
      refine w_append hl2 (by rw [List.length_map]; exact small1000 (by omega)) ?_
      obtain ⟨k, hk⟩ : ∃ k : Nat, h + 1 + (x : Int) = (k : Int) := ⟨(h + 1 + (x : Int)).toNat, by omega⟩
      rw [hk]
      refine ⟨(k : Int), _, ns ++ [k], c2, rfl, dG2.put n_l hl2, by omega, by rw [upd_same, List.map_append]; rfl, by omega, ?_, fun z hz => ?_, List.pairwise_append.mpr ⟨pw, List.pairwise_singleton _ _, fun a ha b hb2 => ?_⟩, by rw [List.length_append, nl]; rfl⟩
      · rw [show (i + 1) * M28 = S + M28 from hS]
        omega
      · rcases List.mem_append.mp hz with hz | hz
        · have := hb z hz
          omega
        · rw [List.mem_singleton.mp hz]
          exact Int.le_refl _
      · rw [List.mem_singleton.mp hb2]
        have := hb a ha
        omega
    · rintro σ G ⟨h, y, ns, c', rfl, dG, cb, hl, h0, h1, hb, pw, nl⟩
      walk_at "ct"
      refine ⟨l, _, rfl, .inl ⟨.of hl, fun p n_p => ?_⟩⟩
      generalize h_G3 : upd _ p _ = G3
      obtain ⟨s_G3, e_p⟩ := Ct.upd_new h_G3 n_p
      clear h_G3
      have hS2 : r.toNat * M28 ≤ 30 * M28 := Nat.mul_le_mul_right _ (by omega)
      refine q p ns c' G3 (dG.same s_G3) (by omega) e_p pw (fun n hn => ?_) (by omega)
      have := hb n hn
      have b : 30 * M28 < 31 * M28 := by decide
      omega
abbrev S__law_stand : Stmt := topS 51
theorem sc__law_stand : FnScope ["_law_draws_here", "_law_k"] ["_law_draws_here"] (defScope S__law_stand) := ⟨rfl, rfl, rfl, by decide +kernel, rfl, by decide +kernel, by decide +kernel⟩
def sp__law_stand (K : PySem.W.Frag) : Sp := fun vs H Q _ => ∃ (D : Addr) (c : Nat), vs = [.ref D] ∧ H D = some (DrO D c) ∧ c ≤ 800000 ∧ ∀ (p : Addr) (ns : List Nat) c' H', Dr D c' H H' → c' ≤ c + 100 → H' p = some (.tup (ns.map fun n : Nat => V.int (n : Int))) → ns ≠ [] → (∀ n ∈ ns, n < M40) → ns.length ≤ 20 → Q (.ref p) H'
theorem ok__law_stand {f : Addr} {fd : FuncData} {f__law_next : Addr} {fd__law_next : FuncData} {f__law_number : Addr} {fd__law_number : FuncData} (F : Fun K "_law_stand" "_law_stand" S__law_stand f fd)
    (F__law_next : Fun K "_law_next" "_law_next" S__law_next f__law_next fd__law_next) (b__law_next : Binds K fd__law_next ["_law_draws_here"] []) (g__law_next : mg "_law_next" = some (.ref f__law_next)) (G__law_next : FnOk P w K mg base CX0 1 f__law_next fd__law_next ["_law_draws_here"] (sp__law_next K))
    (F__law_number : Fun K "_law_number" "_law_number" S__law_number f__law_number fd__law_number) (b__law_number : Binds K fd__law_number ["_law_draws_here"] []) (g__law_number : mg "_law_number" = some (.ref f__law_number)) (G__law_number : FnOk P w K mg base CX0 2 f__law_number fd__law_number ["_law_draws_here"] (sp__law_number K)) (m_tuple : mg "tuple" = none) (m_range : mg "range" = none) :
    FnOk P w K mg base CX0 3 f fd ["_law_draws_here"] (sp__law_stand K) := by
  refine F.ok sc__law_stand (fun vs H Q E h => ?_) (fun cdv A outer s H vs Q E hr h => ?_)
  ·
    obtain ⟨D, c, rfl, _⟩ := h
    rfl
  ·
    obtain ⟨D, c, rfl, hD, hc, q⟩ := h
    refine ⟨_, (pss_one (ps_ret (pe_callTy call_tuple_of (by rfl) m_tuple (by decide +kernel) (pa_cons (pe_lc (own := [("_law_k", 1)]) (g := gName 1)  rfl sc__law_stand.nd  (pi_range1 (by rfl) m_range (pa_cons (pe_op op_add pe_int (pe_op op_mod (pe_call G__law_next (hr.mono (by decide)) (by rfl) g__law_next F__law_next.kp b__law_next .nil pass0 (pa_cons (pv 0) pa_nil)) pe_int)) pa_nil)) (blkOk_by (own := [("_law_k", 1)]) (N := ["_law_draws_here", "_law_k"]) (sc := defScope S__law_stand) (by decide +kernel)) (fun _ _ _ _ _ => pg_name (i := 1) sc__law_stand.nd rfl (Or.inl rfl)) (fun _ _ _ _ _ => pts_nil) (fun _ _ _ _ _ => (pe_call G__law_number (hr.mono (by decide)) (by rfl) g__law_number F__law_number.kp b__law_number .nil pass0 (pa_cons (pv 0) pa_nil)))) pa_nil)))), ?_⟩
    refine w_st (σ' := [some (.ref D), none]) rfl ?_
    walk_at "ct"
    refine ⟨D, c, rfl, hD, by omega, fun n1 _ _ => ?_⟩
    have d2 := (Dr.refl hD).next (c + 1)
    generalize upd H D _ = H2 at *
    walk_at "ct"
    refine w_mod (by decide) fun r r0 r1 => ?_
    walk_at "ct"
    obtain ⟨N, hN, N1, N6⟩ : ∃ N : Nat, 1 + r = (N : Int) ∧ 1 ≤ N ∧ N ≤ 6 := ⟨(1 + r).toNat, by omega, by omega, by omega⟩
    rw [hN]
    refine w_RG1 (by omega) (by omega) ?_
    rw [show ((N : Int)).toNat = N by omega]
    refine lb_range (fun A i G => ∃ (ns : List Nat) (c' : Nat), Dr D c' H2 G ∧ c' ≤ c + 1 + 9 * i ∧ G A = some (.lst (ns.map fun n : Nat => V.int (n : Int))) ∧ (∀ n ∈ ns, n < M40) ∧ ns.length = i) (fun A nA => ⟨[], c + 1, (Dr.refl d2.2).same (same_upd nA), by omega, upd_same, (fun _ z => nomatch z), rfl⟩) ?_ ?_
    · rintro A nA i G hi ⟨ns, c', dG, cb, hA, hn, nl⟩
      walk_at "ct"
      refine ⟨rfl, ?_⟩
      walk_at "ct"
      refine ⟨D, c', rfl, dG.2, by omega, fun n c2 G2 e2 ce nb => ?_⟩
      have hA2 := e2.at dG.2 hA
      have dG2 := dG.trans e2
      refine ⟨_, hA2, by rw [List.length_map]; exact small1000 (by omega), ns ++ [n], c2, dG2.put nA hA2, by omega, by rw [upd_same, List.map_append]; rfl, fun x hx => ?_, by rw [List.length_append, nl]; rfl⟩
      rcases List.mem_append.mp hx with hx | hx
      · exact hn x hx
      · rw [List.mem_singleton.mp hx]
        exact nb
    rintro A nA G ⟨ns, c', dG, cb, hA, hn, nl⟩
    walk_at "ct"
    refine ⟨A, _, rfl, .inl ⟨.of hA, fun p n_p => ?_⟩⟩
    generalize h_G3 : upd _ p _ = G3
    obtain ⟨s_G3, e_p⟩ := Ct.upd_new h_G3 n_p
    clear h_G3
    exact q p ns c' G3 ((d2.trans dG).same s_G3) (by omega) e_p (fun z => by rw [z] at nl; simp at nl; omega) hn (by omega)
abbrev S__law_ways : Stmt := topS 52
theorem sc__law_ways : FnScope ["_law_draws_here", "_law_many", "_law_k"] ["_law_draws_here", "_law_many"] (defScope S__law_ways) := ⟨rfl, rfl, rfl, by decide +kernel, rfl, by decide +kernel, by decide +kernel⟩
def sp__law_ways (K : PySem.W.Frag) : Sp := fun vs H Q _ => ∃ (D : Addr) (c m : Nat), vs = [.ref D, .int (m : Int)] ∧ H D = some (DrO D c) ∧ c ≤ 900000 ∧ 1 ≤ m ∧ m ≤ 1000 ∧ ∀ l (ws : List Int) c' H', Dr D c' H H' → c' ≤ c + 1 + m → H l = none → H' l = some (.lst (ws.map V.int)) → (∀ w ∈ ws, Sign w) → ws.length < m → Q (.ref l) H'
theorem ok__law_ways {f : Addr} {fd : FuncData} {f__law_next : Addr} {fd__law_next : FuncData} (F : Fun K "_law_ways" "_law_ways" S__law_ways f fd)
    (F__law_next : Fun K "_law_next" "_law_next" S__law_next f__law_next fd__law_next) (b__law_next : Binds K fd__law_next ["_law_draws_here"] []) (g__law_next : mg "_law_next" = some (.ref f__law_next)) (G__law_next : FnOk P w K mg base CX0 1 f__law_next fd__law_next ["_law_draws_here"] (sp__law_next K)) (m_range : mg "range" = none) :
    FnOk P w K mg base CX0 2 f fd ["_law_draws_here", "_law_many"] (sp__law_ways K) := by
  refine F.ok sc__law_ways (fun vs H Q E h => ?_) (fun cdv A outer s H vs Q E hr h => ?_)
  ·
    obtain ⟨D, c, m, rfl, _⟩ := h
    rfl
  ·
    obtain ⟨D, c, m, rfl, hD, hc, m1, m2, q⟩ := h
    refine ⟨_, (pss_one (ps_ret (pe_lc (own := [("_law_k", 2)]) (g := gName 2)  rfl sc__law_ways.nd  (pi_range1 (by rfl) m_range (pa_cons (pe_op op_mod (pe_call G__law_next (hr.mono (by decide)) (by rfl) g__law_next F__law_next.kp b__law_next .nil pass0 (pa_cons (pv 0) pa_nil)) (pv 1)) pa_nil)) (blkOk_by (own := [("_law_k", 2)]) (N := ["_law_draws_here", "_law_many", "_law_k"]) (sc := defScope S__law_ways) (by decide +kernel)) (fun _ _ _ _ _ => pg_name (i := 2) sc__law_ways.nd rfl (Or.inl rfl)) (fun _ _ _ _ _ => pts_nil) (fun _ _ _ _ _ => (pe_ix (r := rIxL K) ix_list (pe_lst (pa_cons pe_int (pa_cons (pe_op op_sub pe_int pe_int) pa_nil))) (pe_op op_mod (pe_call G__law_next (hr.mono (by decide)) (by rfl) g__law_next F__law_next.kp b__law_next .nil pass0 (pa_cons (pv 0) pa_nil)) pe_int) (fun _ _ => rfl)))))), ?_⟩
    refine w_st (σ' := [some (.ref D), some (.int (m : Int)), none]) rfl ?_
    have d0 := Dr.refl hD
    walk_at "ct"
    refine ⟨D, c, rfl, hD, by omega, fun n1 _ _ => ?_⟩
    have d1 := d0.next (c + 1)
    generalize upd H D _ = H1 at *
    walk_at "ct"
    refine w_mod (by omega) fun k k0 k1 => ?_
    walk_at "ct"
    refine w_RG1 (by omega) (by omega) ?_
    refine lb_range (fun L i G => ∃ ws : List Int, Dr D (c + 1 + i) H1 G ∧ G L = some (.lst (ws.map V.int)) ∧ ws.length = i ∧ ∀ w ∈ ws, Sign w) (fun L nL => ⟨[], (Dr.refl d1.2).same (same_upd nL), upd_same, rfl, fun w h => by cases h⟩) ?_ ?_
    · rintro L nL i G hi ⟨ws, dG, hL, wl, sg⟩
      walk_at "ct"
      refine ⟨rfl, ?_⟩
      walk_at "ct"
      refine ⟨len2 rfl, fun g n_g => ?_⟩
      generalize h_G2 : upd _ g _ = G2
      obtain ⟨s_G2, e_g⟩ := Ct.upd_new h_G2 n_g
      clear h_G2
      walk_at "ct"
      refine ⟨D, c + 1 + i, rfl, s_G2 _ _ dG.2, by omega, fun n2 _ _ => ?_⟩
      have dG2 := dG.same s_G2
      have st := Dr.step dG2.2 (c + 1 + i + 1)
      have hL3 := st.at dG2.2 (s_G2 _ _ hL)
      have hg3 := st.at dG2.2 e_g
      have dG3 := dG2.trans st
      clear st
      generalize upd G2 D _ = G3 at *
      walk_at "ct"
      refine w_mod (by decide) fun r r0 r1 => ?_
      obtain ⟨w, hw, sw⟩ : ∃ w : Int, atI [V.int 1, .int (0 - 1)] r = some (.int w) ∧ Sign w := by
        have : r = 0 ∨ r = 1 := by omega
        rcases this with rfl | rfl
        · exact ⟨1, at0, .inl rfl⟩
        · exact ⟨-1, at1, .inr rfl⟩
      walk_at "ct"
      refine w_ixL (.of hg3) hw ?_
      refine ⟨_, hL3, by rw [List.length_map]; exact small1000 (by omega), ws ++ [w], dG3.put nL hL3, ?_, by rw [List.length_append, wl]; rfl, fun x hx => ?_⟩
      · rw [upd_same, List.map_append]
        rfl
      · rcases List.mem_append.mp hx with hx | hx
        · exact sg x hx
        · rw [List.mem_singleton.mp hx]; exact sw
    rintro L nL G ⟨ws, dG, hL, wl, sg⟩
    exact q L ws _ G (d1.trans dG) (by omega) (d1.free nL) hL sg (by omega)
abbrev S__law_row : Stmt := topS 53
theorem sc__law_row : FnScope ["_law_draws_here", "_law_many", "_law_way"] ["_law_draws_here", "_law_many"] (defScope S__law_row) := ⟨rfl, rfl, rfl, by decide +kernel, rfl, by decide +kernel, by decide +kernel⟩
def sp__law_row (K : PySem.W.Frag) : Sp := fun vs H Q _ => ∃ (D : Addr) (c m : Nat), vs = [.ref D, .int (m : Int)] ∧ H D = some (DrO D c) ∧ c ≤ 800000 ∧ 1 ≤ m ∧ m ≤ 1000 ∧ ∀ l xs (ds : List PyData) (ts : List (List Nat)) c' H', Dr D c' H H' → c' ≤ c + 1 + 21 * m → H l = none → H' l = some (.lst xs) → DpAll K H' xs ds → ElsT 0 ds ts → xs.length < m → Q (.ref l) H'
theorem ok__law_row {f : Addr} {fd : FuncData} {f__law_ways : Addr} {fd__law_ways : FuncData} {f__law_number : Addr} {fd__law_number : FuncData} (F : Fun K "_law_row" "_law_row" S__law_row f fd)
    (F__law_ways : Fun K "_law_ways" "_law_ways" S__law_ways f__law_ways fd__law_ways) (b__law_ways : Binds K fd__law_ways ["_law_draws_here", "_law_many"] []) (g__law_ways : mg "_law_ways" = some (.ref f__law_ways)) (G__law_ways : FnOk P w K mg base CX0 2 f__law_ways fd__law_ways ["_law_draws_here", "_law_many"] (sp__law_ways K))
    (F__law_number : Fun K "_law_number" "_law_number" S__law_number f__law_number fd__law_number) (b__law_number : Binds K fd__law_number ["_law_draws_here"] []) (g__law_number : mg "_law_number" = some (.ref f__law_number)) (G__law_number : FnOk P w K mg base CX0 2 f__law_number fd__law_number ["_law_draws_here"] (sp__law_number K)) :
    FnOk P w K mg base CX0 3 f fd ["_law_draws_here", "_law_many"] (sp__law_row K) := by
  refine F.ok sc__law_row (fun vs H Q E h => ?_) (fun cdv A outer s H vs Q E hr h => ?_)
  ·
    obtain ⟨D, c, m, rfl, _⟩ := h
    rfl
  ·
    obtain ⟨D, c, m, rfl, hD, hc, m1, m2, q⟩ := h
    refine ⟨_, (pss_one (ps_ret (pe_lc (own := [("_law_way", 2)]) (g := gName 2)  rfl sc__law_row.nd  (pi_list (pe_call G__law_ways (hr.mono (by decide)) (by rfl) g__law_ways F__law_ways.kp b__law_ways .nil pass0 (pa_cons (pv 0) (pa_cons (pv 1) pa_nil)))) (blkOk_by (own := [("_law_way", 2)]) (N := ["_law_draws_here", "_law_many", "_law_way"]) (sc := defScope S__law_row) (by decide +kernel)) (fun _ _ _ _ _ => pg_name (i := 2) sc__law_row.nd rfl (Or.inl rfl)) (fun _ _ _ _ _ => pts_nil) (fun _ _ _ _ _ => (pe_tup (pa_cons (pe_call G__law_number (hr.mono (by decide)) (by rfl) g__law_number F__law_number.kp b__law_number .nil pass0 (pa_cons (pv 0) pa_nil)) (pa_cons (pv 2) (pa_cons (pe_call G__law_number (hr.mono (by decide)) (by rfl) g__law_number F__law_number.kp b__law_number .nil pass0 (pa_cons (pv 0) pa_nil)) pa_nil)))))))), ?_⟩
    refine w_st (σ' := [some (.ref D), some (.int (m : Int)), none]) rfl ?_
    walk_at "ct"
    refine ⟨D, c, m, rfl, hD, by omega, m1, m2, fun lw ws c1 H1 d1 c1l n_lw h_lw sg wl => ?_⟩
    walk_at "ct"
    refine w_IL (.of h_lw) ?_
    refine lb_list (ws.map V.int) (fun L i G => ∃ (xs : List V) (ds : List PyData) (ts : List (List Nat)) (ci : Nat), Dr D ci H1 G ∧ ci ≤ c1 + 20 * i ∧ G lw = some (.lst (ws.map V.int)) ∧ G L = some (.lst xs) ∧ DpAll K G xs ds ∧ ElsT 0 ds ts ∧ xs.length = i ∧ L ≠ lw) (fun L fL => ⟨[], [], [], c1, (Dr.refl d1.2).same (same_upd fL), Nat.le_refl _, same_upd fL _ _ h_lw, upd_same, .nil, .nil, rfl, fun z => by rw [z, h_lw] at fL; cases fL⟩) (fun L fL i G _ h => by obtain ⟨xs, ds, ts, ci, _, _, h, _⟩ := h; exact .of h) ?_ ?_
    · rintro L fL i x G hx ⟨xs, ds, ts, ci, dG, cil, hlw, hL, dxs, els, xl, ne⟩
      have hi : i < ws.length := by
        have := (List.getElem?_eq_some_iff.mp hx).1
        rw [List.length_map] at this
        exact this
      rw [List.getElem?_map] at hx
      obtain ⟨w, hw, rfl⟩ := Option.map_eq_some_iff.mp hx
      have sw := sg w (List.mem_of_getElem? hw)
      walk_at "ct"
      refine ⟨rfl, ?_⟩
      walk_at "ct"
      refine ⟨D, ci, rfl, dG.2, by omega, fun n1 c2 G2 d2 c2l lt1 => ?_⟩
      walk_at "ct"
      refine ⟨D, c2, rfl, d2.2, by omega, fun n2 c3 G3 d3 c3l lt2 => ?_⟩
      walk_at "ct"
      refine ⟨len2 rfl, fun p n_p => ?_⟩
      generalize h_G4 : upd _ p _ = G4
      obtain ⟨s_G4, e_p⟩ := Ct.upd_new h_G4 n_p
      clear h_G4
      have dT : Dp K G4 (.ref p) (.tuple ([(n1 : Int), w, (n2 : Int)].map PyData.int)) := .tup (.of e_p) (dpAll_ints [(n1 : Int), w, (n2 : Int)])
      have hlw' := s_G4 _ _ (d3.at d2.2 (d2.at dG.2 hlw))
      have hL' := s_G4 _ _ (d3.at d2.2 (d2.at dG.2 hL))
      have dxs' := dpAll_same s_G4 (d3.all d2.2 (d2.all dG.2 dxs))
      have dG' := ((dG.trans d2).trans d3).same s_G4
      have els' : ElsT 0 (ds ++ [.tuple ([(n1 : Int), w, (n2 : Int)].map PyData.int)]) (ts ++ [nL n1 ++ wayT w ++ nL n2]) := Paired.snoc els ⟨n1, n2, w, lt1, lt2, sw, rfl, rfl⟩
      refine ⟨_, hL', Nat.lt_of_le_of_lt (show xs.length ≤ 1000 by omega) (by decide), xs ++ [.ref p], _, _, _, dG'.put fL hL', by omega, by rw [upd_ne ne.symm]; exact hlw', upd_same, dpAll_updT hL' (tdT_of (elsT_tdT els')) (dpAll_app dxs' (.cons dT .nil)), els', by rw [List.length_append, xl]; rfl, ne⟩
    rintro L fL G ⟨xs, ds, ts, ci, dG, cil, hlw, hL, dxs, els, xl, ne⟩
    rw [List.length_map] at cil xl
    refine q L xs ds ts ci G (d1.trans dG) ?_ (d1.free fL) hL dxs els (by omega)
    have : 20 * ws.length ≤ 20 * m - 20 := by omega
    omega
abbrev S__law_pushes : Stmt := topS 54
theorem sc__law_pushes : FnScope ["_law_draws_here", "_law_many", "_law_way"] ["_law_draws_here", "_law_many"] (defScope S__law_pushes) := ⟨rfl, rfl, rfl, by decide +kernel, rfl, by decide +kernel, by decide +kernel⟩
def sp__law_pushes (K : PySem.W.Frag) : Sp := fun vs H Q _ => ∃ (D : Addr) (c m : Nat), vs = [.ref D, .int (m : Int)] ∧ H D = some (DrO D c) ∧ c ≤ 800000 ∧ 1 ≤ m ∧ m ≤ 1000 ∧ ∀ l xs (ds : List PyData) (ts : List (List Nat)) c' H', Dr D c' H H' → c' ≤ c + 1 + 21 * m → H l = none → H' l = some (.lst xs) → DpAll K H' xs ds → ElsT 1 ds ts → xs.length < m → Q (.ref l) H'
theorem ok__law_pushes {f : Addr} {fd : FuncData} {f__law_ways : Addr} {fd__law_ways : FuncData} {f__law_number : Addr} {fd__law_number : FuncData} (F : Fun K "_law_pushes" "_law_pushes" S__law_pushes f fd)
    (F__law_ways : Fun K "_law_ways" "_law_ways" S__law_ways f__law_ways fd__law_ways) (b__law_ways : Binds K fd__law_ways ["_law_draws_here", "_law_many"] []) (g__law_ways : mg "_law_ways" = some (.ref f__law_ways)) (G__law_ways : FnOk P w K mg base CX0 2 f__law_ways fd__law_ways ["_law_draws_here", "_law_many"] (sp__law_ways K))
    (F__law_number : Fun K "_law_number" "_law_number" S__law_number f__law_number fd__law_number) (b__law_number : Binds K fd__law_number ["_law_draws_here"] []) (g__law_number : mg "_law_number" = some (.ref f__law_number)) (G__law_number : FnOk P w K mg base CX0 2 f__law_number fd__law_number ["_law_draws_here"] (sp__law_number K)) :
    FnOk P w K mg base CX0 3 f fd ["_law_draws_here", "_law_many"] (sp__law_pushes K) := by
  refine F.ok sc__law_pushes (fun vs H Q E h => ?_) (fun cdv A outer s H vs Q E hr h => ?_)
  ·
    obtain ⟨D, c, m, rfl, _⟩ := h
    rfl
  ·
    obtain ⟨D, c, m, rfl, hD, hc, m1, m2, q⟩ := h
    refine ⟨_, (pss_one (ps_ret (pe_lc (own := [("_law_way", 2)]) (g := gName 2)  rfl sc__law_pushes.nd  (pi_list (pe_call G__law_ways (hr.mono (by decide)) (by rfl) g__law_ways F__law_ways.kp b__law_ways .nil pass0 (pa_cons (pv 0) (pa_cons (pv 1) pa_nil)))) (blkOk_by (own := [("_law_way", 2)]) (N := ["_law_draws_here", "_law_many", "_law_way"]) (sc := defScope S__law_pushes) (by decide +kernel)) (fun _ _ _ _ _ => pg_name (i := 2) sc__law_pushes.nd rfl (Or.inl rfl)) (fun _ _ _ _ _ => pts_nil) (fun _ _ _ _ _ => (pe_tup (pa_cons (pe_call G__law_number (hr.mono (by decide)) (by rfl) g__law_number F__law_number.kp b__law_number .nil pass0 (pa_cons (pv 0) pa_nil)) (pa_cons (pv 2) pa_nil))))))), ?_⟩
    refine w_st (σ' := [some (.ref D), some (.int (m : Int)), none]) rfl ?_
    walk_at "ct"
    refine ⟨D, c, m, rfl, hD, by omega, m1, m2, fun lw ws c1 H1 d1 c1l n_lw h_lw sg wl => ?_⟩
    walk_at "ct"
    refine w_IL (.of h_lw) ?_
    refine lb_list (ws.map V.int) (fun L i G => ∃ (xs : List V) (ds : List PyData) (ts : List (List Nat)) (ci : Nat), Dr D ci H1 G ∧ ci ≤ c1 + 20 * i ∧ G lw = some (.lst (ws.map V.int)) ∧ G L = some (.lst xs) ∧ DpAll K G xs ds ∧ ElsT 1 ds ts ∧ xs.length = i ∧ L ≠ lw) (fun L fL => ⟨[], [], [], c1, (Dr.refl d1.2).same (same_upd fL), Nat.le_refl _, same_upd fL _ _ h_lw, upd_same, .nil, .nil, rfl, fun z => by rw [z, h_lw] at fL; cases fL⟩) (fun L fL i G _ h => by obtain ⟨xs, ds, ts, ci, _, _, h, _⟩ := h; exact .of h) ?_ ?_
    · rintro L fL i x G hx ⟨xs, ds, ts, ci, dG, cil, hlw, hL, dxs, els, xl, ne⟩
      have hi : i < ws.length := by
        have := (List.getElem?_eq_some_iff.mp hx).1
        rw [List.length_map] at this
        exact this
      rw [List.getElem?_map] at hx
      obtain ⟨w, hw, rfl⟩ := Option.map_eq_some_iff.mp hx
      have sw := sg w (List.mem_of_getElem? hw)
      walk_at "ct"
      refine ⟨rfl, ?_⟩
      walk_at "ct"
      refine ⟨D, ci, rfl, dG.2, by omega, fun n1 c2 G2 d2 c2l lt1 => ?_⟩
      walk_at "ct"
      refine ⟨len2 rfl, fun p n_p => ?_⟩
      generalize h_G4 : upd _ p _ = G4
      obtain ⟨s_G4, e_p⟩ := Ct.upd_new h_G4 n_p
      clear h_G4
      have dT : Dp K G4 (.ref p) (.tuple ([(n1 : Int), w].map PyData.int)) := .tup (.of e_p) (dpAll_ints [(n1 : Int), w])
      have hlw' := s_G4 _ _ (d2.at dG.2 hlw)
      have hL' := s_G4 _ _ (d2.at dG.2 hL)
      have dxs' := dpAll_same s_G4 (d2.all dG.2 dxs)
      have dG' := (dG.trans d2).same s_G4
      have els' : ElsT 1 (ds ++ [.tuple ([(n1 : Int), w].map PyData.int)]) (ts ++ [nL n1 ++ wayT w]) := Paired.snoc els ⟨n1, w, lt1, sw, rfl, rfl⟩
      refine ⟨_, hL', Nat.lt_of_le_of_lt (show xs.length ≤ 1000 by omega) (by decide), xs ++ [.ref p], _, _, _, dG'.put fL hL', by omega, by rw [upd_ne ne.symm]; exact hlw', upd_same, dpAll_updT hL' (tdT_of (elsT_tdT els')) (dpAll_app dxs' (.cons dT .nil)), els', by rw [List.length_append, xl]; rfl, ne⟩
    rintro L fL G ⟨xs, ds, ts, ci, dG, cil, hlw, hL, dxs, els, xl, ne⟩
    rw [List.length_map] at cil xl
    refine q L xs ds ts ci G (d1.trans dG) ?_ (d1.free fL) hL dxs els (by omega)
    have : 20 * ws.length ≤ 20 * m - 20 := by omega
    omega
abbrev S__law_pairs : Stmt := topS 55
theorem sc__law_pairs : FnScope ["_law_draws_here", "_law_many", "_law_k"] ["_law_draws_here", "_law_many"] (defScope S__law_pairs) := ⟨rfl, rfl, rfl, by decide +kernel, rfl, by decide +kernel, by decide +kernel⟩
def sp__law_pairs (K : PySem.W.Frag) : Sp := fun vs H Q _ => ∃ (D : Addr) (c m : Nat), vs = [.ref D, .int (m : Int)] ∧ H D = some (DrO D c) ∧ c ≤ 700000 ∧ 1 ≤ m ∧ m ≤ 20 ∧ ∀ (l : Addr) (xs : List V) (ds : List PyData) (ts : List (List Nat)) c' H', Dr D c' H H' → c' ≤ c + 5000 → H l = none → H' l = some (.lst xs) → DpAll K H' xs ds → Paired PairA ds ts → ts.length < m → Q (.ref l) H'
theorem ok__law_pairs {f : Addr} {fd : FuncData} {f__law_next : Addr} {fd__law_next : FuncData} {f__law_stand : Addr} {fd__law_stand : FuncData} (F : Fun K "_law_pairs" "_law_pairs" S__law_pairs f fd)
    (F__law_next : Fun K "_law_next" "_law_next" S__law_next f__law_next fd__law_next) (b__law_next : Binds K fd__law_next ["_law_draws_here"] []) (g__law_next : mg "_law_next" = some (.ref f__law_next)) (G__law_next : FnOk P w K mg base CX0 1 f__law_next fd__law_next ["_law_draws_here"] (sp__law_next K))
    (F__law_stand : Fun K "_law_stand" "_law_stand" S__law_stand f__law_stand fd__law_stand) (b__law_stand : Binds K fd__law_stand ["_law_draws_here"] []) (g__law_stand : mg "_law_stand" = some (.ref f__law_stand)) (G__law_stand : FnOk P w K mg base CX0 3 f__law_stand fd__law_stand ["_law_draws_here"] (sp__law_stand K)) (m_range : mg "range" = none) :
    FnOk P w K mg base CX0 4 f fd ["_law_draws_here", "_law_many"] (sp__law_pairs K) := by
  refine F.ok sc__law_pairs (fun vs H Q E h => ?_) (fun cdv A outer s H vs Q E hr h => ?_)
  ·
    obtain ⟨D, c, m, rfl, _⟩ := h
    rfl
  ·
    obtain ⟨D, c, m, rfl, hD, hc, m0, m1, q⟩ := h
    refine ⟨_, (pss_one (ps_ret (pe_lc (own := [("_law_k", 2)]) (g := gName 2)  rfl sc__law_pairs.nd  (pi_range1 (by rfl) m_range (pa_cons (pe_op op_mod (pe_call G__law_next (hr.mono (by decide)) (by rfl) g__law_next F__law_next.kp b__law_next .nil pass0 (pa_cons (pv 0) pa_nil)) (pv 1)) pa_nil)) (blkOk_by (own := [("_law_k", 2)]) (N := ["_law_draws_here", "_law_many", "_law_k"]) (sc := defScope S__law_pairs) (by decide +kernel)) (fun _ _ _ _ _ => pg_name (i := 2) sc__law_pairs.nd rfl (Or.inl rfl)) (fun _ _ _ _ _ => pts_nil) (fun _ _ _ _ _ => (pe_tup (pa_cons (pe_call G__law_stand (hr.mono (by decide)) (by rfl) g__law_stand F__law_stand.kp b__law_stand .nil pass0 (pa_cons (pv 0) pa_nil)) (pa_cons (pe_call G__law_stand (hr.mono (by decide)) (by rfl) g__law_stand F__law_stand.kp b__law_stand .nil pass0 (pa_cons (pv 0) pa_nil)) pa_nil))))))), ?_⟩
    refine w_st (σ' := [some (.ref D), some (.int (m : Int)), none]) rfl ?_
    walk_at "ct"
    refine ⟨D, c, rfl, hD, by omega, fun n1 _ _ => ?_⟩
    have d2 := (Dr.refl hD).next (c + 1)
    generalize upd H D _ = H2 at *
    walk_at "ct"
    refine w_mod (by omega) fun r r0 r1 => ?_
    walk_at "ct"
    refine w_RG1 (by omega) (by omega) ?_
    refine lb_range (fun A i G => ∃ (xs : List V) (ds : List PyData) (ts : List (List Nat)) (c' : Nat), Dr D c' H2 G ∧ c' ≤ c + 1 + 200 * i ∧ G A = some (.lst xs) ∧ DpAll K G xs ds ∧ Paired PairA ds ts ∧ ts.length = i) (fun A nA => ⟨[], [], [], c + 1, (Dr.refl d2.2).same (same_upd nA), by omega, upd_same, .nil, .nil, rfl⟩) ?_ ?_
    · rintro A nA i G hi ⟨xs, ds, ts, c', dG, cb, hA, hd, pr, tl⟩
      walk_at "ct"
      refine ⟨rfl, ?_⟩
      walk_at "ct"
      refine ⟨D, c', rfl, dG.2, by omega, fun p1 ns1 c1 G1 g1 c1b h1 nn1 hn1 nl1 => ?_⟩
      walk_at "ct"
      refine ⟨D, c1, rfl, g1.2, by omega, fun p2 ns2 c2 G2 g2 c2b h2 nn2 hn2 nl2 => ?_⟩
      walk_at "ct"
      refine ⟨len2 rfl, fun t n_t => ?_⟩
      generalize h_G3 : upd _ t _ = G3
      obtain ⟨s_G3, e_t⟩ := Ct.upd_new h_G3 n_t
      clear h_G3
      have g12 := g1.trans g2
      have hA3 := s_G3 _ _ (g12.at dG.2 hA)
      have d3 := (dG.trans g12).same s_G3
      have hd3 := dpAll_same s_G3 (g12.all dG.2 hd)
      have xl : xs.length = i := by rw [dpAll_len hd, Paired.length pr, tl]
      have pa : PairA (.tuple [.tuple ((ns1.map fun n : Nat => (n : Int)).map PyData.int), .tuple ((ns2.map fun n : Nat => (n : Int)).map PyData.int)]) (jN 47 ns1 ++ 126 :: jN 47 ns2) := ⟨_, _, _, _, ⟨ns1, rfl, nn1, hn1, nl1, rfl⟩, ⟨ns2, rfl, nn2, hn2, nl2, rfl⟩, rfl, rfl⟩
      refine ⟨xs, hA3, small1000 (by omega), xs ++ [.ref t], ds ++ [_], ts ++ [_], c2, d3.put nA hA3, by omega, upd_same, ?_, paired_appT pr (.cons pa .nil), by rw [List.length_append, tl]; rfl⟩
      refine dpAll_updT hA3 (tdT_of fun z hz => ?_) (dpAll_app hd3 (.cons (.tup (.of e_t) (.cons (standA_dp (.of (s_G3 _ _ (g2.at g1.2 h1)))) (.cons (standA_dp (.of (s_G3 _ _ h2))) .nil))) .nil))
      rcases List.mem_append.mp hz with hz | hz
      · obtain ⟨j, hj⟩ := List.getElem?_of_mem hz
        obtain ⟨_, _, hh⟩ := paired_getT pr hj
        exact (pairA_fact hh).2.2.2
      · rw [List.mem_singleton.mp hz]
        exact (pairA_fact pa).2.2.2
    rintro A nA G ⟨xs, ds, ts, c', dG, cb, hA, hd, pr, tl⟩
    exact q A xs ds ts c' G (d2.trans dG) (by omega) (d2.free nA) hA hd pr (by omega)
abbrev S__law_answer : Stmt := topS 56
theorem sc__law_answer : FnScope ["_law_draws_here", "_law_way", "_law_numbers", "_law_marks", "_law_teeth", "_law_k"] ["_law_draws_here"] (defScope S__law_answer) := ⟨rfl, rfl, rfl, by decide +kernel, rfl, by decide +kernel, by decide +kernel⟩
def sp__law_answer (K : PySem.W.Frag) : Sp := fun vs H Q _ => ∃ (D : Addr) (c : Nat), vs = [.ref D] ∧ H D = some (DrO D c) ∧ c ≤ 600000 ∧ ∀ v d t c' H', Dr D c' H H' → c' ≤ c + 12000 → ToldR K H H' v d → AnsA d t → FewA d → Q v H'
theorem ok__law_answer {f : Addr} {fd : FuncData} {f__law_number : Addr} {fd__law_number : FuncData} {f__law_next : Addr} {fd__law_next : FuncData} {f__law_rising : Addr} {fd__law_rising : FuncData} {f__law_row : Addr} {fd__law_row : FuncData} {f__law_pushes : Addr} {fd__law_pushes : FuncData} {f__law_stand : Addr} {fd__law_stand : FuncData} {f__law_ways : Addr} {fd__law_ways : FuncData} {f__law_pairs : Addr} {fd__law_pairs : FuncData} (F : Fun K "_law_answer" "_law_answer" S__law_answer f fd)
    (F__law_number : Fun K "_law_number" "_law_number" S__law_number f__law_number fd__law_number) (b__law_number : Binds K fd__law_number ["_law_draws_here"] []) (g__law_number : mg "_law_number" = some (.ref f__law_number)) (G__law_number : FnOk P w K mg base CX0 2 f__law_number fd__law_number ["_law_draws_here"] (sp__law_number K))
    (F__law_next : Fun K "_law_next" "_law_next" S__law_next f__law_next fd__law_next) (b__law_next : Binds K fd__law_next ["_law_draws_here"] []) (g__law_next : mg "_law_next" = some (.ref f__law_next)) (G__law_next : FnOk P w K mg base CX0 1 f__law_next fd__law_next ["_law_draws_here"] (sp__law_next K))
    (F__law_rising : Fun K "_law_rising" "_law_rising" S__law_rising f__law_rising fd__law_rising) (b__law_rising : Binds K fd__law_rising ["_law_draws_here", "_law_many"] []) (g__law_rising : mg "_law_rising" = some (.ref f__law_rising)) (G__law_rising : FnOk P w K mg base CX0 3 f__law_rising fd__law_rising ["_law_draws_here", "_law_many"] (sp__law_rising K))
    (F__law_row : Fun K "_law_row" "_law_row" S__law_row f__law_row fd__law_row) (b__law_row : Binds K fd__law_row ["_law_draws_here", "_law_many"] []) (g__law_row : mg "_law_row" = some (.ref f__law_row)) (G__law_row : FnOk P w K mg base CX0 3 f__law_row fd__law_row ["_law_draws_here", "_law_many"] (sp__law_row K))
    (F__law_pushes : Fun K "_law_pushes" "_law_pushes" S__law_pushes f__law_pushes fd__law_pushes) (b__law_pushes : Binds K fd__law_pushes ["_law_draws_here", "_law_many"] []) (g__law_pushes : mg "_law_pushes" = some (.ref f__law_pushes)) (G__law_pushes : FnOk P w K mg base CX0 3 f__law_pushes fd__law_pushes ["_law_draws_here", "_law_many"] (sp__law_pushes K))
    (F__law_stand : Fun K "_law_stand" "_law_stand" S__law_stand f__law_stand fd__law_stand) (b__law_stand : Binds K fd__law_stand ["_law_draws_here"] []) (g__law_stand : mg "_law_stand" = some (.ref f__law_stand)) (G__law_stand : FnOk P w K mg base CX0 3 f__law_stand fd__law_stand ["_law_draws_here"] (sp__law_stand K))
    (F__law_ways : Fun K "_law_ways" "_law_ways" S__law_ways f__law_ways fd__law_ways) (b__law_ways : Binds K fd__law_ways ["_law_draws_here", "_law_many"] []) (g__law_ways : mg "_law_ways" = some (.ref f__law_ways)) (G__law_ways : FnOk P w K mg base CX0 2 f__law_ways fd__law_ways ["_law_draws_here", "_law_many"] (sp__law_ways K))
    (F__law_pairs : Fun K "_law_pairs" "_law_pairs" S__law_pairs f__law_pairs fd__law_pairs) (b__law_pairs : Binds K fd__law_pairs ["_law_draws_here", "_law_many"] []) (g__law_pairs : mg "_law_pairs" = some (.ref f__law_pairs)) (G__law_pairs : FnOk P w K mg base CX0 4 f__law_pairs fd__law_pairs ["_law_draws_here", "_law_many"] (sp__law_pairs K)) (m_range : mg "range" = none) (m_max : mg "max" = none) :
    FnOk P w K mg base CX0 21 f fd ["_law_draws_here"] (sp__law_answer K) := by
  refine F.ok sc__law_answer (fun vs H Q E h => ?_) (fun cdv A outer s H vs Q E hr h => ?_)
  ·
    obtain ⟨D, c, rfl, _⟩ := h
    rfl
  ·
    obtain ⟨D, c, rfl, hD, hc, q⟩ := h
    refine ⟨_, (pss_cons (ps_set (i := 1) sc__law_answer.nd rfl (.inl rfl) (pe_op op_mod (pe_call G__law_next (hr.mono (by decide)) (by rfl) g__law_next F__law_next.kp b__law_next .nil pass0 (pa_cons (pv 0) pa_nil)) pe_int))
      (pss_cons (ps_if (pt_cmpR op_eq (pv 1) pe_int (nomark _)) (pss_one (ps_ret (pe_tup (pa_cons pe_str (pa_cons (pe_call G__law_pairs (hr.mono (by decide)) (by rfl) g__law_pairs F__law_pairs.kp b__law_pairs .nil pass0 (pa_cons (pv 0) (pa_cons pe_int pa_nil))) pa_nil))))) pss_nil)
      (pss_cons (ps_if (pt_cmpR op_eq (pv 1) pe_int (nomark _)) (pss_one (ps_ret (pe_tup (pa_cons pe_str (pa_cons (pe_call G__law_ways (hr.mono (by decide)) (by rfl) g__law_ways F__law_ways.kp b__law_ways .nil pass0 (pa_cons (pv 0) (pa_cons pe_int pa_nil))) pa_nil))))) pss_nil)
      (pss_cons (ps_if (pt_cmpR op_eq (pv 1) pe_int (nomark _)) (pss_one (ps_ret (pe_tup (pa_cons pe_str (pa_cons (pe_lc (own := [("_law_k", 5)]) (g := gName 5)  rfl sc__law_answer.nd  (pi_range1 (by rfl) m_range (pa_cons (pe_op op_mod (pe_call G__law_next (hr.mono (by decide)) (by rfl) g__law_next F__law_next.kp b__law_next .nil pass0 (pa_cons (pv 0) pa_nil)) pe_int) pa_nil)) (blkOk_by (own := [("_law_k", 5)]) (N := ["_law_draws_here", "_law_way", "_law_numbers", "_law_marks", "_law_teeth", "_law_k"]) (sc := defScope S__law_answer) (by decide +kernel)) (fun _ _ _ _ _ => pg_name (i := 5) sc__law_answer.nd rfl (Or.inl rfl)) (fun _ _ _ _ _ => pts_nil) (fun _ _ _ _ _ => (pe_call G__law_stand (hr.mono (by decide)) (by rfl) g__law_stand F__law_stand.kp b__law_stand .nil pass0 (pa_cons (pv 0) pa_nil)))) pa_nil))))) pss_nil)
      (pss_cons (ps_if (pt_cmpR op_lt (pv 1) pe_int (nomark _)) (pss_cons (ps_setLc (i := 2) (own := [("_law_k", 5)]) (g := gName 5)  rfl sc__law_answer.nd rfl rfl (sw_true rfl rfl rfl (by decide +kernel)) (pi_range1 (by rfl) m_range (pa_cons (pe_op op_mod (pe_call G__law_next (hr.mono (by decide)) (by rfl) g__law_next F__law_next.kp b__law_next .nil pass0 (pa_cons (pv 0) pa_nil)) pe_int) pa_nil)) (blkOk_by (own := [("_law_k", 5)]) (N := ["_law_draws_here", "_law_way", "_law_numbers", "_law_marks", "_law_teeth", "_law_k"]) (sc := defScope S__law_answer) (by decide +kernel)) (fun _ _ _ _ _ => pg_name (i := 5) sc__law_answer.nd rfl (Or.inl rfl)) (fun _ _ _ _ _ => pts_nil) (fun _ _ _ _ _ => (pe_tup (pa_cons (pe_call G__law_stand (hr.mono (by decide)) (by rfl) g__law_stand F__law_stand.kp b__law_stand .nil pass0 (pa_cons (pv 0) pa_nil)) (pa_cons (pe_call G__law_number (hr.mono (by decide)) (by rfl) g__law_number F__law_number.kp b__law_number .nil pass0 (pa_cons (pv 0) pa_nil)) pa_nil)))))
      (pss_one (ps_ret (pe_tup (pa_cons pe_str (pa_cons (pe_callE (R := (fun (f : Addr) (sp : Sp) => (f = f__law_pushes ∧ sp = (sp__law_pushes K)) ∨ (fun (f : Addr) (sp : Sp) => (f = f__law_row ∧ sp = (sp__law_row K)) ∨ (fun (_ : Addr) (_ : Sp) => False) f sp) f sp)) (held_cons (held_at (k := 20) G__law_pushes (by decide) F__law_pushes.kp b__law_pushes) (held_cons (held_at (k := 20) G__law_row (by decide) F__law_row.kp b__law_row) held_nil)) (hr.mono (by decide)) (pe_ix (r := rIxL K) ix_list (pe_lst (pa_cons (pe_glob (v := .ref f__law_pushes) (by rfl) g__law_pushes rfl) (pa_cons (pe_glob (v := .ref f__law_row) (by rfl) g__law_row rfl) pa_nil))) (pe_op op_sub (pv 1) pe_int) (fun _ _ => rfl)) (pa_cons (pv 0) (pa_cons pe_int pa_nil))) (pa_cons (pv 2) pa_nil))))))) pss_nil)
      (pss_cons (ps_if (pt_cmpR op_eq (pv 1) pe_int (nomark _)) (pss_cons (ps_set (i := 3) sc__law_answer.nd rfl (.inl rfl) (pe_call G__law_rising (hr.mono (by decide)) (by rfl) g__law_rising F__law_rising.kp b__law_rising .nil pass0 (pa_cons (pv 0) (pa_cons pe_int pa_nil))))
      (pss_cons (ps_set (i := 4) sc__law_answer.nd rfl (.inl rfl) (pe_op op_add (pe_op op_add (pe_callB (r := rMaxN K) (cr_maxN rfl hr.units) (by rfl) m_max (by decide +kernel) (pa_cons (pe_op (r := rCatA K) op_catA (pe_tup (pa_cons pe_int pa_nil)) (pv 3)) pa_nil)) pe_int) (pe_op op_mod (pe_call G__law_next (hr.mono (by decide)) (by rfl) g__law_next F__law_next.kp b__law_next .nil pass0 (pa_cons (pv 0) pa_nil)) pe_int)))
      (pss_one (ps_ret (pe_tup (pa_cons pe_str (pa_cons (pv 4) (pa_cons (pv 3) (pa_cons (pe_lc (own := [("_law_k", 5)]) (g := gName 5)  rfl sc__law_answer.nd  (pi_range1 (by rfl) m_range (pa_cons (pe_op op_mod (pe_call G__law_next (hr.mono (by decide)) (by rfl) g__law_next F__law_next.kp b__law_next .nil pass0 (pa_cons (pv 0) pa_nil)) pe_int) pa_nil)) (blkOk_by (own := [("_law_k", 5)]) (N := ["_law_draws_here", "_law_way", "_law_numbers", "_law_marks", "_law_teeth", "_law_k"]) (sc := defScope S__law_answer) (by decide +kernel)) (fun _ _ _ _ _ => pg_name (i := 5) sc__law_answer.nd rfl (Or.inl rfl)) (fun _ _ _ _ _ => pts_nil) (fun _ _ _ _ _ => (pe_tup (pa_cons (pe_call G__law_number (hr.mono (by decide)) (by rfl) g__law_number F__law_number.kp b__law_number .nil pass0 (pa_cons (pv 0) pa_nil)) (pa_cons (pe_call G__law_number (hr.mono (by decide)) (by rfl) g__law_number F__law_number.kp b__law_number .nil pass0 (pa_cons (pv 0) pa_nil)) pa_nil))))) pa_nil))))))))) pss_nil)
      (pss_one (ps_ret (pe_tup (pa_cons pe_str (pa_cons (pe_call G__law_number (hr.mono (by decide)) (by rfl) g__law_number F__law_number.kp b__law_number .nil pass0 (pa_cons (pv 0) pa_nil)) (pa_cons (pe_call G__law_number (hr.mono (by decide)) (by rfl) g__law_number F__law_number.kp b__law_number .nil pass0 (pa_cons (pv 0) pa_nil)) pa_nil)))))))))))), ?_⟩
    refine w_st (σ' := [some (.ref D), none, none, none, none, none]) rfl ?_
    walk_at "ct"
    refine ⟨D, c, rfl, hD, by omega, fun n1 _ _ => ?_⟩
    have d1 := (Dr.refl hD).next (c + 1)
    generalize upd H D _ = H1 at *
    walk_at "ct"
    refine w_mod (by decide) fun way w0 w7 => ?_
    walk_at "ct"
    refine w_ite (fun e => ?_) (fun e => ?_)
    · walk_at "ct"
      refine ⟨D, c + 1, 5, rfl, d1.2, by omega, by decide, by decide, fun l xs ds ts c2 H2 d2 c2b n_l h_l dx prs tl => ?_⟩
      walk_at "ct"
      refine ⟨len2 rfl, fun r n_r => ?_⟩
      generalize h_G : upd _ r _ = G
      obtain ⟨s_G, e_r⟩ := Ct.upd_new h_G n_r
      clear h_G
      have dl := Paired.length prs
      exact q _ _ _ c2 G ((d1.trans d2).same s_G) (by omega) (toldR_one e_r (s_G _ _ h_l) (d1.free n_l) (dpAll_same s_G dx) (tdt_of (fun h => (pairA_fact h).2.2.2) prs)) (.inl ⟨ds, ts, prs, by omega, rfl, rfl⟩) (few_one (by omega))
    walk_at "ct"
    refine w_ite (fun e1 => ?_) (fun e1 => ?_)
    · walk_at "ct"
      refine ⟨D, c + 1, 12, rfl, d1.2, by omega, by decide, by decide, fun l ws c2 H2 d2 c2b n_l h_l sg wl => ?_⟩
      walk_at "ct"
      refine ⟨len2 rfl, fun r n_r => ?_⟩
      generalize h_G : upd _ r _ = G
      obtain ⟨s_G, e_r⟩ := Ct.upd_new h_G n_r
      clear h_G
      exact q _ _ _ c2 G ((d1.trans d2).same s_G) (by omega) (toldR_one e_r (s_G _ _ h_l) (d1.free n_l) (dpAll_ints ws) fun e he => by
        obtain ⟨i, _, rfl⟩ := List.mem_map.mp he
        exact .int i) (.inr (.inl ⟨ws, sg, by omega, rfl, rfl⟩)) (few_one (by rw [List.length_map]; omega))
    walk_at "ct"
    refine w_ite (fun e2 => ?_) (fun e2 => ?_)
    · walk_at "ct"
      refine ⟨D, c + 1, rfl, d1.2, by omega, fun n2 _ _ => ?_⟩
      have d2 := d1.next (c + 2)
      generalize upd H1 D _ = H2 at *
      walk_at "ct"
      refine w_mod (by decide) fun r r0 r1 => ?_
      walk_at "ct"
      refine w_RG1 (by omega) (by omega) ?_
      refine lb_range (fun A i G => ∃ (xs : List V) (ds : List PyData) (ts : List (List Nat)) (c' : Nat), Dr D c' H2 G ∧ c' ≤ c + 2 + 200 * i ∧ G A = some (.lst xs) ∧ DpAll K G xs ds ∧ Paired StandA ds ts ∧ ts.length = i) (fun A nA => ⟨[], [], [], c + 2, (Dr.refl d2.2).same (same_upd nA), by omega, upd_same, .nil, .nil, rfl⟩) ?_ ?_
      · rintro A nA i G hi ⟨xs, ds, ts, c', dG, cb, hA, hd, pr, tl⟩
        walk_at "ct"
        refine ⟨rfl, ?_⟩
        walk_at "ct"
        refine ⟨D, c', rfl, dG.2, by omega, fun p1 ns1 c1 G1 g1 c1b h1 nn1 hn1 nl1 => ?_⟩
        have hA1 := g1.at dG.2 hA
        have d3 := dG.trans g1
        have hd1 := g1.all dG.2 hd
        have xl : xs.length = i := by rw [dpAll_len hd, Paired.length pr, tl]
        have pa : StandA (.tuple ((ns1.map fun n : Nat => (n : Int)).map PyData.int)) (jN 47 ns1) := ⟨ns1, rfl, nn1, hn1, nl1, rfl⟩
        refine ⟨xs, hA1, small1000 (by omega), xs ++ [.ref p1], ds ++ [_], ts ++ [_], c1, d3.put nA hA1, by omega, upd_same, ?_, paired_appT pr (.cons pa .nil), by rw [List.length_append, tl]; rfl⟩
        refine dpAll_updT hA1 (tdT_of fun z hz => ?_) (dpAll_app hd1 (.cons (standA_dp (.of h1)) .nil))
        rcases List.mem_append.mp hz with hz | hz
        · exact tdt_of (fun h => (standA_fact h).2.2.2) pr z hz
        · rw [List.mem_singleton.mp hz]
          exact (standA_fact pa).2.2.2
      rintro A nA G ⟨xs, ds, ts, c', dG, cb, hA, hd, pr, tl⟩
      walk_at "ct"
      refine ⟨len2 rfl, fun u n_u => ?_⟩
      generalize h_G3 : upd _ u _ = G3
      obtain ⟨s_G3, e_u⟩ := Ct.upd_new h_G3 n_u
      clear h_G3
      have dl := Paired.length pr
      exact q _ _ _ c' G3 ((d2.trans dG).same s_G3) (by omega) (toldR_one e_u (s_G3 _ _ hA) (d2.free nA) (dpAll_same s_G3 hd) (tdt_of (fun h => (standA_fact h).2.2.2) pr)) (.inr (.inr (.inr (.inl ⟨ds, ts, pr, by omega, rfl, rfl⟩)))) (few_one (by omega))
    walk_at "ct"
    refine w_ite (fun e3 => ?_) (fun e3 => ?_)
    · walk_at "ct"
      refine ⟨D, c + 1, rfl, d1.2, by omega, fun n2 _ _ => ?_⟩
      have d2 := d1.next (c + 2)
      generalize upd H1 D _ = H2 at *
      walk_at "ct"
      refine w_mod (by decide) fun r r0 r1 => ?_
      walk_at "ct"
      refine w_RG1 (by omega) (by omega) ?_
      refine lb_range (fun A i G => ∃ (xs : List V) (ds : List PyData) (ts : List (List Nat)) (c' : Nat), Dr D c' H2 G ∧ c' ≤ c + 2 + 200 * i ∧ G A = some (.lst xs) ∧ DpAll K G xs ds ∧ Paired NumbA ds ts ∧ ts.length = i) (fun A nA => ⟨[], [], [], c + 2, (Dr.refl d2.2).same (same_upd nA), by omega, upd_same, .nil, .nil, rfl⟩) ?_ ?_
      · rintro A nA i G hi ⟨xs, ds, ts, c', dG, cb, hA, hd, pr, tl⟩
        walk_at "ct"
        refine ⟨rfl, ?_⟩
        walk_at "ct"
        refine ⟨D, c', rfl, dG.2, by omega, fun p1 ns1 c1 G1 g1 c1b h1 nn1 hn1 nl1 => ?_⟩
        walk_at "ct"
        refine ⟨D, c1, rfl, g1.2, by omega, fun n3 c2 G2 g2 c2b n3b => ?_⟩
        walk_at "ct"
        refine ⟨len2 rfl, fun t n_t => ?_⟩
        generalize h_G3 : upd _ t _ = G3
        obtain ⟨s_G3, e_t⟩ := Ct.upd_new h_G3 n_t
        clear h_G3
        have g12 := g1.trans g2
        have hA3 := s_G3 _ _ (g12.at dG.2 hA)
        have d3 := (dG.trans g12).same s_G3
        have hd3 := dpAll_same s_G3 (g12.all dG.2 hd)
        have xl : xs.length = i := by rw [dpAll_len hd, Paired.length pr, tl]
        have pa : NumbA (.tuple [.tuple ((ns1.map fun n : Nat => (n : Int)).map PyData.int), .int (n3 : Int)]) (jN 47 ns1 ++ 58 :: nL n3) := ⟨_, _, n3, ⟨ns1, rfl, nn1, hn1, nl1, rfl⟩, n3b, rfl, rfl⟩
        refine ⟨xs, hA3, small1000 (by omega), xs ++ [.ref t], ds ++ [_], ts ++ [_], c2, d3.put nA hA3, by omega, upd_same, ?_, paired_appT pr (.cons pa .nil), by rw [List.length_append, tl]; rfl⟩
        refine dpAll_updT hA3 (tdT_of fun z hz => ?_) (dpAll_app hd3 (.cons (.tup (.of e_t) (.cons (standA_dp (.of (s_G3 _ _ (g2.at g1.2 h1)))) (.cons (.int _) .nil))) .nil))
        rcases List.mem_append.mp hz with hz | hz
        · exact tdt_of (fun h => (numbA_fact h).2.2.2) pr z hz
        · rw [List.mem_singleton.mp hz]
          exact (numbA_fact pa).2.2.2
      rintro A nA G ⟨xs, ds, ts, c', dG, cb, hA, hd, pr, tl⟩
      have dl := Paired.length pr
      walk_at "ct"
      refine ⟨len2 rfl, fun fs n_fs => ?_⟩
      generalize h_G3 : upd _ fs _ = G3
      obtain ⟨s_G3, e_fs⟩ := Ct.upd_new h_G3 n_fs
      clear h_G3
      have d3 := (d2.trans dG).same s_G3
      walk_at "ct"
      obtain ⟨k, hk⟩ : ∃ k : Nat, way - 3 = (k : Int) := ⟨(way - 3).toNat, by omega⟩
      rw [hk]
      have k01 : k = 0 ∨ k = 1 := by omega
      obtain ⟨f1, sp1, at1_, r1, use1⟩ : ∃ (f1 : Addr) (sp1 : Sp), atI [V.ref f__law_pushes, .ref f__law_row] (k : Int) = some (.ref f1) ∧ ((f1 = f__law_pushes ∧ sp1 = sp__law_pushes K) ∨ (f1 = f__law_row ∧ sp1 = sp__law_row K) ∨ False) ∧ ∀ (J : Hp) (Q1 : VK) (c : Nat), J D = some (DrO D c) → c ≤ 800000 → (∀ l xs (ds : List PyData) (ts : List (List Nat)) c' H', Dr D c' J H' → c' ≤ c + 1 + 21 * 7 → J l = none → H' l = some (.lst xs) → DpAll K H' xs ds → ElsT (1 - k) ds ts → xs.length < 7 → Q1 (.ref l) H') → sp1 [.ref D, .int 7] J Q1 L2.E0 := by
        rcases k01 with rfl | rfl
        · exact ⟨_, _, rfl, .inl ⟨rfl, rfl⟩, fun J Q1 c h1 h2 q1 => ⟨D, c, 7, rfl, h1, h2, by decide, by decide, q1⟩⟩
        · exact ⟨_, _, rfl, .inr (.inl ⟨rfl, rfl⟩), fun J Q1 c h1 h2 q1 => ⟨D, c, 7, rfl, h1, h2, by decide, by decide, q1⟩⟩
      refine w_ixL (.of e_fs) at1_ ?_
      refine ⟨f1, sp1, rfl, r1, ?_⟩
      walk_at "ct"
      refine use1 G3 _ c' d3.2 (by omega) fun l ys es us c4 G4 d4 c4b n_l h_l dy els yl => ?_
      walk_at "ct"
      refine ⟨len2 rfl, fun u n_u => ?_⟩
      generalize h_G5 : upd _ u _ = G5
      obtain ⟨s_G5, e_u⟩ := Ct.upd_new h_G5 n_u
      clear h_G5
      have hA5 := s_G5 _ _ (d4.at d3.2 (s_G3 _ _ hA))
      have hd5 := dpAll_same s_G5 (d4.all d3.2 (dpAll_same s_G3 hd))
      have el := Paired.length els
      have yl2 := dpAll_len dy
      refine q _ _ _ c4 G5 ((d3.trans d4).same s_G5) (by omega) (toldR_two e_u (s_G5 _ _ h_l) hA5 (d3.free n_l) (d2.free nA) (fun z => by rw [← z, s_G3 _ _ hA] at n_l; cases n_l) (dpAll_same s_G5 dy) (elsT_tdT els) hd5 (tdt_of (fun h => (numbA_fact h).2.2.2) pr)) (.inr (.inr (.inl ⟨1 - k, es, us, ds, ts, by omega, els, by omega, pr, by omega, rfl, rfl⟩))) (few_two (by omega) (by omega))
    walk_at "ct"
    refine w_ite (fun e4 => ?_) (fun e4 => ?_)
    · walk_at "ct"
      refine ⟨D, c + 1, 6, rfl, d1.2, by omega, by decide, by decide, fun p ns c3 H3 e3 c3b hp pw nb nl => ?_⟩
      have d3 := d1.trans e3
      walk_at "ct"
      refine ⟨len2 rfl, fun z0 n_z0 => ?_⟩
      generalize h_H4 : upd _ z0 _ = H4
      obtain ⟨s_H4, e_z0⟩ := Ct.upd_new h_H4 n_z0
      clear h_H4
      have hp4 := s_H4 _ _ hp
      walk_at "ct"
      refine w_catA (.of e_z0) (.of hp4) (by rw [List.length_map]; show 1 + _ ≤ _; omega) fun u H5 s5 hu => ?_
      walk_at "ct"
      have hu2 : SqT K H5 u (((0 : Int) :: ns.map fun n : Nat => (n : Int)).map V.int) := by rw [List.map_cons, map_toInt]; exact hu
      refine ⟨u, 0, _, rfl, hu2, ?_⟩
      obtain ⟨f0, f1, f2⟩ := foldl_maxN (ns.map fun n : Nat => (n : Int)) 0
      obtain ⟨top, htop⟩ : ∃ top, (ns.map fun n : Nat => (n : Int)).foldl max 0 = top := ⟨_, rfl⟩
      rw [htop] at f0 f1 f2 ⊢
      have b28 : 31 * M28 + 10 < M40 := by decide
      have tb : top < ((31 * M28 : Nat) : Int) := by
        rcases f2 with f2 | f2
        · rw [f2]; decide
        · obtain ⟨n, hn, rfl⟩ := List.mem_map.mp f2
          have := nb n hn
          omega
      have d5 := (d3.same s_H4).same s5
      walk_at "ct"
      refine ⟨D, c3, rfl, d5.2, by omega, fun n2 _ _ => ?_⟩
      have hp6 := (Dr.step d5.2 (c3 + 1)).at d5.2 (s5 _ _ hp4)
      have d6 := d5.trans (Dr.step d5.2 (c3 + 1))
      generalize upd H5 D _ = H6 at *
      walk_at "ct"
      refine w_mod (by decide) fun r3 r30 r31 => ?_
      walk_at "ct"
      obtain ⟨z, hz⟩ : ∃ z : Nat, top + 1 + r3 = (z : Int) := ⟨(top + 1 + r3).toNat, by omega⟩
      rw [hz]
      have bz : ∀ n ∈ ns, n < z := fun n hn => by
        have := f1 (n : Int) (List.mem_map.mpr ⟨n, hn, rfl⟩)
        omega
      have ps := wheelS pw bz (by omega) (show z < M40 by omega) (by omega)
      refine ⟨D, c3 + 1, rfl, d6.2, by omega, fun n3 _ _ => ?_⟩
      have hp7 := (Dr.step d6.2 (c3 + 2)).at d6.2 hp6
      have d7 := d6.trans (Dr.step d6.2 (c3 + 2))
      generalize upd H6 D _ = H7 at *
      walk_at "ct"
      refine w_mod (by decide) fun r r0 r1 => ?_
      walk_at "ct"
      refine w_RG1 (by omega) (by omega) ?_
      refine lb_range (fun A i G => ∃ (xs : List V) (ds : List PyData) (ts : List (List Nat)) (c' : Nat), Dr D c' H7 G ∧ c' ≤ c3 + 2 + 200 * i ∧ G A = some (.lst xs) ∧ DpAll K G xs ds ∧ Paired BarA ds ts ∧ ts.length = i) (fun A nA => ⟨[], [], [], c3 + 2, (Dr.refl d7.2).same (same_upd nA), by omega, upd_same, .nil, .nil, rfl⟩) ?_ ?_
      · rintro A nA i G hi ⟨xs, ds, ts, c', dG, cb, hA, hd, pr, tl⟩
        walk_at "ct"
        refine ⟨rfl, ?_⟩
        walk_at "ct"
        refine ⟨D, c', rfl, dG.2, by omega, fun j c1 G1 g1 c1b jb => ?_⟩
        walk_at "ct"
        refine ⟨D, c1, rfl, g1.2, by omega, fun k c2 G2 g2 c2b kb => ?_⟩
        walk_at "ct"
        refine ⟨len2 rfl, fun t n_t => ?_⟩
        generalize h_G3 : upd _ t _ = G3
        obtain ⟨s_G3, e_t⟩ := Ct.upd_new h_G3 n_t
        clear h_G3
        have g12 := g1.trans g2
        have hA3 := s_G3 _ _ (g12.at dG.2 hA)
        have d3 := (dG.trans g12).same s_G3
        have hd3 := dpAll_same s_G3 (g12.all dG.2 hd)
        have xl : xs.length = i := by rw [dpAll_len hd, Paired.length pr, tl]
        have pa : BarA (.tuple [.int (j : Int), .int (k : Int)]) (jN 126 [j, k]) := ⟨j, k, jb, kb, rfl, rfl⟩
        refine ⟨xs, hA3, small1000 (by omega), xs ++ [.ref t], ds ++ [_], ts ++ [_], c2, d3.put nA hA3, by omega, upd_same, ?_, paired_appT pr (.cons pa .nil), by rw [List.length_append, tl]; rfl⟩
        refine dpAll_updT hA3 (tdT_of fun z hz => ?_) (dpAll_app hd3 (.cons (.tup (.of e_t) (dpAll_ints [(j : Int), (k : Int)])) .nil))
        rcases List.mem_append.mp hz with hz | hz
        · exact tdt_of (fun h => (barA_fact h).2.2.2) pr z hz
        · rw [List.mem_singleton.mp hz]
          exact (barA_fact pa).2.2.2
      rintro A nA G ⟨xs, ds, ts, c', dG, cb, hA, hd, pr, tl⟩
      have dl := Paired.length pr
      walk_at "ct"
      refine ⟨len2 rfl, fun v n_v => ?_⟩
      generalize h_G8 : upd _ v _ = G8
      obtain ⟨s_G8, e_v⟩ := Ct.upd_new h_G8 n_v
      clear h_G8
      have hp8 := s_G8 _ _ (dG.at d7.2 hp7)
      exact q _ _ _ c' G8 ((d7.trans dG).same s_G8) (by omega) (toldR_wheel e_v (.of (by rw [map_toInt]; exact hp8)) (s_G8 _ _ hA) (d7.free nA) (dpAll_same s_G8 hd) (tdt_of (fun h => (barA_fact h).2.2.2) pr)) (.inr (.inr (.inr (.inr (.inl ⟨z, ns, _, ds, ts, ps, pr, by omega, rfl, rfl⟩))))) (few_wheel (by omega))
    walk_at "ct"
    refine ⟨D, c + 1, rfl, d1.2, by omega, fun j c2 H2 g1 c2b jb => ?_⟩
    walk_at "ct"
    refine ⟨D, c2, rfl, g1.2, by omega, fun k c3 H3 g2 c3b kb => ?_⟩
    walk_at "ct"
    refine ⟨len2 rfl, fun v n_v => ?_⟩
    generalize h_G : upd _ v _ = G
    obtain ⟨s_G, e_v⟩ := Ct.upd_new h_G n_v
    clear h_G
    exact q _ _ _ c3 G ((d1.trans (g1.trans g2)).same s_G) (by omega) (toldR_none e_v) (.inr (.inr (.inr (.inr (.inr ⟨j, k, jb, kb, rfl, rfl⟩))))) few_none
abbrev S__law_part_text : Stmt := topS 57
theorem sc__law_part_text : FnScope ["_law_part", "_law_one", "_law_mark"] ["_law_part"] (defScope S__law_part_text) := ⟨rfl, rfl, rfl, by decide +kernel, rfl, by decide +kernel, by decide +kernel⟩
def sp__law_part_text (K : PySem.W.Frag) : Sp := fun vs H Q _ => ∃ (v : V) (p : Part) (t : List Nat), vs = [v] ∧ Dp K H v p.data ∧ PartS p t ∧ ∀ H', Same H H' → Q (.str (tx t)) H'
theorem ok__law_part_text {f : Addr} {fd : FuncData} (F : Fun K "_law_part_text" "_law_part_text" S__law_part_text f fd) (m_str : mg "str" = none) :
    FnOk P w K mg base CX0 1 f fd ["_law_part"] (sp__law_part_text K) := by
  refine F.ok sc__law_part_text (fun vs H Q E h => ?_) (fun cdv A outer s H vs Q E hr h => ?_)
  ·
    obtain ⟨v, p, t, rfl, _⟩ := h
    rfl
  ·
    obtain ⟨v, p, t, rfl, hv, hp, q⟩ := h
    refine ⟨_, (pss_cons (ps_if (pt_cmpR op_eq (pe_ix (r := rIxT K) ix_tup (pv 0) pe_int (fun _ _ => rfl)) pe_str (nomark _)) (pss_one (ps_ret (pe_op (r := rAddS) op_addS (pe_op (r := rAddS) op_addS (pe_op (r := rAddS) op_addS pe_str (pe_callTy (r := rStrI) call_strI (by rfl) m_str (by decide +kernel) (pa_cons (pe_ix (r := rIxT K) ix_tup (pv 0) pe_int (fun _ _ => rfl)) pa_nil))) pe_str) (pe_join pe_str (pe_lc (own := [("_law_mark", 2)]) (g := gName 2)  rfl sc__law_part_text.nd  (pi_tup (pe_ix (r := rIxT K) ix_tup (pv 0) pe_int (fun _ _ => rfl))) (blkOk_by (own := [("_law_mark", 2)]) (N := ["_law_part", "_law_one", "_law_mark"]) (sc := defScope S__law_part_text) (by decide +kernel)) (fun _ _ _ _ _ => pg_name (i := 2) sc__law_part_text.nd rfl (Or.inl rfl)) (fun _ _ _ _ _ => pts_nil) (fun _ _ _ _ _ => (pe_callTy (r := rStrI) call_strI (by rfl) m_str (by decide +kernel) (pa_cons (pv 2) pa_nil)))))))) pss_nil)
      (pss_one (ps_ret (pe_op (r := rAddS) op_addS (pe_ix (r := rIxL K) ix_list (pe_lst (pa_cons pe_str (pa_cons pe_str (pa_cons pe_str pa_nil)))) (pe_bm PySem.F.plainAttrs_list PySem.F.slot_list_index PySem.F.type_list_index (mt_indexD (units65 hr)) (pe_lst (pa_cons pe_str (pa_cons pe_str (pa_cons pe_str pa_nil)))) (pa_cons (pe_ix (r := rIxT K) ix_tup (pv 0) pe_int (fun _ _ => rfl)) pa_nil)) (fun _ _ => rfl)) (pe_join pe_str (pe_lc (own := [("_law_one", 1)]) (g := gName 1)  rfl sc__law_part_text.nd  (pi_tup (pe_slice (r := rSlA K) sl_tupA (pv 0) (po_some pe_int) po_none)) (blkOk_by (own := [("_law_one", 1)]) (N := ["_law_part", "_law_one", "_law_mark"]) (sc := defScope S__law_part_text) (by decide +kernel)) (fun _ _ _ _ _ => pg_name (i := 1) sc__law_part_text.nd rfl (Or.inl rfl)) (fun _ _ _ _ _ => pts_nil) (fun _ _ _ _ _ => (pe_callTy (r := rStrI) call_strI (by rfl) m_str (by decide +kernel) (pa_cons (pv 1) pa_nil))))))))), ?_⟩
    refine w_st (σ' := [some v, none, none]) rfl ?_
    rcases hp.2 with ⟨z, ns, rfl, hz, hn, nl, rfl⟩ | ⟨rfl, rfl⟩ | ⟨rfl, rfl⟩ | ⟨k, rfl, hk, rfl⟩
    · obtain ⟨a, b, rfl, hs, hb⟩ := wheel_inv hv
      have hb : SqT K H b (ns.map fun n : Nat => V.int (n : Int)) := by rw [← map_toInt]; exact hb
      have l1 := nL_len hz
      have l2 := jN_len (s := 44) hn
      walk_at "ct"
      refine w_strI (Nat.lt_trans hz (by decide)) ?_
      rw [tx_of "w"]
      refine w_addS (a := [119]) (by show 1 + _ ≤ _; omega) ?_
      walk_at "ct"
      rw [tx_of ":"]
      refine w_addS (b := [58]) (by show ([119] ++ nL z).length + 1 ≤ _; rw [List.length_append]; show 1 + _ + 1 ≤ _; omega) ?_
      walk_at "ct"
      refine ⟨⟨_, rfl⟩, ?_⟩
      walk_at "ct"
      refine w_IT hb ?_
      refine lb_tup (ns.map fun n : Nat => V.int (n : Int)) (fun D i J => Same H J ∧ J D = some (.lst ((ns.take i).map fun n : Nat => V.str (tx (nL n))))) (fun D nD => ⟨same_upd nD, upd_same⟩) (fun D nD i J _ h => Same.tup h.1 hb) ?_ ?_
      · rintro D nD i x J hx ⟨sJ, hD⟩
        obtain ⟨n, hi, rfl⟩ := map_getN hx
        walk_at "ct"
        refine ⟨rfl, ?_⟩
        walk_at "ct"
        refine w_strI (Nat.lt_trans (hn n (List.mem_of_getElem? hi)) (by decide)) ?_
        refine ⟨_, hD, by rw [List.length_map, List.length_take]; exact Nat.lt_of_le_of_lt (show _ ≤ 2000 by omega) (by decide), same_new sJ nD, ?_⟩
        rw [upd_same, take_succN _ hi]
      rintro D nD J ⟨sJ, hD⟩
      rw [List.length_map, List.take_length] at hD
      have hD2 : J D = some (.lst (((ns.map nL).map tx).map V.str)) := by rw [hD, List.map_map, List.map_map]; rfl
      refine ⟨_, D, _, rfl, rfl, .inl (.of hD2), fitN hn (by omega) (by decide), ?_⟩
      rw [joinT "," (sep := [44]) (by decide)]

      refine w_addS (by show ([119] ++ nL z ++ [58]).length + (jN 44 ns).length ≤ _; rw [List.length_append, List.length_append]; show 1 + _ + 1 + _ ≤ _; omega) ?_
      have e : [119] ++ nL z ++ [58] ++ jN 44 ns = 119 :: (nL z ++ 58 :: jN 44 ns) := by rw [List.append_assoc, List.append_assoc]; rfl
      walk_at "ct"
      rw [show [119] ++ nL z ++ [58] ++ TL.joinL [44] (ns.map nL) = _ from e]
      exact q J sJ
    · obtain ⟨a, rfl, hs⟩ := click_inv hv
      walk_at "ct"
      refine ⟨len2 rfl, fun l1 n_l1 => ?_⟩
      generalize h_G1 : upd _ l1 _ = G1
      obtain ⟨s_G1, e_l1⟩ := Ct.upd_new h_G1 n_l1
      clear h_G1
      have hs := Same.tup s_G1 hs
      walk_at "ct"
      refine ⟨len2 rfl, fun l2 n_l2 => ?_⟩
      generalize h_G2 : upd _ l2 _ = G2
      obtain ⟨s_G2, e_l2⟩ := Ct.upd_new h_G2 n_l2
      clear h_G2
      have hs := Same.tup s_G2 hs
      walk_at "ct"
      refine ⟨ty_list e_l2, ?_⟩
      walk_at "ct"
      refine ⟨l2, _, .str "click", [.str "click", .str "rocker", .str "spring"], 0, .str "click", rfl, rfl, .lst (.of e_l2) (.cons (.str _) (.cons (.str _) (.cons (.str _) .nil))), .str _, by decide +kernel, by decide +kernel, rfl, by decide +kernel, fun m z' hm hz => ?_, ?_⟩
      · omega
      refine w_ixL (.of (s_G2 _ _ e_l1)) (v := .str "c") rfl ?_
      walk_at "ct"
      refine ⟨⟨_, rfl⟩, ?_⟩
      walk_at "ct"
      refine w_slTd (n := 1) hs (by exact Nat.succ_le_succ (Nat.zero_le _)) fun g G3 s3 hg => ?_
      walk_at "ct"
      refine w_IT hg ?_
      refine lb_tup [] (fun D i J => Same G3 J ∧ J D = some (.lst [])) (fun D nD => ⟨same_upd nD, upd_same⟩) (fun D nD i J _ h => Same.tup h.1 hg) (fun D nD i x J hx _ => by cases hx) ?_
      rintro D nD J ⟨sJ, hD⟩
      refine ⟨_, D, [], rfl, rfl, .inl (.of hD), by decide, ?_⟩
      walk_at "ct"
      refine w_addS (a := [99]) (b := []) (by decide) ?_
      exact q J (((s_G1.trans s_G2).trans s3).trans sJ)
    · obtain ⟨a, rfl, hs⟩ := rocker_inv hv
      walk_at "ct"
      refine ⟨len2 rfl, fun l1 n_l1 => ?_⟩
      generalize h_G1 : upd _ l1 _ = G1
      obtain ⟨s_G1, e_l1⟩ := Ct.upd_new h_G1 n_l1
      clear h_G1
      have hs := Same.tup s_G1 hs
      walk_at "ct"
      refine ⟨len2 rfl, fun l2 n_l2 => ?_⟩
      generalize h_G2 : upd _ l2 _ = G2
      obtain ⟨s_G2, e_l2⟩ := Ct.upd_new h_G2 n_l2
      clear h_G2
      have hs := Same.tup s_G2 hs
      walk_at "ct"
      refine ⟨ty_list e_l2, ?_⟩
      walk_at "ct"
      refine ⟨l2, _, .str "rocker", [.str "click", .str "rocker", .str "spring"], 1, .str "rocker", rfl, rfl, .lst (.of e_l2) (.cons (.str _) (.cons (.str _) (.cons (.str _) .nil))), .str _, by decide +kernel, by decide +kernel, rfl, by decide +kernel, fun m z' hm hz => ?_, ?_⟩
      · have : m = 0 := by omega
        subst this
        cases Option.some.inj hz
        decide +kernel
      refine w_ixL (.of (s_G2 _ _ e_l1)) (v := .str "r") rfl ?_
      walk_at "ct"
      refine ⟨⟨_, rfl⟩, ?_⟩
      walk_at "ct"
      refine w_slTd (n := 1) hs (by exact Nat.succ_le_succ (Nat.zero_le _)) fun g G3 s3 hg => ?_
      walk_at "ct"
      refine w_IT hg ?_
      refine lb_tup [] (fun D i J => Same G3 J ∧ J D = some (.lst [])) (fun D nD => ⟨same_upd nD, upd_same⟩) (fun D nD i J _ h => Same.tup h.1 hg) (fun D nD i x J hx _ => by cases hx) ?_
      rintro D nD J ⟨sJ, hD⟩
      refine ⟨_, D, [], rfl, rfl, .inl (.of hD), by decide, ?_⟩
      walk_at "ct"
      refine w_addS (a := [114]) (b := []) (by decide) ?_
      exact q J (((s_G1.trans s_G2).trans s3).trans sJ)
    · obtain ⟨a, rfl, hs⟩ := spring_inv hv
      walk_at "ct"
      refine ⟨len2 rfl, fun l1 n_l1 => ?_⟩
      generalize h_G1 : upd _ l1 _ = G1
      obtain ⟨s_G1, e_l1⟩ := Ct.upd_new h_G1 n_l1
      clear h_G1
      have hs := Same.tup s_G1 hs
      walk_at "ct"
      refine ⟨len2 rfl, fun l2 n_l2 => ?_⟩
      generalize h_G2 : upd _ l2 _ = G2
      obtain ⟨s_G2, e_l2⟩ := Ct.upd_new h_G2 n_l2
      clear h_G2
      have hs := Same.tup s_G2 hs
      walk_at "ct"
      refine ⟨ty_list e_l2, ?_⟩
      walk_at "ct"
      refine ⟨l2, _, .str "spring", [.str "click", .str "rocker", .str "spring"], 2, .str "spring", rfl, rfl, .lst (.of e_l2) (.cons (.str _) (.cons (.str _) (.cons (.str _) .nil))), .str _, by decide +kernel, by decide +kernel, rfl, by decide +kernel, fun m z' hm hz => ?_, ?_⟩
      · have : m = 0 ∨ m = 1 := by omega
        rcases this with rfl | rfl
        · cases Option.some.inj hz
          decide +kernel
        · cases Option.some.inj hz
          decide +kernel
      refine w_ixL (.of (s_G2 _ _ e_l1)) (v := .str "s") rfl ?_
      walk_at "ct"
      refine ⟨⟨_, rfl⟩, ?_⟩
      walk_at "ct"
      refine w_slTd (n := 1) hs (by exact Nat.succ_le_succ (Nat.zero_le _)) fun g G3 s3 hg => ?_
      walk_at "ct"
      refine w_IT hg ?_
      have l1 := nL_len hk
      refine lb_tup [.int (k : Int)] (fun D i J => Same G3 J ∧ J D = some (.lst (if i = 0 then [] else [.str (tx (nL k))]))) (fun D nD => ⟨same_upd nD, upd_same⟩) (fun D nD i J _ h => Same.tup h.1 hg) ?_ ?_
      · rintro D nD i x J hx ⟨sJ, hD⟩
        have hi : i < 1 := (List.getElem?_eq_some_iff.mp hx).1
        have : i = 0 := by omega
        subst this
        cases Option.some.inj hx
        walk_at "ct"
        refine ⟨rfl, ?_⟩
        walk_at "ct"
        refine w_strI (Nat.lt_trans hk (by decide)) ?_
        exact ⟨[], hD, by decide, same_new sJ nD, upd_same⟩
      rintro D nD J ⟨sJ, hD⟩
      have hD : J D = some (.lst ([tx (nL k)].map V.str)) := hD
      refine ⟨_, D, [tx (nL k)], rfl, rfl, .inl (.of hD), by show (tx (nL k)).length + 0 + 1 * 0 ≤ _; rw [tx_len]; omega, ?_⟩
      rw [show [tx (nL k)] = [nL k].map tx from rfl, joinE, tx_of "s"]
      refine w_addS (a := [115]) (by show 1 + ([nL k].flatten).length ≤ _; show 1 + (nL k ++ []).length ≤ _; rw [List.append_nil]; omega) ?_
      rw [show [115] ++ [nL k].flatten = 115 :: nL k from (show 115 :: (nL k ++ []) = _ by rw [List.append_nil])]
      exact q J (((s_G1.trans s_G2).trans s3).trans sJ)
abbrev S__law_stand_text : Stmt := topS 58
theorem sc__law_stand_text : FnScope ["_law_stand_here", "_law_place"] ["_law_stand_here"] (defScope S__law_stand_text) := ⟨rfl, rfl, rfl, by decide +kernel, rfl, by decide +kernel, by decide +kernel⟩
def sp__law_stand_text (K : PySem.W.Frag) : Sp := fun vs H Q _ => ∃ (a : Addr) (ns : List Nat), vs = [.ref a] ∧ SqT K H a (ns.map fun n : Nat => V.int (n : Int)) ∧ (∀ n ∈ ns, n < M40) ∧ ns.length ≤ 30 ∧ ∀ H', Same H H' → Q (.str (tx (jN 47 ns))) H'
theorem ok__law_stand_text {f : Addr} {fd : FuncData} (F : Fun K "_law_stand_text" "_law_stand_text" S__law_stand_text f fd) (m_str : mg "str" = none) :
    FnOk P w K mg base CX0 1 f fd ["_law_stand_here"] (sp__law_stand_text K) := by
  refine F.ok sc__law_stand_text (fun vs H Q E h => ?_) (fun cdv A outer s H vs Q E hr h => ?_)
  ·
    obtain ⟨a, ns, rfl, _⟩ := h
    rfl
  ·
    obtain ⟨a, ns, rfl, hs, hn, nl, q⟩ := h
    refine ⟨_, (pss_one (ps_ret (pe_join pe_str (pe_lc (own := [("_law_place", 1)]) (g := gName 1)  rfl sc__law_stand_text.nd  (pi_tup (pv 0)) (blkOk_by (own := [("_law_place", 1)]) (N := ["_law_stand_here", "_law_place"]) (sc := defScope S__law_stand_text) (by decide +kernel)) (fun _ _ _ _ _ => pg_name (i := 1) sc__law_stand_text.nd rfl (Or.inl rfl)) (fun _ _ _ _ _ => pts_nil) (fun _ _ _ _ _ => (pe_callTy (r := rStrI) call_strI (by rfl) m_str (by decide +kernel) (pa_cons (pv 1) pa_nil))))))), ?_⟩
    refine w_st (σ' := [some (.ref a), none]) rfl ?_
    walk_at "ct"
    refine ⟨⟨_, rfl⟩, ?_⟩
    walk_at "ct"
    refine w_IT hs ?_
    refine lb_tup (ns.map fun n : Nat => V.int (n : Int)) (fun D i J => Same H J ∧ J D = some (.lst ((ns.take i).map fun n : Nat => V.str (tx (nL n))))) (fun D nD => ⟨same_upd nD, upd_same⟩) (fun D nD i J _ h => Same.tup h.1 hs) ?_ ?_
    · rintro D nD i x J hx ⟨sJ, hD⟩
      obtain ⟨n, hi, rfl⟩ := map_getN hx
      walk_at "ct"
      refine ⟨rfl, ?_⟩
      walk_at "ct"
      refine w_strI (Nat.lt_trans (hn n (List.mem_of_getElem? hi)) (by decide)) ?_
      refine ⟨_, hD, by rw [List.length_map, List.length_take]; exact Nat.lt_of_le_of_lt (show _ ≤ 2000 by omega) (by decide), same_new sJ nD, ?_⟩
      rw [upd_same, take_succN _ hi]
    rintro D nD J ⟨sJ, hD⟩
    rw [List.length_map, List.take_length] at hD
    have hD2 : J D = some (.lst (((ns.map nL).map tx).map V.str)) := by rw [hD, List.map_map, List.map_map]; rfl
    refine ⟨_, D, _, rfl, rfl, .inl (.of hD2), fitN hn (by omega) (by decide), ?_⟩
    rw [joinT "/" (sep := [47]) (by decide)]
    exact q J sJ
abbrev S__law_list_text : Stmt := topS 59
theorem sc__law_list_text : FnScope ["_law_words"] ["_law_words"] (defScope S__law_list_text) := ⟨rfl, rfl, rfl, by decide +kernel, rfl, by decide +kernel, by decide +kernel⟩
def sp__law_list_text (K : PySem.W.Frag) : Sp := fun vs H Q _ => ∃ (a : Addr) (ts : List (List Nat)), vs = [.ref a] ∧ SqL K H a ((ts.map tx).map V.str) ∧ (∀ t ∈ ts, t.length ≤ 2000 ∧ ∀ c ∈ t, c < 1000) ∧ ts.length ≤ 2000 ∧ ∀ H', Same H H' → Q (.str (tx (listT ts))) H'
theorem ok__law_list_text {f : Addr} {fd : FuncData} (F : Fun K "_law_list_text" "_law_list_text" S__law_list_text f fd) (m_int : mg "int" = none) :
    FnOk P w K mg base CX0 1 f fd ["_law_words"] (sp__law_list_text K) := by
  refine F.ok sc__law_list_text (fun vs H Q E h => ?_) (fun cdv A outer s H vs Q E hr h => ?_)
  ·
    obtain ⟨a, ts, rfl, _⟩ := h
    rfl
  ·
    obtain ⟨a, ts, rfl, ha, hts, l2, q⟩ := h
    refine ⟨_, (pss_one (ps_ret (pe_op (r := rAddS) op_addS (pe_join pe_str (pv 0)) (pe_op (r := rMulS) op_mulS pe_str (pe_callTy call_int1 (by rfl) m_int (by decide +kernel) (pa_cons (pe_cmpR (r := rEqD K) (op_eqD hr.units) (pv 0) (pe_lst pa_nil) (nomark _)) pa_nil)))))), ?_⟩
    refine w_st (σ' := [some (.ref a)]) rfl ?_
    have l1 : ∀ t ∈ ts, t.length ≤ 2000 := fun t ht => (hts t ht).1
    walk_at "ct"
    refine ⟨⟨_, rfl⟩, ?_⟩
    walk_at "ct"
    refine ⟨_, a, _, rfl, rfl, .inl ha, fitT l1 (Nat.le_succ_of_le l2) (by decide), ?_⟩
    rw [joinT " " (sep := [32]) (by decide)]
    walk_at "ct"
    refine ⟨len2 rfl, fun e0 n_e0 => ?_⟩
    generalize h_G : upd _ e0 _ = G
    obtain ⟨s_G, e_e0⟩ := Ct.upd_new h_G n_e0
    clear h_G
    refine w_emptyS (s_G.seq ha) e_e0 (fun t ht => (hts t ht).2) ?_
    walk_at "ct"
    refine .inr ⟨_, rfl, ?_⟩
    have jl := joinT_len l1
    have jl2 : (2000 + 1) * ts.length ≤ (2000 + 1) * 2000 := Nat.mul_le_mul_left _ l2
    cases ts with
    | nil =>
      refine ⟨_, _, rfl, rfl, .inr rfl, ?_⟩
      rw [tx_of]
      refine w_addS (by show 0 + 4 ≤ _; decide) ?_
      exact q G s_G
    | cons t r =>
      refine ⟨_, _, rfl, rfl, .inl rfl, ?_⟩
      refine w_addS (a := TL.joinL [32] (t :: r)) (b := []) (by show _ + 0 ≤ _; omega) ?_
      rw [List.append_nil]
      have := q G s_G
      unfold listT at this
      rw [if_neg (fun z => nomatch z)] at this
      exact this
abbrev S__law_step_text : Stmt := topS 60
theorem sc__law_step_text : FnScope ["_law_step", "_law_times"] ["_law_step"] (defScope S__law_step_text) := ⟨rfl, rfl, rfl, by decide +kernel, rfl, by decide +kernel, by decide +kernel⟩
def sp__law_step_text (K : PySem.W.Frag) : Sp := fun vs H Q _ => ∃ (a : Addr) (i : Nat) (w : Int) (rs : List Nat), vs = [.ref a] ∧ SqT K H a (.int (i : Int) :: .int w :: rs.map fun n : Nat => V.int (n : Int)) ∧ i < M40 ∧ Sign w ∧ (∀ r ∈ rs, r < M40) ∧ rs.length ≤ 1 ∧ ∀ H', Same H H' → Q (.str (tx (nL i ++ wayT w ++ (rs.map nL).flatten))) H'
theorem ok__law_step_text {f : Addr} {fd : FuncData} (F : Fun K "_law_step_text" "_law_step_text" S__law_step_text f fd) (m_str : mg "str" = none) (m_int : mg "int" = none) :
    FnOk P w K mg base CX0 1 f fd ["_law_step"] (sp__law_step_text K) := by
  refine F.ok sc__law_step_text (fun vs H Q E h => ?_) (fun cdv A outer s H vs Q E hr h => ?_)
  ·
    obtain ⟨a, i, w, rs, rfl, _⟩ := h
    rfl
  ·
    obtain ⟨a, i, w, rs, rfl, ha, hi, hw, hrs, l1, q⟩ := h
    refine ⟨_, (pss_one (ps_ret (pe_op (r := rAddS) op_addS (pe_op (r := rAddS) op_addS (pe_callTy (r := rStrI) call_strI (by rfl) m_str (by decide +kernel) (pa_cons (pe_ix (r := rIxT K) ix_tup (pv 0) pe_int (fun _ _ => rfl)) pa_nil)) (pe_ix (r := rIxS) ix_str pe_str (pe_callTy call_int1 (by rfl) m_int (by decide +kernel) (pa_cons (pe_cmpR op_lt (pe_ix (r := rIxT K) ix_tup (pv 0) pe_int (fun _ _ => rfl)) pe_int (nomark _)) pa_nil)) (fun _ _ => rfl))) (pe_join pe_str (pe_lc (own := [("_law_times", 1)]) (g := gName 1)  rfl sc__law_step_text.nd  (pi_tup (pe_slice (r := rSlA K) sl_tupA (pv 0) (po_some pe_int) po_none)) (blkOk_by (own := [("_law_times", 1)]) (N := ["_law_step", "_law_times"]) (sc := defScope S__law_step_text) (by decide +kernel)) (fun _ _ _ _ _ => pg_name (i := 1) sc__law_step_text.nd rfl (Or.inl rfl)) (fun _ _ _ _ _ => pts_nil) (fun _ _ _ _ _ => (pe_callTy (r := rStrI) call_strI (by rfl) m_str (by decide +kernel) (pa_cons (pv 1) pa_nil)))))))), ?_⟩
    refine w_st (σ' := [some (.ref a), none]) rfl ?_
    have li := nL_len hi
    have lw := wayT_len w
    walk_at "ct"
    refine w_strI (Nat.lt_trans hi (by decide)) ?_
    walk_at "ct"
    refine .inr ⟨_, rfl, ?_⟩
    refine w_waySg hw ?_
    walk_at "ct"
    refine w_addS (by omega) ?_
    walk_at "ct"
    refine ⟨⟨_, rfl⟩, ?_⟩
    walk_at "ct"
    refine w_slTd (n := 2) ha (by show 2 ≤ (rs.map _).length + 2; omega) fun p G s_G hp => ?_
    have hp : SqT K G p (rs.map fun n : Nat => V.int (n : Int)) := hp
    walk_at "ct"
    refine w_IT hp ?_
    refine lb_tup (rs.map fun n : Nat => V.int (n : Int)) (fun D j J => Same G J ∧ J D = some (.lst (((rs.map nL).take j).map fun t => V.str (tx t)))) (fun D nD => ⟨same_upd nD, upd_same⟩) (fun D nD j J _ h => Same.tup h.1 hp) ?_ ?_
    · rintro D nD j x J hx ⟨sJ, hD⟩
      rw [List.getElem?_map] at hx
      obtain ⟨r, hr, rfl⟩ := Option.map_eq_some_iff.mp hx
      have hj := (List.getElem?_eq_some_iff.mp hr).1
      walk_at "ct"
      refine ⟨rfl, ?_⟩
      walk_at "ct"
      refine w_strI (Nat.lt_trans (hrs r (List.mem_of_getElem? hr)) (by decide)) ?_
      refine ⟨_, hD, by rw [List.length_map, List.length_take, List.length_map]; exact small1000 (by omega), same_new sJ nD, ?_⟩
      rw [upd_same, List.take_add_one, List.getElem?_map, hr, List.map_append]
      rfl
    rintro D nD J ⟨sJ, hD⟩
    rw [List.length_map, List.take_of_length_le (by rw [List.length_map]; exact Nat.le_refl _)] at hD
    have hD : J D = some (.lst (((rs.map nL).map tx).map V.str)) := by rw [hD, List.map_map (f := tx)]; rfl
    have lr : ∀ t ∈ rs.map nL, t.length ≤ 2000 := fun t ht => by
      obtain ⟨r, hr, rfl⟩ := List.mem_map.mp ht
      exact Nat.le_trans (nL_len (hrs r hr)) (by decide)
    refine ⟨_, D, _, rfl, rfl, .inl (.of hD), fitT lr (by rw [List.length_map]; omega) (by decide), ?_⟩
    rw [joinE]
    have lf := flat_oneT l1 hrs
    refine w_addS (by rw [List.length_append]; omega) ?_
    exact q J (s_G.trans sJ)
abbrev S__law_steps_text : Stmt := topS 61
theorem sc__law_steps_text : FnScope ["_law_steps", "_law_step"] ["_law_steps"] (defScope S__law_steps_text) := ⟨rfl, rfl, rfl, by decide +kernel, rfl, by decide +kernel, by decide +kernel⟩
def sp__law_steps_text (K : PySem.W.Frag) : Sp := fun vs H Q _ => ∃ (a : Addr) (xs : List V) (k : Nat) (ds : List PyData) (ts : List (List Nat)), vs = [.ref a] ∧ SqL K H a xs ∧ DpAll K H xs ds ∧ (k = 0 ∨ k = 1) ∧ ElsT k ds ts ∧ ts.length ≤ 2000 ∧ ∀ H', Same H H' → Q (.str (tx (listT ts))) H'
theorem ok__law_steps_text {f : Addr} {fd : FuncData} {f__law_step_text : Addr} {fd__law_step_text : FuncData} {f__law_list_text : Addr} {fd__law_list_text : FuncData} (F : Fun K "_law_steps_text" "_law_steps_text" S__law_steps_text f fd)
    (F__law_step_text : Fun K "_law_step_text" "_law_step_text" S__law_step_text f__law_step_text fd__law_step_text) (b__law_step_text : Binds K fd__law_step_text ["_law_step"] []) (g__law_step_text : mg "_law_step_text" = some (.ref f__law_step_text)) (G__law_step_text : FnOk P w K mg base CX0 1 f__law_step_text fd__law_step_text ["_law_step"] (sp__law_step_text K))
    (F__law_list_text : Fun K "_law_list_text" "_law_list_text" S__law_list_text f__law_list_text fd__law_list_text) (b__law_list_text : Binds K fd__law_list_text ["_law_words"] []) (g__law_list_text : mg "_law_list_text" = some (.ref f__law_list_text)) (G__law_list_text : FnOk P w K mg base CX0 1 f__law_list_text fd__law_list_text ["_law_words"] (sp__law_list_text K)) :
    FnOk P w K mg base CX0 2 f fd ["_law_steps"] (sp__law_steps_text K) := by
  refine F.ok sc__law_steps_text (fun vs H Q E h => ?_) (fun cdv A outer s H vs Q E hr h => ?_)
  ·
    obtain ⟨a, xs, k, ds, ts, rfl, _⟩ := h
    rfl
  ·
    obtain ⟨a, xs, k, ds, ts, rfl, ha, dxs, k01, els, l2, q⟩ := h
    refine ⟨_, (pss_one (ps_ret (pe_call G__law_list_text (hr.mono (by decide)) (by rfl) g__law_list_text F__law_list_text.kp b__law_list_text .nil pass0 (pa_cons (pe_lc (own := [("_law_step", 1)]) (g := gName 1)  rfl sc__law_steps_text.nd  (pi_list (pv 0)) (blkOk_by (own := [("_law_step", 1)]) (N := ["_law_steps", "_law_step"]) (sc := defScope S__law_steps_text) (by decide +kernel)) (fun _ _ _ _ _ => pg_name (i := 1) sc__law_steps_text.nd rfl (Or.inl rfl)) (fun _ _ _ _ _ => pts_nil) (fun _ _ _ _ _ => (pe_call G__law_step_text (hr.mono (by decide)) (by rfl) g__law_step_text F__law_step_text.kp b__law_step_text .nil pass0 (pa_cons (pv 1) pa_nil)))) pa_nil)))), ?_⟩
    refine w_st (σ' := [some (.ref a), none]) rfl ?_
    have len : xs.length = ts.length := by rw [dpAll_len dxs, Paired.length els]
    walk_at "ct"
    refine w_IL ha ?_
    refine lb_list xs (fun D i J => Same H J ∧ J D = some (.lst (((ts.take i).map tx).map V.str))) (fun D nD => ⟨same_upd nD, upd_same⟩) (fun D nD i J _ h => h.1.seq ha) ?_ ?_
    · rintro D nD i x J hx ⟨sJ, hD⟩
      have hi := (List.getElem?_eq_some_iff.mp hx).1
      obtain ⟨d, hd⟩ : ∃ d, ds[i]? = some d := ⟨_, List.getElem?_eq_getElem (by rw [← dpAll_len dxs]; exact hi)⟩
      obtain ⟨x', hx', dx⟩ := dpAll_get dxs hd
      cases Option.some.inj (hx.symm.trans hx')
      obtain ⟨t, ht, el⟩ := paired_getT els hd
      obtain ⟨p, n1, w, rs, rfl, hp, h1, hw, hrs, l1, rfl⟩ : ∃ (p : Addr) (n1 : Nat) (w : Int) (rs : List Nat), x = .ref p ∧ SqT K H p (.int (n1 : Int) :: .int w :: rs.map fun n : Nat => V.int (n : Int)) ∧ n1 < M40 ∧ Sign w ∧ (∀ r ∈ rs, r < M40) ∧ rs.length ≤ 1 ∧ t = nL n1 ++ wayT w ++ (rs.map nL).flatten := by
        rcases k01 with rfl | rfl
        · obtain ⟨i, n, w, h1, h2, hw, rfl, rfl⟩ := el
          obtain ⟨p, rfl, hp⟩ := dpi_inv (is := [(i : Int), w, (n : Int)]) dx
          exact ⟨p, i, w, [n], rfl, hp, h1, hw, (fun r hr => by rw [List.mem_singleton.mp hr]; exact h2), Nat.le_refl _, by show _ = _ ++ (nL n ++ []); rw [List.append_nil]⟩
        · obtain ⟨i, w, h1, hw, rfl, rfl⟩ := el
          obtain ⟨p, rfl, hp⟩ := dpi_inv (is := [(i : Int), w]) dx
          exact ⟨p, i, w, [], rfl, hp, h1, hw, (fun r hr => by cases hr), Nat.zero_le _, by show _ = _ ++ []; rw [List.append_nil]⟩
      walk_at "ct"
      refine ⟨rfl, ?_⟩
      walk_at "ct"
      refine ⟨p, n1, w, rs, rfl, Same.tup sJ hp, h1, hw, hrs, l1, fun J2 s2 => ?_⟩
      refine ⟨_, s2 _ _ hD, by rw [List.length_map, List.length_map, List.length_take]; exact Nat.lt_of_le_of_lt (show _ ≤ 2000 by omega) (by decide), same_new (sJ.trans s2) nD, ?_⟩
      rw [upd_same, List.take_add_one, ht, List.map_append, List.map_append]
      rfl
    rintro D nD J ⟨sJ, hD⟩
    rw [len, List.take_of_length_le (Nat.le_refl _)] at hD
    refine ⟨D, ts, rfl, .of hD, fun t ht => ⟨Nat.le_trans (elsT_len els t ht) (by decide), fun c hc => ?_⟩, l2, fun J2 s2 => q J2 (sJ.trans s2)⟩
    obtain ⟨d, el⟩ := paired_memT els ht
    have := elT_free el c hc
    omega
abbrev S__law_answer_text : Stmt := topS 62
theorem sc__law_answer_text : FnScope ["_law_told", "_law_words", "_law_one", "_law_other", "_law_stand_here", "_law_number_here", "_law_j", "_law_k", "_law_way"] ["_law_told"] (defScope S__law_answer_text) := ⟨rfl, rfl, rfl, by decide +kernel, rfl, by decide +kernel, by decide +kernel⟩
def sp__law_answer_text (K : PySem.W.Frag) : Sp := fun vs H Q _ => ∃ (v : V) (d : PyData) (t : List Nat), vs = [v] ∧ Dp K H v d ∧ AnsA d t ∧ ∀ H', Same H H' → Q (.str (tx t)) H'
theorem ok__law_answer_text {f : Addr} {fd : FuncData} {f__law_part_text : Addr} {fd__law_part_text : FuncData} {f__law_steps_text : Addr} {fd__law_steps_text : FuncData} {f__law_list_text : Addr} {fd__law_list_text : FuncData} {f__law_stand_text : Addr} {fd__law_stand_text : FuncData} (F : Fun K "_law_answer_text" "_law_answer_text" S__law_answer_text f fd)
    (F__law_part_text : Fun K "_law_part_text" "_law_part_text" S__law_part_text f__law_part_text fd__law_part_text) (b__law_part_text : Binds K fd__law_part_text ["_law_part"] []) (g__law_part_text : mg "_law_part_text" = some (.ref f__law_part_text)) (G__law_part_text : FnOk P w K mg base CX0 1 f__law_part_text fd__law_part_text ["_law_part"] (sp__law_part_text K))
    (F__law_steps_text : Fun K "_law_steps_text" "_law_steps_text" S__law_steps_text f__law_steps_text fd__law_steps_text) (b__law_steps_text : Binds K fd__law_steps_text ["_law_steps"] []) (g__law_steps_text : mg "_law_steps_text" = some (.ref f__law_steps_text)) (G__law_steps_text : FnOk P w K mg base CX0 2 f__law_steps_text fd__law_steps_text ["_law_steps"] (sp__law_steps_text K))
    (F__law_list_text : Fun K "_law_list_text" "_law_list_text" S__law_list_text f__law_list_text fd__law_list_text) (b__law_list_text : Binds K fd__law_list_text ["_law_words"] []) (g__law_list_text : mg "_law_list_text" = some (.ref f__law_list_text)) (G__law_list_text : FnOk P w K mg base CX0 1 f__law_list_text fd__law_list_text ["_law_words"] (sp__law_list_text K))
    (F__law_stand_text : Fun K "_law_stand_text" "_law_stand_text" S__law_stand_text f__law_stand_text fd__law_stand_text) (b__law_stand_text : Binds K fd__law_stand_text ["_law_stand_here"] []) (g__law_stand_text : mg "_law_stand_text" = some (.ref f__law_stand_text)) (G__law_stand_text : FnOk P w K mg base CX0 1 f__law_stand_text fd__law_stand_text ["_law_stand_here"] (sp__law_stand_text K)) (m_str : mg "str" = none) (m_int : mg "int" = none) :
    FnG P w K mg base CX0 3 f fd ["_law_told"] (sp__law_answer_text K) := by
  refine fnG_of0 F sc__law_answer_text (fun vs H Q E h => ?_) (fun cdv A gd outer s H vs Q E hr h => ?_)
  ·
    obtain ⟨v, d, t, rfl, _⟩ := h
    rfl
  ·
    obtain ⟨v, d, t, rfl, hv, ans, q⟩ := h
    refine ⟨_, (pss_cons (ps_if (pt_cmpR op_eq (pe_ix (r := rIxT K) ix_tup (pv 0) pe_int (fun _ _ => rfl)) pe_str (nomark _)) (pss_cons (ps_setLc (i := 1) (own := [("_law_one", 2), ("_law_other", 3)]) (g := gTup K 2 (gCons (gName 2) (gCons (gName 3) gNil)))  rfl sc__law_answer_text.nd rfl rfl (sw_true rfl rfl rfl (by decide +kernel)) (pi_list (pe_ix (r := rIxT K) ix_tup (pv 0) pe_int (fun _ _ => rfl))) (blkOk_by (own := [("_law_one", 2), ("_law_other", 3)]) (N := ["_law_told", "_law_words", "_law_one", "_law_other", "_law_stand_here", "_law_number_here", "_law_j", "_law_k", "_law_way"]) (sc := defScope S__law_answer_text) (by decide +kernel)) (fun _ _ _ _ _ => pg_tup rfl (pgs_cons (pg_name (i := 2) sc__law_answer_text.nd rfl (Or.inl rfl)) (pgs_cons (pg_name (i := 3) sc__law_answer_text.nd rfl (Or.inl rfl)) pgs_nil))) (fun _ _ _ _ _ => pts_nil) (fun _ _ _ _ _ => (pe_op (r := rAddS) op_addS (pe_op (r := rAddS) op_addS (pe_call G__law_stand_text (hr.mono (by decide)) (by rfl) g__law_stand_text F__law_stand_text.kp b__law_stand_text .nil pass0 (pa_cons (pv 2) pa_nil)) pe_str) (pe_call G__law_stand_text (hr.mono (by decide)) (by rfl) g__law_stand_text F__law_stand_text.kp b__law_stand_text .nil pass0 (pa_cons (pv 3) pa_nil)))))
      (pss_one (ps_ret (pe_op (r := rAddS) op_addS pe_str (pe_call G__law_list_text (hr.mono (by decide)) (by rfl) g__law_list_text F__law_list_text.kp b__law_list_text .nil pass0 (pa_cons (pv 1) pa_nil)))))) pss_nil)
      (pss_cons (ps_if (pt_cmpR op_eq (pe_ix (r := rIxT K) ix_tup (pv 0) pe_int (fun _ _ => rfl)) pe_str (nomark _)) (pss_one (ps_ret (pe_op (r := rAddS) op_addS (pe_op (r := rAddS) op_addS pe_str (pe_join pe_str (pe_lc (own := [("_law_way", 8)]) (g := gName 8)  rfl sc__law_answer_text.nd  (pi_list (pe_ix (r := rIxT K) ix_tup (pv 0) pe_int (fun _ _ => rfl))) (blkOk_by (own := [("_law_way", 8)]) (N := ["_law_told", "_law_words", "_law_one", "_law_other", "_law_stand_here", "_law_number_here", "_law_j", "_law_k", "_law_way"]) (sc := defScope S__law_answer_text) (by decide +kernel)) (fun _ _ _ _ _ => pg_name (i := 8) sc__law_answer_text.nd rfl (Or.inl rfl)) (fun _ _ _ _ _ => pts_nil) (fun _ _ _ _ _ => (pe_ix (r := rIxS) ix_str pe_str (pe_callTy call_int1 (by rfl) m_int (by decide +kernel) (pa_cons (pe_cmpR op_lt (pv 8) pe_int (nomark _)) pa_nil)) (fun _ _ => rfl)))))) (pe_op (r := rMulS) op_mulS pe_str (pe_callTy call_int1 (by rfl) m_int (by decide +kernel) (pa_cons (pe_cmpR (r := rEqD K) (op_eqD hr.units) (pe_ix (r := rIxT K) ix_tup (pv 0) pe_int (fun _ _ => rfl)) (pe_lst pa_nil) (nomark _)) pa_nil)))))) pss_nil)
      (pss_cons (ps_if (pt_cmpR op_eq (pe_ix (r := rIxT K) ix_tup (pv 0) pe_int (fun _ _ => rfl)) pe_str (nomark _)) (pss_one (ps_ret (pe_op (r := rAddS) op_addS pe_str (pe_call G__law_list_text (hr.mono (by decide)) (by rfl) g__law_list_text F__law_list_text.kp b__law_list_text .nil pass0 (pa_cons (pe_lc (own := [("_law_stand_here", 4)]) (g := gName 4)  rfl sc__law_answer_text.nd  (pi_list (pe_ix (r := rIxT K) ix_tup (pv 0) pe_int (fun _ _ => rfl))) (blkOk_by (own := [("_law_stand_here", 4)]) (N := ["_law_told", "_law_words", "_law_one", "_law_other", "_law_stand_here", "_law_number_here", "_law_j", "_law_k", "_law_way"]) (sc := defScope S__law_answer_text) (by decide +kernel)) (fun _ _ _ _ _ => pg_name (i := 4) sc__law_answer_text.nd rfl (Or.inl rfl)) (fun _ _ _ _ _ => pts_nil) (fun _ _ _ _ _ => (pe_call G__law_stand_text (hr.mono (by decide)) (by rfl) g__law_stand_text F__law_stand_text.kp b__law_stand_text .nil pass0 (pa_cons (pv 4) pa_nil)))) pa_nil))))) pss_nil)
      (pss_cons (ps_if (pt_cmpR op_eq (pe_ix (r := rIxT K) ix_tup (pv 0) pe_int (fun _ _ => rfl)) pe_str (nomark _)) (pss_cons (ps_setLc (i := 1) (own := [("_law_stand_here", 4), ("_law_number_here", 5)]) (g := gTup K 2 (gCons (gName 4) (gCons (gName 5) gNil)))  rfl sc__law_answer_text.nd rfl rfl (sw_true rfl rfl rfl (by decide +kernel)) (pi_list (pe_ix (r := rIxT K) ix_tup (pv 0) pe_int (fun _ _ => rfl))) (blkOk_by (own := [("_law_stand_here", 4), ("_law_number_here", 5)]) (N := ["_law_told", "_law_words", "_law_one", "_law_other", "_law_stand_here", "_law_number_here", "_law_j", "_law_k", "_law_way"]) (sc := defScope S__law_answer_text) (by decide +kernel)) (fun _ _ _ _ _ => pg_tup rfl (pgs_cons (pg_name (i := 4) sc__law_answer_text.nd rfl (Or.inl rfl)) (pgs_cons (pg_name (i := 5) sc__law_answer_text.nd rfl (Or.inl rfl)) pgs_nil))) (fun _ _ _ _ _ => pts_nil) (fun _ _ _ _ _ => (pe_op (r := rAddS) op_addS (pe_op (r := rAddS) op_addS (pe_call G__law_stand_text (hr.mono (by decide)) (by rfl) g__law_stand_text F__law_stand_text.kp b__law_stand_text .nil pass0 (pa_cons (pv 4) pa_nil)) pe_str) (pe_callTy (r := rStrI) call_strI (by rfl) m_str (by decide +kernel) (pa_cons (pv 5) pa_nil)))))
      (pss_one (ps_ret (pe_op (r := rAddS) op_addS (pe_op (r := rAddS) op_addS (pe_op (r := rAddS) op_addS pe_str (pe_call G__law_steps_text (hr.mono (by decide)) (by rfl) g__law_steps_text F__law_steps_text.kp b__law_steps_text .nil pass0 (pa_cons (pe_ix (r := rIxT K) ix_tup (pv 0) pe_int (fun _ _ => rfl)) pa_nil))) pe_str) (pe_call G__law_list_text (hr.mono (by decide)) (by rfl) g__law_list_text F__law_list_text.kp b__law_list_text .nil pass0 (pa_cons (pv 1) pa_nil)))))) pss_nil)
      (pss_cons (ps_if (pt_cmpR op_eq (pe_ix (r := rIxT K) ix_tup (pv 0) pe_int (fun _ _ => rfl)) pe_str (nomark _)) (pss_one (ps_ret (pe_join pe_str (pe_op op_cat (pe_lst (pa_cons pe_str (pa_cons (pe_call G__law_part_text (hr.mono (by decide)) (by rfl) g__law_part_text F__law_part_text.kp b__law_part_text .nil pass0 (pa_cons (pe_slice (r := rSlA K) sl_tupA (pv 0) po_none (po_some pe_int)) pa_nil)) pa_nil))) (pe_lc (own := [("_law_j", 6), ("_law_k", 7)]) (g := gTup K 2 (gCons (gName 6) (gCons (gName 7) gNil)))  rfl sc__law_answer_text.nd  (pi_list (pe_ix (r := rIxT K) ix_tup (pv 0) pe_int (fun _ _ => rfl))) (blkOk_by (own := [("_law_j", 6), ("_law_k", 7)]) (N := ["_law_told", "_law_words", "_law_one", "_law_other", "_law_stand_here", "_law_number_here", "_law_j", "_law_k", "_law_way"]) (sc := defScope S__law_answer_text) (by decide +kernel)) (fun _ _ _ _ _ => pg_tup rfl (pgs_cons (pg_name (i := 6) sc__law_answer_text.nd rfl (Or.inl rfl)) (pgs_cons (pg_name (i := 7) sc__law_answer_text.nd rfl (Or.inl rfl)) pgs_nil))) (fun _ _ _ _ _ => pts_nil) (fun _ _ _ _ _ => (pe_op (r := rAddS) op_addS (pe_op (r := rAddS) op_addS (pe_callTy (r := rStrI) call_strI (by rfl) m_str (by decide +kernel) (pa_cons (pv 6) pa_nil)) pe_str) (pe_callTy (r := rStrI) call_strI (by rfl) m_str (by decide +kernel) (pa_cons (pv 7) pa_nil))))))))) pss_nil)
      (pss_one (ps_ret (pe_op (r := rAddS) op_addS (pe_op (r := rAddS) op_addS (pe_op (r := rAddS) op_addS pe_str (pe_callTy (r := rStrI) call_strI (by rfl) m_str (by decide +kernel) (pa_cons (pe_ix (r := rIxT K) ix_tup (pv 0) pe_int (fun _ _ => rfl)) pa_nil))) pe_str) (pe_callTy (r := rStrI) call_strI (by rfl) m_str (by decide +kernel) (pa_cons (pe_ix (r := rIxT K) ix_tup (pv 0) pe_int (fun _ _ => rfl)) pa_nil)))))))))), ?_⟩
    have tupd : ∀ {ds : List PyData} {u : V}, Dp K H u (.tuple ds) → ∃ p xs, u = V.ref p ∧ SqT K H p xs ∧ DpAll K H xs ds := fun h => tup_inv h
    rcases ans with ⟨ds, ts, els, tl, rfl, rfl⟩ | ⟨ws, hw, wl, rfl, rfl⟩ | ⟨k, ds, ts, es, us, hk, els, tl, nums, ul, rfl, rfl⟩ | ⟨ds, ts, els, tl, rfl, rfl⟩ | ⟨z, ns, pt, ds, ts, hp, bars, tl, rfl, rfl⟩ | ⟨j, k, hj, hk, rfl, rfl⟩
    · obtain ⟨p, xs, rfl, hs, hd⟩ := tupd hv
      cases hd with
      | cons d1 r =>
        cases r with
        | cons d2 r2 =>
          cases r2
          cases d1
          obtain ⟨a, ys, rfl, ha, hds⟩ := lst_inv d2
          refine w_st (σ' := [some (.ref p), none, none, none, none, none, none, none, none]) rfl ?_
          have fact : ∀ t ∈ ts, t.length ≤ 2000 ∧ ∀ c ∈ t, c < 1000 := fun t ht => by
            obtain ⟨d, hp⟩ := paired_memT els ht
            obtain ⟨_, f2, f3, _⟩ := pairA_fact hp
            exact ⟨Nat.le_trans f2 (by decide), fun c hc => by have := f3 c hc; omega⟩
          have ll := listT_len fun t ht => (fact t ht).1
          have lm : (2000 + 1) * ts.length ≤ (2000 + 1) * 2000 := Nat.mul_le_mul_left _ tl
          walk_at "ct"
          refine w_IL ha ?_
          refine lb_list ys (fun D i J => Same H J ∧ J D = some (.lst (((ts.take i).map tx).map V.str))) (fun D nD => ⟨same_upd nD, upd_same⟩) (fun D nD i J _ h => Same.seq h.1 ha) ?_ ?_
          · rintro D nD i x J hx ⟨sJ, hD⟩
            have hi := (List.getElem?_eq_some_iff.mp hx).1
            obtain ⟨d, hd⟩ : ∃ d, ds[i]? = some d := ⟨_, List.getElem?_eq_getElem (by rw [← dpAll_len hds]; exact hi)⟩
            obtain ⟨x', hx', dx⟩ := dpAll_get hds hd
            cases Option.some.inj (hx.symm.trans hx')
            obtain ⟨t, ht, ⟨a', b', ta, tb, hA, hB, rfl, rfl⟩⟩ := paired_getT els hd
            obtain ⟨u, us, rfl, hu, hud⟩ := tup_inv (dp_same sJ dx)
            cases hud with
            | cons e1 er =>
              cases er with
              | cons e2 er2 =>
                cases er2
                obtain ⟨pa, na, rfl, sa, nea, hna, nla, rfl⟩ := standA_inv hA e1
                obtain ⟨pb, nb, rfl, sb, neb, hnb, nlb, rfl⟩ := standA_inv hB e2
                have la := jN_len (s := 47) hna
                have lb := jN_len (s := 47) hnb
                walk_at "ct"
                refine w_gtup hu rfl ?_
                walk_at "ct"
                refine ⟨rfl, ?_⟩
                walk_at "ct"
                refine ⟨pa, na, rfl, sa, hna, by omega, fun H1 s1 => ?_⟩
                walk_at "ct"
                rw [tx_of "~"]
                refine w_addS (b := [126]) (by show _ + 1 ≤ _; omega) ?_
                walk_at "ct"
                refine ⟨pb, nb, rfl, Same.tup s1 sb, hnb, by omega, fun H2 s2 => ?_⟩
                refine w_addS (by show (jN 47 na ++ [126]).length + _ ≤ _; rw [List.length_append]; show _ + 1 + _ ≤ _; omega) ?_
                refine ⟨_, s2 _ _ (s1 _ _ hD), by rw [List.length_map, List.length_map, List.length_take]; exact Nat.lt_of_le_of_lt (show _ ≤ 2000 by omega) (by decide), same_new ((sJ.trans s1).trans s2) nD, ?_⟩
                rw [upd_same, List.take_add_one, ht, List.map_append, List.map_append, show jN 47 na ++ 126 :: jN 47 nb = jN 47 na ++ [126] ++ jN 47 nb by rw [List.append_assoc]; rfl]
                rfl
          rintro D nD J ⟨sJ, hD⟩
          rw [dpAll_len hds, Paired.length els, List.take_length] at hD
          walk_at "ct"
          refine ⟨D, ts, rfl, .of hD, fact, tl, fun H1 s1 => ?_⟩
          rw [tx_of "alike "]
          refine w_addS (a := tlS "alike ") (by show 6 + _ ≤ _; omega) ?_
          exact q H1 (sJ.trans s1)
    · obtain ⟨p, xs, rfl, hs, hd⟩ := tupd hv
      cases hd with
      | cons d1 r =>
        cases r with
        | cons d2 r2 =>
          cases r2
          cases d1
          obtain ⟨a, ys, rfl, ha, hds⟩ := lst_inv d2
          cases dpAll_ints_inv ws hds
          refine w_st (σ' := [some (.ref p), none, none, none, none, none, none, none, none]) rfl ?_
          have fl := flat_ways ws
          walk_at "ct"
          refine ⟨⟨_, rfl⟩, ?_⟩
          walk_at "ct"
          refine w_IL ha ?_
          refine lb_list (ws.map V.int) (fun D i J => Same H J ∧ J D = some (.lst (((ws.take i).map wayT).map fun t => V.str (tx t)))) (fun D nD => ⟨same_upd nD, upd_same⟩) (fun D nD i J _ h => Same.seq h.1 ha) ?_ ?_
          · rintro D nD i x J hx ⟨sJ, hD⟩
            obtain ⟨w', hi, rfl⟩ := map_getN hx
            walk_at "ct"
            refine ⟨rfl, ?_⟩
            walk_at "ct"
            refine .inr ⟨_, rfl, ?_⟩
            refine w_waySg (hw w' (List.mem_of_getElem? hi)) ?_
            refine ⟨_, hD, by rw [List.length_map, List.length_map, List.length_take]; exact Nat.lt_of_le_of_lt (show _ ≤ 2000 by omega) (by decide), same_new sJ nD, ?_⟩
            rw [upd_same, take_succN _ hi, List.map_append]
            rfl
          rintro D nD J ⟨sJ, hD⟩
          rw [List.length_map, List.take_length] at hD
          have hD2 : J D = some (.lst (((ws.map wayT).map tx).map V.str)) := by rw [hD, List.map_map, List.map_map, List.map_map]; rfl
          refine ⟨_, D, _, rfl, rfl, .inl (.of hD2), fitT (fun t ht => by
            obtain ⟨w', _, rfl⟩ := List.mem_map.mp ht
            rw [wayT_len]; decide) (by rw [List.length_map]; omega) (by decide), ?_⟩
          rw [joinE, tx_of "apart "]
          refine w_addS (a := tlS "apart ") (by rw [fl]; show 6 + _ ≤ _; omega) ?_
          have hs := Same.tup sJ hs
          walk_at "ct"
          refine ⟨len2 rfl, fun e0 n_e0 => ?_⟩
          generalize h_G : upd _ e0 _ = G
          obtain ⟨s_G, e_e0⟩ := Ct.upd_new h_G n_e0
          clear h_G
          refine w_emptyI (s_G.seq (sJ.seq ha)) e_e0 ?_
          walk_at "ct"
          refine .inr ⟨_, rfl, ?_⟩
          cases ws with
          | nil =>
            refine ⟨_, _, rfl, rfl, .inr rfl, ?_⟩
            rw [tx_of]
            refine w_addS (by decide) ?_
            exact q G (sJ.trans s_G)
          | cons w r =>
            refine ⟨_, _, rfl, rfl, .inl rfl, ?_⟩
            refine w_addS (b := []) (by rw [List.length_append, fl]; show 6 + _ + 0 ≤ _; omega) ?_
            rw [List.append_nil]
            exact q G (sJ.trans s_G)
    · obtain ⟨p, xs, rfl, hs, hd⟩ := tupd hv
      cases hd with
      | cons d1 r =>
        cases r with
        | cons d2 r2 =>
          cases r2 with
          | cons d3 r3 =>
            cases r3
            cases d1
            obtain ⟨a, ys, rfl, ha, hds⟩ := lst_inv d2
            obtain ⟨b, zs, rfl, hb, hes⟩ := lst_inv d3
            refine w_st (σ' := [some (.ref p), none, none, none, none, none, none, none, none]) rfl ?_
            have fact : ∀ t ∈ us, t.length ≤ 2000 ∧ ∀ c ∈ t, c < 1000 := fun t ht => by
              obtain ⟨d, hp⟩ := paired_memT nums ht
              obtain ⟨_, f2, f3, _⟩ := numbA_fact hp
              exact ⟨Nat.le_trans f2 (by decide), fun c hc => by have := f3 c hc; omega⟩
            have ll := listT_len fun t ht => (fact t ht).1
            have lm : (2000 + 1) * us.length ≤ (2000 + 1) * 2000 := Nat.mul_le_mul_left _ ul
            have ll0 := listT_len (m := 90) (ts := ts) fun t ht => elsT_len els t ht
            have lm0 : (90 + 1) * ts.length ≤ (90 + 1) * 2000 := Nat.mul_le_mul_left _ tl
            walk_at "ct"
            refine w_IL hb ?_
            refine lb_list zs (fun D i J => Same H J ∧ J D = some (.lst (((us.take i).map tx).map V.str))) (fun D nD => ⟨same_upd nD, upd_same⟩) (fun D nD i J _ h => Same.seq h.1 hb) ?_ ?_
            · rintro D nD i x J hx ⟨sJ, hD⟩
              have hi := (List.getElem?_eq_some_iff.mp hx).1
              obtain ⟨d, hd⟩ : ∃ d, es[i]? = some d := ⟨_, List.getElem?_eq_getElem (by rw [← dpAll_len hes]; exact hi)⟩
              obtain ⟨x', hx', dx⟩ := dpAll_get hes hd
              cases Option.some.inj (hx.symm.trans hx')
              obtain ⟨t, ht, ⟨a', ta, n, hA, hn, rfl, rfl⟩⟩ := paired_getT nums hd
              obtain ⟨u, uu, rfl, hu, hud⟩ := tup_inv (dp_same sJ dx)
              cases hud with
              | cons e1 er =>
                cases er with
                | cons e2 er2 =>
                  cases er2
                  cases e2
                  obtain ⟨pa, na, rfl, sa, nea, hna, nla, rfl⟩ := standA_inv hA e1
                  have la := jN_len (s := 47) hna
                  have ln := nL_len hn
                  walk_at "ct"
                  refine w_gtup hu rfl ?_
                  walk_at "ct"
                  refine ⟨rfl, ?_⟩
                  walk_at "ct"
                  refine ⟨pa, na, rfl, sa, hna, by omega, fun H1 s1 => ?_⟩
                  walk_at "ct"
                  rw [tx_of ":"]
                  refine w_addS (b := [58]) (by show _ + 1 ≤ _; omega) ?_
                  walk_at "ct"
                  refine w_strI (Nat.lt_trans hn (by decide)) ?_
                  refine w_addS (by show (jN 47 na ++ [58]).length + _ ≤ _; rw [List.length_append]; show _ + 1 + _ ≤ _; omega) ?_
                  refine ⟨_, s1 _ _ hD, by rw [List.length_map, List.length_map, List.length_take]; exact Nat.lt_of_le_of_lt (show _ ≤ 2000 by omega) (by decide), same_new (sJ.trans s1) nD, ?_⟩
                  rw [upd_same, List.take_add_one, ht, List.map_append, List.map_append, show jN 47 na ++ 58 :: nL n = jN 47 na ++ [58] ++ nL n by rw [List.append_assoc]; rfl]
                  rfl
            rintro D nD J ⟨sJ, hD⟩
            rw [dpAll_len hes, Paired.length nums, List.take_length] at hD
            have hs := Same.tup sJ hs
            walk_at "ct"
            refine ⟨a, ys, k, ds, ts, rfl, sJ.seq ha, dpAll_same sJ hds, by omega, els, tl, fun H1 s1 => ?_⟩
            rw [tx_of "row "]
            refine w_addS (a := tlS "row ") (by show 4 + _ ≤ _; omega) ?_
            walk_at "ct"
            rw [tx_of "; "]
            refine w_addS (b := tlS "; ") (by rw [List.length_append]; show 4 + _ + 2 ≤ _; omega) ?_
            walk_at "ct"
            refine ⟨D, us, rfl, .of (s1 _ _ hD), fact, ul, fun H2 s2 => ?_⟩
            refine w_addS (by rw [List.length_append, List.length_append]; show 4 + _ + 2 + _ ≤ _; omega) ?_
            exact q H2 ((sJ.trans s1).trans s2)
    · obtain ⟨p, xs, rfl, hs, hd⟩ := tupd hv
      cases hd with
      | cons d1 r =>
        cases r with
        | cons d2 r2 =>
          cases r2
          cases d1
          obtain ⟨a, ys, rfl, ha, hds⟩ := lst_inv d2
          refine w_st (σ' := [some (.ref p), none, none, none, none, none, none, none, none]) rfl ?_
          have fact : ∀ t ∈ ts, t.length ≤ 2000 ∧ ∀ c ∈ t, c < 1000 := fun t ht => by
            obtain ⟨d, hp⟩ := paired_memT els ht
            obtain ⟨_, f2, f3, _⟩ := standA_fact hp
            exact ⟨Nat.le_trans f2 (by decide), fun c hc => by have := f3 c hc; omega⟩
          have ll := listT_len fun t ht => (fact t ht).1
          have lm : (2000 + 1) * ts.length ≤ (2000 + 1) * 2000 := Nat.mul_le_mul_left _ tl
          walk_at "ct"
          refine w_IL ha ?_
          refine lb_list ys (fun D i J => Same H J ∧ J D = some (.lst (((ts.take i).map tx).map V.str))) (fun D nD => ⟨same_upd nD, upd_same⟩) (fun D nD i J _ h => Same.seq h.1 ha) ?_ ?_
          · rintro D nD i x J hx ⟨sJ, hD⟩
            have hi := (List.getElem?_eq_some_iff.mp hx).1
            obtain ⟨d, hd⟩ : ∃ d, ds[i]? = some d := ⟨_, List.getElem?_eq_getElem (by rw [← dpAll_len hds]; exact hi)⟩
            obtain ⟨x', hx', dx⟩ := dpAll_get hds hd
            cases Option.some.inj (hx.symm.trans hx')
            obtain ⟨t, ht, hA⟩ := paired_getT els hd
            obtain ⟨pa, na, rfl, sa, nea, hna, nla, rfl⟩ := standA_inv hA (dp_same sJ dx)
            walk_at "ct"
            refine ⟨rfl, ?_⟩
            walk_at "ct"
            refine ⟨pa, na, rfl, sa, hna, by omega, fun H1 s1 => ?_⟩
            refine ⟨_, s1 _ _ hD, by rw [List.length_map, List.length_map, List.length_take]; exact Nat.lt_of_le_of_lt (show _ ≤ 2000 by omega) (by decide), same_new (sJ.trans s1) nD, ?_⟩
            rw [upd_same, List.take_add_one, ht, List.map_append, List.map_append]
            rfl
          rintro D nD J ⟨sJ, hD⟩
          rw [dpAll_len hds, Paired.length els, List.take_length] at hD
          walk_at "ct"
          refine ⟨D, ts, rfl, .of hD, fact, tl, fun H1 s1 => ?_⟩
          rw [tx_of "never "]
          refine w_addS (a := tlS "never ") (by show 6 + _ ≤ _; omega) ?_
          exact q H1 (sJ.trans s1)
    · obtain ⟨p, xs, rfl, hs, hd⟩ := tupd hv
      cases hd with
      | cons d1 r =>
        cases r with
        | cons d2 r2 =>
          cases r2 with
          | cons d3 r3 =>
            cases r3 with
            | cons d4 r4 =>
              cases r4
              cases d1
              cases d2
              obtain ⟨m, ms, rfl, hm, hms⟩ := tup_inv d3
              cases dpAll_ints_inv _ hms
              obtain ⟨b, ys, rfl, hb, hds⟩ := lst_inv d4
              refine w_st (σ' := [some (.ref p), none, none, none, none, none, none, none, none]) rfl ?_
              have xl : ys.length = ts.length := by rw [dpAll_len hds, Paired.length bars]
              walk_at "ct"
              refine ⟨⟨_, rfl⟩, ?_⟩
              walk_at "ct"
              refine w_slTu (n := 3) hs (show 3 ≤ 4 by decide) fun g G1 s1 hg => ?_
              walk_at "ct"
              refine ⟨.ref g, _, pt, rfl, wheel_dp hg (Same.tup s1 hm), hp, fun H2 s2 => ?_⟩
              walk_at "ct"
              refine ⟨len2 rfl, fun l n_l => ?_⟩
              generalize h_G3 : upd _ l _ = G3
              obtain ⟨s_G3, e_l⟩ := Ct.upd_new h_G3 n_l
              clear h_G3
              have s13 := (s1.trans s2).trans s_G3
              have hs3 := Same.tup s13 hs
              have hb3 := s13.seq hb
              have hd3 := dpAll_same s13 hds
              walk_at "ct"
              refine w_IL hb3 ?_
              refine lb_list ys (fun D i J => Same G3 J ∧ J D = some (.lst (((ts.take i).map tx).map V.str))) (fun D nD => ⟨same_upd nD, upd_same⟩) (fun D nD i J _ h => Same.seq h.1 hb3) ?_ ?_
              · rintro D nD i x J hx ⟨sJ, hD⟩
                have hi := (List.getElem?_eq_some_iff.mp hx).1
                obtain ⟨d, hdi⟩ : ∃ d, ds[i]? = some d := ⟨_, List.getElem?_eq_getElem (by rw [← dpAll_len hds]; exact hi)⟩
                obtain ⟨x', hx', dx⟩ := dpAll_get hd3 hdi
                cases Option.some.inj (hx.symm.trans hx')
                obtain ⟨t, ht, ⟨j, k, hj, hk, rfl, rfl⟩⟩ := paired_getT bars hdi
                obtain ⟨u, rfl, hu⟩ := dpi_inv (is := [(j : Int), (k : Int)]) (dp_same sJ dx)
                have hu : SqT K J u [.int (j : Int), .int (k : Int)] := hu
                have lj := nL_len hj
                have lk := nL_len hk
                walk_at "ct"
                refine w_gtup hu rfl ?_
                walk_at "ct"
                refine ⟨rfl, ?_⟩
                walk_at "ct"
                refine w_strI (Nat.lt_trans hj (by decide)) ?_
                walk_at "ct"
                rw [tx_of "~"]
                refine w_addS (b := [126]) (by show _ + 1 ≤ _; omega) ?_
                walk_at "ct"
                refine w_strI (Nat.lt_trans hk (by decide)) ?_
                refine w_addS (by rw [List.length_append]; show _ + 1 + _ ≤ _; omega) ?_
                refine ⟨_, hD, by rw [List.length_map, List.length_map, List.length_take]; exact Nat.lt_of_le_of_lt (show _ ≤ 2000 by omega) (by decide), same_new sJ nD, ?_⟩
                rw [upd_same, List.take_add_one, ht, List.map_append, List.map_append, show nL j ++ [126] ++ nL k = jN 126 [j, k] by rw [List.append_assoc]; rfl]
                rfl
              rintro D nD J ⟨sJ, hD⟩
              rw [xl, List.take_length] at hD
              have e_l2 := sJ _ _ e_l
              walk_at "ct"
              refine w_cat e_l2 hD (by rw [List.length_map, List.length_map]; show 2 + _ ≤ _; exact Nat.le_trans (show 2 + ts.length ≤ 2001 by omega) (by decide)) fun c G5 n_c s5 e_c => ?_
              have bar_len : ∀ t ∈ tlS "wheel" :: pt :: ts, t.length ≤ 2000 := fun t ht => by
                rcases List.mem_cons.mp ht with rfl | ht
                · decide
                rcases List.mem_cons.mp ht with rfl | ht
                · exact Nat.le_trans (partS_len hp).2 (by decide)
                · obtain ⟨d, hb⟩ := paired_memT bars ht
                  exact Nat.le_trans (barA_fact hb).2.1 (by decide)
              have e_c2 : G5 c = some (.lst (((tlS "wheel" :: pt :: ts).map tx).map V.str)) := by
                rw [e_c, tx_of "wheel"]
                rfl
              refine ⟨_, c, _, rfl, rfl, .inl (.of e_c2), fitT bar_len (show ts.length + 2 ≤ 2001 by omega) (by decide), ?_⟩
              rw [joinT " " (sep := [32]) (by decide)]
              exact q G5 ((s13.trans sJ).trans s5)
    · obtain ⟨p, rfl, hs⟩ : ∃ p, v = V.ref p ∧ SqT K H p [.str "none", .int (j : Int), .int (k : Int)] := by
        obtain ⟨p, xs, rfl, hs, hd⟩ := tupd hv
        cases hd with
        | cons d1 r =>
          cases r with
          | cons d2 r2 =>
            cases r2 with
            | cons d3 r3 =>
              cases r3
              cases d1
              cases d2
              cases d3
              exact ⟨p, rfl, hs⟩
      refine w_st (σ' := [some (.ref p), none, none, none, none, none, none, none, none]) rfl ?_
      have lj := nL_len hj
      have lk := nL_len hk
      walk_at "ct"
      refine w_strI (Nat.lt_trans hj (by decide)) ?_
      rw [tx_of "none "]
      refine w_addS (a := tlS "none ") (by show 5 + _ ≤ _; omega) ?_
      walk_at "ct"
      rw [tx_of " "]
      refine w_addS (b := [32]) (by rw [List.length_append]; show 5 + _ + 1 ≤ _; omega) ?_
      walk_at "ct"
      refine w_strI (Nat.lt_trans hk (by decide)) ?_
      refine w_addS (by show (tlS "none " ++ nL j ++ [32]).length + _ ≤ _; rw [List.length_append, List.length_append]; show 5 + _ + 1 + _ ≤ _; omega) ?_
      walk_at "ct"
      rw [show tlS "none " ++ nL j ++ [32] ++ nL k = tlS "none " ++ jN 32 [j, k] by rw [List.append_assoc, List.append_assoc]; rfl]
      exact q H (Same.refl H)
abbrev S__law_plain : Stmt := topS 63
theorem sc__law_plain : FnScope ["_law_found", "_law_one"] ["_law_found"] (defScope S__law_plain) := ⟨rfl, rfl, rfl, by decide +kernel, rfl, by decide +kernel, by decide +kernel⟩
def sp__law_plain (d : Nat) (K : PySem.W.Frag) : Sp := fun vs H Q _ => ∃ (v : V) (x : PyData), vs = [v] ∧ Dp K H v x ∧ PlainD d x ∧ ∀ H', Same H H' → Q (.bl true) H'
theorem st__law_plain {f : Addr} {fd : FuncData} {f__law_whole : Addr} {fd__law_whole : FuncData} {f__law_plain : Addr} {fd__law_plain : FuncData} {k d : Nat} (hk : 1 ≤ k) (F : Fun K "_law_plain" "_law_plain" S__law_plain f fd)
    (F__law_whole : Fun K "_law_whole" "_law_whole" S__law_whole f__law_whole fd__law_whole) (b__law_whole : Binds K fd__law_whole ["_law_found"] []) (g__law_whole : mg "_law_whole" = some (.ref f__law_whole)) (G__law_whole : FnOk P w K mg base CX0 1 f__law_whole fd__law_whole ["_law_found"] (sp__law_whole K))
    (F__law_plain : Fun K "_law_plain" "_law_plain" S__law_plain f__law_plain fd__law_plain) (b__law_plain : Binds K fd__law_plain ["_law_found"] []) (g__law_plain : mg "_law_plain" = some (.ref f__law_plain)) (G__law_plain : FnOk P w K mg base CX0 k f__law_plain fd__law_plain ["_law_found"] (sp__law_plain d K)) (m_isinstance : mg "isinstance" = none) (m_list : mg "list" = none) (m_tuple : mg "tuple" = none) (m_all : mg "all" = none) (m_str : mg "str" = none) :
    FnOk P w K mg base CX0 (k + 1) f fd ["_law_found"] (sp__law_plain (d + 1) K) := by
  refine F.ok sc__law_plain (fun vs H Q E h => ?_) (fun cdv A outer s H vs Q E hr h => ?_)
  ·
    obtain ⟨v, x, rfl, _⟩ := h
    rfl
  ·
    obtain ⟨v, x, rfl, hv, hp, q⟩ := h
    refine ⟨_, (pss_cons (ps_if (pt_val (pe_callB (r := rIsiT K) call_isiT (by rfl) m_isinstance (by decide +kernel) (pa_cons (pv 0) (pa_cons (pe_tup (pa_cons (pe_bltn (v := .ty "list") (u := .type "list") (by rfl) m_list (by decide +kernel) rfl) (pa_cons (pe_bltn (v := .ty "tuple") (u := .type "tuple") (by rfl) m_tuple (by decide +kernel) rfl) pa_nil))) pa_nil)))) (pss_one (ps_ret (pe_callB (r := rAll K) (cr_all rfl) (by rfl) m_all (by decide +kernel) (pa_cons (pe_lc (own := [("_law_one", 1)]) (g := gName 1)  rfl sc__law_plain.nd  (pi_any (pv 0)) (blkOk_by (own := [("_law_one", 1)]) (N := ["_law_found", "_law_one"]) (sc := defScope S__law_plain) (by decide +kernel)) (fun _ _ _ _ _ => pg_name (i := 1) sc__law_plain.nd rfl (Or.inl rfl)) (fun _ _ _ _ _ => pts_nil) (fun _ _ _ _ _ => (pe_call G__law_plain (hr.mono (by omega)) (by rfl) g__law_plain F__law_plain.kp b__law_plain .nil pass0 (pa_cons (pv 1) pa_nil)))) pa_nil)))) pss_nil)
      (pss_one (ps_ret (pe_or (pe_callB (r := rIsi K) call_isi (by rfl) m_isinstance (by decide +kernel) (pa_cons (pv 0) (pa_cons (pe_bltn (v := .ty "str") (u := .type "str") (by rfl) m_str (by decide +kernel) rfl) pa_nil))) (pe_one (pe_call G__law_whole (hr.mono (by omega)) (by rfl) g__law_whole F__law_whole.kp b__law_whole .nil pass0 (pa_cons (pv 0) pa_nil))))))), ?_⟩
    refine w_st (σ' := [some v, none]) rfl ?_
    walk_at "ct"
    refine ⟨len2 rfl, fun c n_c => ?_⟩
    generalize h_G : upd _ c _ = G
    obtain ⟨s_G, e_c⟩ := Ct.upd_new h_G n_c
    clear h_G
    walk_at "ct"
    cases hp with
    | int n i =>
      cases hv
      refine w_isiLT (b1 := false) (b2 := false) (b := false) (.base (.int i)) e_c (kit_ty (by decide +kernel)) (kit_ty (by decide +kernel)) rfl ?_
      walk_at "ct"
      refine w_isi (b := false) (.base (.int i)) (kit_ty (by decide +kernel)) ?_
      walk_at "ct"
      refine ⟨.int i, .int i, rfl, .int i, ?_⟩
      exact q G s_G
    | str n x =>
      cases hv
      refine w_isiLT (b1 := false) (b2 := false) (b := false) (.base (.str x)) e_c (kit_ty (by decide +kernel)) (kit_ty (by decide +kernel)) rfl ?_
      walk_at "ct"
      refine w_isi (b := true) (.base (.str x)) (kit_ty (by decide +kernel)) ?_
      walk_at "ct"
      exact q G s_G
    | @lst n ds h1 h2 =>
      obtain ⟨a, xs, rfl, hs, hd⟩ := lst_inv hv
      have hs := s_G.seq hs
      have hd := dpAll_same s_G hd
      refine w_isiLT (b1 := true) (b2 := false) (b := true) (tyx_L hs) e_c (kit_ty (by decide +kernel)) (kit_ty (by decide +kernel)) rfl ?_
      walk_at "ct"
      refine w_anyL ?_
      walk_at "ct"
      refine w_IL hs ?_
      refine lb_list xs (fun D i J => Same G J ∧ J D = some (.lst ((List.replicate i true).map V.bl))) (fun D nD => ⟨same_upd nD, upd_same⟩) (fun D nD i J _ h => Same.seq h.1 hs) ?_ ?_
      · rintro D nD i y J hx ⟨sJ, hD⟩
        have hi := (List.getElem?_eq_some_iff.mp hx).1
        obtain ⟨z, hz⟩ : ∃ z, ds[i]? = some z := ⟨_, List.getElem?_eq_getElem (by rw [← dpAll_len hd]; exact hi)⟩
        obtain ⟨y', hy', dy⟩ := dpAll_get hd hz
        cases Option.some.inj (hx.symm.trans hy')
        walk_at "ct"
        refine ⟨rfl, ?_⟩
        walk_at "ct"
        refine ⟨y, z, rfl, dp_same sJ dy, h1 z (List.mem_of_getElem? hz), fun J2 s2 => ?_⟩
        refine ⟨_, s2 _ _ hD, by rw [List.length_map, List.length_replicate]; exact Nat.lt_of_lt_of_le (show i < 1000 by have := dpAll_len hd; omega) (by decide), same_new (sJ.trans s2) nD, ?_⟩
        rw [upd_same, List.replicate_succ', List.map_append]
        rfl
      rintro D nD J ⟨sJ, hD⟩
      walk_at "ct"
      refine ⟨D, _, rfl, .of hD, ?_⟩
      rw [all_rep]
      exact q J (s_G.trans sJ)
    | @tup n ds h1 h2 =>
      obtain ⟨a, xs, rfl, hs, hd⟩ := tup_inv hv
      have hs := Same.tup s_G hs
      have hd := dpAll_same s_G hd
      refine w_isiLT (b1 := false) (b2 := true) (b := true) (tyx_T hs) e_c (kit_ty (by decide +kernel)) (kit_ty (by decide +kernel)) rfl ?_
      walk_at "ct"
      refine w_anyT ?_
      walk_at "ct"
      refine w_IT hs ?_
      refine lb_tup xs (fun D i J => Same G J ∧ J D = some (.lst ((List.replicate i true).map V.bl))) (fun D nD => ⟨same_upd nD, upd_same⟩) (fun D nD i J _ h => Same.tup h.1 hs) ?_ ?_
      · rintro D nD i y J hx ⟨sJ, hD⟩
        have hi := (List.getElem?_eq_some_iff.mp hx).1
        obtain ⟨z, hz⟩ : ∃ z, ds[i]? = some z := ⟨_, List.getElem?_eq_getElem (by rw [← dpAll_len hd]; exact hi)⟩
        obtain ⟨y', hy', dy⟩ := dpAll_get hd hz
        cases Option.some.inj (hx.symm.trans hy')
        walk_at "ct"
        refine ⟨rfl, ?_⟩
        walk_at "ct"
        refine ⟨y, z, rfl, dp_same sJ dy, h1 z (List.mem_of_getElem? hz), fun J2 s2 => ?_⟩
        refine ⟨_, s2 _ _ hD, by rw [List.length_map, List.length_replicate]; exact Nat.lt_of_lt_of_le (show i < 1000 by have := dpAll_len hd; omega) (by decide), same_new (sJ.trans s2) nD, ?_⟩
        rw [upd_same, List.replicate_succ', List.map_append]
        rfl
      rintro D nD J ⟨sJ, hD⟩
      walk_at "ct"
      refine ⟨D, _, rfl, .of hD, ?_⟩
      rw [all_rep]
      exact q J (s_G.trans sJ)
theorem rec__law_plain {f__law_plain : Addr} {fd__law_plain : FuncData} {f__law_whole : Addr} {fd__law_whole : FuncData}
    (F__law_plain : Fun K "_law_plain" "_law_plain" S__law_plain f__law_plain fd__law_plain) (b__law_plain : Binds K fd__law_plain ["_law_found"] []) (g__law_plain : mg "_law_plain" = some (.ref f__law_plain))
    (F__law_whole : Fun K "_law_whole" "_law_whole" S__law_whole f__law_whole fd__law_whole) (b__law_whole : Binds K fd__law_whole ["_law_found"] []) (g__law_whole : mg "_law_whole" = some (.ref f__law_whole)) (G__law_whole : FnOk P w K mg base CX0 1 f__law_whole fd__law_whole ["_law_found"] (sp__law_whole K)) (m_isinstance : mg "isinstance" = none) (m_list : mg "list" = none) (m_tuple : mg "tuple" = none) (m_all : mg "all" = none) (m_str : mg "str" = none) : ∀ d, FnOk P w K mg base CX0 (1 + d) f__law_plain fd__law_plain ["_law_found"] (sp__law_plain d K)
  | 0 => by
    have no : ∀ vs H Q E, ¬ sp__law_plain 0 K vs H Q E := fun vs H Q E h => by
      obtain ⟨v, x, rfl, _, hp, _⟩ := h
      cases hp
    exact ⟨fun vs H Q E h => absurd h (no vs H Q E), fun A outer s H args us vs Q E _ _ _ _ h => absurd h (no vs H Q E)⟩
  | d + 1 => by
    have ih := rec__law_plain F__law_plain b__law_plain g__law_plain F__law_whole b__law_whole g__law_whole G__law_whole m_isinstance m_list m_tuple m_all m_str d
    exact st__law_plain (k := 1 + d) (by omega) F__law_plain F__law_whole b__law_whole g__law_whole G__law_whole F__law_plain b__law_plain g__law_plain ih m_isinstance m_list m_tuple m_all m_str
abbrev S__law_well : Stmt := topS 64
theorem sc__law_well : FnScope ["_law_told", "_law_kept", "_law_text", "_law_found", "_law_again", "_law_one", "_law_lists", "_law_k"] ["_law_told"] (defScope S__law_well) := ⟨rfl, rfl, rfl, by decide +kernel, rfl, by decide +kernel, by decide +kernel⟩
def sp__law_well (K : PySem.W.Frag) (T : List Addr) : Sp := fun vs H Q _ => ∃ (v : V) (d : PyData) (t : List Nat), vs = [v] ∧ Dp K H v d ∧ AnsA d t ∧ FewA d ∧ Tb T H ∧ ∀ H', Same H H' → Q (.bl true) H'
theorem ok__law_well {f : Addr} {fd : FuncData} {f_read_answer : Addr} {fd_read_answer : FuncData} {f__law_plain : Addr} {fd__law_plain : FuncData} {f_show_answer : Addr} {fd_show_answer : FuncData} {f__law_answer_text : Addr} {fd__law_answer_text : FuncData} {T : List Addr} (F : Fun K "_law_well" "_law_well" S__law_well f fd)
    (F_read_answer : Fun K "read_answer" "read_answer" S_read_answer f_read_answer fd_read_answer) (b_read_answer : Binds K fd_read_answer ["text"] []) (g_read_answer : mg "read_answer" = some (.ref f_read_answer)) (G_read_answer : FnOk P w K mg base CX0 17 f_read_answer fd_read_answer ["text"] (sp_read_answer K T))
    (F__law_plain : Fun K "_law_plain" "_law_plain" S__law_plain f__law_plain fd__law_plain) (b__law_plain : Binds K fd__law_plain ["_law_found"] []) (g__law_plain : mg "_law_plain" = some (.ref f__law_plain)) (G__law_plain : FnOk P w K mg base CX0 7 f__law_plain fd__law_plain ["_law_found"] (sp__law_plain 5 K))
    (F_show_answer : Fun K "show_answer" "show_answer" S_show_answer f_show_answer fd_show_answer) (b_show_answer : Binds K fd_show_answer ["told"] []) (g_show_answer : mg "show_answer" = some (.ref f_show_answer)) (G_show_answer : FnOk P w K mg base CX0 16 f_show_answer fd_show_answer ["told"] (sp_show_answer K))
    (F__law_answer_text : Fun K "_law_answer_text" "_law_answer_text" S__law_answer_text f__law_answer_text fd__law_answer_text) (b__law_answer_text : Binds K fd__law_answer_text ["_law_told"] []) (g__law_answer_text : mg "_law_answer_text" = some (.ref f__law_answer_text)) (G__law_answer_text : FnG P w K mg base CX0 3 f__law_answer_text fd__law_answer_text ["_law_told"] (sp__law_answer_text K)) (m_str : mg "str" = none) (m_enumerate : mg "enumerate" = none) (m_isinstance : mg "isinstance" = none) (m_tuple : mg "tuple" = none) (m_list : mg "list" = none) :
    FnG P w K mg base CX0 18 f fd ["_law_told"] (sp__law_well K T) := by
  refine fnG_of0 F sc__law_well (fun vs H Q E h => ?_) (fun cdv A gd outer s H vs Q E hr h => ?_)
  ·
    obtain ⟨v, d, t, rfl, _⟩ := h
    rfl
  ·
    obtain ⟨v, d, t, rfl, hv, ans, few, hTb, q⟩ := h
    obtain ⟨f0, r0, rfl, long⟩ := ans_tup ans
    obtain ⟨l4, flds⟩ := ans_fldW ans few
    have pl := ans_plain ans few
    have shw := (shw_flds (fun f hf => fldW_of (flds f hf)) l4).1
    obtain ⟨a, xs, rfl, hs, hd⟩ := tup_inv hv
    refine ⟨_, (pss_cons (ps_set (i := 1) sc__law_well.nd rfl (.inl rfl) (pe_callTy (r := rStrB K) (call_strB gd hr.units) (by rfl) m_str (by decide +kernel) (pa_cons (pv 0) pa_nil)))
      (pss_cons (ps_set (i := 2) sc__law_well.nd rfl (.inl rfl) (pe_callG G__law_answer_text gd (hr.mono (by decide)) (by rfl) g__law_answer_text F__law_answer_text.kp b__law_answer_text pass0 (pa_cons (pv 0) pa_nil)))
      (pss_cons (ps_set (i := 3) sc__law_well.nd rfl (.inl rfl) (pe_call G_show_answer (hr.mono (by decide)) (by rfl) g_show_answer F_show_answer.kp b_show_answer .nil pass0 (pa_cons (pv 0) pa_nil)))
      (pss_cons (ps_if (PW.pt (pw_or (pt_not (pt_val (pe_callB (r := rIsi K) call_isi (by rfl) m_isinstance (by decide +kernel) (pa_cons (pv 3) (pa_cons (pe_bltn (v := .ty "str") (u := .type "str") (by rfl) m_str (by decide +kernel) rfl) pa_nil))))) (pw_or (pt_cmpR op_ne (pv 3) (pv 2) (nomark _)) (pw_or1 (pt_cmpR op_ne (pe_callTy (r := rStrB K) (call_strB gd hr.units) (by rfl) m_str (by decide +kernel) (pa_cons (pv 0) pa_nil)) (pv 1) (nomark _)))))) (pss_one (ps_ret pe_bl)) pss_nil)
      (pss_cons (ps_set (i := 4) sc__law_well.nd rfl (.inl rfl) (pe_call G_read_answer (hr.mono (by decide)) (by rfl) g_read_answer F_read_answer.kp b_read_answer .nil pass0 (pa_cons (pv 2) pa_nil)))
      (pss_cons (ps_if (PW.pt (pw_or (pt_not (pt_val (pe_callB (r := rIsi K) call_isi (by rfl) m_isinstance (by decide +kernel) (pa_cons (pv 4) (pa_cons (pe_bltn (v := .ty "tuple") (u := .type "tuple") (by rfl) m_tuple (by decide +kernel) rfl) pa_nil))))) (pw_or (pt_cmpR (r := rNeD K) (op_neD hr.units) (pv 4) (pv 0) (nomark _)) (pw_or1 (pt_not (pt_val (pe_call G__law_plain (hr.mono (by decide)) (by rfl) g__law_plain F__law_plain.kp b__law_plain .nil pass0 (pa_cons (pv 4) pa_nil)))))))) (pss_one (ps_ret pe_bl)) pss_nil)
      (pss_cons (ps_setLc (i := 6) (own := [("_law_one", 5)]) (g := gName 5)  rfl sc__law_well.nd rfl rfl (sw_true rfl rfl rfl (by decide +kernel)) (pi_tup (pe_slice (r := rSlA K) sl_tupA (pv 4) (po_some pe_int) po_none)) (blkOk_by (own := [("_law_one", 5)]) (N := ["_law_told", "_law_kept", "_law_text", "_law_found", "_law_again", "_law_one", "_law_lists", "_law_k"]) (sc := defScope S__law_well) (by decide +kernel)) (fun _ _ _ _ _ => pg_name (i := 5) sc__law_well.nd rfl (Or.inl rfl)) (fun _ _ _ _ _ => (pts_one (pt_val (pe_callB (r := rIsi K) call_isi (by rfl) m_isinstance (by decide +kernel) (pa_cons (pv 5) (pa_cons (pe_bltn (v := .ty "list") (u := .type "list") (by rfl) m_list (by decide +kernel) rfl) pa_nil)))))) (fun _ _ _ _ _ => (pv 5)))
      (pss_cons (ps_for PassesOwn.never rfl (pi_enum (by rfl) m_enumerate (pa_cons (pv 6) pa_nil)) (pg_tup rfl (pgs_cons (pg_name (i := 7) sc__law_well.nd rfl (.inl rfl)) (pgs_cons (pg_name (i := 5) sc__law_well.nd rfl (.inl rfl)) pgs_nil)))
      (pss_cons (ps_expr (pe_bm PySem.F.plainAttrs_list PySem.F.slot_list_append PySem.F.type_list_append mt_append (pv 5) (pa_cons pe_non pa_nil)))
      (pss_one (ps_if (pt_cmpR op_ne (pe_m1 PySem.F.slot_str_count PySem.F.type_str_count mt_count (pe_callTy (r := rStrB K) (call_strB gd hr.units) (by rfl) m_str (by decide +kernel) (pa_cons (pv 4) pa_nil)) pe_str) (pe_op op_add (pv 7) pe_int) (nomark _)) (pss_one (ps_ret pe_bl)) pss_nil))))
      (pss_one (ps_ret (pe_cmpR (r := rEqD K) (op_eqD hr.units) (pe_call G_read_answer (hr.mono (by decide)) (by rfl) g_read_answer F_read_answer.kp b_read_answer .nil pass0 (pa_cons (pv 2) pa_nil)) (pv 0) (nomark _)))))))))))), ?_⟩
    refine w_st (σ' := [some (.ref a), none, none, none, none, none, none, none]) rfl ?_
    walk_at "ct"
    refine ⟨a, _, rfl, hv, shw, ?_⟩
    walk_at "ct"
    refine ⟨.ref a, _, t, rfl, hv, ans, fun H1 s1 => ?_⟩
    walk_at "ct"
    refine ⟨.ref a, _, t, rfl, dp_same s1 hv, ans, fun H2 s2 => ?_⟩
    have s12 := s1.trans s2
    walk_at "ct"
    refine w_isi (b := true) (.base (.str _)) (kit_ty (by decide +kernel)) ?_
    walk_at "ct"
    refine w_neX ?_
    rw [decide_eq_true rfl]
    walk_at "ct"
    refine ⟨a, _, rfl, dp_same s12 hv, shw, ?_⟩
    walk_at "ct"
    refine w_rNs (c := false) (by rw [decide_eq_true rfl]; rfl) ?_
    walk_at "ct"
    refine ⟨_, t, rfl, ans, hTb.same s12, fun u H3 s3 du td => ?_⟩
    obtain ⟨p, fs, gs, m, x, rfl, tA, ed, fresh⟩ := td
    walk_at "ct"
    refine w_isi (b := true) (tyx_T (.of tA.at_)) (kit_ty (by decide +kernel)) ?_
    walk_at "ct"
    have hv3 := dp_same (s12.trans s3) hv
    refine w_neSame _ du hv3 shw.lay (by decide) ?_
    walk_at "ct"
    refine ⟨.ref p, _, rfl, du, pl, fun H4 s4 => ?_⟩
    walk_at "ct"
    have tA := tA.same s4
    have s24 := s3.trans s4
    rcases fs with _ | ⟨v0, rs⟩
    · cases tA.fld
    obtain ⟨hx0, hrs⟩ : FldA K H4 v0 (.c x) ∧ Paired (FldA K H4) rs gs := by
      cases tA.fld with
      | cons h t => exact ⟨h, t⟩
    have rl := Paired.length hrs
    have ed2 : f0 = x ∧ r0 = gs.map (FA.d m) := by
      have : f0 :: r0 = x :: gs.map (FA.d m) := PyData.tuple.inj ed
      exact ⟨(List.cons.inj this).1, (List.cons.inj this).2⟩
    obtain ⟨rfl, rfl⟩ := ed2
    have lst := tA.lst
    have gl : gs.length ≤ 4 := by rw [List.length_cons, List.length_map] at l4; omega
    refine w_slTd (n := 1) (.of tA.at_) (by exact Nat.succ_le_succ (Nat.zero_le _)) fun g G s_G hg => ?_
    have hg : SqT K G g rs := hg
    walk_at "ct"
    refine w_IT hg ?_
    refine lb_tup rs (fun D i J => Same G J ∧ J D = some (.lst ((lsA (gs.take i)).map V.ref))) (fun D nD => ⟨same_upd nD, upd_same⟩) (fun D nD i J _ h => Same.tup h.1 hg) ?_ ?_
    · rintro D nD i x J hx ⟨sJ, hD⟩
      have hi := (List.getElem?_eq_some_iff.mp hx).1
      obtain ⟨y, hy⟩ : ∃ y, gs[i]? = some y := ⟨_, List.getElem?_eq_getElem (by omega)⟩
      obtain ⟨y', hy', fy⟩ := paired_getT hrs hx
      cases Option.some.inj (hy.symm.trans hy')
      have tk : lsA (gs.take (i + 1)) = lsA (gs.take i) ++ lsA [y] := by rw [List.take_add_one, hy, lsA_app]; rfl
      have ll := lsA_len (gs.take i)
      rw [List.length_take] at ll
      cases y with
      | c d =>
        have dx := dp_same (s_G.trans sJ) fy.1
        obtain ⟨ty, hty, kt⟩ : ∃ ty, TyX K J x ty ∧ PySem.W.kitOne K ty (.type "list") = some false := by
          cases fy.2 with
          | int i => cases dx; exact ⟨_, .base (.int _), kit_ty (by decide +kernel)⟩
          | str x => cases dx; exact ⟨_, .base (.str _), kit_ty (by decide +kernel)⟩
          | tup h =>
            obtain ⟨c, vs, rfl, hc, _⟩ := tup_inv dx
            exact ⟨_, tyx_T hc, kit_ty (by decide +kernel)⟩
        walk_at "ct"
        refine ⟨rfl, ?_⟩
        walk_at "ct"
        refine w_isi (b := false) hty kt ?_
        walk_at "ct"
        refine ⟨sJ, ?_⟩
        rw [tk]
        show J D = some (.lst ((lsA (gs.take i) ++ []).map V.ref))
        rw [List.append_nil]
        exact hD
      | l b =>
        cases (show x = V.ref b from fy)
        have mb : b ∈ lsA gs := mem_lsA (List.mem_of_getElem? hy)
        obtain ⟨zs, hz, _⟩ := lst b mb
        walk_at "ct"
        refine ⟨rfl, ?_⟩
        walk_at "ct"
        refine w_isi (b := true) (tyx_L (.of (sJ _ _ (s_G _ _ hz)))) (kit_ty (by decide +kernel)) ?_
        walk_at "ct"
        refine ⟨_, hD, small1000 (by rw [List.length_map]; omega), same_new sJ nD, ?_⟩
        rw [upd_same, tk, List.map_append]
        rfl
    rintro D nD J ⟨sJ, hD⟩
    rw [rl, List.take_length] at hD
    have s4J := s_G.trans sJ
    have al := lsA_len gs
    walk_at "ct"
    refine w_IE (.of hD) ?_
    have elt : ∀ b ∈ lsA gs, (m b).length ≤ 500 ∧ ∀ e ∈ m b, IntE 60 e := fun b hb => by
      have : ∀ {gs : List FA}, b ∈ lsA gs → FA.l b ∈ gs := by
        intro gs
        induction gs with
        | nil => intro h; cases h
        | cons y r ih =>
          cases y with
          | c d => intro h; exact List.mem_cons_of_mem _ (ih h)
          | l c =>
            intro h
            rcases List.mem_cons.mp h with h | h
            · rw [h]; exact List.mem_cons_self
            · exact List.mem_cons_of_mem _ (ih h)
      have mf : PyData.list (m b) ∈ f0 :: gs.map (FA.d m) := List.mem_cons_of_mem _ (List.mem_map.mpr ⟨_, this hb, rfl⟩)
      rcases flds _ mf with ⟨ds, e, l, g⟩ | g
      · cases e
        exact ⟨l, g⟩
      · have := g.td
        cases this
    have cst : ∀ y ∈ FA.c f0 :: gs, ∀ d, y = FA.c d → IntE 300 d := fun y hy d e => by
      subst e
      have mf : d ∈ f0 :: gs.map (FA.d m) := by
        rcases List.mem_cons.mp hy with h | h
        · cases h; exact List.mem_cons_self
        · exact List.mem_cons_of_mem _ (List.mem_map.mpr ⟨_, h, rfl⟩)
      rcases flds d mf with ⟨ds, e, _, _⟩ | g
      · subst e
        rcases List.mem_cons.mp hy with h | h
        · cases h
          have := hx0.2
          cases this
        · obtain ⟨i, hi⟩ := List.getElem?_of_mem h
          obtain ⟨v, hv⟩ : ∃ v, rs[i]? = some v := ⟨_, List.getElem?_eq_getElem (by rw [rl]; exact (List.getElem?_eq_some_iff.mp hi).1)⟩
          obtain ⟨y', hy', fy⟩ := paired_getT hrs hv
          cases Option.some.inj (hi.symm.trans hy')
          have := fy.2
          cases this
      · exact g
    have zero : cnNs (gs.map (FA.d m)) = 0 := cns_zero fun d hd => by
      obtain ⟨y, hy, rfl⟩ := List.mem_map.mp hd
      cases y with
      | c d => exact (cst _ (List.mem_cons_of_mem _ hy) d rfl).no
      | l b => exact (cns_zero fun e he => ((elt b (mem_lsA hy)).2 e he).no)
    refine fb_enumL ((lsA gs).map V.ref) (fun i σ I => ∃ y5 y7 m', σ = [some (.ref a), some (.str (PyData.shown (.tuple (f0 :: gs.map (FA.d m))))), some (.str (tx t)), some (.str (tx t)), some (.ref p), y5, some (.ref D), y7] ∧ Same H2 I ∧ I D = some (.lst ((lsA gs).map V.ref)) ∧ ToldA K I p (v0 :: rs) (.c f0 :: gs) m' ∧ cnNs (gs.map (FA.d m')) = i ∧ ∀ b ∈ lsA gs, (m' b).length ≤ 500 + i ∧ ∀ e ∈ m' b, IntE 60 e ∨ e = .none) ⟨_, _, m, rfl, s24.trans s4J, hD, tA.same s4J, zero, fun b hb => ⟨(elt b hb).1, fun e he => .inl ((elt b hb).2 e he)⟩⟩ ?_ ?_ ?_
    · rintro i σ I hi ⟨y5, y7, m', rfl, sI, hDI, _⟩
      exact .of hDI
    · rintro i v T0 σ I hv0 ⟨y5, y7, m', rfl, sI, hDI, tI, cn, el⟩ n_T0
      generalize h_I1 : upd _ T0 _ = I1
      obtain ⟨s_I1, e_T0⟩ := Ct.upd_new h_I1 n_T0
      clear h_I1
      obtain ⟨b, hb, rfl⟩ := map_getN hv0
      have mb := List.mem_of_getElem? hb
      have il := (List.getElem?_eq_some_iff.mp hb).1
      refine w_gtup (.of e_T0) rfl ?_
      walk_at "ct"
      have tI := tI.same s_I1
      obtain ⟨zs, hz, dz, _⟩ := tI.lst b mb
      have zl := dpAll_len dz
      have ml := (el b mb).1
      refine ⟨ty_list hz, ?_⟩
      walk_at "ct"
      refine w_append hz (small1000 (by omega)) ?_
      have tP := tI.push hz mb
      have sP := same_new (o := .lst (zs ++ [.non])) (sI.trans s_I1) (fresh b mb)
      have nb : D ≠ b := fun z => by
        rw [z] at nD
        obtain ⟨zs, hz, _⟩ := lst b mb
        rw [s_G _ _ hz] at nD
        cases nD
      have hDP : (upd I1 b (.lst (zs ++ [.non]))) D = some (.lst ((lsA gs).map V.ref)) := by
        rw [upd_ne nb]
        exact s_I1 _ _ hDI
      generalize upd I1 b _ = I2 at *
      have cn2 : cnNs (gs.map (FA.d fun c => if c = b then m' b ++ [.none] else m' c)) = i + 1 := by rw [cn_push (gs := gs) tA.nd mb, cn]
      have el2 : ∀ c ∈ lsA gs, ((fun c => if c = b then m' b ++ [PyData.none] else m' c) c).length ≤ 500 + (i + 1) ∧ ∀ e ∈ (fun c => if c = b then m' b ++ [PyData.none] else m' c) c, IntE 60 e ∨ e = .none := fun c hc => by
        have h0 := el c hc
        by_cases z : c = b
        · subst z
          show (if c = c then m' c ++ [PyData.none] else m' c).length ≤ _ ∧ ∀ e ∈ (if c = c then m' c ++ [PyData.none] else m' c), _
          rw [if_pos rfl]
          refine ⟨by rw [List.length_append]; show (m' c).length + 1 ≤ _; omega, fun e he => ?_⟩
          rcases List.mem_append.mp he with he | he
          · exact h0.2 e he
          · exact .inr (List.mem_singleton.mp he)
        · show (if c = b then m' b ++ [PyData.none] else m' c).length ≤ _ ∧ ∀ e ∈ (if c = b then m' b ++ [PyData.none] else m' c), _
          rw [if_neg z]
          exact ⟨by omega, h0.2⟩
      generalize (fun c => if c = b then m' b ++ [PyData.none] else m' c) = m2 at *
      have fl2 : ∀ f ∈ f0 :: gs.map (FA.d m2), FldW f := fun f hf => by
        rcases List.mem_cons.mp hf with rfl | hf
        · exact .inr (cst _ List.mem_cons_self _ rfl)
        · obtain ⟨y, hy, rfl⟩ := List.mem_map.mp hf
          cases y with
          | c d => exact .inr (cst _ (List.mem_cons_of_mem _ hy) d rfl)
          | l c =>
            have := el2 c (mem_lsA hy)
            exact .inl ⟨m2 c, rfl, by omega, this.2⟩
      obtain ⟨sh2, cl2⟩ := shw_flds fl2 (by rw [List.length_cons, List.length_map]; rw [List.length_cons, List.length_map] at l4; exact l4)
      have cnt : Txt.count (PyData.shown (.tuple (f0 :: gs.map (FA.d m2)))) (Str.ofString "None") = ((i + 1 : Nat) : Int) := by
        have h := noneN_shown cl2
        rw [cnN, cnNs, (cst _ List.mem_cons_self _ rfl).no, Nat.zero_add, cn2] at h
        exact noneN_count h (shown_four long)
      walk_at "ct"
      refine ⟨p, .tuple (f0 :: gs.map (FA.d m2)), rfl, tP.dp, sh2, ?_⟩
      walk_at "ct"
      refine ⟨⟨_, rfl⟩, ?_⟩
      walk_at "ct"
      refine ⟨_, _, rfl, rfl, ?_⟩
      rw [cnt]
      walk_at "ct"
      rw [decide_eq_true (by rw [Int.natCast_add]; rfl)]
      walk_at "ct"
      exact ⟨_, _, m2, rfl, sP, hDP, tP, cn2, el2⟩
    rintro σ I ⟨y5, y7, m', rfl, sI, _⟩
    walk_at "ct"
    have sHI := s12.trans sI
    refine ⟨_, t, rfl, ans, hTb.same sHI, fun u I3 s_I3 du3 _ => ?_⟩
    walk_at "ct"
    have sHI3 := sHI.trans s_I3
    refine w_eqSameT _ du3 (dp_same sHI3 hv) shw.lay (by decide) ?_
    exact q I3 sHI3
abbrev S__law_wide : Stmt := topS 65
theorem sc__law_wide : FnScope ["_law_draws_here", "_law_ways_here", "_law_z", "_law_pushes_here", "_law_wheel", "_law_k", "_law_way"] ["_law_draws_here"] (defScope S__law_wide) := ⟨rfl, rfl, rfl, by decide +kernel, rfl, by decide +kernel, by decide +kernel⟩
def sp__law_wide (K : PySem.W.Frag) : Sp := fun vs H Q _ => ∃ (D : Addr) (c : Nat), vs = [.ref D] ∧ H D = some (DrO D c) ∧ c ≤ 1000 ∧ ∀ l us c' H', Dr D c' H H' → H' l = some (.lst us) → (∀ v ∈ us, ∃ d t, Dp K H' v d ∧ AnsA d t ∧ FewA d) → Q (.ref l) H'
theorem ok__law_wide {f : Addr} {fd : FuncData} {f__law_next : Addr} {fd__law_next : FuncData} {f__law_ways : Addr} {fd__law_ways : FuncData} (F : Fun K "_law_wide" "_law_wide" S__law_wide f fd)
    (F__law_next : Fun K "_law_next" "_law_next" S__law_next f__law_next fd__law_next) (b__law_next : Binds K fd__law_next ["_law_draws_here"] []) (g__law_next : mg "_law_next" = some (.ref f__law_next)) (G__law_next : FnOk P w K mg base CX0 1 f__law_next fd__law_next ["_law_draws_here"] (sp__law_next K))
    (F__law_ways : Fun K "_law_ways" "_law_ways" S__law_ways f__law_ways fd__law_ways) (b__law_ways : Binds K fd__law_ways ["_law_draws_here", "_law_many"] []) (g__law_ways : mg "_law_ways" = some (.ref f__law_ways)) (G__law_ways : FnOk P w K mg base CX0 2 f__law_ways fd__law_ways ["_law_draws_here", "_law_many"] (sp__law_ways K)) (m_tuple : mg "tuple" = none) (m_enumerate : mg "enumerate" = none) (m_list : mg "list" = none) (m_range : mg "range" = none) :
    FnOk P w K mg base CX0 3 f fd ["_law_draws_here"] (sp__law_wide K) := by
  refine F.ok sc__law_wide (fun vs H Q E h => ?_) (fun cdv A outer s H vs Q E hr h => ?_)
  ·
    obtain ⟨D, c, rfl, _⟩ := h
    rfl
  ·
    obtain ⟨D, c, rfl, hD, hc, q⟩ := h
    refine ⟨_, (pss_cons (ps_set (i := 1) sc__law_wide.nd rfl (.inl rfl) (pe_op op_cat (pe_call G__law_ways (hr.mono (by decide)) (by rfl) g__law_ways F__law_ways.kp b__law_ways .nil pass0 (pa_cons (pv 0) (pa_cons pe_int pa_nil))) (pe_lst (pa_cons pe_int pa_nil))))
      (pss_cons (ps_set (i := 2) sc__law_wide.nd rfl (.inl rfl) (pe_ix (r := rIxL K) ix_list (pe_lst (pa_cons (pe_op op_add pe_int (pe_op op_mod (pe_call G__law_next (hr.mono (by decide)) (by rfl) g__law_next F__law_next.kp b__law_next .nil pass0 (pa_cons (pv 0) pa_nil)) pe_int)) (pa_cons pe_int pa_nil))) (pe_op op_mod (pe_call G__law_next (hr.mono (by decide)) (by rfl) g__law_next F__law_next.kp b__law_next .nil pass0 (pa_cons (pv 0) pa_nil)) pe_int) (fun _ _ => rfl)))
      (pss_cons (ps_setLc (i := 3) (own := [("_law_k", 5), ("_law_way", 6)]) (g := gTup K 2 (gCons (gName 5) (gCons (gName 6) gNil)))  rfl sc__law_wide.nd rfl rfl (sw_true rfl rfl rfl (by decide +kernel)) (pi_enum (by rfl) m_enumerate (pa_cons (pe_slice (r := rSlL K) sl_list (pe_op op_rep (pv 1) pe_int) po_none (po_some pe_int)) pa_nil)) (blkOk_by (own := [("_law_k", 5), ("_law_way", 6)]) (N := ["_law_draws_here", "_law_ways_here", "_law_z", "_law_pushes_here", "_law_wheel", "_law_k", "_law_way"]) (sc := defScope S__law_wide) (by decide +kernel)) (fun _ _ _ _ _ => pg_tup rfl (pgs_cons (pg_name (i := 5) sc__law_wide.nd rfl (Or.inl rfl)) (pgs_cons (pg_name (i := 6) sc__law_wide.nd rfl (Or.inl rfl)) pgs_nil))) (fun _ _ _ _ _ => pts_nil) (fun _ _ _ _ _ => (pe_tup (pa_cons (pe_op op_mod (pv 5) pe_int) (pa_cons (pv 6) pa_nil)))))
      (pss_cons (ps_set (i := 4) sc__law_wide.nd rfl (.inl rfl) (pe_tup (pa_cons pe_str (pa_cons (pv 2) (pa_cons (pe_callTy call_tuple_of (by rfl) m_tuple (by decide +kernel) (pa_cons (pe_listRg rfl (by rfl) m_list (prg_2 (by rfl) m_range pe_int (pv 2))) pa_nil)) (pa_cons (pe_lc (own := [("_law_k", 5)]) (g := gName 5)  rfl sc__law_wide.nd  (pi_range2 (by rfl) m_range (pa_cons pe_int (pa_cons (pv 2) pa_nil))) (blkOk_by (own := [("_law_k", 5)]) (N := ["_law_draws_here", "_law_ways_here", "_law_z", "_law_pushes_here", "_law_wheel", "_law_k", "_law_way"]) (sc := defScope S__law_wide) (by decide +kernel)) (fun _ _ _ _ _ => pg_name (i := 5) sc__law_wide.nd rfl (Or.inl rfl)) (fun _ _ _ _ _ => pts_nil) (fun _ _ _ _ _ => (pe_tup (pa_cons (pe_op op_mod (pv 5) pe_int) (pa_cons (pv 5) pa_nil))))) pa_nil))))))
      (pss_one (ps_ret (pe_lst (pa_cons (pe_tup (pa_cons pe_str (pa_cons (pe_slice (r := rSlL K) sl_list (pe_op op_rep (pv 1) pe_int) po_none (po_some pe_int)) pa_nil))) (pa_cons (pe_tup (pa_cons pe_str (pa_cons (pv 3) (pa_cons (pe_lst (pa_cons (pe_tup (pa_cons (pe_tup (pa_cons pe_int (pa_cons pe_int pa_nil))) (pa_cons pe_int pa_nil))) (pa_cons (pe_tup (pa_cons (pe_tup (pa_cons pe_int (pa_cons pe_int pa_nil))) (pa_cons pe_int pa_nil))) pa_nil))) pa_nil)))) (pa_cons (pv 4) pa_nil)))))))))), ?_⟩
    refine w_st (σ' := [some (.ref D), none, none, none, none, none, none]) rfl ?_
    walk_at "ct"
    refine ⟨D, c, 12, rfl, hD, by omega, by decide, by decide, fun l ws c1 H1 d1 c1b n_l h_l sg wl => ?_⟩
    walk_at "ct"
    refine ⟨len2 rfl, fun o n_o => ?_⟩
    generalize h_H2 : upd _ o _ = H2
    obtain ⟨s_H2, e_o⟩ := Ct.upd_new h_H2 n_o
    clear h_H2
    refine w_cat (s_H2 _ _ h_l) e_o (by rw [List.length_map]; exact Nat.le_of_lt (small1000 (show ws.length + 1 ≤ 1000 by omega))) fun y H3 n_y s3 e_y => ?_
    have e_y : H3 y = some (.lst ((ws ++ [1]).map V.int)) := by rw [e_y, List.map_append]; rfl
    have sg2 : ∀ w ∈ ws ++ [1], Sign w := fun w hw => by
      rcases List.mem_append.mp hw with hw | hw
      · exact sg w hw
      · rw [List.mem_singleton.mp hw]; exact .inl rfl
    have wl2 : (ws ++ [1]).length ≤ 12 := by rw [List.length_append]; show ws.length + 1 ≤ 12; omega
    have wp2 : 1 ≤ (ws ++ [1]).length := by rw [List.length_append]; exact Nat.le_add_left _ _
    generalize ws ++ [1] = w0 at *
    have d3 := (d1.same s_H2).same s3
    walk_at "ct"
    refine ⟨D, c1, rfl, d3.2, by omega, fun n2 _ _ => ?_⟩
    have st4 := Dr.step d3.2 (c1 + 1)
    have e_y4 := st4.at d3.2 e_y
    have d4 := d3.trans st4
    generalize upd H3 D _ = H4 at *
    walk_at "ct"
    refine w_mod (by decide) fun r r0 r1 => ?_
    walk_at "ct"
    refine ⟨len2 rfl, fun zs n_zs => ?_⟩
    generalize h_H5 : upd _ zs _ = H5
    obtain ⟨s_H5, e_zs⟩ := Ct.upd_new h_H5 n_zs
    clear h_H5
    have d5 := d4.same s_H5
    walk_at "ct"
    refine ⟨D, c1 + 1, rfl, d5.2, by omega, fun n3 _ _ => ?_⟩
    have st6 := Dr.step d5.2 (c1 + 2)
    have e_y6 := st6.at d5.2 (s_H5 _ _ e_y4)
    have e_z6 := st6.at d5.2 e_zs
    have d6 := d5.trans st6
    generalize upd H5 D _ = H6 at *
    walk_at "ct"
    refine w_mod (by decide) fun b b0 b1 => ?_
    obtain ⟨z, hz, z1, z2⟩ : ∃ z : Nat, atI [V.int (32 + r), .int 300] b = some (.int (z : Int)) ∧ 32 ≤ z ∧ z ≤ 300 := by
      have : b = 0 ∨ b = 1 := by omega
      rcases this with rfl | rfl
      · exact ⟨(32 + r).toNat, by rw [show ((32 + r).toNat : Int) = 32 + r by omega]; exact at0, by omega, by omega⟩
      · exact ⟨300, at1, by decide, by decide⟩
    refine w_ixL (.of e_z6) hz ?_
    walk_at "ct"
    refine ⟨y, 400, w0.map V.int, rfl, rfl, e_y6, by decide, by decide, Nat.le_trans (Nat.mul_le_mul (show (w0.map V.int).length ≤ 12 by rw [List.length_map]; exact wl2) (Nat.le_refl _)) (by decide), fun rr n_rr => ?_⟩
    generalize h_B0 : upd _ rr _ = B0
    obtain ⟨s_B0, e_rr⟩ := Ct.upd_new h_B0 n_rr
    clear h_B0
    walk_at "ct"
    refine w_slL (.of e_rr) fun q0 n_q0 => ?_
    generalize h_C0 : upd _ q0 _ = C0
    obtain ⟨s_C0, e_q0⟩ := Ct.upd_new h_C0 n_q0
    clear h_C0
    obtain ⟨w4, e4, sg4, l4⟩ : ∃ w4 : List Int, ((List.replicate 400 (w0.map V.int)).flatten.take 400) = w4.map V.int ∧ (∀ w ∈ w4, Sign w) ∧ w4.length ≤ 400 := by
      refine ⟨((List.replicate 400 w0).flatten).take 400, ?_, fun w hw => ?_, by rw [List.length_take]; omega⟩
      · rw [List.map_take, List.map_flatten, List.map_replicate]
      · obtain ⟨x, hx, hw⟩ := List.mem_flatten.mp (List.mem_of_mem_take hw)
        rw [(List.mem_replicate.mp hx).2] at hw
        exact sg2 w hw
    have e_q0 : C0 q0 = some (.lst (w4.map V.int)) := by rw [e_q0, show (some (400 : Int)) = some (((400 : Nat)) : Int) from rfl, cut_toB, ← e4]; rfl
    have e_y7 := s_C0 _ _ (s_B0 _ _ e_y6)
    have d7 := (d6.same s_B0).same s_C0
    walk_at "ct"
    refine w_IE (.of e_q0) ?_
    refine lb_enum (w4.map V.int) (fun A i G => ∃ (xs : List V) (ds : List PyData) (ts : List (List Nat)), Same C0 G ∧ G A = some (.lst xs) ∧ DpAll K G xs ds ∧ ElsT 1 ds ts ∧ ts.length = i) (fun A nA => ⟨[], [], [], same_upd nA, upd_same, .nil, .nil, rfl⟩) (fun A nA i G _ h => by obtain ⟨_, _, _, sG, _⟩ := h; exact .of (sG _ _ e_q0)) ?_ ?_
    · rintro A nA i v T0 G hv ⟨xs, ds, ts, sG, hA, hd, pr, tl⟩ n_T0
      generalize h_G1 : upd _ T0 _ = G1
      obtain ⟨s_G1, e_T0⟩ := Ct.upd_new h_G1 n_T0
      clear h_G1
      obtain ⟨w', hw', rfl⟩ := map_getN hv
      have il := (List.getElem?_eq_some_iff.mp hw').1
      have sw := sg4 w' (List.mem_of_getElem? hw')
      walk_at "ct"
      refine w_gtup (.of e_T0) rfl ?_
      walk_at "ct"
      refine ⟨rfl, ?_⟩
      walk_at "ct"
      refine w_rIv (.int ((i % 9 : Nat) : Int)) (by decide) (by rw [Int.natCast_emod]; rfl) ?_
      walk_at "ct"
      refine ⟨len2 rfl, fun u n_u => ?_⟩
      generalize h_G2 : upd _ u _ = G2
      obtain ⟨s_G2, e_u⟩ := Ct.upd_new h_G2 n_u
      clear h_G2
      have hA2 := s_G2 _ _ (s_G1 _ _ hA)
      have hd2 := dpAll_same (s_G1.trans s_G2) hd
      have xl : xs.length = i := by rw [dpAll_len hd, Paired.length pr, tl]
      have pr2 : ElsT 1 (ds ++ [.tuple ([((i % 9 : Nat) : Int), w'].map PyData.int)]) (ts ++ [nL (i % 9) ++ wayT w']) := Paired.snoc pr ⟨i % 9, w', Nat.lt_of_lt_of_le (Nat.mod_lt _ (by decide)) (by decide), sw, rfl, rfl⟩
      refine ⟨xs, hA2, small1000 (by omega), xs ++ [.ref u], _, _, same_new ((sG.trans s_G1).trans s_G2) nA, upd_same, dpAll_updT hA2 (tdT_of (elsT_tdT pr2)) (dpAll_app hd2 (.cons (.tup (.of e_u) (dpAll_ints [((i % 9 : Nat) : Int), w'])) .nil)), pr2, by rw [List.length_append, tl]; rfl⟩
    rintro A nA G ⟨xs, ds, ts, sG, hA, hd, pr, tl⟩
    rw [List.length_map] at tl
    have e_y8 := sG _ _ e_y7
    have d8 := d7.same sG
    walk_at "ct"
    refine ⟨_, _, rfl, rfl, RgOk.of_le (by decide) (by omega) (by decide) (by omega), fun lr n_lr => ?_⟩
    generalize h_J1 : upd _ lr _ = J1
    obtain ⟨s_J1, e_lr⟩ := Ct.upd_new h_J1 n_lr
    clear h_J1
    have marks : rgV 1 (z : Int) = ((List.range (z - 1)).map (1 + ·)).map fun n : Nat => V.int (n : Int) := by
      unfold rgV
      rw [show ((z : Int) - 1).toNat = z - 1 by omega, List.map_map]
      refine List.map_congr_left fun n _ => ?_
      show V.int (1 + (n : Int)) = V.int ((1 + n : Nat) : Int)
      rw [Int.natCast_add]
      rfl
    rw [marks] at e_lr
    obtain ⟨ns, hns⟩ : ∃ ns, (List.range (z - 1)).map (1 + ·) = ns := ⟨_, rfl⟩
    rw [hns] at e_lr
    have nlen : ns.length = z - 1 := by rw [← hns, List.length_map, List.length_range]
    have nb : ∀ n ∈ ns, n < z := fun n hn => by
      rw [← hns] at hn
      obtain ⟨k, hk, rfl⟩ := List.mem_map.mp hn
      have := List.mem_range.mp hk
      omega
    have npw : ns.Pairwise (· < ·) := by
      rw [← hns, List.pairwise_map]
      exact List.pairwise_lt_range.imp fun h => by omega
    have ps := wheelW npw nb (by omega) (by omega) (by omega)
    walk_at "ct"
    refine ⟨lr, _, rfl, .inl ⟨.of e_lr, fun tr n_tr => ?_⟩⟩
    generalize h_J2 : upd _ tr _ = J2
    obtain ⟨s_J2, e_tr⟩ := Ct.upd_new h_J2 n_tr
    clear h_J2
    walk_at "ct"
    refine w_RG2 (by decide) (by decide) (by omega) (by omega) ?_
    refine lb_range (fun A i G => ∃ (xs : List V) (ds : List PyData) (ts : List (List Nat)), Same J2 G ∧ G A = some (.lst xs) ∧ DpAll K G xs ds ∧ Paired BarA ds ts ∧ ts.length = i) (fun A nA => ⟨[], [], [], same_upd nA, upd_same, .nil, .nil, rfl⟩) ?_ ?_
    · rintro A2 nA2 i G0 hi ⟨xs, ds, ts, sG, hA, hd, pr, tl⟩
      obtain ⟨k, hk⟩ : ∃ k : Nat, (1 : Int) + (i : Int) = (k : Int) := ⟨1 + i, by omega⟩
      rw [hk]
      walk_at "ct"
      refine ⟨rfl, ?_⟩
      walk_at "ct"
      refine w_rIv (.int ((k % 7 : Nat) : Int)) (by decide) (by rw [Int.natCast_emod]; rfl) ?_
      walk_at "ct"
      refine ⟨len2 rfl, fun u n_u => ?_⟩
      generalize h_G2 : upd _ u _ = G2
      obtain ⟨s_G2, e_u⟩ := Ct.upd_new h_G2 n_u
      clear h_G2
      have hA2 := s_G2 _ _ hA
      have hd2 := dpAll_same s_G2 hd
      have xl : xs.length = i := by rw [dpAll_len hd, Paired.length pr, tl]
      have kb : k < M40 := Nat.lt_of_lt_of_le (show k < 1000 by omega) (by decide)
      have pa : BarA (.tuple [.int ((k % 7 : Nat) : Int), .int (k : Int)]) (jN 126 [k % 7, k]) := ⟨k % 7, k, Nat.lt_of_lt_of_le (Nat.mod_lt _ (by decide)) (by decide), kb, rfl, rfl⟩
      refine ⟨xs, hA2, small1000 (by omega), xs ++ [.ref u], ds ++ [_], ts ++ [_], same_new (sG.trans s_G2) nA2, upd_same, ?_, paired_appT pr (.cons pa .nil), by rw [List.length_append, tl]; rfl⟩
      refine dpAll_updT hA2 (tdT_of fun z hz => ?_) (dpAll_app hd2 (.cons (.tup (.of e_u) (dpAll_ints [((k % 7 : Nat) : Int), (k : Int)])) .nil))
      rcases List.mem_append.mp hz with hz | hz
      · exact tdt_of (fun h => (barA_fact h).2.2.2) pr z hz
      · rw [List.mem_singleton.mp hz]
        exact (barA_fact pa).2.2.2
    rintro A2 nA2 G0 ⟨xs2, ds2, ts2, sG2, hA2, hd2, pr2, tl2⟩
    walk_at "ct"
    refine ⟨len2 rfl, fun wh n_wh => ?_⟩
    generalize h_G1 : upd _ wh _ = G1
    obtain ⟨s_G1, e_wh⟩ := Ct.upd_new h_G1 n_wh
    clear h_G1
    have e_yG := s_G1 _ _ (sG2 _ _ (s_J2 _ _ (s_J1 _ _ e_y8)))
    have dG := (((d8.same s_J1).same s_J2).same sG2).same s_G1
    walk_at "ct"
    refine ⟨y, 400, w0.map V.int, rfl, rfl, e_yG, by decide, by decide, Nat.le_trans (Nat.mul_le_mul (show (w0.map V.int).length ≤ 12 by rw [List.length_map]; exact wl2) (Nat.le_refl _)) (by decide), fun ra n_ra => ?_⟩
    generalize h_B1 : upd _ ra _ = B1
    obtain ⟨s_B1, e_ra⟩ := Ct.upd_new h_B1 n_ra
    clear h_B1
    walk_at "ct"
    refine w_slL (.of e_ra) fun q1 n_q1 => ?_
    generalize h_C1 : upd _ q1 _ = C1
    obtain ⟨s_C1, e_q1⟩ := Ct.upd_new h_C1 n_q1
    clear h_C1
    have e_q1 : C1 q1 = some (.lst (w4.map V.int)) := by rw [e_q1, show (some (400 : Int)) = some (((400 : Nat)) : Int) from rfl, cut_toB, ← e4]; rfl
    walk_at "ct"
    refine ⟨len2 rfl, fun t1 n_t1 => ?_⟩
    generalize h_F1 : upd _ t1 _ = F1
    obtain ⟨s_F1, e_t1⟩ := Ct.upd_new h_F1 n_t1
    clear h_F1
    walk_at "ct"
    refine ⟨len2 rfl, fun a1 n_a1 => ?_⟩
    generalize h_F2 : upd _ a1 _ = F2
    obtain ⟨s_F2, e_a1⟩ := Ct.upd_new h_F2 n_a1
    clear h_F2
    walk_at "ct"
    refine ⟨len2 rfl, fun a2 n_a2 => ?_⟩
    generalize h_F3 : upd _ a2 _ = F3
    obtain ⟨s_F3, e_a2⟩ := Ct.upd_new h_F3 n_a2
    clear h_F3
    walk_at "ct"
    refine ⟨len2 rfl, fun a3 n_a3 => ?_⟩
    generalize h_F4 : upd _ a3 _ = F4
    obtain ⟨s_F4, e_a3⟩ := Ct.upd_new h_F4 n_a3
    clear h_F4
    walk_at "ct"
    refine ⟨len2 rfl, fun a4 n_a4 => ?_⟩
    generalize h_F5 : upd _ a4 _ = F5
    obtain ⟨s_F5, e_a4⟩ := Ct.upd_new h_F5 n_a4
    clear h_F5
    walk_at "ct"
    refine ⟨len2 rfl, fun a5 n_a5 => ?_⟩
    generalize h_F6 : upd _ a5 _ = F6
    obtain ⟨s_F6, e_a5⟩ := Ct.upd_new h_F6 n_a5
    clear h_F6
    walk_at "ct"
    refine ⟨len2 rfl, fun t2 n_t2 => ?_⟩
    generalize h_F7 : upd _ t2 _ = F7
    obtain ⟨s_F7, e_t2⟩ := Ct.upd_new h_F7 n_t2
    clear h_F7
    walk_at "ct"
    refine ⟨len2 rfl, fun res n_res => ?_⟩
    generalize h_F8 : upd _ res _ = F8
    obtain ⟨s_F8, e_res⟩ := Ct.upd_new h_F8 n_res
    clear h_F8
    have s78 := s_F8
    have s67 := s_F7.trans s78
    have s56 := s_F6.trans s67
    have s45 := s_F5.trans s56
    have s34 := s_F4.trans s45
    have s23 := s_F3.trans s34
    have s12 := s_F2.trans s23
    have s01 := s_F1.trans s12
    have dF := ((dG.same s_B1).same s_C1).same s01
    have sGF : Same G1 F8 := (s_B1.trans s_C1).trans s01
    have sG0F : Same G0 F8 := s_G1.trans sGF
    have sGF8 : Same G F8 := ((s_J1.trans s_J2).trans sG2).trans sG0F
    have n40 : ∀ n : Nat, n ≤ 1000 → n < M40 := fun n h => Nat.lt_of_le_of_lt h (by decide)
    have sA : ∀ i j : Nat, i ≤ 1000 → j ≤ 1000 → StandA (.tuple (([i, j].map fun n : Nat => (n : Int)).map PyData.int)) (jN 47 [i, j]) := fun i j hi hj => ⟨[i, j], rfl, (fun z => nomatch z), fun n hn => by
      rcases List.mem_cons.mp hn with rfl | hn
      · exact n40 _ hi
      · rw [List.mem_singleton.mp hn]; exact n40 _ hj, (show 2 ≤ 20 by decide), rfl⟩
    have nums : Paired NumbA [.tuple [.tuple (([0, 3].map fun n : Nat => (n : Int)).map PyData.int), .int ((0 : Nat) : Int)], .tuple [.tuple (([1, 2].map fun n : Nat => (n : Int)).map PyData.int), .int ((400 : Nat) : Int)]] [jN 47 [0, 3] ++ 58 :: nL 0, jN 47 [1, 2] ++ 58 :: nL 400] :=
      .cons ⟨_, _, 0, sA 0 3 (by decide) (by decide), n40 _ (by decide), rfl, rfl⟩ (.cons ⟨_, _, 400, sA 1 2 (by decide) (by decide), n40 _ (by decide), rfl, rfl⟩ .nil)
    refine q res _ _ F8 dF e_res fun v hv => ?_
    rcases List.mem_cons.mp hv with rfl | hv
    · exact ⟨_, _, .tup (.of (s12 _ _ e_t1)) (.cons (.str _) (.cons (.lst (.of (s01 _ _ e_q1)) (dpAll_ints w4)) .nil)), .inr (.inl ⟨w4, sg4, by omega, rfl, rfl⟩), few_one (by rw [List.length_map]; omega)⟩
    rcases List.mem_cons.mp hv with rfl | hv
    · refine ⟨_, _, .tup (.of (s78 _ _ e_t2)) (.cons (.str _) (.cons (.lst (.of (sGF8 _ _ hA)) (dpAll_same sGF8 hd)) (.cons (.lst (.of (s67 _ _ e_a5)) (.cons (.tup (.of (s34 _ _ e_a2)) (.cons (.tup (.of (s23 _ _ e_a1)) (dpAll_ints [0, 3])) (.cons (.int _) .nil))) (.cons (.tup (.of (s56 _ _ e_a4)) (.cons (.tup (.of (s45 _ _ e_a3)) (dpAll_ints [1, 2])) (.cons (.int _) .nil))) .nil))) .nil))), .inr (.inr (.inl ⟨1, ds, ts, _, _, by decide, pr, by omega, nums, (show 2 ≤ 2000 by decide), rfl, rfl⟩)), few_two (by have := Paired.length pr; omega) (show 2 ≤ 500 by decide)⟩
    · rw [List.mem_singleton.mp hv]
      refine ⟨_, _, .tup (.of (sGF _ _ e_wh)) (.cons (.str _) (.cons (.int _) (.cons (.tup (.of ((sG2.trans sG0F) _ _ (show J2 tr = some (.tup ((ns.map fun n : Nat => (n : Int)).map V.int)) by rw [map_toInt]; exact e_tr))) (dpAll_ints _)) (.cons (.lst (.of (sG0F _ _ hA2)) (dpAll_same sG0F hd2)) .nil)))), .inr (.inr (.inr (.inr (.inl ⟨z, ns, _, ds2, ts2, ps, pr2, by omega, rfl, rfl⟩)))), few_wheel (by have := Paired.length pr2; omega)⟩
abbrev S_law : Stmt := topS 66
theorem sc_law : FnScope ["_law_script", "_law_told", "_law_cell", "_law_draws_here", "_law_some", "_law_first", "_law_k"] ["_law_script"] (defScope S_law) := ⟨rfl, rfl, rfl, by decide +kernel, rfl, by decide +kernel, by decide +kernel⟩
def sp_law (K : PySem.W.Frag) (T : List Addr) : Sp := fun vs H Q _ => ∃ (a : Addr) (ns : List Int), vs = [.ref a] ∧ SqE K H a (ns.map V.int) ∧ ns.length ≤ 63 ∧ Tb T H ∧ ∀ H', Same H H' → Q (.bl true) H'
theorem ok_law {f : Addr} {fd : FuncData} {f__law_well : Addr} {fd__law_well : FuncData} {f__law_answer_text : Addr} {fd__law_answer_text : FuncData} {f_read_answer : Addr} {fd_read_answer : FuncData} {f__law_answer : Addr} {fd__law_answer : FuncData} {f__law_draws : Addr} {fd__law_draws : FuncData} {f__law_wide : Addr} {fd__law_wide : FuncData} {T : List Addr} (F : Fun K "law" "law" S_law f fd)
    (F__law_well : Fun K "_law_well" "_law_well" S__law_well f__law_well fd__law_well) (b__law_well : Binds K fd__law_well ["_law_told"] []) (g__law_well : mg "_law_well" = some (.ref f__law_well)) (G__law_well : FnG P w K mg base CX0 18 f__law_well fd__law_well ["_law_told"] (sp__law_well K T))
    (F__law_answer_text : Fun K "_law_answer_text" "_law_answer_text" S__law_answer_text f__law_answer_text fd__law_answer_text) (b__law_answer_text : Binds K fd__law_answer_text ["_law_told"] []) (g__law_answer_text : mg "_law_answer_text" = some (.ref f__law_answer_text)) (G__law_answer_text : FnG P w K mg base CX0 3 f__law_answer_text fd__law_answer_text ["_law_told"] (sp__law_answer_text K))
    (F_read_answer : Fun K "read_answer" "read_answer" S_read_answer f_read_answer fd_read_answer) (b_read_answer : Binds K fd_read_answer ["text"] []) (g_read_answer : mg "read_answer" = some (.ref f_read_answer)) (G_read_answer : FnOk P w K mg base CX0 17 f_read_answer fd_read_answer ["text"] (sp_read_answer K T))
    (F__law_answer : Fun K "_law_answer" "_law_answer" S__law_answer f__law_answer fd__law_answer) (b__law_answer : Binds K fd__law_answer ["_law_draws_here"] []) (g__law_answer : mg "_law_answer" = some (.ref f__law_answer)) (G__law_answer : FnOk P w K mg base CX0 21 f__law_answer fd__law_answer ["_law_draws_here"] (sp__law_answer K))
    (F__law_draws : Fun K "_law_draws" "_law_draws" S__law_draws f__law_draws fd__law_draws) (b__law_draws : Binds K fd__law_draws ["_law_cell"] []) (g__law_draws : mg "_law_draws" = some (.ref f__law_draws)) (G__law_draws : FnOk P w K mg base CX0 1 f__law_draws fd__law_draws ["_law_cell"] (sp__law_draws K))
    (F__law_wide : Fun K "_law_wide" "_law_wide" S__law_wide f__law_wide fd__law_wide) (b__law_wide : Binds K fd__law_wide ["_law_draws_here"] []) (g__law_wide : mg "_law_wide" = some (.ref f__law_wide)) (G__law_wide : FnOk P w K mg base CX0 3 f__law_wide fd__law_wide ["_law_draws_here"] (sp__law_wide K)) (m_range : mg "range" = none) :
    FnG P w K mg base CX0 22 f fd ["_law_script"] (sp_law K T) := by
  refine fnG_of0 F sc_law (fun vs H Q E h => ?_) (fun cdv A gd outer s H vs Q E hr h => ?_)
  ·
    obtain ⟨a, ns, rfl, _⟩ := h
    rfl
  ·
    obtain ⟨a, ns, rfl, hE, hlen, hTb, q⟩ := h
    have hS := hE.sql
    refine ⟨_, (pss_cons (ps_for PassesOwn.never rfl (pi_list (pe_call G__law_wide (hr.mono (by decide)) (by rfl) g__law_wide F__law_wide.kp b__law_wide .nil pass0 (pa_cons (pe_call G__law_draws (hr.mono (by decide)) (by rfl) g__law_draws F__law_draws.kp b__law_draws .nil pass0 (pa_cons (pe_ix (r := rIxL K) ix_list (pe_op (r := rCatE K) op_catE (pv 0) (pe_lst (pa_cons pe_int pa_nil))) pe_int (fun _ _ => rfl)) pa_nil)) pa_nil))) (pg_name (i := 1) sc_law.nd rfl (.inl rfl))
      (pss_one (ps_if (pt_not (pt_val (pe_callG G__law_well gd (hr.mono (by decide)) (by rfl) g__law_well F__law_well.kp b__law_well pass0 (pa_cons (pv 1) pa_nil)))) (pss_one (ps_ret pe_bl)) pss_nil)))
      (pss_cons (ps_for PassesOwn.never rfl (pi_list (pe_op op_cat (pe_slice (r := rSlL K) sl_list (pv 0) po_none (po_some pe_int)) (pe_lst (pa_cons pe_int pa_nil)))) (pg_name (i := 2) sc_law.nd rfl (.inl rfl))
      (pss_cons (ps_set (i := 3) sc_law.nd rfl (.inr rfl) (pe_call G__law_draws (hr.mono (by decide)) (by rfl) g__law_draws F__law_draws.kp b__law_draws .nil pass0 (pa_cons (pv 2) pa_nil)))
      (pss_cons (ps_setLc (i := 4) (own := [("_law_k", 6)]) (g := gName 6)  rfl sc_law.nd rfl rfl (sw_true rfl rfl rfl (by decide +kernel)) (pi_range1 (by rfl) m_range (pa_cons pe_int pa_nil)) (blkOk_by (own := [("_law_k", 6)]) (N := ["_law_script", "_law_told", "_law_cell", "_law_draws_here", "_law_some", "_law_first", "_law_k"]) (sc := defScope S_law) (by decide +kernel)) (fun _ _ _ _ _ => pg_name (i := 6) sc_law.nd rfl (Or.inl rfl)) (fun _ _ _ _ _ => pts_nil) (fun _ _ _ _ _ => (pe_call G__law_answer (hr.mono (by decide)) (by rfl) g__law_answer F__law_answer.kp b__law_answer .nil pass0 (pa_cons (pv 3) pa_nil))))
      (pss_cons (ps_set (i := 5) sc_law.nd rfl (.inl rfl) (pe_call G_read_answer (hr.mono (by decide)) (by rfl) g_read_answer F_read_answer.kp b_read_answer .nil pass0 (pa_cons (pe_callG G__law_answer_text gd (hr.mono (by decide)) (by rfl) g__law_answer_text F__law_answer_text.kp b__law_answer_text pass0 (pa_cons (pe_ix (r := rIxL K) ix_list (pv 4) pe_int (fun _ _ => rfl)) pa_nil)) pa_nil)))
      (pss_one (ps_for PassesOwn.never rfl (pi_list (pe_lst (pa_cons (pe_ix (r := rIxL K) ix_list (pv 4) pe_int (fun _ _ => rfl)) (pa_cons (pe_ix (r := rIxL K) ix_list (pv 4) pe_int (fun _ _ => rfl)) pa_nil)))) (pg_name (i := 1) sc_law.nd rfl (.inl rfl))
      (pss_one (ps_if (PW.pt (pw_or (pt_not (pt_val (pe_callG G__law_well gd (hr.mono (by decide)) (by rfl) g__law_well F__law_well.kp b__law_well pass0 (pa_cons (pv 1) pa_nil)))) (pw_or1 (pt_cmpR (r := rNeD K) (op_neD hr.units) (pv 5) (pe_ix (r := rIxL K) ix_list (pv 4) pe_int (fun _ _ => rfl)) (nomark _))))) (pss_one (ps_ret pe_bl)) pss_nil))))))))
      (pss_one (ps_ret pe_bl)))), ?_⟩
    refine w_st (σ' := [some (.ref a), none, none, none, none, none, none]) rfl ?_
    walk_at "ct"
    refine ⟨len2 rfl, fun z0 n_z0 => ?_⟩
    generalize h_H1 : upd _ z0 _ = H1
    obtain ⟨s_H1, e_z0⟩ := Ct.upd_new h_H1 n_z0
    clear h_H1
    refine ⟨a, z0, _, _, rfl, rfl, hE.same s_H1, e_z0, by rw [List.length_map]; exact Nat.le_of_lt (small1000 (show ns.length + 1 ≤ 1000 by omega)), fun z1 n_z1 => ?_⟩
    generalize h_H2 : upd _ z1 _ = H2
    obtain ⟨s_H2, e_z1⟩ := Ct.upd_new h_H2 n_z1
    clear h_H2
    walk_at "ct"
    obtain ⟨c, hc⟩ : ∃ c : Int, atI (ns.map V.int ++ [V.int 0]) 0 = some (.int c) := by
      cases ns with
      | nil => exact ⟨0, at0⟩
      | cons n r => exact ⟨n, at0⟩
    refine w_ixL (.of e_z1) hc ?_
    walk_at "ct"
    refine ⟨c, rfl, fun D H3 s3 n_D hD => ?_⟩
    walk_at "ct"
    refine ⟨D, 0, rfl, hD, by decide, fun l us c4 H4 d4 h_l each => ?_⟩
    have sH4 : Same H H4 := d4.over ((s_H1.trans s_H2).trans s3) ((s_H1.trans s_H2).free n_D)
    walk_at "ct"
    refine w_IL (.of h_l) ?_
    refine fb_list us (fun n σ J => ∃ y1, σ = [some (.ref a), y1, none, none, none, none, none] ∧ Same H4 J) ⟨_, rfl, Same.refl _⟩ ?_ ?_ ?_
    · rintro n σ J hn ⟨y1, rfl, sm⟩
      exact .of (sm _ _ h_l)
    · rintro n x σ J hx ⟨y1, rfl, sJ⟩
      obtain ⟨d, t, dx, ans, few⟩ := each x (List.mem_of_getElem? hx)
      walk_at "ct"
      refine ⟨x, d, t, rfl, dp_same sJ dx, ans, few, hTb.same (sH4.trans sJ), fun J2 s2 => ?_⟩
      walk_at "ct"
      exact ⟨_, rfl, sJ.trans s2⟩
    rintro σ J0 ⟨y1, rfl, sJ0⟩
    have sHJ0 := sH4.trans sJ0
    walk_at "ct"
    refine w_slL (sHJ0.seq hS) fun u5 n_u5 => ?_
    generalize h_U1 : upd _ u5 _ = U1
    obtain ⟨s_U1, e_u5⟩ := Ct.upd_new h_U1 n_u5
    clear h_U1
    walk_at "ct"
    refine ⟨len2 rfl, fun u6 n_u6 => ?_⟩
    generalize h_U2 : upd _ u6 _ = U2
    obtain ⟨s_U2, e_u6⟩ := Ct.upd_new h_U2 n_u6
    clear h_U2
    obtain ⟨cs, hcs, cl⟩ : ∃ cs : List Int, cutV (ns.map V.int) none (some 8) = cs.map V.int ∧ cs.length ≤ 63 := by
      refine ⟨_, cutV_map ns none (some 8), ?_⟩
      have := cutV_length (ns.map V.int) none (some 8)
      rw [cutV_map, List.length_map, List.length_map] at this
      omega
    rw [hcs] at e_u5
    refine w_cat (show U2 u5 = some (.lst (cs.map V.int)) from s_U2 _ _ e_u5) e_u6 (by rw [List.length_map]; exact Nat.le_of_lt (small1000 (show cs.length + 1 ≤ 1000 by omega))) fun u7 U3 n_u7 s_U3 e_u7 => ?_
    rw [show (cs.map V.int ++ [V.int 0]) = (cs ++ [0]).map V.int by rw [List.map_append]; rfl] at e_u7
    have sHU := ((sHJ0.trans s_U1).trans s_U2).trans s_U3
    walk_at "ct"
    refine w_IL (.of e_u7) ?_
    refine fb_list ((cs ++ [0]).map V.int) (fun n σ J => ∃ y1 y2 y3 y4 y5 y6, σ = [some (.ref a), y1, y2, y3, y4, y5, y6] ∧ Same U3 J) ⟨_, _, _, _, _, _, rfl, Same.refl _⟩ ?_ ?_ ?_
    · rintro n σ J hn ⟨y1, y2, y3, y4, y5, y6, rfl, sm⟩
      exact .of (sm _ _ e_u7)
    · rintro n x σ J hx ⟨y1, y2, y3, y4, y5, y6, rfl, s_J⟩
      obtain ⟨c, rfl⟩ : ∃ c : Int, x = .int c := by
        obtain ⟨k, _, rfl⟩ := List.mem_map.mp (List.mem_of_getElem? hx)
        exact ⟨k, rfl⟩
      have sHJ := sHU.trans s_J
      walk_at "ct"
      refine ⟨c, rfl, fun E J1 s_J1 n_E hE2 => ?_⟩
      walk_at "ct"
      refine w_RG1 (by decide) (by decide) ?_
      refine lb_range (fun S k I => ∃ (ci : Nat) (vs : List V), Dr E ci J1 I ∧ ci ≤ 12000 * k ∧ I S = some (.lst vs) ∧ vs.length = k ∧ ∀ v ∈ vs, ∃ d t, TAt K I S v d ∧ AnsA d t ∧ FewA d) (fun S n_S => ⟨0, [], (Dr.refl hE2).same (same_upd n_S), Nat.le_refl _, upd_same, rfl, fun v hv => by cases hv⟩) ?_ ?_
      · rintro S n_S k I hk ⟨ci, vs, dI, cil, hSI, vl, each⟩
        have hk2 : k < 2 := hk
        walk_at "ct"
        refine ⟨rfl, ?_⟩
        walk_at "ct"
        refine ⟨E, ci, rfl, dI.2, by omega, fun v d t c5 I2 d5 c5b td ans few => ?_⟩
        have hS2 := d5.at dI.2 hSI
        refine ⟨vs, hS2, small1000 (by omega), c5, vs ++ [v], (dI.trans d5).put n_S hS2, by omega, upd_same, by rw [List.length_append, vl]; rfl, fun u hu => ?_⟩
        rcases List.mem_append.mp hu with hu | hu
        · obtain ⟨d', t', ta, an, fe⟩ := each u hu
          exact ⟨d', t', (ta.dr d5 dI.2).put hS2, an, fe⟩
        · rw [List.mem_singleton.mp hu]
          exact ⟨d, t, (td.tat hSI).put hS2, ans, few⟩
      rintro S n_S I ⟨ci, vs, dI, cil, hSI, vl, each⟩
      have sHI : Same H I := dI.over (sHJ.trans s_J1) (sHJ.free n_E)
      have sU3I : Same U3 I := dI.over (s_J.trans s_J1) (s_J.free n_E)
      obtain ⟨v0, d0, t0, v1, d1, t1, hSI, T0, A0, F0, T1, A1, F1⟩ : ∃ v0 d0 t0 v1 d1 t1, I S = some (.lst [v0, v1]) ∧ Dp K I v0 d0 ∧ AnsA d0 t0 ∧ FewA d0 ∧ Dp K I v1 d1 ∧ AnsA d1 t1 ∧ FewA d1 := by
        match vs, vl, each, hSI with
        | [u, v], _, each, hSI =>
          obtain ⟨d0, t0, a0, b0, c0⟩ := each u List.mem_cons_self
          obtain ⟨d1, t1, a1, b1, c1⟩ := each v (List.mem_cons_of_mem _ List.mem_cons_self)
          exact ⟨u, d0, t0, v, d1, t1, hSI, a0.dp, b0, c0, a1.dp, b1, c1⟩
      clear each
      walk_at "ct"
      refine w_ixL (.of hSI) at0 ?_
      walk_at "ct"
      refine ⟨v0, d0, t0, rfl, T0, A0, fun I1 s_I1 => ?_⟩
      walk_at "ct"
      refine ⟨d0, t0, rfl, A0, hTb.same (sHI.trans s_I1), fun f I2 s_I2 df _ => ?_⟩
      have sI2 := s_I1.trans s_I2
      walk_at "ct"
      refine w_ixL (.of (sI2 _ _ hSI)) at1 ?_
      walk_at "ct"
      refine w_ixL (.of (sI2 _ _ hSI)) at0 ?_
      walk_at "ct"
      refine ⟨len2 rfl, fun two n_two => ?_⟩
      generalize h_I3 : upd _ two _ = I3
      obtain ⟨s_I3, e_two⟩ := Ct.upd_new h_I3 n_two
      clear h_I3
      have sI3 := sI2.trans s_I3
      walk_at "ct"
      refine w_IL (.of e_two) ?_
      obtain ⟨l0, hl0⟩ : ∃ n, d0.canLay0 = true ∧ d0.depth ≤ n ∧ n ≤ 64 := by
        obtain ⟨f0, r0, rfl, _⟩ := ans_tup A0
        obtain ⟨l4, flds⟩ := ans_fldW A0 F0
        have shw := (shw_flds (fun f hf => fldW_of (flds f hf)) l4).1
        exact ⟨40, shw.lay.1, shw.lay.2, by decide⟩
      refine fb_list [v1, v0] (fun n σ J => ∃ y1, σ = [some (.ref a), y1, some (.int c), some (.ref E), some (.ref S), some f, y6] ∧ Same I3 J) ⟨_, rfl, Same.refl _⟩ ?_ ?_ ?_
      · rintro n σ J hn ⟨y1, rfl, sm⟩
        exact .of (sm _ _ e_two)
      · rintro n x σ J' hx ⟨y1, rfl, sJ⟩
        have sIJ := sI3.trans sJ
        obtain ⟨d, t, dx, ans, few⟩ : ∃ d t, Dp K J' x d ∧ AnsA d t ∧ FewA d := by
          have hi := (List.getElem?_eq_some_iff.mp hx).1
          have : n = 0 ∨ n = 1 := by
            have : n < 2 := hi
            omega
          rcases this with rfl | rfl
          · cases Option.some.inj hx
            exact ⟨d1, t1, dp_same sIJ T1, A1, F1⟩
          · cases Option.some.inj hx
            exact ⟨d0, t0, dp_same sIJ T0, A0, F0⟩
        walk_at "ct"
        refine ⟨x, d, t, rfl, dx, ans, few, hTb.same (sHI.trans sIJ), fun J2 s2 => ?_⟩
        walk_at "ct"
        have sIJ2 := sIJ.trans s2
        refine w_ixL (.of (sIJ2 _ _ hSI)) at0 ?_
        refine w_neSame d0 (dp_same ((s_I3.trans sJ).trans s2) df) (dp_same sIJ2 T0) ⟨hl0.1, hl0.2.1⟩ hl0.2.2 ?_
        walk_at "ct"
        exact ⟨_, rfl, sJ.trans s2⟩
      · rintro σ J' ⟨y1, rfl, sJ⟩
        walk_at "ct"
        exact ⟨_, _, _, _, _, _, rfl, (sU3I.trans sI3).trans sJ⟩
    · rintro σ J' ⟨y1, y2, y3, y4, y5, y6, rfl, sJ⟩
      walk_at "ct"
      exact q J' (sHU.trans sJ)
end
theorem all_mk {l : PySem.W.OpenLaw} {w : World} {K : PySem.W.Frag} {h : Heap} {mg : Str → Option Value} {fa : Addr} (X : K.In h) (G : h.Ns mainGlobals mg) (hfa : mg "law" = some (.ref fa))
    {f_is_whole : Addr} {od0 an0 : Option Addr} {sl0 : Array (Option Value)} {oc0 kV0 dc0 pm0 cd0 ct0 : Value}
    (a0 : PySem.W.nsIn K mainGlobals "is_whole" = some (some (.ref f_is_whole))) (l0 : K.lookup f_is_whole = some ⟨oc0, od0, .func (PySem.W.fnOf "is_whole" "is_whole" (defArgs S_is_whole) (defBody S_is_whole) (defScope S_is_whole) .none kV0 dc0 pm0 an0 cd0 ct0), sl0⟩) (c0 : PySem.W.codeIn K cd0 "is_whole" = true) (k0 : PySem.W.keepIn K (.ref f_is_whole) = true)
    {f_are_marks : Addr} {od1 an1 : Option Addr} {sl1 : Array (Option Value)} {oc1 kV1 dc1 pm1 cd1 ct1 : Value}
    (a1 : PySem.W.nsIn K mainGlobals "are_marks" = some (some (.ref f_are_marks))) (l1 : K.lookup f_are_marks = some ⟨oc1, od1, .func (PySem.W.fnOf "are_marks" "are_marks" (defArgs S_are_marks) (defBody S_are_marks) (defScope S_are_marks) .none kV1 dc1 pm1 an1 cd1 ct1), sl1⟩) (c1 : PySem.W.codeIn K cd1 "are_marks" = true) (k1 : PySem.W.keepIn K (.ref f_are_marks) = true)
    {f_is_part : Addr} {od2 an2 : Option Addr} {sl2 : Array (Option Value)} {oc2 kV2 dc2 pm2 cd2 ct2 : Value}
    (a2 : PySem.W.nsIn K mainGlobals "is_part" = some (some (.ref f_is_part))) (l2 : K.lookup f_is_part = some ⟨oc2, od2, .func (PySem.W.fnOf "is_part" "is_part" (defArgs S_is_part) (defBody S_is_part) (defScope S_is_part) .none kV2 dc2 pm2 an2 cd2 ct2), sl2⟩) (c2 : PySem.W.codeIn K cd2 "is_part" = true) (k2 : PySem.W.keepIn K (.ref f_is_part) = true)
    {f_show_way : Addr} {od3 an3 : Option Addr} {sl3 : Array (Option Value)} {oc3 kV3 dc3 pm3 cd3 ct3 : Value}
    (a3 : PySem.W.nsIn K mainGlobals "show_way" = some (some (.ref f_show_way))) (l3 : K.lookup f_show_way = some ⟨oc3, od3, .func (PySem.W.fnOf "show_way" "show_way" (defArgs S_show_way) (defBody S_show_way) (defScope S_show_way) .none kV3 dc3 pm3 an3 cd3 ct3), sl3⟩) (c3 : PySem.W.codeIn K cd3 "show_way" = true) (k3 : PySem.W.keepIn K (.ref f_show_way) = true)
    {f_show_list : Addr} {od4 an4 : Option Addr} {sl4 : Array (Option Value)} {oc4 kV4 dc4 pm4 cd4 ct4 : Value}
    (a4 : PySem.W.nsIn K mainGlobals "show_list" = some (some (.ref f_show_list))) (l4 : K.lookup f_show_list = some ⟨oc4, od4, .func (PySem.W.fnOf "show_list" "show_list" (defArgs S_show_list) (defBody S_show_list) (defScope S_show_list) .none kV4 dc4 pm4 an4 cd4 ct4), sl4⟩) (c4 : PySem.W.codeIn K cd4 "show_list" = true) (k4 : PySem.W.keepIn K (.ref f_show_list) = true)
    {f_show_part : Addr} {od5 an5 : Option Addr} {sl5 : Array (Option Value)} {oc5 kV5 dc5 pm5 cd5 ct5 : Value}
    (a5 : PySem.W.nsIn K mainGlobals "show_part" = some (some (.ref f_show_part))) (l5 : K.lookup f_show_part = some ⟨oc5, od5, .func (PySem.W.fnOf "show_part" "show_part" (defArgs S_show_part) (defBody S_show_part) (defScope S_show_part) .none kV5 dc5 pm5 an5 cd5 ct5), sl5⟩) (c5 : PySem.W.codeIn K cd5 "show_part" = true) (k5 : PySem.W.keepIn K (.ref f_show_part) = true)
    {f_show_stand : Addr} {od6 an6 : Option Addr} {sl6 : Array (Option Value)} {oc6 kV6 dc6 pm6 cd6 ct6 : Value}
    (a6 : PySem.W.nsIn K mainGlobals "show_stand" = some (some (.ref f_show_stand))) (l6 : K.lookup f_show_stand = some ⟨oc6, od6, .func (PySem.W.fnOf "show_stand" "show_stand" (defArgs S_show_stand) (defBody S_show_stand) (defScope S_show_stand) .none kV6 dc6 pm6 an6 cd6 ct6), sl6⟩) (c6 : PySem.W.codeIn K cd6 "show_stand" = true) (k6 : PySem.W.keepIn K (.ref f_show_stand) = true)
    {f_show_deed : Addr} {od7 an7 : Option Addr} {sl7 : Array (Option Value)} {oc7 kV7 dc7 pm7 cd7 ct7 : Value}
    (a7 : PySem.W.nsIn K mainGlobals "show_deed" = some (some (.ref f_show_deed))) (l7 : K.lookup f_show_deed = some ⟨oc7, od7, .func (PySem.W.fnOf "show_deed" "show_deed" (defArgs S_show_deed) (defBody S_show_deed) (defScope S_show_deed) .none kV7 dc7 pm7 an7 cd7 ct7), sl7⟩) (c7 : PySem.W.codeIn K cd7 "show_deed" = true) (k7 : PySem.W.keepIn K (.ref f_show_deed) = true)
    {f_show_row : Addr} {od8 an8 : Option Addr} {sl8 : Array (Option Value)} {oc8 kV8 dc8 pm8 cd8 ct8 : Value}
    (a8 : PySem.W.nsIn K mainGlobals "show_row" = some (some (.ref f_show_row))) (l8 : K.lookup f_show_row = some ⟨oc8, od8, .func (PySem.W.fnOf "show_row" "show_row" (defArgs S_show_row) (defBody S_show_row) (defScope S_show_row) .none kV8 dc8 pm8 an8 cd8 ct8), sl8⟩) (c8 : PySem.W.codeIn K cd8 "show_row" = true) (k8 : PySem.W.keepIn K (.ref f_show_row) = true)
    {f_show_push : Addr} {od9 an9 : Option Addr} {sl9 : Array (Option Value)} {oc9 kV9 dc9 pm9 cd9 ct9 : Value}
    (a9 : PySem.W.nsIn K mainGlobals "show_push" = some (some (.ref f_show_push))) (l9 : K.lookup f_show_push = some ⟨oc9, od9, .func (PySem.W.fnOf "show_push" "show_push" (defArgs S_show_push) (defBody S_show_push) (defScope S_show_push) .none kV9 dc9 pm9 an9 cd9 ct9), sl9⟩) (c9 : PySem.W.codeIn K cd9 "show_push" = true) (k9 : PySem.W.keepIn K (.ref f_show_push) = true)
    {f_show_pushes : Addr} {od10 an10 : Option Addr} {sl10 : Array (Option Value)} {oc10 kV10 dc10 pm10 cd10 ct10 : Value}
    (a10 : PySem.W.nsIn K mainGlobals "show_pushes" = some (some (.ref f_show_pushes))) (l10 : K.lookup f_show_pushes = some ⟨oc10, od10, .func (PySem.W.fnOf "show_pushes" "show_pushes" (defArgs S_show_pushes) (defBody S_show_pushes) (defScope S_show_pushes) .none kV10 dc10 pm10 an10 cd10 ct10), sl10⟩) (c10 : PySem.W.codeIn K cd10 "show_pushes" = true) (k10 : PySem.W.keepIn K (.ref f_show_pushes) = true)
    {f_show_ways : Addr} {od11 an11 : Option Addr} {sl11 : Array (Option Value)} {oc11 kV11 dc11 pm11 cd11 ct11 : Value}
    (a11 : PySem.W.nsIn K mainGlobals "show_ways" = some (some (.ref f_show_ways))) (l11 : K.lookup f_show_ways = some ⟨oc11, od11, .func (PySem.W.fnOf "show_ways" "show_ways" (defArgs S_show_ways) (defBody S_show_ways) (defScope S_show_ways) .none kV11 dc11 pm11 an11 cd11 ct11), sl11⟩) (c11 : PySem.W.codeIn K cd11 "show_ways" = true) (k11 : PySem.W.keepIn K (.ref f_show_ways) = true)
    {f_show_pair : Addr} {od12 an12 : Option Addr} {sl12 : Array (Option Value)} {oc12 kV12 dc12 pm12 cd12 ct12 : Value}
    (a12 : PySem.W.nsIn K mainGlobals "show_pair" = some (some (.ref f_show_pair))) (l12 : K.lookup f_show_pair = some ⟨oc12, od12, .func (PySem.W.fnOf "show_pair" "show_pair" (defArgs S_show_pair) (defBody S_show_pair) (defScope S_show_pair) .none kV12 dc12 pm12 an12 cd12 ct12), sl12⟩) (c12 : PySem.W.codeIn K cd12 "show_pair" = true) (k12 : PySem.W.keepIn K (.ref f_show_pair) = true)
    {f_show_numbered : Addr} {od13 an13 : Option Addr} {sl13 : Array (Option Value)} {oc13 kV13 dc13 pm13 cd13 ct13 : Value}
    (a13 : PySem.W.nsIn K mainGlobals "show_numbered" = some (some (.ref f_show_numbered))) (l13 : K.lookup f_show_numbered = some ⟨oc13, od13, .func (PySem.W.fnOf "show_numbered" "show_numbered" (defArgs S_show_numbered) (defBody S_show_numbered) (defScope S_show_numbered) .none kV13 dc13 pm13 an13 cd13 ct13), sl13⟩) (c13 : PySem.W.codeIn K cd13 "show_numbered" = true) (k13 : PySem.W.keepIn K (.ref f_show_numbered) = true)
    {f_show_moves : Addr} {od14 an14 : Option Addr} {sl14 : Array (Option Value)} {oc14 kV14 dc14 pm14 cd14 ct14 : Value}
    (a14 : PySem.W.nsIn K mainGlobals "show_moves" = some (some (.ref f_show_moves))) (l14 : K.lookup f_show_moves = some ⟨oc14, od14, .func (PySem.W.fnOf "show_moves" "show_moves" (defArgs S_show_moves) (defBody S_show_moves) (defScope S_show_moves) .none kV14 dc14 pm14 an14 cd14 ct14), sl14⟩) (c14 : PySem.W.codeIn K cd14 "show_moves" = true) (k14 : PySem.W.keepIn K (.ref f_show_moves) = true)
    {f_show_wheel : Addr} {od15 an15 : Option Addr} {sl15 : Array (Option Value)} {oc15 kV15 dc15 pm15 cd15 ct15 : Value}
    (a15 : PySem.W.nsIn K mainGlobals "show_wheel" = some (some (.ref f_show_wheel))) (l15 : K.lookup f_show_wheel = some ⟨oc15, od15, .func (PySem.W.fnOf "show_wheel" "show_wheel" (defArgs S_show_wheel) (defBody S_show_wheel) (defScope S_show_wheel) .none kV15 dc15 pm15 an15 cd15 ct15), sl15⟩) (c15 : PySem.W.codeIn K cd15 "show_wheel" = true) (k15 : PySem.W.keepIn K (.ref f_show_wheel) = true)
    {f_show_answer : Addr} {od16 an16 : Option Addr} {sl16 : Array (Option Value)} {oc16 kV16 dc16 pm16 cd16 ct16 : Value}
    (a16 : PySem.W.nsIn K mainGlobals "show_answer" = some (some (.ref f_show_answer))) (l16 : K.lookup f_show_answer = some ⟨oc16, od16, .func (PySem.W.fnOf "show_answer" "show_answer" (defArgs S_show_answer) (defBody S_show_answer) (defScope S_show_answer) .none kV16 dc16 pm16 an16 cd16 ct16), sl16⟩) (c16 : PySem.W.codeIn K cd16 "show_answer" = true) (k16 : PySem.W.keepIn K (.ref f_show_answer) = true)
    {f_read_number : Addr} {od17 an17 : Option Addr} {sl17 : Array (Option Value)} {oc17 kV17 dc17 pm17 cd17 ct17 : Value}
    (a17 : PySem.W.nsIn K mainGlobals "read_number" = some (some (.ref f_read_number))) (l17 : K.lookup f_read_number = some ⟨oc17, od17, .func (PySem.W.fnOf "read_number" "read_number" (defArgs S_read_number) (defBody S_read_number) (defScope S_read_number) .none kV17 dc17 pm17 an17 cd17 ct17), sl17⟩) (c17 : PySem.W.codeIn K cd17 "read_number" = true) (k17 : PySem.W.keepIn K (.ref f_read_number) = true)
    {f_read_numbers : Addr} {od18 an18 : Option Addr} {sl18 : Array (Option Value)} {oc18 kV18 dc18 pm18 cd18 ct18 : Value}
    (a18 : PySem.W.nsIn K mainGlobals "read_numbers" = some (some (.ref f_read_numbers))) (l18 : K.lookup f_read_numbers = some ⟨oc18, od18, .func (PySem.W.fnOf "read_numbers" "read_numbers" (defArgs S_read_numbers) (defBody S_read_numbers) (defScope S_read_numbers) .none kV18 dc18 pm18 an18 cd18 ct18), sl18⟩) (c18 : PySem.W.codeIn K cd18 "read_numbers" = true) (k18 : PySem.W.keepIn K (.ref f_read_numbers) = true)
    {f_read_way : Addr} {od19 an19 : Option Addr} {sl19 : Array (Option Value)} {oc19 kV19 dc19 pm19 cd19 ct19 : Value}
    (a19 : PySem.W.nsIn K mainGlobals "read_way" = some (some (.ref f_read_way))) (l19 : K.lookup f_read_way = some ⟨oc19, od19, .func (PySem.W.fnOf "read_way" "read_way" (defArgs S_read_way) (defBody S_read_way) (defScope S_read_way) .none kV19 dc19 pm19 an19 cd19 ct19), sl19⟩) (c19 : PySem.W.codeIn K cd19 "read_way" = true) (k19 : PySem.W.keepIn K (.ref f_read_way) = true)
    {f_read_list : Addr} {od20 an20 : Option Addr} {sl20 : Array (Option Value)} {oc20 kV20 dc20 pm20 cd20 ct20 : Value}
    (a20 : PySem.W.nsIn K mainGlobals "read_list" = some (some (.ref f_read_list))) (l20 : K.lookup f_read_list = some ⟨oc20, od20, .func (PySem.W.fnOf "read_list" "read_list" (defArgs S_read_list) (defBody S_read_list) (defScope S_read_list) .none kV20 dc20 pm20 an20 cd20 ct20), sl20⟩) (c20 : PySem.W.codeIn K cd20 "read_list" = true) (k20 : PySem.W.keepIn K (.ref f_read_list) = true)
    {f_read_wheel : Addr} {od21 an21 : Option Addr} {sl21 : Array (Option Value)} {oc21 kV21 dc21 pm21 cd21 ct21 : Value}
    (a21 : PySem.W.nsIn K mainGlobals "read_wheel" = some (some (.ref f_read_wheel))) (l21 : K.lookup f_read_wheel = some ⟨oc21, od21, .func (PySem.W.fnOf "read_wheel" "read_wheel" (defArgs S_read_wheel) (defBody S_read_wheel) (defScope S_read_wheel) .none kV21 dc21 pm21 an21 cd21 ct21), sl21⟩) (c21 : PySem.W.codeIn K cd21 "read_wheel" = true) (k21 : PySem.W.keepIn K (.ref f_read_wheel) = true)
    {f_read_part : Addr} {od22 an22 : Option Addr} {sl22 : Array (Option Value)} {oc22 kV22 dc22 pm22 cd22 ct22 : Value}
    (a22 : PySem.W.nsIn K mainGlobals "read_part" = some (some (.ref f_read_part))) (l22 : K.lookup f_read_part = some ⟨oc22, od22, .func (PySem.W.fnOf "read_part" "read_part" (defArgs S_read_part) (defBody S_read_part) (defScope S_read_part) .none kV22 dc22 pm22 an22 cd22 ct22), sl22⟩) (c22 : PySem.W.codeIn K cd22 "read_part" = true) (k22 : PySem.W.keepIn K (.ref f_read_part) = true)
    {f_read_stand : Addr} {od23 an23 : Option Addr} {sl23 : Array (Option Value)} {oc23 kV23 dc23 pm23 cd23 ct23 : Value}
    (a23 : PySem.W.nsIn K mainGlobals "read_stand" = some (some (.ref f_read_stand))) (l23 : K.lookup f_read_stand = some ⟨oc23, od23, .func (PySem.W.fnOf "read_stand" "read_stand" (defArgs S_read_stand) (defBody S_read_stand) (defScope S_read_stand) .none kV23 dc23 pm23 an23 cd23 ct23), sl23⟩) (c23 : PySem.W.codeIn K cd23 "read_stand" = true) (k23 : PySem.W.keepIn K (.ref f_read_stand) = true)
    {f_split_push : Addr} {od24 an24 : Option Addr} {sl24 : Array (Option Value)} {oc24 kV24 dc24 pm24 cd24 ct24 : Value}
    (a24 : PySem.W.nsIn K mainGlobals "split_push" = some (some (.ref f_split_push))) (l24 : K.lookup f_split_push = some ⟨oc24, od24, .func (PySem.W.fnOf "split_push" "split_push" (defArgs S_split_push) (defBody S_split_push) (defScope S_split_push) .none kV24 dc24 pm24 an24 cd24 ct24), sl24⟩) (c24 : PySem.W.codeIn K cd24 "split_push" = true) (k24 : PySem.W.keepIn K (.ref f_split_push) = true)
    {f_read_deed : Addr} {od25 an25 : Option Addr} {sl25 : Array (Option Value)} {oc25 kV25 dc25 pm25 cd25 ct25 : Value}
    (a25 : PySem.W.nsIn K mainGlobals "read_deed" = some (some (.ref f_read_deed))) (l25 : K.lookup f_read_deed = some ⟨oc25, od25, .func (PySem.W.fnOf "read_deed" "read_deed" (defArgs S_read_deed) (defBody S_read_deed) (defScope S_read_deed) .none kV25 dc25 pm25 an25 cd25 ct25), sl25⟩) (c25 : PySem.W.codeIn K cd25 "read_deed" = true) (k25 : PySem.W.keepIn K (.ref f_read_deed) = true)
    {f_read_row : Addr} {od26 an26 : Option Addr} {sl26 : Array (Option Value)} {oc26 kV26 dc26 pm26 cd26 ct26 : Value}
    (a26 : PySem.W.nsIn K mainGlobals "read_row" = some (some (.ref f_read_row))) (l26 : K.lookup f_read_row = some ⟨oc26, od26, .func (PySem.W.fnOf "read_row" "read_row" (defArgs S_read_row) (defBody S_read_row) (defScope S_read_row) .none kV26 dc26 pm26 an26 cd26 ct26), sl26⟩) (c26 : PySem.W.codeIn K cd26 "read_row" = true) (k26 : PySem.W.keepIn K (.ref f_read_row) = true)
    {f_read_push : Addr} {od27 an27 : Option Addr} {sl27 : Array (Option Value)} {oc27 kV27 dc27 pm27 cd27 ct27 : Value}
    (a27 : PySem.W.nsIn K mainGlobals "read_push" = some (some (.ref f_read_push))) (l27 : K.lookup f_read_push = some ⟨oc27, od27, .func (PySem.W.fnOf "read_push" "read_push" (defArgs S_read_push) (defBody S_read_push) (defScope S_read_push) .none kV27 dc27 pm27 an27 cd27 ct27), sl27⟩) (c27 : PySem.W.codeIn K cd27 "read_push" = true) (k27 : PySem.W.keepIn K (.ref f_read_push) = true)
    {f_read_pushes : Addr} {od28 an28 : Option Addr} {sl28 : Array (Option Value)} {oc28 kV28 dc28 pm28 cd28 ct28 : Value}
    (a28 : PySem.W.nsIn K mainGlobals "read_pushes" = some (some (.ref f_read_pushes))) (l28 : K.lookup f_read_pushes = some ⟨oc28, od28, .func (PySem.W.fnOf "read_pushes" "read_pushes" (defArgs S_read_pushes) (defBody S_read_pushes) (defScope S_read_pushes) .none kV28 dc28 pm28 an28 cd28 ct28), sl28⟩) (c28 : PySem.W.codeIn K cd28 "read_pushes" = true) (k28 : PySem.W.keepIn K (.ref f_read_pushes) = true)
    {f_read_ways : Addr} {od29 an29 : Option Addr} {sl29 : Array (Option Value)} {oc29 kV29 dc29 pm29 cd29 ct29 : Value}
    (a29 : PySem.W.nsIn K mainGlobals "read_ways" = some (some (.ref f_read_ways))) (l29 : K.lookup f_read_ways = some ⟨oc29, od29, .func (PySem.W.fnOf "read_ways" "read_ways" (defArgs S_read_ways) (defBody S_read_ways) (defScope S_read_ways) .none kV29 dc29 pm29 an29 cd29 ct29), sl29⟩) (c29 : PySem.W.codeIn K cd29 "read_ways" = true) (k29 : PySem.W.keepIn K (.ref f_read_ways) = true)
    {f_read_pair : Addr} {od30 an30 : Option Addr} {sl30 : Array (Option Value)} {oc30 kV30 dc30 pm30 cd30 ct30 : Value}
    (a30 : PySem.W.nsIn K mainGlobals "read_pair" = some (some (.ref f_read_pair))) (l30 : K.lookup f_read_pair = some ⟨oc30, od30, .func (PySem.W.fnOf "read_pair" "read_pair" (defArgs S_read_pair) (defBody S_read_pair) (defScope S_read_pair) .none kV30 dc30 pm30 an30 cd30 ct30), sl30⟩) (c30 : PySem.W.codeIn K cd30 "read_pair" = true) (k30 : PySem.W.keepIn K (.ref f_read_pair) = true)
    {f_read_numbered : Addr} {od31 an31 : Option Addr} {sl31 : Array (Option Value)} {oc31 kV31 dc31 pm31 cd31 ct31 : Value}
    (a31 : PySem.W.nsIn K mainGlobals "read_numbered" = some (some (.ref f_read_numbered))) (l31 : K.lookup f_read_numbered = some ⟨oc31, od31, .func (PySem.W.fnOf "read_numbered" "read_numbered" (defArgs S_read_numbered) (defBody S_read_numbered) (defScope S_read_numbered) .none kV31 dc31 pm31 an31 cd31 ct31), sl31⟩) (c31 : PySem.W.codeIn K cd31 "read_numbered" = true) (k31 : PySem.W.keepIn K (.ref f_read_numbered) = true)
    {f_read_moves : Addr} {od32 an32 : Option Addr} {sl32 : Array (Option Value)} {oc32 kV32 dc32 pm32 cd32 ct32 : Value}
    (a32 : PySem.W.nsIn K mainGlobals "read_moves" = some (some (.ref f_read_moves))) (l32 : K.lookup f_read_moves = some ⟨oc32, od32, .func (PySem.W.fnOf "read_moves" "read_moves" (defArgs S_read_moves) (defBody S_read_moves) (defScope S_read_moves) .none kV32 dc32 pm32 an32 cd32 ct32), sl32⟩) (c32 : PySem.W.codeIn K cd32 "read_moves" = true) (k32 : PySem.W.keepIn K (.ref f_read_moves) = true)
    {f_read_row_answer : Addr} {od33 an33 : Option Addr} {sl33 : Array (Option Value)} {oc33 kV33 dc33 pm33 cd33 ct33 : Value}
    (a33 : PySem.W.nsIn K mainGlobals "read_row_answer" = some (some (.ref f_read_row_answer))) (l33 : K.lookup f_read_row_answer = some ⟨oc33, od33, .func (PySem.W.fnOf "read_row_answer" "read_row_answer" (defArgs S_read_row_answer) (defBody S_read_row_answer) (defScope S_read_row_answer) .none kV33 dc33 pm33 an33 cd33 ct33), sl33⟩) (c33 : PySem.W.codeIn K cd33 "read_row_answer" = true) (k33 : PySem.W.keepIn K (.ref f_read_row_answer) = true)
    {f_read_two : Addr} {od34 an34 : Option Addr} {sl34 : Array (Option Value)} {oc34 kV34 dc34 pm34 cd34 ct34 : Value}
    (a34 : PySem.W.nsIn K mainGlobals "read_two" = some (some (.ref f_read_two))) (l34 : K.lookup f_read_two = some ⟨oc34, od34, .func (PySem.W.fnOf "read_two" "read_two" (defArgs S_read_two) (defBody S_read_two) (defScope S_read_two) .none kV34 dc34 pm34 an34 cd34 ct34), sl34⟩) (c34 : PySem.W.codeIn K cd34 "read_two" = true) (k34 : PySem.W.keepIn K (.ref f_read_two) = true)
    {f_read_wheel_answer : Addr} {od35 an35 : Option Addr} {sl35 : Array (Option Value)} {oc35 kV35 dc35 pm35 cd35 ct35 : Value}
    (a35 : PySem.W.nsIn K mainGlobals "read_wheel_answer" = some (some (.ref f_read_wheel_answer))) (l35 : K.lookup f_read_wheel_answer = some ⟨oc35, od35, .func (PySem.W.fnOf "read_wheel_answer" "read_wheel_answer" (defArgs S_read_wheel_answer) (defBody S_read_wheel_answer) (defScope S_read_wheel_answer) .none kV35 dc35 pm35 an35 cd35 ct35), sl35⟩) (c35 : PySem.W.codeIn K cd35 "read_wheel_answer" = true) (k35 : PySem.W.keepIn K (.ref f_read_wheel_answer) = true)
    {f_read_answer : Addr} {od36 an36 : Option Addr} {sl36 : Array (Option Value)} {oc36 kV36 dc36 pm36 cd36 ct36 : Value}
    (a36 : PySem.W.nsIn K mainGlobals "read_answer" = some (some (.ref f_read_answer))) (l36 : K.lookup f_read_answer = some ⟨oc36, od36, .func (PySem.W.fnOf "read_answer" "read_answer" (defArgs S_read_answer) (defBody S_read_answer) (defScope S_read_answer) .none kV36 dc36 pm36 an36 cd36 ct36), sl36⟩) (c36 : PySem.W.codeIn K cd36 "read_answer" = true) (k36 : PySem.W.keepIn K (.ref f_read_answer) = true)
    {f__law_draws : Addr} {od37 an37 : Option Addr} {sl37 : Array (Option Value)} {oc37 kV37 dc37 pm37 cd37 ct37 : Value}
    (a37 : PySem.W.nsIn K mainGlobals "_law_draws" = some (some (.ref f__law_draws))) (l37 : K.lookup f__law_draws = some ⟨oc37, od37, .func (PySem.W.fnOf "_law_draws" "_law_draws" (defArgs S__law_draws) (defBody S__law_draws) (defScope S__law_draws) .none kV37 dc37 pm37 an37 cd37 ct37), sl37⟩) (c37 : PySem.W.codeIn K cd37 "_law_draws" = true) (k37 : PySem.W.keepIn K (.ref f__law_draws) = true)
    {f__law_next : Addr} {od38 an38 : Option Addr} {sl38 : Array (Option Value)} {oc38 kV38 dc38 pm38 cd38 ct38 : Value}
    (a38 : PySem.W.nsIn K mainGlobals "_law_next" = some (some (.ref f__law_next))) (l38 : K.lookup f__law_next = some ⟨oc38, od38, .func (PySem.W.fnOf "_law_next" "_law_next" (defArgs S__law_next) (defBody S__law_next) (defScope S__law_next) .none kV38 dc38 pm38 an38 cd38 ct38), sl38⟩) (c38 : PySem.W.codeIn K cd38 "_law_next" = true) (k38 : PySem.W.keepIn K (.ref f__law_next) = true)
    {f__law_whole : Addr} {od39 an39 : Option Addr} {sl39 : Array (Option Value)} {oc39 kV39 dc39 pm39 cd39 ct39 : Value}
    (a39 : PySem.W.nsIn K mainGlobals "_law_whole" = some (some (.ref f__law_whole))) (l39 : K.lookup f__law_whole = some ⟨oc39, od39, .func (PySem.W.fnOf "_law_whole" "_law_whole" (defArgs S__law_whole) (defBody S__law_whole) (defScope S__law_whole) .none kV39 dc39 pm39 an39 cd39 ct39), sl39⟩) (c39 : PySem.W.codeIn K cd39 "_law_whole" = true) (k39 : PySem.W.keepIn K (.ref f__law_whole) = true)
    {f__law_number : Addr} {od40 an40 : Option Addr} {sl40 : Array (Option Value)} {oc40 kV40 dc40 pm40 cd40 ct40 : Value}
    (a40 : PySem.W.nsIn K mainGlobals "_law_number" = some (some (.ref f__law_number))) (l40 : K.lookup f__law_number = some ⟨oc40, od40, .func (PySem.W.fnOf "_law_number" "_law_number" (defArgs S__law_number) (defBody S__law_number) (defScope S__law_number) .none kV40 dc40 pm40 an40 cd40 ct40), sl40⟩) (c40 : PySem.W.codeIn K cd40 "_law_number" = true) (k40 : PySem.W.keepIn K (.ref f__law_number) = true)
    {f__law_rising : Addr} {od41 an41 : Option Addr} {sl41 : Array (Option Value)} {oc41 kV41 dc41 pm41 cd41 ct41 : Value}
    (a41 : PySem.W.nsIn K mainGlobals "_law_rising" = some (some (.ref f__law_rising))) (l41 : K.lookup f__law_rising = some ⟨oc41, od41, .func (PySem.W.fnOf "_law_rising" "_law_rising" (defArgs S__law_rising) (defBody S__law_rising) (defScope S__law_rising) .none kV41 dc41 pm41 an41 cd41 ct41), sl41⟩) (c41 : PySem.W.codeIn K cd41 "_law_rising" = true) (k41 : PySem.W.keepIn K (.ref f__law_rising) = true)
    {f__law_stand : Addr} {od42 an42 : Option Addr} {sl42 : Array (Option Value)} {oc42 kV42 dc42 pm42 cd42 ct42 : Value}
    (a42 : PySem.W.nsIn K mainGlobals "_law_stand" = some (some (.ref f__law_stand))) (l42 : K.lookup f__law_stand = some ⟨oc42, od42, .func (PySem.W.fnOf "_law_stand" "_law_stand" (defArgs S__law_stand) (defBody S__law_stand) (defScope S__law_stand) .none kV42 dc42 pm42 an42 cd42 ct42), sl42⟩) (c42 : PySem.W.codeIn K cd42 "_law_stand" = true) (k42 : PySem.W.keepIn K (.ref f__law_stand) = true)
    {f__law_ways : Addr} {od43 an43 : Option Addr} {sl43 : Array (Option Value)} {oc43 kV43 dc43 pm43 cd43 ct43 : Value}
    (a43 : PySem.W.nsIn K mainGlobals "_law_ways" = some (some (.ref f__law_ways))) (l43 : K.lookup f__law_ways = some ⟨oc43, od43, .func (PySem.W.fnOf "_law_ways" "_law_ways" (defArgs S__law_ways) (defBody S__law_ways) (defScope S__law_ways) .none kV43 dc43 pm43 an43 cd43 ct43), sl43⟩) (c43 : PySem.W.codeIn K cd43 "_law_ways" = true) (k43 : PySem.W.keepIn K (.ref f__law_ways) = true)
    {f__law_row : Addr} {od44 an44 : Option Addr} {sl44 : Array (Option Value)} {oc44 kV44 dc44 pm44 cd44 ct44 : Value}
    (a44 : PySem.W.nsIn K mainGlobals "_law_row" = some (some (.ref f__law_row))) (l44 : K.lookup f__law_row = some ⟨oc44, od44, .func (PySem.W.fnOf "_law_row" "_law_row" (defArgs S__law_row) (defBody S__law_row) (defScope S__law_row) .none kV44 dc44 pm44 an44 cd44 ct44), sl44⟩) (c44 : PySem.W.codeIn K cd44 "_law_row" = true) (k44 : PySem.W.keepIn K (.ref f__law_row) = true)
    {f__law_pushes : Addr} {od45 an45 : Option Addr} {sl45 : Array (Option Value)} {oc45 kV45 dc45 pm45 cd45 ct45 : Value}
    (a45 : PySem.W.nsIn K mainGlobals "_law_pushes" = some (some (.ref f__law_pushes))) (l45 : K.lookup f__law_pushes = some ⟨oc45, od45, .func (PySem.W.fnOf "_law_pushes" "_law_pushes" (defArgs S__law_pushes) (defBody S__law_pushes) (defScope S__law_pushes) .none kV45 dc45 pm45 an45 cd45 ct45), sl45⟩) (c45 : PySem.W.codeIn K cd45 "_law_pushes" = true) (k45 : PySem.W.keepIn K (.ref f__law_pushes) = true)
    {f__law_pairs : Addr} {od46 an46 : Option Addr} {sl46 : Array (Option Value)} {oc46 kV46 dc46 pm46 cd46 ct46 : Value}
    (a46 : PySem.W.nsIn K mainGlobals "_law_pairs" = some (some (.ref f__law_pairs))) (l46 : K.lookup f__law_pairs = some ⟨oc46, od46, .func (PySem.W.fnOf "_law_pairs" "_law_pairs" (defArgs S__law_pairs) (defBody S__law_pairs) (defScope S__law_pairs) .none kV46 dc46 pm46 an46 cd46 ct46), sl46⟩) (c46 : PySem.W.codeIn K cd46 "_law_pairs" = true) (k46 : PySem.W.keepIn K (.ref f__law_pairs) = true)
    {f__law_answer : Addr} {od47 an47 : Option Addr} {sl47 : Array (Option Value)} {oc47 kV47 dc47 pm47 cd47 ct47 : Value}
    (a47 : PySem.W.nsIn K mainGlobals "_law_answer" = some (some (.ref f__law_answer))) (l47 : K.lookup f__law_answer = some ⟨oc47, od47, .func (PySem.W.fnOf "_law_answer" "_law_answer" (defArgs S__law_answer) (defBody S__law_answer) (defScope S__law_answer) .none kV47 dc47 pm47 an47 cd47 ct47), sl47⟩) (c47 : PySem.W.codeIn K cd47 "_law_answer" = true) (k47 : PySem.W.keepIn K (.ref f__law_answer) = true)
    {f__law_part_text : Addr} {od48 an48 : Option Addr} {sl48 : Array (Option Value)} {oc48 kV48 dc48 pm48 cd48 ct48 : Value}
    (a48 : PySem.W.nsIn K mainGlobals "_law_part_text" = some (some (.ref f__law_part_text))) (l48 : K.lookup f__law_part_text = some ⟨oc48, od48, .func (PySem.W.fnOf "_law_part_text" "_law_part_text" (defArgs S__law_part_text) (defBody S__law_part_text) (defScope S__law_part_text) .none kV48 dc48 pm48 an48 cd48 ct48), sl48⟩) (c48 : PySem.W.codeIn K cd48 "_law_part_text" = true) (k48 : PySem.W.keepIn K (.ref f__law_part_text) = true)
    {f__law_stand_text : Addr} {od49 an49 : Option Addr} {sl49 : Array (Option Value)} {oc49 kV49 dc49 pm49 cd49 ct49 : Value}
    (a49 : PySem.W.nsIn K mainGlobals "_law_stand_text" = some (some (.ref f__law_stand_text))) (l49 : K.lookup f__law_stand_text = some ⟨oc49, od49, .func (PySem.W.fnOf "_law_stand_text" "_law_stand_text" (defArgs S__law_stand_text) (defBody S__law_stand_text) (defScope S__law_stand_text) .none kV49 dc49 pm49 an49 cd49 ct49), sl49⟩) (c49 : PySem.W.codeIn K cd49 "_law_stand_text" = true) (k49 : PySem.W.keepIn K (.ref f__law_stand_text) = true)
    {f__law_list_text : Addr} {od50 an50 : Option Addr} {sl50 : Array (Option Value)} {oc50 kV50 dc50 pm50 cd50 ct50 : Value}
    (a50 : PySem.W.nsIn K mainGlobals "_law_list_text" = some (some (.ref f__law_list_text))) (l50 : K.lookup f__law_list_text = some ⟨oc50, od50, .func (PySem.W.fnOf "_law_list_text" "_law_list_text" (defArgs S__law_list_text) (defBody S__law_list_text) (defScope S__law_list_text) .none kV50 dc50 pm50 an50 cd50 ct50), sl50⟩) (c50 : PySem.W.codeIn K cd50 "_law_list_text" = true) (k50 : PySem.W.keepIn K (.ref f__law_list_text) = true)
    {f__law_step_text : Addr} {od51 an51 : Option Addr} {sl51 : Array (Option Value)} {oc51 kV51 dc51 pm51 cd51 ct51 : Value}
    (a51 : PySem.W.nsIn K mainGlobals "_law_step_text" = some (some (.ref f__law_step_text))) (l51 : K.lookup f__law_step_text = some ⟨oc51, od51, .func (PySem.W.fnOf "_law_step_text" "_law_step_text" (defArgs S__law_step_text) (defBody S__law_step_text) (defScope S__law_step_text) .none kV51 dc51 pm51 an51 cd51 ct51), sl51⟩) (c51 : PySem.W.codeIn K cd51 "_law_step_text" = true) (k51 : PySem.W.keepIn K (.ref f__law_step_text) = true)
    {f__law_steps_text : Addr} {od52 an52 : Option Addr} {sl52 : Array (Option Value)} {oc52 kV52 dc52 pm52 cd52 ct52 : Value}
    (a52 : PySem.W.nsIn K mainGlobals "_law_steps_text" = some (some (.ref f__law_steps_text))) (l52 : K.lookup f__law_steps_text = some ⟨oc52, od52, .func (PySem.W.fnOf "_law_steps_text" "_law_steps_text" (defArgs S__law_steps_text) (defBody S__law_steps_text) (defScope S__law_steps_text) .none kV52 dc52 pm52 an52 cd52 ct52), sl52⟩) (c52 : PySem.W.codeIn K cd52 "_law_steps_text" = true) (k52 : PySem.W.keepIn K (.ref f__law_steps_text) = true)
    {f__law_answer_text : Addr} {od53 an53 : Option Addr} {sl53 : Array (Option Value)} {oc53 kV53 dc53 pm53 cd53 ct53 : Value}
    (a53 : PySem.W.nsIn K mainGlobals "_law_answer_text" = some (some (.ref f__law_answer_text))) (l53 : K.lookup f__law_answer_text = some ⟨oc53, od53, .func (PySem.W.fnOf "_law_answer_text" "_law_answer_text" (defArgs S__law_answer_text) (defBody S__law_answer_text) (defScope S__law_answer_text) .none kV53 dc53 pm53 an53 cd53 ct53), sl53⟩) (c53 : PySem.W.codeIn K cd53 "_law_answer_text" = true) (k53 : PySem.W.keepIn K (.ref f__law_answer_text) = true)
    {f__law_plain : Addr} {od54 an54 : Option Addr} {sl54 : Array (Option Value)} {oc54 kV54 dc54 pm54 cd54 ct54 : Value}
    (a54 : PySem.W.nsIn K mainGlobals "_law_plain" = some (some (.ref f__law_plain))) (l54 : K.lookup f__law_plain = some ⟨oc54, od54, .func (PySem.W.fnOf "_law_plain" "_law_plain" (defArgs S__law_plain) (defBody S__law_plain) (defScope S__law_plain) .none kV54 dc54 pm54 an54 cd54 ct54), sl54⟩) (c54 : PySem.W.codeIn K cd54 "_law_plain" = true) (k54 : PySem.W.keepIn K (.ref f__law_plain) = true)
    {f__law_well : Addr} {od55 an55 : Option Addr} {sl55 : Array (Option Value)} {oc55 kV55 dc55 pm55 cd55 ct55 : Value}
    (a55 : PySem.W.nsIn K mainGlobals "_law_well" = some (some (.ref f__law_well))) (l55 : K.lookup f__law_well = some ⟨oc55, od55, .func (PySem.W.fnOf "_law_well" "_law_well" (defArgs S__law_well) (defBody S__law_well) (defScope S__law_well) .none kV55 dc55 pm55 an55 cd55 ct55), sl55⟩) (c55 : PySem.W.codeIn K cd55 "_law_well" = true) (k55 : PySem.W.keepIn K (.ref f__law_well) = true)
    {f__law_wide : Addr} {od56 an56 : Option Addr} {sl56 : Array (Option Value)} {oc56 kV56 dc56 pm56 cd56 ct56 : Value}
    (a56 : PySem.W.nsIn K mainGlobals "_law_wide" = some (some (.ref f__law_wide))) (l56 : K.lookup f__law_wide = some ⟨oc56, od56, .func (PySem.W.fnOf "_law_wide" "_law_wide" (defArgs S__law_wide) (defBody S__law_wide) (defScope S__law_wide) .none kV56 dc56 pm56 an56 cd56 ct56), sl56⟩) (c56 : PySem.W.codeIn K cd56 "_law_wide" = true) (k56 : PySem.W.keepIn K (.ref f__law_wide) = true)
    {f_law : Addr} {od57 an57 : Option Addr} {sl57 : Array (Option Value)} {oc57 kV57 dc57 pm57 cd57 ct57 : Value}
    (a57 : PySem.W.nsIn K mainGlobals "law" = some (some (.ref f_law))) (l57 : K.lookup f_law = some ⟨oc57, od57, .func (PySem.W.fnOf "law" "law" (defArgs S_law) (defBody S_law) (defScope S_law) .none kV57 dc57 pm57 an57 cd57 ct57), sl57⟩) (c57 : PySem.W.codeIn K cd57 "law" = true) (k57 : PySem.W.keepIn K (.ref f_law) = true)
    (z0 : PySem.W.nsIn K mainGlobals "isinstance" = some none)
    (z1 : PySem.W.nsIn K mainGlobals "int" = some none)
    (z2 : PySem.W.nsIn K mainGlobals "bool" = some none)
    (z3 : PySem.W.nsIn K mainGlobals "tuple" = some none)
    (z4 : PySem.W.nsIn K mainGlobals "len" = some none)
    (z5 : PySem.W.nsIn K mainGlobals "str" = some none)
    (z6 : PySem.W.nsIn K mainGlobals "any" = some none)
    (z7 : PySem.W.nsIn K mainGlobals "range" = some none)
    (z8 : PySem.W.nsIn K mainGlobals "max" = some none)
    (z9 : PySem.W.nsIn K mainGlobals "list" = some none)
    (z10 : PySem.W.nsIn K mainGlobals "all" = some none)
    (z11 : PySem.W.nsIn K mainGlobals "enumerate" = some none)
    {tk_FIGURES : Tok} (v_FIGURES : PySem.W.nsIn K mainGlobals "FIGURES" = some (some (.str "0123456789" tk_FIGURES)))
    {tk_MOST_FIGURES : Tok} (v_MOST_FIGURES : PySem.W.nsIn K mainGlobals "MOST_FIGURES" = some (some (.int 40 tk_MOST_FIGURES)))
    {q0_WAY_OF_SIGN : Addr} {ep_WAY_OF_SIGN : Nat} {tk0_WAY_OF_SIGN tv0_WAY_OF_SIGN : Tok} {tk1_WAY_OF_SIGN tv1_WAY_OF_SIGN : Tok} (v_WAY_OF_SIGN : PySem.W.nsIn K mainGlobals "WAY_OF_SIGN" = some (some (.ref q0_WAY_OF_SIGN)))
    (t_WAY_OF_SIGN : K.lookup q0_WAY_OF_SIGN = some ⟨.type "dict", none, .dict #[⟨hashStr w "+", .str "+" tk0_WAY_OF_SIGN, .int (1) tv0_WAY_OF_SIGN⟩, ⟨hashStr w "-", .str "-" tk1_WAY_OF_SIGN, .int (-1) tv1_WAY_OF_SIGN⟩] ep_WAY_OF_SIGN, #[]⟩) (sy_WAY_OF_SIGN : (q0_WAY_OF_SIGN == sysModules) = false)
    (tb_read_number : tabOkB K cd17 = true)
    : LawAtX l w K 63 "_law_script" mg fa ["read_number"] := by
  have e := hfa.symm.trans (PySem.W.mg_of X G a57)
  cases e
  have F_is_whole := fun_mk (st := S_is_whole) l0 c0 k0
  have F_are_marks := fun_mk (st := S_are_marks) l1 c1 k1
  have F_is_part := fun_mk (st := S_is_part) l2 c2 k2
  have F_show_way := fun_mk (st := S_show_way) l3 c3 k3
  have F_show_list := fun_mk (st := S_show_list) l4 c4 k4
  have F_show_part := fun_mk (st := S_show_part) l5 c5 k5
  have F_show_stand := fun_mk (st := S_show_stand) l6 c6 k6
  have F_show_deed := fun_mk (st := S_show_deed) l7 c7 k7
  have F_show_row := fun_mk (st := S_show_row) l8 c8 k8
  have F_show_push := fun_mk (st := S_show_push) l9 c9 k9
  have F_show_pushes := fun_mk (st := S_show_pushes) l10 c10 k10
  have F_show_ways := fun_mk (st := S_show_ways) l11 c11 k11
  have F_show_pair := fun_mk (st := S_show_pair) l12 c12 k12
  have F_show_numbered := fun_mk (st := S_show_numbered) l13 c13 k13
  have F_show_moves := fun_mk (st := S_show_moves) l14 c14 k14
  have F_show_wheel := fun_mk (st := S_show_wheel) l15 c15 k15
  have F_show_answer := fun_mk (st := S_show_answer) l16 c16 k16
  have F_read_number := fun_mk (st := S_read_number) l17 c17 k17
  have F_read_numbers := fun_mk (st := S_read_numbers) l18 c18 k18
  have F_read_way := fun_mk (st := S_read_way) l19 c19 k19
  have F_read_list := fun_mk (st := S_read_list) l20 c20 k20
  have F_read_wheel := fun_mk (st := S_read_wheel) l21 c21 k21
  have F_read_part := fun_mk (st := S_read_part) l22 c22 k22
  have F_read_stand := fun_mk (st := S_read_stand) l23 c23 k23
  have F_split_push := fun_mk (st := S_split_push) l24 c24 k24
  have F_read_deed := fun_mk (st := S_read_deed) l25 c25 k25
  have F_read_row := fun_mk (st := S_read_row) l26 c26 k26
  have F_read_push := fun_mk (st := S_read_push) l27 c27 k27
  have F_read_pushes := fun_mk (st := S_read_pushes) l28 c28 k28
  have F_read_ways := fun_mk (st := S_read_ways) l29 c29 k29
  have F_read_pair := fun_mk (st := S_read_pair) l30 c30 k30
  have F_read_numbered := fun_mk (st := S_read_numbered) l31 c31 k31
  have F_read_moves := fun_mk (st := S_read_moves) l32 c32 k32
  have F_read_row_answer := fun_mk (st := S_read_row_answer) l33 c33 k33
  have F_read_two := fun_mk (st := S_read_two) l34 c34 k34
  have F_read_wheel_answer := fun_mk (st := S_read_wheel_answer) l35 c35 k35
  have F_read_answer := fun_mk (st := S_read_answer) l36 c36 k36
  have F__law_draws := fun_mk (st := S__law_draws) l37 c37 k37
  have F__law_next := fun_mk (st := S__law_next) l38 c38 k38
  have F__law_whole := fun_mk (st := S__law_whole) l39 c39 k39
  have F__law_number := fun_mk (st := S__law_number) l40 c40 k40
  have F__law_rising := fun_mk (st := S__law_rising) l41 c41 k41
  have F__law_stand := fun_mk (st := S__law_stand) l42 c42 k42
  have F__law_ways := fun_mk (st := S__law_ways) l43 c43 k43
  have F__law_row := fun_mk (st := S__law_row) l44 c44 k44
  have F__law_pushes := fun_mk (st := S__law_pushes) l45 c45 k45
  have F__law_pairs := fun_mk (st := S__law_pairs) l46 c46 k46
  have F__law_answer := fun_mk (st := S__law_answer) l47 c47 k47
  have F__law_part_text := fun_mk (st := S__law_part_text) l48 c48 k48
  have F__law_stand_text := fun_mk (st := S__law_stand_text) l49 c49 k49
  have F__law_list_text := fun_mk (st := S__law_list_text) l50 c50 k50
  have F__law_step_text := fun_mk (st := S__law_step_text) l51 c51 k51
  have F__law_steps_text := fun_mk (st := S__law_steps_text) l52 c52 k52
  have F__law_answer_text := fun_mk (st := S__law_answer_text) l53 c53 k53
  have F__law_plain := fun_mk (st := S__law_plain) l54 c54 k54
  have F__law_well := fun_mk (st := S__law_well) l55 c55 k55
  have F__law_wide := fun_mk (st := S__law_wide) l56 c56 k56
  have F_law := fun_mk (st := S_law) l57 c57 k57
  have m_isinstance := PySem.W.mg_none_of X G z0
  have m_int := PySem.W.mg_none_of X G z1
  have m_bool := PySem.W.mg_none_of X G z2
  have m_tuple := PySem.W.mg_none_of X G z3
  have m_len := PySem.W.mg_none_of X G z4
  have m_str := PySem.W.mg_none_of X G z5
  have m_any := PySem.W.mg_none_of X G z6
  have m_range := PySem.W.mg_none_of X G z7
  have m_max := PySem.W.mg_none_of X G z8
  have m_list := PySem.W.mg_none_of X G z9
  have m_all := PySem.W.mg_none_of X G z10
  have m_enumerate := PySem.W.mg_none_of X G z11
  have g_FIGURES := PySem.W.mg_of X G v_FIGURES
  have g_MOST_FIGURES := PySem.W.mg_of X G v_MOST_FIGURES
  have g_WAY_OF_SIGN := PySem.W.mg_of X G v_WAY_OF_SIGN
  have D_WAY_OF_SIGN : KDict l.prog w K q0_WAY_OF_SIGN [(Sum.inr "+", V.int (1)), (Sum.inr "-", V.int (-1))] := kdict_mk t_WAY_OF_SIGN sy_WAY_OF_SIGN (kd_cons "+" tk0_WAY_OF_SIGN (show RelV (V.int (1)) (Value.int (1) tv0_WAY_OF_SIGN) from ⟨_, rfl⟩) (kd_cons "-" tk1_WAY_OF_SIGN (show RelV (V.int (-1)) (Value.int (-1) tv1_WAY_OF_SIGN) from ⟨_, rfl⟩) kd_nil)) (by decide +kernel)
  have b_is_whole := F_is_whole.binds (ps := ["thing"]) fun _ _ _ _ _ _ us hl => match us, hl with | [_], _ => rfl
  have g_is_whole := PySem.W.mg_of X G a0
  have b_are_marks := F_are_marks.binds (ps := ["thing", "teeth"]) fun _ _ _ _ _ _ us hl => match us, hl with | [_, _], _ => rfl
  have g_are_marks := PySem.W.mg_of X G a1
  have b_is_part := F_is_part.binds (ps := ["thing"]) fun _ _ _ _ _ _ us hl => match us, hl with | [_], _ => rfl
  have g_is_part := PySem.W.mg_of X G a2
  have b_show_way := F_show_way.binds (ps := ["way"]) fun _ _ _ _ _ _ us hl => match us, hl with | [_], _ => rfl
  have g_show_way := PySem.W.mg_of X G a3
  have b_show_list := F_show_list.binds (ps := ["things", "show_one"]) fun _ _ _ _ _ _ us hl => match us, hl with | [_, _], _ => rfl
  have g_show_list := PySem.W.mg_of X G a4
  have b_show_part := F_show_part.binds (ps := ["part"]) fun _ _ _ _ _ _ us hl => match us, hl with | [_], _ => rfl
  have g_show_part := PySem.W.mg_of X G a5
  have b_show_stand := F_show_stand.binds (ps := ["stand"]) fun _ _ _ _ _ _ us hl => match us, hl with | [_], _ => rfl
  have g_show_stand := PySem.W.mg_of X G a6
  have b_show_deed := F_show_deed.binds (ps := ["deed"]) fun _ _ _ _ _ _ us hl => match us, hl with | [_], _ => rfl
  have g_show_deed := PySem.W.mg_of X G a7
  have b_show_row := F_show_row.binds (ps := ["row"]) fun _ _ _ _ _ _ us hl => match us, hl with | [_], _ => rfl
  have g_show_row := PySem.W.mg_of X G a8
  have b_show_push := F_show_push.binds (ps := ["push"]) fun _ _ _ _ _ _ us hl => match us, hl with | [_], _ => rfl
  have g_show_push := PySem.W.mg_of X G a9
  have b_show_pushes := F_show_pushes.binds (ps := ["pushes"]) fun _ _ _ _ _ _ us hl => match us, hl with | [_], _ => rfl
  have g_show_pushes := PySem.W.mg_of X G a10
  have b_show_ways := F_show_ways.binds (ps := ["ways"]) fun _ _ _ _ _ _ us hl => match us, hl with | [_], _ => rfl
  have g_show_ways := PySem.W.mg_of X G a11
  have b_show_pair := F_show_pair.binds (ps := ["pair"]) fun _ _ _ _ _ _ us hl => match us, hl with | [_], _ => rfl
  have g_show_pair := PySem.W.mg_of X G a12
  have b_show_numbered := F_show_numbered.binds (ps := ["numbered"]) fun _ _ _ _ _ _ us hl => match us, hl with | [_], _ => rfl
  have g_show_numbered := PySem.W.mg_of X G a13
  have b_show_moves := F_show_moves.binds (ps := ["moves"]) fun _ _ _ _ _ _ us hl => match us, hl with | [_], _ => rfl
  have g_show_moves := PySem.W.mg_of X G a14
  have b_show_wheel := F_show_wheel.binds (ps := ["teeth", "marks", "bars"]) fun _ _ _ _ _ _ us hl => match us, hl with | [_, _, _], _ => rfl
  have g_show_wheel := PySem.W.mg_of X G a15
  have b_show_answer := F_show_answer.binds (ps := ["told"]) fun _ _ _ _ _ _ us hl => match us, hl with | [_], _ => rfl
  have g_show_answer := PySem.W.mg_of X G a16
  have b_read_number := F_read_number.binds (ps := ["text"]) fun _ _ _ _ _ _ us hl => match us, hl with | [_], _ => rfl
  have g_read_number := PySem.W.mg_of X G a17
  have b_read_numbers := F_read_numbers.binds (ps := ["text", "between"]) fun _ _ _ _ _ _ us hl => match us, hl with | [_, _], _ => rfl
  have g_read_numbers := PySem.W.mg_of X G a18
  have b_read_way := F_read_way.binds (ps := ["text"]) fun _ _ _ _ _ _ us hl => match us, hl with | [_], _ => rfl
  have g_read_way := PySem.W.mg_of X G a19
  have b_read_list := F_read_list.binds (ps := ["text", "read_one"]) fun _ _ _ _ _ _ us hl => match us, hl with | [_, _], _ => rfl
  have g_read_list := PySem.W.mg_of X G a20
  have b_read_wheel := F_read_wheel.binds (ps := ["text"]) fun _ _ _ _ _ _ us hl => match us, hl with | [_], _ => rfl
  have g_read_wheel := PySem.W.mg_of X G a21
  have b_read_part := F_read_part.binds (ps := ["text"]) fun _ _ _ _ _ _ us hl => match us, hl with | [_], _ => rfl
  have g_read_part := PySem.W.mg_of X G a22
  have b_read_stand := F_read_stand.binds (ps := ["text"]) fun _ _ _ _ _ _ us hl => match us, hl with | [_], _ => rfl
  have g_read_stand := PySem.W.mg_of X G a23
  have b_split_push := F_split_push.binds (ps := ["text"]) fun _ _ _ _ _ _ us hl => match us, hl with | [_], _ => rfl
  have g_split_push := PySem.W.mg_of X G a24
  have b_read_deed := F_read_deed.binds (ps := ["text"]) fun _ _ _ _ _ _ us hl => match us, hl with | [_], _ => rfl
  have g_read_deed := PySem.W.mg_of X G a25
  have b_read_row := F_read_row.binds (ps := ["text"]) fun _ _ _ _ _ _ us hl => match us, hl with | [_], _ => rfl
  have g_read_row := PySem.W.mg_of X G a26
  have b_read_push := F_read_push.binds (ps := ["text"]) fun _ _ _ _ _ _ us hl => match us, hl with | [_], _ => rfl
  have g_read_push := PySem.W.mg_of X G a27
  have b_read_pushes := F_read_pushes.binds (ps := ["text"]) fun _ _ _ _ _ _ us hl => match us, hl with | [_], _ => rfl
  have g_read_pushes := PySem.W.mg_of X G a28
  have b_read_ways := F_read_ways.binds (ps := ["text"]) fun _ _ _ _ _ _ us hl => match us, hl with | [_], _ => rfl
  have g_read_ways := PySem.W.mg_of X G a29
  have b_read_pair := F_read_pair.binds (ps := ["text"]) fun _ _ _ _ _ _ us hl => match us, hl with | [_], _ => rfl
  have g_read_pair := PySem.W.mg_of X G a30
  have b_read_numbered := F_read_numbered.binds (ps := ["text"]) fun _ _ _ _ _ _ us hl => match us, hl with | [_], _ => rfl
  have g_read_numbered := PySem.W.mg_of X G a31
  have b_read_moves := F_read_moves.binds (ps := ["text"]) fun _ _ _ _ _ _ us hl => match us, hl with | [_], _ => rfl
  have g_read_moves := PySem.W.mg_of X G a32
  have b_read_row_answer := F_read_row_answer.binds (ps := ["text"]) fun _ _ _ _ _ _ us hl => match us, hl with | [_], _ => rfl
  have g_read_row_answer := PySem.W.mg_of X G a33
  have b_read_two := F_read_two.binds (ps := ["text", "between"]) fun _ _ _ _ _ _ us hl => match us, hl with | [_, _], _ => rfl
  have g_read_two := PySem.W.mg_of X G a34
  have b_read_wheel_answer := F_read_wheel_answer.binds (ps := ["text"]) fun _ _ _ _ _ _ us hl => match us, hl with | [_], _ => rfl
  have g_read_wheel_answer := PySem.W.mg_of X G a35
  have b_read_answer := F_read_answer.binds (ps := ["text"]) fun _ _ _ _ _ _ us hl => match us, hl with | [_], _ => rfl
  have g_read_answer := PySem.W.mg_of X G a36
  have b__law_draws := F__law_draws.binds (ps := ["_law_cell"]) fun _ _ _ _ _ _ us hl => match us, hl with | [_], _ => rfl
  have g__law_draws := PySem.W.mg_of X G a37
  have b__law_next := F__law_next.binds (ps := ["_law_draws_here"]) fun _ _ _ _ _ _ us hl => match us, hl with | [_], _ => rfl
  have g__law_next := PySem.W.mg_of X G a38
  have b__law_whole := F__law_whole.binds (ps := ["_law_found"]) fun _ _ _ _ _ _ us hl => match us, hl with | [_], _ => rfl
  have g__law_whole := PySem.W.mg_of X G a39
  have b__law_number := F__law_number.binds (ps := ["_law_draws_here"]) fun _ _ _ _ _ _ us hl => match us, hl with | [_], _ => rfl
  have g__law_number := PySem.W.mg_of X G a40
  have b__law_rising := F__law_rising.binds (ps := ["_law_draws_here", "_law_many"]) fun _ _ _ _ _ _ us hl => match us, hl with | [_, _], _ => rfl
  have g__law_rising := PySem.W.mg_of X G a41
  have b__law_stand := F__law_stand.binds (ps := ["_law_draws_here"]) fun _ _ _ _ _ _ us hl => match us, hl with | [_], _ => rfl
  have g__law_stand := PySem.W.mg_of X G a42
  have b__law_ways := F__law_ways.binds (ps := ["_law_draws_here", "_law_many"]) fun _ _ _ _ _ _ us hl => match us, hl with | [_, _], _ => rfl
  have g__law_ways := PySem.W.mg_of X G a43
  have b__law_row := F__law_row.binds (ps := ["_law_draws_here", "_law_many"]) fun _ _ _ _ _ _ us hl => match us, hl with | [_, _], _ => rfl
  have g__law_row := PySem.W.mg_of X G a44
  have b__law_pushes := F__law_pushes.binds (ps := ["_law_draws_here", "_law_many"]) fun _ _ _ _ _ _ us hl => match us, hl with | [_, _], _ => rfl
  have g__law_pushes := PySem.W.mg_of X G a45
  have b__law_pairs := F__law_pairs.binds (ps := ["_law_draws_here", "_law_many"]) fun _ _ _ _ _ _ us hl => match us, hl with | [_, _], _ => rfl
  have g__law_pairs := PySem.W.mg_of X G a46
  have b__law_answer := F__law_answer.binds (ps := ["_law_draws_here"]) fun _ _ _ _ _ _ us hl => match us, hl with | [_], _ => rfl
  have g__law_answer := PySem.W.mg_of X G a47
  have b__law_part_text := F__law_part_text.binds (ps := ["_law_part"]) fun _ _ _ _ _ _ us hl => match us, hl with | [_], _ => rfl
  have g__law_part_text := PySem.W.mg_of X G a48
  have b__law_stand_text := F__law_stand_text.binds (ps := ["_law_stand_here"]) fun _ _ _ _ _ _ us hl => match us, hl with | [_], _ => rfl
  have g__law_stand_text := PySem.W.mg_of X G a49
  have b__law_list_text := F__law_list_text.binds (ps := ["_law_words"]) fun _ _ _ _ _ _ us hl => match us, hl with | [_], _ => rfl
  have g__law_list_text := PySem.W.mg_of X G a50
  have b__law_step_text := F__law_step_text.binds (ps := ["_law_step"]) fun _ _ _ _ _ _ us hl => match us, hl with | [_], _ => rfl
  have g__law_step_text := PySem.W.mg_of X G a51
  have b__law_steps_text := F__law_steps_text.binds (ps := ["_law_steps"]) fun _ _ _ _ _ _ us hl => match us, hl with | [_], _ => rfl
  have g__law_steps_text := PySem.W.mg_of X G a52
  have b__law_answer_text := F__law_answer_text.binds (ps := ["_law_told"]) fun _ _ _ _ _ _ us hl => match us, hl with | [_], _ => rfl
  have g__law_answer_text := PySem.W.mg_of X G a53
  have b__law_plain := F__law_plain.binds (ps := ["_law_found"]) fun _ _ _ _ _ _ us hl => match us, hl with | [_], _ => rfl
  have g__law_plain := PySem.W.mg_of X G a54
  have b__law_well := F__law_well.binds (ps := ["_law_told"]) fun _ _ _ _ _ _ us hl => match us, hl with | [_], _ => rfl
  have g__law_well := PySem.W.mg_of X G a55
  have b__law_wide := F__law_wide.binds (ps := ["_law_draws_here"]) fun _ _ _ _ _ _ us hl => match us, hl with | [_], _ => rfl
  have g__law_wide := PySem.W.mg_of X G a56
  refine ⟨PySem.W.fnOf "law" "law" (defArgs S_law) (defBody S_law) (defScope S_law) .none kV57 dc57 pm57 an57 cd57 ct57, [("read_number", cd17)], sp_law K [tabOf K cd17], fun p hp => ?_, fun s v => .of_eq rfl, fun H a ns hlen hT hE => ?_, fun base _ _ hTB => ?_⟩
  · rcases List.mem_cons.mp hp with rfl | hp
    · exact ⟨by simp, f_read_number, _, _, _, _, g_read_number, l17, rfl, tb_read_number⟩
    cases hp
  · exact ⟨a, ns, rfl, hE, hlen, fun P hP => (by
      obtain ⟨p, hp, rfl⟩ := List.mem_map.mp (show P ∈ ([("read_number", cd17)] : List (Str × Value)).map (fun p => tabOf K p.2) from hP)
      exact hT p hp), fun H2 s2 => ⟨rfl, s2⟩⟩
  have G_is_whole : FnOk l.prog w K mg base CX0 1 _ _ ["thing"] (sp_is_whole K) := ok_is_whole F_is_whole   m_isinstance m_int m_bool   
  have G_are_marks : FnOk l.prog w K mg base CX0 2 _ _ ["thing", "teeth"] (sp_are_marks K) := ok_are_marks F_are_marks  F_is_whole b_is_whole g_is_whole G_is_whole m_isinstance m_tuple   
  have G_is_part : FnOk l.prog w K mg base CX0 3 _ _ ["thing"] (sp_is_part K) := ok_is_part F_is_part  F_is_whole b_is_whole g_is_whole G_is_whole F_are_marks b_are_marks g_are_marks G_are_marks m_isinstance m_tuple m_len   
  have G_show_way : FnOk l.prog w K mg base CX0 1 _ _ ["way"] (sp_show_way K) := ok_show_way F_show_way      
  have G_show_list : ∀ R, (∀ f sp, R f sp → L2.Held l.prog w K mg base 12 f sp) → FnOk l.prog w K mg base CX0 13 f_show_list _ ["things", "show_one"] (sp_show_list K R) := fun R HR => ok_show_list F_show_list      HR 
  have G_show_part : FnOk l.prog w K mg base CX0 1 _ _ ["part"] (sp_show_part K) := ok_show_part F_show_part   m_str   
  have G_show_stand : FnOk l.prog w K mg base CX0 1 _ _ ["stand"] (sp_show_stand K) := ok_show_stand F_show_stand   m_str   
  have G_show_deed : FnOk l.prog w K mg base CX0 2 _ _ ["deed"] (sp_show_deed K) := ok_show_deed F_show_deed  F_show_way b_show_way g_show_way G_show_way    
  have G_show_row : FnOk l.prog w K mg base CX0 14 _ _ ["row"] (sp_show_row K) := ok_show_row F_show_row  F_show_list b_show_list g_show_list G_show_list F_show_deed b_show_deed g_show_deed G_show_deed    
  have G_show_push : FnOk l.prog w K mg base CX0 2 _ _ ["push"] (sp_show_push K) := ok_show_push F_show_push  F_show_way b_show_way g_show_way G_show_way    
  have G_show_pushes : FnOk l.prog w K mg base CX0 14 _ _ ["pushes"] (sp_show_pushes K) := ok_show_pushes F_show_pushes  F_show_list b_show_list g_show_list G_show_list F_show_push b_show_push g_show_push G_show_push    
  have G_show_ways : FnOk l.prog w K mg base CX0 2 _ _ ["ways"] (sp_show_ways K) := ok_show_ways F_show_ways  F_show_way b_show_way g_show_way G_show_way    
  have G_show_pair : FnOk l.prog w K mg base CX0 2 _ _ ["pair"] (sp_show_pair K) := ok_show_pair F_show_pair  F_show_stand b_show_stand g_show_stand G_show_stand    
  have G_show_numbered : FnOk l.prog w K mg base CX0 2 _ _ ["numbered"] (sp_show_numbered K) := ok_show_numbered F_show_numbered  F_show_stand b_show_stand g_show_stand G_show_stand    
  have G_show_moves : FnOk l.prog w K mg base CX0 15 _ _ ["moves"] (sp_show_moves K) := ok_show_moves F_show_moves  F_show_row b_show_row g_show_row G_show_row F_show_pushes b_show_pushes g_show_pushes G_show_pushes m_len   
  have G_show_wheel : FnOk l.prog w K mg base CX0 2 _ _ ["teeth", "marks", "bars"] (sp_show_wheel K) := ok_show_wheel F_show_wheel  F_show_part b_show_part g_show_part G_show_part    
  have G_show_answer : FnOk l.prog w K mg base CX0 16 _ _ ["told"] (sp_show_answer K) := ok_show_answer F_show_answer  F_show_wheel b_show_wheel g_show_wheel G_show_wheel F_show_list b_show_list g_show_list G_show_list F_show_stand b_show_stand g_show_stand G_show_stand F_show_numbered b_show_numbered g_show_numbered G_show_numbered F_show_moves b_show_moves g_show_moves G_show_moves F_show_ways b_show_ways g_show_ways G_show_ways F_show_pair b_show_pair g_show_pair G_show_pair    
  have G_read_number : FnOk l.prog w K mg base CX0 2 _ _ ["text"] (sp_read_number K [tabOf K cd17]) := ok_read_number F_read_number   m_any m_int m_len  g_FIGURES g_MOST_FIGURES  (hTB ("read_number", cd17) (by simp)) (by obtain ⟨_, _, _, _, h, _⟩ := tab_inv tb_read_number; exact h) (by simp)
  have G_read_numbers : FnOk l.prog w K mg base CX0 3 _ _ ["text", "between"] (sp_read_numbers K [tabOf K cd17]) := ok_read_numbers F_read_numbers  F_read_number b_read_number g_read_number G_read_number    
  have G_read_way : FnOk l.prog w K mg base CX0 1 _ _ ["text"] (sp_read_way K) := ok_read_way F_read_way     g_WAY_OF_SIGN D_WAY_OF_SIGN 
  have G_read_list : ∀ R, (∀ f sp, R f sp → L2.Held l.prog w K mg base 12 f sp) → FnOk l.prog w K mg base CX0 13 f_read_list _ ["text", "read_one"] (sp_read_list K R) := fun R HR => ok_read_list F_read_list      HR 
  have G_read_wheel : FnOk l.prog w K mg base CX0 4 _ _ ["text"] (sp_read_wheel K [tabOf K cd17]) := ok_read_wheel F_read_wheel  F_read_numbers b_read_numbers g_read_numbers G_read_numbers F_read_number b_read_number g_read_number G_read_number m_tuple   
  have G_read_part : FnOk l.prog w K mg base CX0 5 _ _ ["text"] (sp_read_part K [tabOf K cd17]) := ok_read_part F_read_part  F_read_number b_read_number g_read_number G_read_number F_read_wheel b_read_wheel g_read_wheel G_read_wheel    
  have G_read_stand : FnOk l.prog w K mg base CX0 4 _ _ ["text"] (sp_read_stand K [tabOf K cd17]) := ok_read_stand F_read_stand  F_read_numbers b_read_numbers g_read_numbers G_read_numbers m_tuple   
  have G_split_push : FnOk l.prog w K mg base CX0 3 _ _ ["text"] (sp_split_push K [tabOf K cd17]) := ok_split_push F_split_push  F_read_way b_read_way g_read_way G_read_way F_read_number b_read_number g_read_number G_read_number m_len  g_FIGURES 
  have G_read_deed : FnOk l.prog w K mg base CX0 4 _ _ ["text"] (sp_read_deed K [tabOf K cd17]) := ok_read_deed F_read_deed  F_read_number b_read_number g_read_number G_read_number F_split_push b_split_push g_split_push G_split_push    
  have G_read_row : FnOk l.prog w K mg base CX0 14 _ _ ["text"] (sp_read_row K [tabOf K cd17]) := ok_read_row F_read_row  F_read_list b_read_list g_read_list G_read_list F_read_deed b_read_deed g_read_deed G_read_deed    
  have G_read_push : FnOk l.prog w K mg base CX0 4 _ _ ["text"] (sp_read_push K [tabOf K cd17]) := ok_read_push F_read_push  F_split_push b_split_push g_split_push G_split_push    
  have G_read_pushes : FnOk l.prog w K mg base CX0 14 _ _ ["text"] (sp_read_pushes K [tabOf K cd17]) := ok_read_pushes F_read_pushes  F_read_list b_read_list g_read_list G_read_list F_read_push b_read_push g_read_push G_read_push    
  have G_read_ways : FnOk l.prog w K mg base CX0 2 _ _ ["text"] (sp_read_ways K) := ok_read_ways F_read_ways  F_read_way b_read_way g_read_way G_read_way    
  have G_read_pair : FnOk l.prog w K mg base CX0 5 _ _ ["text"] (sp_read_pair K [tabOf K cd17]) := ok_read_pair F_read_pair  F_read_stand b_read_stand g_read_stand G_read_stand    
  have G_read_numbered : FnOk l.prog w K mg base CX0 5 _ _ ["text"] (sp_read_numbered K [tabOf K cd17]) := ok_read_numbered F_read_numbered  F_read_number b_read_number g_read_number G_read_number F_read_stand b_read_stand g_read_stand G_read_stand    
  have G_read_moves : FnOk l.prog w K mg base CX0 15 _ _ ["text"] (sp_read_moves K [tabOf K cd17]) := ok_read_moves F_read_moves  F_read_row b_read_row g_read_row G_read_row F_read_pushes b_read_pushes g_read_pushes G_read_pushes    
  have G_read_row_answer : FnOk l.prog w K mg base CX0 16 _ _ ["text"] (sp_read_row_answer K [tabOf K cd17]) := ok_read_row_answer F_read_row_answer  F_read_list b_read_list g_read_list G_read_list F_read_numbered b_read_numbered g_read_numbered G_read_numbered F_read_moves b_read_moves g_read_moves G_read_moves    
  have G_read_two : FnOk l.prog w K mg base CX0 4 _ _ ["text", "between"] (sp_read_two K [tabOf K cd17]) := ok_read_two F_read_two  F_read_numbers b_read_numbers g_read_numbers G_read_numbers m_len   
  have G_read_wheel_answer : FnOk l.prog w K mg base CX0 6 _ _ ["text"] (sp_read_wheel_answer K [tabOf K cd17]) := ok_read_wheel_answer F_read_wheel_answer  F_read_two b_read_two g_read_two G_read_two F_is_part b_is_part g_is_part G_is_part F_read_part b_read_part g_read_part G_read_part    
  have G_read_answer : FnOk l.prog w K mg base CX0 17 _ _ ["text"] (sp_read_answer K [tabOf K cd17]) := ok_read_answer F_read_answer  F_read_two b_read_two g_read_two G_read_two F_read_wheel_answer b_read_wheel_answer g_read_wheel_answer G_read_wheel_answer F_read_list b_read_list g_read_list G_read_list F_read_stand b_read_stand g_read_stand G_read_stand F_read_row_answer b_read_row_answer g_read_row_answer G_read_row_answer F_read_ways b_read_ways g_read_ways G_read_ways F_read_pair b_read_pair g_read_pair G_read_pair    
  have G__law_draws : FnOk l.prog w K mg base CX0 1 _ _ ["_law_cell"] (sp__law_draws K) := ok__law_draws F__law_draws      
  have G__law_next : FnOk l.prog w K mg base CX0 1 _ _ ["_law_draws_here"] (sp__law_next K) := ok__law_next F__law_next      
  have G__law_whole : FnOk l.prog w K mg base CX0 1 _ _ ["_law_found"] (sp__law_whole K) := ok__law_whole F__law_whole   m_isinstance m_int m_bool   
  have G__law_number : FnOk l.prog w K mg base CX0 2 _ _ ["_law_draws_here"] (sp__law_number K) := ok__law_number F__law_number  F__law_next b__law_next g__law_next G__law_next m_range   
  have G__law_rising : FnOk l.prog w K mg base CX0 3 _ _ ["_law_draws_here", "_law_many"] (sp__law_rising K) := ok__law_rising F__law_rising  F__law_next b__law_next g__law_next G__law_next F__law_number b__law_number g__law_number G__law_number m_range m_tuple   
  have G__law_stand : FnOk l.prog w K mg base CX0 3 _ _ ["_law_draws_here"] (sp__law_stand K) := ok__law_stand F__law_stand  F__law_next b__law_next g__law_next G__law_next F__law_number b__law_number g__law_number G__law_number m_tuple m_range   
  have G__law_ways : FnOk l.prog w K mg base CX0 2 _ _ ["_law_draws_here", "_law_many"] (sp__law_ways K) := ok__law_ways F__law_ways  F__law_next b__law_next g__law_next G__law_next m_range   
  have G__law_row : FnOk l.prog w K mg base CX0 3 _ _ ["_law_draws_here", "_law_many"] (sp__law_row K) := ok__law_row F__law_row  F__law_ways b__law_ways g__law_ways G__law_ways F__law_number b__law_number g__law_number G__law_number    
  have G__law_pushes : FnOk l.prog w K mg base CX0 3 _ _ ["_law_draws_here", "_law_many"] (sp__law_pushes K) := ok__law_pushes F__law_pushes  F__law_ways b__law_ways g__law_ways G__law_ways F__law_number b__law_number g__law_number G__law_number    
  have G__law_pairs : FnOk l.prog w K mg base CX0 4 _ _ ["_law_draws_here", "_law_many"] (sp__law_pairs K) := ok__law_pairs F__law_pairs  F__law_next b__law_next g__law_next G__law_next F__law_stand b__law_stand g__law_stand G__law_stand m_range   
  have G__law_answer : FnOk l.prog w K mg base CX0 21 _ _ ["_law_draws_here"] (sp__law_answer K) := ok__law_answer F__law_answer  F__law_number b__law_number g__law_number G__law_number F__law_next b__law_next g__law_next G__law_next F__law_rising b__law_rising g__law_rising G__law_rising F__law_row b__law_row g__law_row G__law_row F__law_pushes b__law_pushes g__law_pushes G__law_pushes F__law_stand b__law_stand g__law_stand G__law_stand F__law_ways b__law_ways g__law_ways G__law_ways F__law_pairs b__law_pairs g__law_pairs G__law_pairs m_range m_max   
  have G__law_part_text : FnOk l.prog w K mg base CX0 1 _ _ ["_law_part"] (sp__law_part_text K) := ok__law_part_text F__law_part_text   m_str   
  have G__law_stand_text : FnOk l.prog w K mg base CX0 1 _ _ ["_law_stand_here"] (sp__law_stand_text K) := ok__law_stand_text F__law_stand_text   m_str   
  have G__law_list_text : FnOk l.prog w K mg base CX0 1 _ _ ["_law_words"] (sp__law_list_text K) := ok__law_list_text F__law_list_text   m_int   
  have G__law_step_text : FnOk l.prog w K mg base CX0 1 _ _ ["_law_step"] (sp__law_step_text K) := ok__law_step_text F__law_step_text   m_str m_int   
  have G__law_steps_text : FnOk l.prog w K mg base CX0 2 _ _ ["_law_steps"] (sp__law_steps_text K) := ok__law_steps_text F__law_steps_text  F__law_step_text b__law_step_text g__law_step_text G__law_step_text F__law_list_text b__law_list_text g__law_list_text G__law_list_text    
  have G__law_answer_text : FnG l.prog w K mg base CX0 3 _ _ ["_law_told"] (sp__law_answer_text K) := ok__law_answer_text F__law_answer_text  F__law_part_text b__law_part_text g__law_part_text G__law_part_text F__law_steps_text b__law_steps_text g__law_steps_text G__law_steps_text F__law_list_text b__law_list_text g__law_list_text G__law_list_text F__law_stand_text b__law_stand_text g__law_stand_text G__law_stand_text m_str m_int   
  have G__law_plain : FnOk l.prog w K mg base CX0 7 _ _ ["_law_found"] (sp__law_plain 5 K) := (rec__law_plain F__law_plain b__law_plain g__law_plain F__law_whole b__law_whole g__law_whole G__law_whole m_isinstance m_list m_tuple m_all m_str 5).mono (by decide)
  have G__law_well : FnG l.prog w K mg base CX0 18 _ _ ["_law_told"] (sp__law_well K [tabOf K cd17]) := ok__law_well F__law_well  F_read_answer b_read_answer g_read_answer G_read_answer F__law_plain b__law_plain g__law_plain G__law_plain F_show_answer b_show_answer g_show_answer G_show_answer F__law_answer_text b__law_answer_text g__law_answer_text G__law_answer_text m_str m_enumerate m_isinstance m_tuple m_list   
  have G__law_wide : FnOk l.prog w K mg base CX0 3 _ _ ["_law_draws_here"] (sp__law_wide K) := ok__law_wide F__law_wide  F__law_next b__law_next g__law_next G__law_next F__law_ways b__law_ways g__law_ways G__law_ways m_tuple m_enumerate m_list m_range   
  exact fun z H ws vs Q E e b r h => FnG.goes (k := 22) (ok_law F_law  F__law_well b__law_well g__law_well G__law_well F__law_answer_text b__law_answer_text g__law_answer_text G__law_answer_text F_read_answer b_read_answer g_read_answer G_read_answer F__law_answer b__law_answer g__law_answer G__law_answer F__law_draws b__law_draws g__law_draws G__law_draws F__law_wide b__law_wide g__law_wide G__law_wide m_range   ) callerA rfl ⟨rfl, by decide, by decide⟩ [] z H ⟨ws, []⟩ ws vs Q E e b r h
end My
open PySem PySem.W PyProof.Rows
set_option maxHeartbeats 0 in
theorem PySem.Challenge.cw_clicktrain_k73_answers_as_texts_holds : PySem.Challenge.rw_clicktrain_k73_answers_as_texts.Holds := by
  w_on; o_law; k_head; (case hw => w_witness2)
  k_fill
  refine Ct.walk_ofX (l := PySem.Challenge.rw_clicktrain_k73_answers_as_texts) (n := 63) (x := "_law_script") (defs := ["read_number"]) rfl (by decide) rfl (by decide +kernel) (fun w h Y => PySem.W.kIn_of Y) ?F
  case F =>
    intro w mg fa h KX G hmg
    refine' My.all_mk KX G hmg ?a0 ?l0 ?c0 ?k0 ?a1 ?l1 ?c1 ?k1 ?a2 ?l2 ?c2 ?k2 ?a3 ?l3 ?c3 ?k3 ?a4 ?l4 ?c4 ?k4 ?a5 ?l5 ?c5 ?k5 ?a6 ?l6 ?c6 ?k6 ?a7 ?l7 ?c7 ?k7 ?a8 ?l8 ?c8 ?k8 ?a9 ?l9 ?c9 ?k9 ?a10 ?l10 ?c10 ?k10 ?a11 ?l11 ?c11 ?k11 ?a12 ?l12 ?c12 ?k12 ?a13 ?l13 ?c13 ?k13 ?a14 ?l14 ?c14 ?k14 ?a15 ?l15 ?c15 ?k15 ?a16 ?l16 ?c16 ?k16 ?a17 ?l17 ?c17 ?k17 ?a18 ?l18 ?c18 ?k18 ?a19 ?l19 ?c19 ?k19 ?a20 ?l20 ?c20 ?k20 ?a21 ?l21 ?c21 ?k21 ?a22 ?l22 ?c22 ?k22 ?a23 ?l23 ?c23 ?k23 ?a24 ?l24 ?c24 ?k24 ?a25 ?l25 ?c25 ?k25 ?a26 ?l26 ?c26 ?k26 ?a27 ?l27 ?c27 ?k27 ?a28 ?l28 ?c28 ?k28 ?a29 ?l29 ?c29 ?k29 ?a30 ?l30 ?c30 ?k30 ?a31 ?l31 ?c31 ?k31 ?a32 ?l32 ?c32 ?k32 ?a33 ?l33 ?c33 ?k33 ?a34 ?l34 ?c34 ?k34 ?a35 ?l35 ?c35 ?k35 ?a36 ?l36 ?c36 ?k36 ?a37 ?l37 ?c37 ?k37 ?a38 ?l38 ?c38 ?k38 ?a39 ?l39 ?c39 ?k39 ?a40 ?l40 ?c40 ?k40 ?a41 ?l41 ?c41 ?k41 ?a42 ?l42 ?c42 ?k42 ?a43 ?l43 ?c43 ?k43 ?a44 ?l44 ?c44 ?k44 ?a45 ?l45 ?c45 ?k45 ?a46 ?l46 ?c46 ?k46 ?a47 ?l47 ?c47 ?k47 ?a48 ?l48 ?c48 ?k48 ?a49 ?l49 ?c49 ?k49 ?a50 ?l50 ?c50 ?k50 ?a51 ?l51 ?c51 ?k51 ?a52 ?l52 ?c52 ?k52 ?a53 ?l53 ?c53 ?k53 ?a54 ?l54 ?c54 ?k54 ?a55 ?l55 ?c55 ?k55 ?a56 ?l56 ?c56 ?k56 ?a57 ?l57 ?c57 ?k57 ?z0 ?z1 ?z2 ?z3 ?z4 ?z5 ?z6 ?z7 ?z8 ?z9 ?z10 ?z11 ?v_FIGURES ?v_MOST_FIGURES ?v_WAY_OF_SIGN ?t_WAY_OF_SIGN ?sy_WAY_OF_SIGN ?tb_read_number
    (case a0 => k_is)
    (case l0 => k_is)
    (case c0 => k_is)
    (case k0 => k_is)
    (case a1 => k_is)
    (case l1 => k_is)
    (case c1 => k_is)
    (case k1 => k_is)
    (case a2 => k_is)
    (case l2 => k_is)
    (case c2 => k_is)
    (case k2 => k_is)
    (case a3 => k_is)
    (case l3 => k_is)
    (case c3 => k_is)
    (case k3 => k_is)
    (case a4 => k_is)
    (case l4 => k_is)
    (case c4 => k_is)
    (case k4 => k_is)
    (case a5 => k_is)
    (case l5 => k_is)
    (case c5 => k_is)
    (case k5 => k_is)
    (case a6 => k_is)
    (case l6 => k_is)
    (case c6 => k_is)
    (case k6 => k_is)
    (case a7 => k_is)
    (case l7 => k_is)
    (case c7 => k_is)
    (case k7 => k_is)
    (case a8 => k_is)
    (case l8 => k_is)
    (case c8 => k_is)
    (case k8 => k_is)
    (case a9 => k_is)
    (case l9 => k_is)
    (case c9 => k_is)
    (case k9 => k_is)
    (case a10 => k_is)
    (case l10 => k_is)
    (case c10 => k_is)
    (case k10 => k_is)
    (case a11 => k_is)
    (case l11 => k_is)
    (case c11 => k_is)
    (case k11 => k_is)
    (case a12 => k_is)
    (case l12 => k_is)
    (case c12 => k_is)
    (case k12 => k_is)
    (case a13 => k_is)
    (case l13 => k_is)
    (case c13 => k_is)
    (case k13 => k_is)
    (case a14 => k_is)
    (case l14 => k_is)
    (case c14 => k_is)
    (case k14 => k_is)
    (case a15 => k_is)
    (case l15 => k_is)
    (case c15 => k_is)
    (case k15 => k_is)
    (case a16 => k_is)
    (case l16 => k_is)
    (case c16 => k_is)
    (case k16 => k_is)
    (case a17 => k_is)
    (case l17 => k_is)
    (case c17 => k_is)
    (case k17 => k_is)
    (case a18 => k_is)
    (case l18 => k_is)
    (case c18 => k_is)
    (case k18 => k_is)
    (case a19 => k_is)
    (case l19 => k_is)
    (case c19 => k_is)
    (case k19 => k_is)
    (case a20 => k_is)
    (case l20 => k_is)
    (case c20 => k_is)
    (case k20 => k_is)
    (case a21 => k_is)
    (case l21 => k_is)
    (case c21 => k_is)
    (case k21 => k_is)
    (case a22 => k_is)
    (case l22 => k_is)
    (case c22 => k_is)
    (case k22 => k_is)
    (case a23 => k_is)
    (case l23 => k_is)
    (case c23 => k_is)
    (case k23 => k_is)
    (case a24 => k_is)
    (case l24 => k_is)
    (case c24 => k_is)
    (case k24 => k_is)
    (case a25 => k_is)
    (case l25 => k_is)
    (case c25 => k_is)
    (case k25 => k_is)
    (case a26 => k_is)
    (case l26 => k_is)
    (case c26 => k_is)
    (case k26 => k_is)
    (case a27 => k_is)
    (case l27 => k_is)
    (case c27 => k_is)
    (case k27 => k_is)
    (case a28 => k_is)
    (case l28 => k_is)
    (case c28 => k_is)
    (case k28 => k_is)
    (case a29 => k_is)
    (case l29 => k_is)
    (case c29 => k_is)
    (case k29 => k_is)
    (case a30 => k_is)
    (case l30 => k_is)
    (case c30 => k_is)
    (case k30 => k_is)
    (case a31 => k_is)
    (case l31 => k_is)
    (case c31 => k_is)
    (case k31 => k_is)
    (case a32 => k_is)
    (case l32 => k_is)
    (case c32 => k_is)
    (case k32 => k_is)
    (case a33 => k_is)
    (case l33 => k_is)
    (case c33 => k_is)
    (case k33 => k_is)
    (case a34 => k_is)
    (case l34 => k_is)
    (case c34 => k_is)
    (case k34 => k_is)
    (case a35 => k_is)
    (case l35 => k_is)
    (case c35 => k_is)
    (case k35 => k_is)
    (case a36 => k_is)
    (case l36 => k_is)
    (case c36 => k_is)
    (case k36 => k_is)
    (case a37 => k_is)
    (case l37 => k_is)
    (case c37 => k_is)
    (case k37 => k_is)
    (case a38 => k_is)
    (case l38 => k_is)
    (case c38 => k_is)
    (case k38 => k_is)
    (case a39 => k_is)
    (case l39 => k_is)
    (case c39 => k_is)
    (case k39 => k_is)
    (case a40 => k_is)
    (case l40 => k_is)
    (case c40 => k_is)
    (case k40 => k_is)
    (case a41 => k_is)
    (case l41 => k_is)
    (case c41 => k_is)
    (case k41 => k_is)
    (case a42 => k_is)
    (case l42 => k_is)
    (case c42 => k_is)
    (case k42 => k_is)
    (case a43 => k_is)
    (case l43 => k_is)
    (case c43 => k_is)
    (case k43 => k_is)
    (case a44 => k_is)
    (case l44 => k_is)
    (case c44 => k_is)
    (case k44 => k_is)
    (case a45 => k_is)
    (case l45 => k_is)
    (case c45 => k_is)
    (case k45 => k_is)
    (case a46 => k_is)
    (case l46 => k_is)
    (case c46 => k_is)
    (case k46 => k_is)
    (case a47 => k_is)
    (case l47 => k_is)
    (case c47 => k_is)
    (case k47 => k_is)
    (case a48 => k_is)
    (case l48 => k_is)
    (case c48 => k_is)
    (case k48 => k_is)
    (case a49 => k_is)
    (case l49 => k_is)
    (case c49 => k_is)
    (case k49 => k_is)
    (case a50 => k_is)
    (case l50 => k_is)
    (case c50 => k_is)
    (case k50 => k_is)
    (case a51 => k_is)
    (case l51 => k_is)
    (case c51 => k_is)
    (case k51 => k_is)
    (case a52 => k_is)
    (case l52 => k_is)
    (case c52 => k_is)
    (case k52 => k_is)
    (case a53 => k_is)
    (case l53 => k_is)
    (case c53 => k_is)
    (case k53 => k_is)
    (case a54 => k_is)
    (case l54 => k_is)
    (case c54 => k_is)
    (case k54 => k_is)
    (case a55 => k_is)
    (case l55 => k_is)
    (case c55 => k_is)
    (case k55 => k_is)
    (case a56 => k_is)
    (case l56 => k_is)
    (case c56 => k_is)
    (case k56 => k_is)
    (case a57 => k_is)
    (case l57 => k_is)
    (case c57 => k_is)
    (case k57 => k_is)
    (case z0 => k_is)
    (case z1 => k_is)
    (case z2 => k_is)
    (case z3 => k_is)
    (case z4 => k_is)
    (case z5 => k_is)
    (case z6 => k_is)
    (case z7 => k_is)
    (case z8 => k_is)
    (case z9 => k_is)
    (case z10 => k_is)
    (case z11 => k_is)
    (case v_FIGURES => k_is)
    (case v_MOST_FIGURES => k_is)
    (case v_WAY_OF_SIGN => k_is)
    (case t_WAY_OF_SIGN => k_is)
    (case sy_WAY_OF_SIGN => first | rfl | decide | k_is)
    (case tb_read_number => first | kernel_rfl | rfl)
