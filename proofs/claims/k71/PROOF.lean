import PyProof.Rows.All
import Wide.All
import OpenK.AllK
import Wide.FinOn
import HandS.ForMost
import HandS.Wide
import HandS.IsInst
import HandS.Walk
import HandS.Star
import HandS.TupAny
import HandS.Style
import HandS.Deep
import KE.GoesNew
import HandS.CallLocal
import HandS.Codes
import HandS.FStr
import PyProof.StrBlock2
import HandS.GenList
import HandS.AnyAll
import HandS.EndBits
import KE.DataMinMax
import PyProof.CallStr
import HandS.TupMul
import HandS.Exc
import HandS.ExcOwn
import HandS.ExcIs
import HandS.WordsExc
import HandS.Text
import KE.RegKIsAll
import PySem.Challenge.RW_clicktrain_k71_trains_and_stands_as_text
set_option Elab.async false
set_option linter.all false
set_option maxRecDepth 100000
set_option maxHeartbeats 4000000
namespace Ct
open PySem PySem.Spec PyProof.Rows L2
/-! walking a reading, construct by construct -/
section
variable {K : PySem.W.Frag} {H : Hp} {σ : L2.St} {D : Ends} {Q : VK} {QB : Bool → Hp → Prop} {QA : List V → Hp → Prop} {QS : L2.St → Hp → Prop}
theorem w_seq {t u : TS} (h : t { D with nx := u D } σ H) : tSeq t u D σ H := h
theorem w_join {t u : TS} (J : L2.St → Hp → Prop) (h1 : ∀ σ' H', J σ' H' → u D σ' H') (h2 : ∀ N : L2.St → Hp → Prop, (∀ σ' H', J σ' H' → N σ' H') → t { D with nx := N } σ H) : tSeq t u D σ H := h2 (u D) h1
theorem w_asg {te : TE} {g : TG} (h : te σ H fun x H1 => g x σ H1 D.nx) : tAsg te g D σ H := h
theorem w_ret {te : TE} (h : te σ H D.rt) : tRet te D σ H := h
theorem w_ifS {c : TT} {t u : TS} (h : c σ H fun b H1 => if b = true then t D σ H1 else u D σ H1) : tIfS c t u D σ H := h
theorem w_drop {te : TE} (h : te σ H fun _ H1 => D.nx σ H1) : tDrop te D σ H := h
theorem w_next (h : D.nx σ H) : tNext D σ H := h
theorem w_var {i : Nat} {v : V} (e : σ[i]? = some (some v)) (h : Q v H) : tVar i σ H Q := ⟨v, e, h⟩
theorem w_c {v : V} (h : Q v H) : tC v σ H Q := h
theorem w_op {r : R2} {ta tb : TE} (h : ta σ H fun x H1 => tb σ H1 fun y H2 => r x y H2 Q) : tOp r ta tb σ H Q := h
theorem w_chain {r r' : R2} {ta tb tc : TE} (h : ta σ H fun x H1 => tb σ H1 fun y H2 => r x y H2 fun z H3 => ∃ k, z = .bl k ∧ (if k = true then tc σ H3 fun w' H4 => r' y w' H4 Q else Q (.bl false) H3)) : tChain r r' ta tb tc σ H Q := h
theorem w_un {r : V → Hp → VK → Prop} {ta : TE} (h : ta σ H fun x H1 => r x H1 Q) : tUn r ta σ H Q := h
theorem w_test {t : TE} (h : t σ H fun x H' => ∃ k, x = .bl k ∧ QB k H') : tTest t σ H QB := h
theorem w_B {t : TE} (h : t σ H fun x H' => ∃ k, x = .bl k ∧ QB k H') : tB t σ H QB := h
theorem w_and {t u : TT} (h : t σ H fun c H1 => if c = true then u σ H1 QB else QB false H1) : tAnd t u σ H QB := h
theorem w_or {t u : TT} (h : t σ H fun c H1 => if c = true then QB true H1 else u σ H1 QB) : tOr t u σ H QB := h
theorem w_not {t : TT} (h : t σ H fun c H1 => QB (!c) H1) : tNot t σ H QB := h
theorem w_if {t : TT} {ta tb : TE} (h : t σ H fun c H1 => if c = true then ta σ H1 Q else tb σ H1 Q) : tIf t ta tb σ H Q := h
theorem w_nil (h : QA [] H) : tNil σ H QA := h
theorem w_cons {ta : TE} {tr : TA} (h : ta σ H fun x H1 => tr σ H1 fun xs H2 => QA (x :: xs) H2) : tCons ta tr σ H QA := h
theorem w_cb {r : List V → Hp → VK → Prop} {t : TA} (h : t σ H fun vs H1 => r vs H1 Q) : tCB r t σ H Q := h
theorem w_call {sp : Sp} {dvs : List V} {E : XK} {t : TA} (h : t σ H fun vs H1 => sp (vs ++ dvs) H1 Q E) : tCall sp dvs E t σ H Q := h
theorem w_name {i : Nat} {v : V} {σ' : L2.St} (e : σ.set i (some v) = σ') (h : QS σ' H) : gName i v σ H QS := by
  unfold gName
  rw [e]
  exact h
theorem w_rI {C : Int → Int → Prop} {g : Int → Int → V} {i j : Int} (c : C i j) (h : Q (g i j) H) : rI C g (.int i) (.int j) H Q := ⟨i, j, rfl, rfl, c, h⟩
theorem w_rI0 {g : Int → Int → V} {i j : Int} (h : Q (g i j) H) : rI0 g (.int i) (.int j) H Q := ⟨i, j, rfl, rfl, h⟩
theorem w_rU {g : Int → V} {i : Int} (h : Q (g i) H) : rU g (.int i) H Q := ⟨i, rfl, h⟩
theorem w_rEqI {i j : Int} (h : Q (.bl (decide (i = j))) H) : rEq (.int i) (.int j) H Q := by
  refine ⟨rfl, ?_⟩
  rw [show decide (V.int i = V.int j) = decide (i = j) from by
    by_cases e : i = j
    · subst e
      rw [decide_eq_true rfl, decide_eq_true rfl]
    · rw [decide_eq_false e, decide_eq_false fun z => e (V.int.inj z)]]
  exact h
theorem w_rNeI {i j : Int} (h : Q (.bl (!decide (i = j))) H) : rNe (.int i) (.int j) H Q := by
  refine ⟨rfl, ?_⟩
  rw [show decide (V.int i = V.int j) = decide (i = j) from by
    by_cases e : i = j
    · subst e
      rw [decide_eq_true rfl, decide_eq_true rfl]
    · rw [decide_eq_false e, decide_eq_false fun z => e (V.int.inj z)]]
  exact h
theorem w_rEqS {x y : Str} {b : Bool} (e : decide (V.str x = V.str y) = b) (h : Q (.bl b) H) : rEq (.str x) (.str y) H Q := by
  refine ⟨rfl, ?_⟩
  rw [e]
  exact h
theorem w_bl {b : Bool} {QP : Bool → Prop} (h : QP b) : ∃ k, V.bl b = .bl k ∧ QP k := ⟨b, rfl, h⟩
theorem w_in {i : Int} {QP : Int → Prop} (h : QP i) : ∃ k, V.int i = .int k ∧ QP k := ⟨i, rfl, h⟩
theorem w_ixT {p : Addr} {xs : List V} {i : Int} {v : V} (h : SqT K H p xs) (e : atI xs i = some v) (q : Q v H) : rIxT K (.ref p) (.int i) H Q := ⟨p, xs, i, v, rfl, rfl, h, e, q⟩
theorem w_ixL {p : Addr} {xs : List V} {i : Int} {v : V} (h : SqL K H p xs) (e : atI xs i = some v) (q : Q v H) : rIxL K (.ref p) (.int i) H Q := ⟨p, xs, i, v, rfl, rfl, h, e, q⟩
theorem w_tup {t : TA} (h : t σ H fun xs H1 => xs.length ≤ sizeLine ∧ ∀ p, H1 p = none → Q (.ref p) (upd H1 p (.tup xs))) : tTup t σ H Q := h
theorem w_lst {t : TA} (h : t σ H fun xs H1 => xs.length ≤ sizeLine ∧ ∀ p, H1 p = none → Q (.ref p) (upd H1 p (.lst xs))) : tLst t σ H Q := h
theorem w_bm {T : String} {r : V → List V → Hp → VK → Prop} {to : TE} {t : TA} (h : to σ H fun x H1 => tyV K T x H1 ∧ t σ H1 fun xs H2 => r x xs H2 Q) : tBM K T r to t σ H Q := h
theorem w_inT {p : Addr} {x : Int} {ns : List Int} (h : SqT K H p (ns.map V.int)) (q : Q (.bl (decide (x ∈ ns))) H) : rIn K false (.int x) (.ref p) H Q := by
  refine ⟨p, ns.map V.int, rfl, .inr h, rfl, ?_, ?_⟩
  · rw [List.all_map]
    exact List.all_eq_true.mpr fun _ _ => rfl
  · rw [if_neg Bool.false_ne_true]
    rw [show inV (.int x) (ns.map V.int) = decide (x ∈ ns) from by
      unfold inV
      rw [List.any_map]
      by_cases e : x ∈ ns
      · rw [decide_eq_true e, List.any_eq_true]
        exact ⟨x, e, by show (x == x) = true; exact beq_self_eq_true x⟩
      · rw [decide_eq_false e, List.any_eq_false]
        intro y hy
        show ¬ (y == x) = true
        intro z
        have : y = x := eq_of_beq z
        subst this
        exact e hy]
    exact q
theorem w_break (h : D.bk σ H) : tBreak D σ H := h
theorem w_cont (h : D.ct σ H) : tCont D σ H := h
theorem w_nT {A B : Prop} (h : B) : if (!true) = true then A else B := h
theorem w_nF {A B : Prop} (h : A) : if (!false) = true then A else B := h
theorem w_ite {c A B : Prop} [Decidable c] (h1 : c → A) (h2 : ¬ c → B) : if (decide c) = true then A else B := by
  by_cases h : c
  · rw [if_pos (decide_eq_true h)]
    exact h1 h
  · rw [if_neg (by rw [decide_eq_false h]; exact Bool.false_ne_true)]
    exact h2 h
theorem w_iteN {c A B : Prop} [Decidable c] (h1 : ¬ c → A) (h2 : c → B) : if (!decide c) = true then A else B := by
  by_cases h : c
  · rw [decide_eq_true h]
    exact iteF (h2 h)
  · rw [decide_eq_false h]
    exact iteT (h1 h)
theorem w_st {t : TS} {σ' : L2.St} (e : σ = σ') (h : t D σ' H) : t D σ H := by
  rw [e]
  exact h
end
/-! heaps -/
theorem same_new {H0 H : Hp} {p : Addr} {o : HO} (s : Same H0 H) (h : H0 p = none) : Same H0 (upd H p o) := fun b x e => by
  rw [upd_ne (ne_of_none e h)]
  exact s b x e
theorem same_upd {H : Hp} {p : Addr} {o : HO} (h : H p = none) : Same H (upd H p o) := same_new (Same.refl H) h
theorem Same.tup {K : PySem.W.Frag} {H H' : Hp} {a : Addr} {xs : List V} (e : Same H H') (h : SqT K H a xs) : SqT K H' a xs := by
  rcases h with (h | ⟨o, h⟩) | h
  · exact .inl (.inl (e _ _ h))
  · exact .inl (.inr ⟨o, e _ _ h⟩)
  · exact .inr h
theorem Same.new {H H' : Hp} {p : Addr} (s : Same H H') (h : H' p = none) : H p = none := s.free h
mutual
theorem dp_same {K : PySem.W.Frag} {H H' : Hp} (e : Same H H') : ∀ {v : V} {d : PyData}, Dp K H v d → Dp K H' v d
  | _, _, .non => .non
  | _, _, .bl b => .bl b
  | _, _, .int i => .int i
  | _, _, .str x => .str x
  | _, _, .lst h t => .lst (e.seq h) (dpAll_same e t)
  | _, _, .tup h t => .tup (Same.tup e h) (dpAll_same e t)
theorem dpAll_same {K : PySem.W.Frag} {H H' : Hp} (e : Same H H') : ∀ {vs : List V} {ds : List PyData}, DpAll K H vs ds → DpAll K H' vs ds
  | _, _, .nil => .nil
  | _, _, .cons h t => .cons (dp_same e h) (dpAll_same e t)
end
theorem dpAll_len {K : PySem.W.Frag} {H : Hp} : ∀ {vs : List V} {ds : List PyData}, DpAll K H vs ds → vs.length = ds.length
  | _, _, .nil => rfl
  | _, _, .cons _ t => by rw [List.length_cons, List.length_cons, dpAll_len t]
theorem dpAll_get {K : PySem.W.Frag} {H : Hp} : ∀ {vs : List V} {ds : List PyData} {i : Nat} {d : PyData}, DpAll K H vs ds → ds[i]? = some d → ∃ v, vs[i]? = some v ∧ Dp K H v d
  | _, _, _, _, .nil, e => by simp at e
  | _, _, 0, _, .cons h _, e => by
    cases (Option.some.inj e)
    exact ⟨_, rfl, h⟩
  | _, _, i + 1, _, .cons _ t, e => dpAll_get (i := i) t e
theorem dpAll_ints {K : PySem.W.Frag} {H : Hp} : ∀ (ns : List Int), DpAll K H (ns.map V.int) (ns.map PyData.int)
  | [] => .nil
  | n :: r => .cons (.int n) (dpAll_ints r)
theorem dpAll_ints_inv {K : PySem.W.Frag} {H : Hp} : ∀ {vs : List V} (ns : List Int), DpAll K H vs (ns.map PyData.int) → vs = ns.map V.int
  | _, [], .nil => rfl
  | _, n :: r, .cons (.int _) t => by rw [dpAll_ints_inv r t, List.map_cons]
theorem dpAll_app {K : PySem.W.Frag} {H : Hp} : ∀ {vs ws : List V} {ds es : List PyData}, DpAll K H vs ds → DpAll K H ws es → DpAll K H (vs ++ ws) (ds ++ es)
  | _, _, _, _, .nil, h => h
  | _, _, _, _, .cons a t, h => .cons a (dpAll_app t h)
theorem ix_at {n j : Nat} {k : Int} (e : k = (j : Int)) (h : j < n) : ixN n k = some j := by
  subst e
  unfold ixN
  rw [if_pos (Int.natCast_nonneg j), if_pos (by omega)]
  rfl
theorem cutV_map (ms : List Int) (lo hi : Option Int) : cutV (ms.map V.int) lo hi = ((ms.drop (HT.sIx ms.length 0 lo)).take (HT.sIx ms.length ms.length hi - HT.sIx ms.length 0 lo)).map V.int := by
  unfold cutV
  rw [List.length_map, List.map_take, List.map_drop]
theorem at0 {x : V} {r : List V} : atI (x :: r) 0 = some x := atI_nat (xs := x :: r) (j := 0) rfl
theorem at1 {x y : V} {r : List V} : atI (x :: y :: r) 1 = some y := atI_nat (xs := x :: y :: r) (j := 1) rfl
theorem at2 {x y z : V} {r : List V} : atI (x :: y :: z :: r) 2 = some z := atI_nat (xs := x :: y :: z :: r) (j := 2) rfl
theorem len2 {n : Nat} (h : Nat.ble n sizeLine = true) : n ≤ sizeLine := Nat.le_of_ble_eq_true h
/-! sizes of numbers -/
theorem div_ok {i j : Int} (h : 0 < j) (h2 : j < 2 ^ 250) : CDivW i j := wide_div (b := 250) h (by omega) (by decide) (by decide)
theorem mul_ok {i j : Int} (h1 : -(2 ^ 250) < i) (h2 : i < 2 ^ 250) (h3 : -(2 ^ 250) < j) (h4 : j < 2 ^ 250) : CMulW i j := wide_mul (a := 250) (b := 250) (by omega) (by omega) (by decide) (by decide) (by decide)
/-- a power whose bits are few -/
def CPowB (i j : Int) : Prop := 0 ≤ j ∧ (Builtin.Int.intBits i : Int) * j ≤ 2 ^ 27
theorem op_powB {X : Cx} : OpR X (binaryOp .Pow) (rI CPowB fun i j => .int (i ^ j.toNat)) := opI fun _ _ _ _ _ _ _ hc q => pow_int hc.1 hc.2 q
/-! loops, targets, stores -/
section
variable {K : PySem.W.Frag} {H : Hp} {σ : L2.St} {D : Ends} {Q : VK} {QA : List V → Hp → Prop} {QS : L2.St → Hp → Prop} {R : It → Hp → Prop}
def FB (J : It) (g : TG) (tb : TS) (D : Ends) (σ : L2.St) (H : Hp) : Prop := tFor (fun _ H R => R J H) g tb D σ H
theorem w_for {wi : TI} {g : TG} {tb : TS} (h : wi σ H fun J H1 => FB J g tb D σ H1) : tFor wi g tb D σ H := h
def RG1 (vs : List V) (H : Hp) (R : It → Hp → Prop) : Prop := iRng1 (fun _ H Q => Q vs H) [] H R
def RG2 (vs : List V) (H : Hp) (R : It → Hp → Prop) : Prop := iRng2 (fun _ H Q => Q vs H) [] H R
theorem w_rng1 {ta : TA} (h : ta σ H fun vs H1 => RG1 vs H1 R) : iRng1 ta σ H R := h
theorem w_rng2 {ta : TA} (h : ta σ H fun vs H1 => RG2 vs H1 R) : iRng2 ta σ H R := h
theorem w_RG1 {j : Int} (h1 : -(2 ^ 62) ≤ j) (h2 : j < 2 ^ 62) (h : R (Itr 0 j.toNat) H) : RG1 [.int j] H R := ⟨j, rfl, h1, h2, h⟩
theorem w_RG2 {i j : Int} (h1 : -(2 ^ 62) ≤ i) (h2 : i < 2 ^ 62) (h3 : -(2 ^ 62) ≤ j) (h4 : j < 2 ^ 62) (h : R (Itr i (j - i).toNat) H) : RG2 [.int i, .int j] H R := ⟨i, j, rfl, ⟨h1, h2, h3, h4⟩, h⟩
def IL (K : PySem.W.Frag) (v : V) (H : Hp) (R : It → Hp → Prop) : Prop := iList K (tC v) [] H R
def IT (K : PySem.W.Frag) (v : V) (H : Hp) (R : It → Hp → Prop) : Prop := iTup K (tC v) [] H R
theorem w_ilist {tl : TE} (h : tl σ H fun v H1 => IL K v H1 R) : iList K tl σ H R := h
theorem w_itup {tl : TE} (h : tl σ H fun v H1 => IT K v H1 R) : iTup K tl σ H R := h
theorem w_IL {a : Addr} {xs : List V} (h : SqL K H a xs) (q : R (Itl K a) H) : IL K (.ref a) H R := ⟨a, rfl, ⟨xs, h⟩, q⟩
theorem w_IT {a : Addr} {xs : List V} (h : SqT K H a xs) (q : R (Itt K a) H) : IT K (.ref a) H R := ⟨a, rfl, ⟨xs, h⟩, q⟩
theorem fb_range {lo : Int} {n : Nat} {g : TG} {tb : TS} (Pv : Nat → L2.St → Hp → Prop) (h0 : Pv 0 σ H)
    (hs : ∀ i σ H, i < n → Pv i σ H → g (.int (lo + i)) σ H fun σ2 H2 => tb { D with nx := Pv (i + 1), ct := Pv (i + 1), bk := D.nx } σ2 H2) (hd : ∀ σ H, Pv n σ H → D.nx σ H) : FB (Itr lo n) g tb D σ H := for_range Pv h0 hs hd
theorem fb_list {a : Addr} (xs : List V) {g : TG} {tb : TS} (Pv : Nat → L2.St → Hp → Prop) (h0 : Pv 0 σ H) (hl : ∀ i σ H, i ≤ xs.length → Pv i σ H → SqL K H a xs)
    (hs : ∀ i x σ H, xs[i]? = some x → Pv i σ H → g x σ H fun σ2 H2 => tb { D with nx := Pv (i + 1), ct := Pv (i + 1), bk := D.nx } σ2 H2) (hd : ∀ σ H, Pv xs.length σ H → D.nx σ H) : FB (Itl K a) g tb D σ H := for_list Pv h0 hl hs hd
theorem fb_tup {a : Addr} (xs : List V) {g : TG} {tb : TS} (Pv : Nat → L2.St → Hp → Prop) (h0 : Pv 0 σ H) (hl : ∀ i σ H, i ≤ xs.length → Pv i σ H → SqT K H a xs)
    (hs : ∀ i x σ H, xs[i]? = some x → Pv i σ H → g x σ H fun σ2 H2 => tb { D with nx := Pv (i + 1), ct := Pv (i + 1), bk := D.nx } σ2 H2) (hd : ∀ σ H, Pv xs.length σ H → D.nx σ H) : FB (Itt K a) g tb D σ H := for_tup Pv h0 hl hs hd
def LB (J : It) (g : TG) (tt : TT) (te : TE) (vs : List Nat) (σ : L2.St) (H : Hp) (Q : VK) : Prop := tLc (fun _ H R => R J H) g tt te vs σ H Q
theorem w_lc {wi : TI} {g : TG} {tt : TT} {te : TE} {vs : List Nat} (h : wi σ H fun J H1 => LB J g tt te vs σ H1 Q) : tLc wi g tt te vs σ H Q := h
theorem lb_range {lo : Int} {n : Nat} {g : TG} {tt : TT} {te : TE} {vs : List Nat} (Pv : Addr → Nat → Hp → Prop) (h0 : ∀ D, H D = none → Pv D 0 (upd H D (.lst [])))
    (hs : ∀ D, H D = none → ∀ i H1, i < n → Pv D i H1 → g (.int (lo + i)) (wipe σ vs) H1 fun σ2 H2 => wipe σ2 vs = wipe σ vs ∧ tt σ2 H2 fun b H3 =>
      if b = true then te σ2 H3 fun y H4 => ∃ acc, H4 D = some (.lst acc) ∧ acc.length < sizeLine ∧ Pv D (i + 1) (upd H4 D (.lst (acc ++ [y]))) else Pv D (i + 1) H3) (hd : ∀ D, H D = none → ∀ H1, Pv D n H1 → Q (.ref D) H1) : LB (Itr lo n) g tt te vs σ H Q :=
  fun D hD => lc_range (Pv D) (h0 D hD) (hs D hD) (hd D hD)
theorem lb_list {a : Addr} (xs : List V) {g : TG} {tt : TT} {te : TE} {vs : List Nat} (Pv : Addr → Nat → Hp → Prop) (h0 : ∀ D, H D = none → Pv D 0 (upd H D (.lst []))) (hl : ∀ D, H D = none → ∀ i H1, i ≤ xs.length → Pv D i H1 → SqL K H1 a xs)
    (hs : ∀ D, H D = none → ∀ i x H1, xs[i]? = some x → Pv D i H1 → g x (wipe σ vs) H1 fun σ2 H2 => wipe σ2 vs = wipe σ vs ∧ tt σ2 H2 fun b H3 =>
      if b = true then te σ2 H3 fun y H4 => ∃ acc, H4 D = some (.lst acc) ∧ acc.length < sizeLine ∧ Pv D (i + 1) (upd H4 D (.lst (acc ++ [y]))) else Pv D (i + 1) H3) (hd : ∀ D, H D = none → ∀ H1, Pv D xs.length H1 → Q (.ref D) H1) : LB (Itl K a) g tt te vs σ H Q :=
  fun D hD => lc_list (Pv D) (h0 D hD) (hl D hD) (hs D hD) (hd D hD)
def IE (K : PySem.W.Frag) (vs : List V) (H : Hp) (R : It → Hp → Prop) : Prop := iEnum K (fun _ H Q => Q vs H) [] H R
theorem w_enum {ta : TA} (h : ta σ H fun vs H1 => IE K vs H1 R) : iEnum K ta σ H R := h
theorem w_IE {a : Addr} {xs : List V} (h : SqL K H a xs) (q : R (Ite K a) H) : IE K [.ref a] H R := ⟨a, xs, rfl, h, q⟩
theorem lb_enum {a : Addr} (xs : List V) {g : TG} {tt : TT} {te : TE} {vs : List Nat} (Pv : Addr → Nat → Hp → Prop) (h0 : ∀ D, H D = none → Pv D 0 (upd H D (.lst []))) (hl : ∀ D, H D = none → ∀ i H1, i ≤ xs.length → Pv D i H1 → SqL K H1 a xs)
    (hs : ∀ D, H D = none → ∀ i v T H1, xs[i]? = some v → Pv D i H1 → H1 T = none → g (.ref T) (wipe σ vs) (upd H1 T (.tup [.int (i : Nat), v])) fun σ2 H2 => wipe σ2 vs = wipe σ vs ∧ tt σ2 H2 fun b H3 =>
      if b = true then te σ2 H3 fun y H4 => ∃ acc, H4 D = some (.lst acc) ∧ acc.length < sizeLine ∧ Pv D (i + 1) (upd H4 D (.lst (acc ++ [y]))) else Pv D (i + 1) H3) (hd : ∀ D, H D = none → ∀ H1, Pv D xs.length H1 → Q (.ref D) H1) : LB (Ite K a) g tt te vs σ H Q :=
  fun D hD => lc_it (walk_enum (xs := xs)) (Pv D) (h0 D hD) (hl D hD) (fun i x H1 H2 _ p y => by
    obtain ⟨T, u, v, rfl, hT, rfl, e1, e2⟩ := y
    cases Option.some.inj e1
    exact hs D hD i v T H1 e2 p hT) (hd D hD)
theorem w_yes {QB : Bool → Hp → Prop} (h : QB true H) : tYes σ H QB := h
theorem w_gtup {n : Nat} {t : TGs} {a : Addr} {xs : List V} (h : SqT K H a xs) (e : xs.length = n) (q : t xs σ H QS) : gTup K n t (.ref a) σ H QS := ⟨a, xs, rfl, h, e, q⟩
theorem w_gcons {t : TG} {u : TGs} {v : V} {r : List V} (h : t v σ H fun σ' H' => u r σ' H' QS) : gCons t u (v :: r) σ H QS := ⟨v, r, rfl, h⟩
theorem w_gnil (h : QS σ H) : gNil [] σ H QS := ⟨rfl, h⟩
theorem w_gsub {to ti : TE} {t : TSet} {v : V} (h : to σ H fun o H1 => ti σ H1 fun i H2 => t o i v H2 fun H3 => QS σ H3) : gSub to ti t v σ H QS := h
theorem w_setL {p : Addr} {xs : List V} {k : Int} {j : Nat} {v : V} {QH : Hp → Prop} (h : H p = some (.lst xs)) (e : ixN xs.length k = some j) (q : QH (upd H p (.lst (xs.set j v)))) : rSetL (.ref p) (.int k) v H QH := ⟨p, xs, k, j, rfl, rfl, h, e, q⟩
theorem w_aug {i : Nat} {te : TE} {ti : TIp} {x : V} (e : σ[i]? = some (some x)) (h : te σ H fun y H1 => ti x y H1 fun z H2 => D.nx (σ.set i (some z)) H2) : tAug i te ti D σ H := ⟨x, e, h⟩
theorem w_ipI {f : Int → Int → Int} {i j : Int} (h : Q (.int (f i j)) H) : ipI f (.int i) (.int j) H Q := ⟨i, j, rfl, rfl, h⟩
theorem w_append {l : Addr} {xs : List V} {y : V} (h : H l = some (.lst xs)) (hl : xs.length < sizeLine) (q : Q .non (upd H l (.lst (xs ++ [y])))) : rAppend (.ref l) [y] H Q := ⟨l, xs, y, rfl, rfl, h, hl, q⟩
theorem ty_list {l : Addr} {xs : List V} (h : H l = some (.lst xs)) : tyV K "list" (.ref l) H := .inl ⟨rfl, _, .inl (.inl h)⟩
theorem w_mod {i j : Int} (h : 0 < j) (q : ∀ r, 0 ≤ r → r < j → Q (.int r) H) : rI (fun _ j => 0 < j) (fun i j => .int (i % j)) (.int i) (.int j) H Q :=
  ⟨i, j, rfl, rfl, h, q _ (Int.emod_nonneg _ (by omega)) (Int.emod_lt_of_pos _ h)⟩
theorem w_div {i j : Int} (h : CDivW i j) (q : ∀ r, Q (.int r) H) : rI CDivW (fun i j => .int (i / j)) (.int i) (.int j) H Q := ⟨i, j, rfl, rfl, h, q _⟩
theorem w_rIv {C : Int → Int → Prop} {g : Int → Int → V} {i j : Int} (v : V) (c : C i j) (e : g i j = v) (h : Q v H) : rI C g (.int i) (.int j) H Q := ⟨i, j, rfl, rfl, c, by rw [e]; exact h⟩
theorem w_isi {x : V} {n : String} {t : Value} {b : Bool} (ty : TyX K H x t) (k : PySem.W.kitOne K t (.type n) = some b) (q : Q (.bl b) H) : rIsi K [x, .ty n] H Q := ⟨x, .ty n, t, .type n, b, rfl, .ty n, ty, k, q⟩
theorem w_andV {ta tb : TE} (h : ta σ H fun x H1 => ∃ c, x = .bl c ∧ if c = true then tb σ H1 Q else Q (.bl false) H1) : tAndV ta tb σ H Q := h
theorem w_orV {ta tb : TE} (h : ta σ H fun x H1 => ∃ c, x = .bl c ∧ if c = true then Q (.bl true) H1 else tb σ H1 Q) : tOrV ta tb σ H Q := h
theorem w_notV {ta : TE} (h : ta σ H fun x H1 => ∃ c, x = .bl c ∧ Q (.bl (!c)) H1) : tNotV ta σ H Q := h
theorem w_slL {a : Addr} {xs : List V} {lo hi : Option Int} (h : SqL K H a xs) (q : ∀ p, H p = none → Q (.ref p) (upd H p (.lst (cutV xs lo hi)))) : rSlL K (.ref a) lo hi H Q := ⟨a, xs, rfl, h, q⟩
theorem w_sl {r : V → Option Int → Option Int → Hp → VK → Prop} {te : TE} {tl th : TO} (h : te σ H fun x H1 => tl σ H1 fun l H2 => th σ H2 fun u H3 => r x l u H3 Q) : tSl r te tl th σ H Q := h
theorem w_nopart {QO : Option Int → Hp → Prop} (h : QO none H) : tNoPart σ H QO := h
theorem w_part {QO : Option Int → Hp → Prop} {t : TE} (h : t σ H fun x H1 => ∃ i, x = .int i ∧ QO (some i) H1) : tPart t σ H QO := h
end
end Ct

namespace Ct
open PySem PySem.Spec PyProof.Rows L2
/-! parts, stands, what a push does -/
inductive Part where
  | wheel (z : Int) (ms : List Int) | click | rocker | spring (k : Int)
def Part.data : Part → PyData
  | .wheel z ms => .tuple [.str "wheel", .int z, .tuple (ms.map PyData.int)]
  | .click => .tuple [.str "click"]
  | .rocker => .tuple [.str "rocker"]
  | .spring k => .tuple [.str "spring", .int k]
def Part.places : Part → Int
  | .wheel z _ => z
  | .click => 1
  | .rocker => 2
  | .spring k => k
def Rise (z : Int) (ms : List Int) : Prop := ms.Pairwise (· < ·) ∧ ∀ m ∈ ms, 0 ≤ m ∧ m < z
def Part.ok : Part → Prop
  | .wheel z ms => 1 ≤ z ∧ z < 2 ^ 200 ∧ Rise z ms ∧ ms.length ≤ 1000
  | .click => True
  | .rocker => True
  | .spring k => 1 ≤ k ∧ k < 2 ^ 200
theorem Part.ok.pos {p : Part} (h : p.ok) : 1 ≤ p.places ∧ p.places < 2 ^ 200 := by
  cases p with
  | wheel z ms => exact ⟨h.1, h.2.1⟩
  | click => exact ⟨by decide, by decide⟩
  | rocker => exact ⟨by decide, by decide⟩
  | spring k => exact h
/-- the new place and what is given -/
def pp : Part → Int → Int → Int × Int
  | .wheel z ms, x, w => ((x + w) % z, if (if w = 1 then (x + w) % z else x) ∈ ms then w else 0)
  | .click, _, w => (0, if w = 1 then 1 else 0)
  | .rocker, x, w => (if w = 1 then 1 else 0, if w = 1 ∧ x = 0 then 1 else 0)
  | .spring k, x, w => if w = 1 then (if x = k - 1 then (0, 1) else (x + 1, 0)) else (if x - 1 > 0 then x - 1 else 0, 0)
def stands : List Part → Int
  | [] => 1
  | p :: r => p.places * stands r
def Sign (w : Int) : Prop := w = 1 ∨ w = -1
theorem pp_sign (p : Part) (x w : Int) (h : Sign w) : (pp p x w).2 = 0 ∨ Sign (pp p x w).2 := by
  cases p with
  | wheel z ms =>
    by_cases e : (if w = 1 then (x + w) % z else x) ∈ ms
    · rw [show (pp (.wheel z ms) x w).2 = w from if_pos e]
      exact .inr h
    · exact .inl (if_neg e)
  | click =>
    show (if w = 1 then (1 : Int) else 0) = 0 ∨ Sign (if w = 1 then (1 : Int) else 0)
    split
    · exact .inr (.inl rfl)
    · exact .inl rfl
  | rocker =>
    show (if w = 1 ∧ x = 0 then (1 : Int) else 0) = 0 ∨ Sign (if w = 1 ∧ x = 0 then (1 : Int) else 0)
    split
    · exact .inr (.inl rfl)
    · exact .inl rfl
  | spring k =>
    show (if w = 1 then (if x = k - 1 then ((0 : Int), (1 : Int)) else (x + 1, 0)) else (if x - 1 > 0 then x - 1 else 0, 0)).2 = 0 ∨ Sign (if w = 1 then (if x = k - 1 then ((0 : Int), (1 : Int)) else (x + 1, 0)) else (if x - 1 > 0 then x - 1 else 0, 0)).2
    split
    · split
      · exact .inr (.inl rfl)
      · exact .inl rfl
    · exact .inl rfl
/-- one part's turn in a push that goes along a train -/
def stp (ps : List Part) (s : List Int × Int) (n : Nat) : List Int × Int :=
  if s.2 = 0 then s else match ps[n]?, s.1[n]? with
    | some p, some x => (s.1.set n (pp p x s.2).1, (pp p x s.2).2)
    | _, _ => s
def runN (ps : List Part) (i : Nat) (s : List Int × Int) : Nat → List Int × Int
  | 0 => s
  | n + 1 => stp ps (runN ps i s n) (i + n)
theorem stp_zero {ps : List Part} {s : List Int × Int} {n : Nat} (h : s.2 = 0) : stp ps s n = s := by
  unfold stp
  rw [if_pos h]
theorem stp_at {ps : List Part} {s : List Int × Int} {n : Nat} {p : Part} {x : Int} (h : s.2 ≠ 0) (hp : ps[n]? = some p) (hx : s.1[n]? = some x) : stp ps s n = (s.1.set n (pp p x s.2).1, (pp p x s.2).2) := by
  unfold stp
  rw [if_neg h, hp, hx]
theorem runN_zero {ps : List Part} {i : Nat} {s : List Int × Int} {n : Nat} (h : (runN ps i s n).2 = 0) : ∀ m, runN ps i s (n + m) = runN ps i s n
  | 0 => rfl
  | m + 1 => by
    show stp ps (runN ps i s (n + m)) _ = _
    rw [runN_zero h m]
    exact stp_zero h
theorem stp_len (ps : List Part) (s : List Int × Int) (n : Nat) : (stp ps s n).1.length = s.1.length := by
  unfold stp
  split
  · rfl
  · split
    · show (s.1.set n _).length = _
      rw [List.length_set]
    · rfl
theorem runN_len (ps : List Part) (i : Nat) (s : List Int × Int) : ∀ n, (runN ps i s n).1.length = s.1.length
  | 0 => rfl
  | n + 1 => by
    show (stp ps _ _).1.length = _
    rw [stp_len, runN_len ps i s n]
theorem stp_other {ps : List Part} {s : List Int × Int} {n m : Nat} (h : n ≠ m) : (stp ps s n).1[m]? = s.1[m]? := by
  unfold stp
  split
  · rfl
  · split
    · show (s.1.set n _)[m]? = _
      rw [List.getElem?_set_ne h]
    · rfl
/-- parts not come to yet stand as they stood -/
theorem runN_ahead (ps : List Part) (i : Nat) (s : List Int × Int) : ∀ n m, i + n ≤ m → (runN ps i s n).1[m]? = s.1[m]?
  | 0, _, _ => rfl
  | n + 1, m, h => by
    show (stp ps _ _).1[m]? = _
    rw [stp_other (by omega), runN_ahead ps i s n m (by omega)]
theorem runN_sign (ps : List Part) (i : Nat) (s : List Int × Int) (h : Sign s.2) : ∀ n, (runN ps i s n).2 = 0 ∨ Sign (runN ps i s n).2
  | 0 => .inr h
  | n + 1 => by
    show (stp ps _ _).2 = 0 ∨ Sign (stp ps _ _).2
    rcases runN_sign ps i s h n with e | e
    · rw [stp_zero e]
      exact .inl e
    · unfold stp
      split
      · rename_i z
        exact .inl z
      · split
        · exact pp_sign _ _ _ e
        · exact .inr e
def StandOk (ps : List Part) (xs : List Int) : Prop := xs.length = ps.length ∧ ∀ (i : Nat) (p : Part) (x : Int), ps[i]? = some p → xs[i]? = some x → 0 ≤ x ∧ x < p.places
def run (ps : List Part) (xs : List Int) (i : Nat) (w : Int) : List Int × Int := runN ps i (xs, w) (ps.length - i)
/-! what stands for a part -/
section
variable {K : PySem.W.Frag} {H : Hp}
theorem tup_inv {v : V} {ds : List PyData} (h : Dp K H v (.tuple ds)) : ∃ a vs, v = .ref a ∧ SqT K H a vs ∧ DpAll K H vs ds := by
  cases h with
  | tup h t => exact ⟨_, _, rfl, h, t⟩
theorem lst_inv {v : V} {ds : List PyData} (h : Dp K H v (.list ds)) : ∃ a vs, v = .ref a ∧ SqL K H a vs ∧ DpAll K H vs ds := by
  cases h with
  | lst h t => exact ⟨_, _, rfl, h, t⟩
theorem wheel_inv {v : V} {z : Int} {ms : List Int} (h : Dp K H v (Part.wheel z ms).data) : ∃ a b, v = .ref a ∧ SqT K H a [.str "wheel", .int z, .ref b] ∧ SqT K H b (ms.map V.int) := by
  obtain ⟨a, vs, rfl, hs, ht⟩ := tup_inv h
  cases ht with
  | cons h1 t1 => cases h1; cases t1 with
    | cons h2 t2 => cases h2; cases t2 with
      | cons h3 t3 =>
        cases t3
        obtain ⟨b, ws, rfl, hb, hw⟩ := tup_inv h3
        cases dpAll_ints_inv ms hw
        exact ⟨a, b, rfl, hs, hb⟩
theorem spring_inv {v : V} {k : Int} (h : Dp K H v (Part.spring k).data) : ∃ a, v = .ref a ∧ SqT K H a [.str "spring", .int k] := by
  obtain ⟨a, vs, rfl, hs, ht⟩ := tup_inv h
  cases ht with
  | cons h1 t1 => cases h1; cases t1 with
    | cons h2 t2 => cases h2; cases t2; exact ⟨a, rfl, hs⟩
theorem click_inv {v : V} (h : Dp K H v Part.click.data) : ∃ a, v = .ref a ∧ SqT K H a [.str "click"] := by
  obtain ⟨a, vs, rfl, hs, ht⟩ := tup_inv h
  cases ht with
  | cons h1 t1 => cases h1; cases t1; exact ⟨a, rfl, hs⟩
theorem rocker_inv {v : V} (h : Dp K H v Part.rocker.data) : ∃ a, v = .ref a ∧ SqT K H a [.str "rocker"] := by
  obtain ⟨a, vs, rfl, hs, ht⟩ := tup_inv h
  cases ht with
  | cons h1 t1 => cases h1; cases t1; exact ⟨a, rfl, hs⟩
theorem wheel_dp {a b : Addr} {z : Int} {ms : List Int} (h : SqT K H a [.str "wheel", .int z, .ref b]) (hb : SqT K H b (ms.map V.int)) : Dp K H (.ref a) (Part.wheel z ms).data :=
  .tup h (.cons (.str _) (.cons (.int _) (.cons (.tup hb (dpAll_ints ms)) .nil)))
theorem spring_dp {a : Addr} {k : Int} (h : SqT K H a [.str "spring", .int k]) : Dp K H (.ref a) (Part.spring k).data := .tup h (.cons (.str _) (.cons (.int _) .nil))
theorem click_dp {a : Addr} (h : SqT K H a [.str "click"]) : Dp K H (.ref a) Part.click.data := .tup h (.cons (.str _) .nil)
theorem rocker_dp {a : Addr} (h : SqT K H a [.str "rocker"]) : Dp K H (.ref a) Part.rocker.data := .tup h (.cons (.str _) .nil)
/-- a train at a: its parts -/
def TrainAt (K : PySem.W.Frag) (H : Hp) (a : Addr) (ps : List Part) : Prop := ∃ vs, SqL K H a vs ∧ DpAll K H vs (ps.map Part.data)
theorem TrainAt.same {H' : Hp} {a : Addr} {ps : List Part} (e : Same H H') (h : TrainAt K H a ps) : TrainAt K H' a ps := by
  obtain ⟨vs, h1, h2⟩ := h
  exact ⟨vs, e.seq h1, dpAll_same e h2⟩
theorem TrainAt.at {a : Addr} {ps : List Part} {vs : List V} (h2 : DpAll K H vs (ps.map Part.data)) {i : Nat} {p : Part} (e : ps[i]? = some p) : ∃ v, vs[i]? = some v ∧ Dp K H v p.data :=
  dpAll_get h2 (by rw [List.getElem?_map, e]; rfl)
end
/-- a list that is changed leaves the parts as they are -/
theorem sqT_upd {K : PySem.W.Frag} {H : Hp} {a l : Addr} {xs ws : List V} {o : HO} (h : SqT K H a xs) (hl : H l = some (.lst ws)) : SqT K (upd H l o) a xs := by
  rcases h with (h | ⟨u, h⟩) | h
  · exact .inl (.inl (by rw [upd_ne (ne_of h hl (by intro z; cases z))]; exact h))
  · exact .inl (.inr ⟨u, by rw [upd_ne (ne_of h hl (by intro z; cases z))]; exact h⟩)
  · exact .inr h
theorem part_upd {K : PySem.W.Frag} {H : Hp} {l : Addr} {ws : List V} {o : HO} {v : V} {p : Part} (h : Dp K H v p.data) (hl : H l = some (.lst ws)) : Dp K (upd H l o) v p.data := by
  cases p with
  | wheel z ms =>
    obtain ⟨a, b, rfl, ha, hb⟩ := wheel_inv h
    exact wheel_dp (sqT_upd ha hl) (sqT_upd hb hl)
  | click =>
    obtain ⟨a, rfl, ha⟩ := click_inv h
    exact click_dp (sqT_upd ha hl)
  | rocker =>
    obtain ⟨a, rfl, ha⟩ := rocker_inv h
    exact rocker_dp (sqT_upd ha hl)
  | spring k =>
    obtain ⟨a, rfl, ha⟩ := spring_inv h
    exact spring_dp (sqT_upd ha hl)
theorem parts_upd {K : PySem.W.Frag} {H : Hp} {l : Addr} {ws : List V} {o : HO} (hl : H l = some (.lst ws)) : ∀ {vs : List V} (ps : List Part), DpAll K H vs (ps.map Part.data) → DpAll K (upd H l o) vs (ps.map Part.data)
  | _, [], .nil => .nil
  | _, p :: r, .cons h t => .cons (part_upd h hl) (parts_upd hl r t)
theorem stands_app : ∀ (ps : List Part) (p : Part), stands (ps ++ [p]) = stands ps * p.places
  | [], p => by
    show p.places * 1 = 1 * p.places
    rw [Int.mul_one, Int.one_mul]
  | a :: r, p => by
    show a.places * stands (r ++ [p]) = a.places * stands r * p.places
    rw [stands_app r p, Int.mul_assoc]
theorem stands_pos : ∀ (ps : List Part), (∀ p ∈ ps, p.ok) → 1 ≤ stands ps
  | [], _ => Int.le_refl _
  | a :: r, h => by
    have h1 := (h a List.mem_cons_self).pos.1
    have h2 := stands_pos r fun p hp => h p (List.mem_cons_of_mem _ hp)
    show 1 ≤ a.places * stands r
    have := Int.mul_le_mul h1 h2 (by decide) (by omega)
    omega
theorem room_step {s pl room most : Int} (hs : 1 ≤ s) (h1 : 1 ≤ pl) (h2 : pl ≤ room) (h : s * room ≤ most) : 1 ≤ room / pl ∧ s * pl * (room / pl) ≤ most := by
  refine ⟨Int.le_ediv_of_mul_le (by omega) (by omega), ?_⟩
  rw [Int.mul_assoc]
  exact Int.le_trans (Int.mul_le_mul_of_nonneg_left (Int.mul_ediv_self_le (by omega)) (by omega)) h
theorem room_end {s room most : Int} (hs : 1 ≤ s) (h1 : 1 ≤ room) (h : s * room ≤ most) : s ≤ most := by
  have := Int.mul_le_mul_of_nonneg_left h1 (show 0 ≤ s by omega)
  omega
/-! data that can be laid -/
theorem canLay_ints : ∀ ns : List Int, PyData.canLayAll0 (ns.map PyData.int) = true
  | [] => rfl
  | n :: r => by
    rw [List.map_cons, PyData.canLayAll0, canLay_ints r]
    rfl
theorem lay_all {n : Nat} : ∀ ds : List PyData, (∀ d ∈ ds, d.canLay0 = true ∧ d.depth ≤ n) → PyData.canLayAll0 ds = true ∧ PyData.depthAll ds ≤ n
  | [], _ => ⟨rfl, Nat.zero_le _⟩
  | d :: r, h => by
    have h1 := h d List.mem_cons_self
    have h2 := lay_all r fun e he => h e (List.mem_cons_of_mem _ he)
    rw [PyData.canLayAll0, PyData.depthAll, h1.1, h2.1]
    exact ⟨rfl, Nat.max_le.mpr ⟨h1.2, h2.2⟩⟩
theorem lay_tup {n : Nat} {ds : List PyData} (h : ∀ d ∈ ds, d.canLay0 = true ∧ d.depth ≤ n) : (PyData.tuple ds).canLay0 = true ∧ (PyData.tuple ds).depth ≤ n + 1 := by
  obtain ⟨h1, h2⟩ := lay_all ds h
  rw [PyData.canLay0, PyData.depth]
  exact ⟨h1, by omega⟩
theorem lay_lst {n : Nat} {ds : List PyData} (h : ∀ d ∈ ds, d.canLay0 = true ∧ d.depth ≤ n) : (PyData.list ds).canLay0 = true ∧ (PyData.list ds).depth ≤ n + 1 := by
  obtain ⟨h1, h2⟩ := lay_all ds h
  rw [PyData.canLay0, PyData.depth]
  exact ⟨h1, by omega⟩
theorem lay_int (n : Nat) (i : Int) : (PyData.int i).canLay0 = true ∧ (PyData.int i).depth ≤ n := ⟨rfl, Nat.zero_le _⟩
theorem lay_str (n : Nat) (x : Str) (h : (PyData.str x).canLay0 = true := by decide +kernel) : (PyData.str x).canLay0 = true ∧ (PyData.str x).depth ≤ n := ⟨h, Nat.zero_le _⟩
theorem lay_ints (ns : List Int) (n : Nat) : ∀ d ∈ ns.map PyData.int, d.canLay0 = true ∧ d.depth ≤ n := fun d hd => by
  obtain ⟨i, _, rfl⟩ := List.mem_map.mp hd
  exact lay_int n i
theorem lay_mono {d : PyData} {n m : Nat} (h : d.canLay0 = true ∧ d.depth ≤ n) (e : n ≤ m) : d.canLay0 = true ∧ d.depth ≤ m := ⟨h.1, Nat.le_trans h.2 e⟩
theorem lay_part (p : Part) : p.data.canLay0 = true ∧ p.data.depth ≤ 2 := by
  cases p with
  | wheel z ms =>
    refine lay_tup (n := 1) fun d hd => ?_
    rcases List.mem_cons.mp hd with rfl | hd
    · exact lay_str _ _
    rcases List.mem_cons.mp hd with rfl | hd
    · exact lay_int _ _
    rcases List.mem_cons.mp hd with rfl | hd
    · exact lay_tup (lay_ints ms 0)
    · cases hd
  | click => exact lay_mono (lay_tup (n := 0) fun d hd => by
      rcases List.mem_cons.mp hd with rfl | hd
      · exact lay_str _ _
      · cases hd) (by decide)
  | rocker => exact lay_mono (lay_tup (n := 0) fun d hd => by
      rcases List.mem_cons.mp hd with rfl | hd
      · exact lay_str _ _
      · cases hd) (by decide)
  | spring k => exact lay_mono (lay_tup (n := 0) fun d hd => by
      rcases List.mem_cons.mp hd with rfl | hd
      · exact lay_str _ _
      rcases List.mem_cons.mp hd with rfl | hd
      · exact lay_int _ _
      · cases hd) (by decide)
theorem lay_train (ps : List Part) : (PyData.list (ps.map Part.data)).canLay0 = true ∧ (PyData.list (ps.map Part.data)).depth ≤ 3 := lay_lst fun d hd => by
  obtain ⟨p, _, rfl⟩ := List.mem_map.mp hd
  exact lay_part p
theorem shaped_of {d : PyData} {n : Nat} (h : d.canLay0 = true ∧ d.depth ≤ n) (e : n ≤ 64) : SeqAt.shaped d = true := by
  unfold SeqAt.shaped
  rw [h.1, decide_eq_true (Nat.le_trans h.2 e)]
  rfl
theorem lay_told (xs : List Int) (y : Int) : (PyData.tuple [.tuple (xs.map PyData.int), .int y]).canLay0 = true ∧ (PyData.tuple [.tuple (xs.map PyData.int), .int y]).depth ≤ 2 := lay_tup (n := 1) fun d hd => by
  rcases List.mem_cons.mp hd with rfl | hd
  · exact lay_tup (lay_ints xs 0)
  rcases List.mem_cons.mp hd with rfl | hd
  · exact lay_int _ _
  · cases hd
theorem w_neSame {K : PySem.W.Frag} {H : Hp} {Q : VK} {x y : V} (d : PyData) {n : Nat} (hx : Dp K H x d) (hy : Dp K H y d) (h : d.canLay0 = true ∧ d.depth ≤ n) (e : n ≤ 64) (q : Q (.bl false) H) : rNeD K x y H Q :=
  ⟨d, d, hx, hy, shaped_of h e, shaped_of h e, by rw [SeqAt.eqv_refl d h.1]; exact q⟩
theorem tyx_T {K : PySem.W.Frag} {H : Hp} {a : Addr} {xs : List V} (h : SqT K H a xs) : TyX K H (.ref a) (.type "tuple") := by
  rcases h with (h | ⟨o, h⟩) | ⟨o, its, n, hk, hc, _⟩
  · exact .base (.tup h)
  · exact .fTuple h
  · exact .kTuple hk hc
theorem tyx_L {K : PySem.W.Frag} {H : Hp} {a : Addr} {xs : List V} (h : SqL K H a xs) : TyX K H (.ref a) (.type "list") := by
  rcases h with (h | ⟨o, h⟩) | ⟨o, its, n, hk, hc, _⟩
  · exact .base (.lst h)
  · exact .base (.frz h)
  · exact .kList hk hc
end Ct

namespace Ct
open PySem PySem.Spec PyProof.Rows L2
/-! zip of a list and a tuple: the list first -/
def ItM (K : PySem.W.Frag) (a b : Addr) : It where
  go := fun i H => ∃ (xs ys : List V) (x y : V), SqL K H a xs ∧ SqT K H b ys ∧ xs[i]? = some x ∧ ys[i]? = some y
  yld := fun i H v H' => ∃ T x y, v = .ref T ∧ H T = none ∧ H' = upd H T (.tup [x, y]) ∧ (∀ xs, SqL K H a xs → xs[i]? = some x) ∧ ∀ ys, SqT K H b ys → ys[i]? = some y
  stop := fun i H => ∃ xs ys : List V, SqL K H a xs ∧ SqT K H b ys ∧ min xs.length ys.length = i
abbrev ZSt (a b z TI TO i1 i2 : Addr) (i : Nat) (h : Heap) : Prop :=
  IsZip h z TI TO .none ∧ IsTupOf2 h TI (.ref i1) (.ref i2) ∧ (∃ a1 a2, IsTupOf2 h TO a1 a2) ∧ h.IsListIter i1 a i ∧ h.IsTupleIter i2 b i
theorem turnM {P : Program} {w : World} {K : PySem.W.Frag} {es : List Expr} {kk : Nat} {tp : Pos} {a b N : Nat} (ha : a < N) (hb : b < N) :
    Turn P w K (.Tuple es kk tp) (ItM K a b) [N + 4, N + 2, N + 3, N, N + 1] (N + 4) (ZSt a b (N + 4) (N + 2) (N + 3) N (N + 1)) := by
  have five : ∀ {c : Nat}, c ∈ [N + 4, N + 2, N + 3, N, N + 1] → N ≤ c := fun {c} hc => by
    simp only [List.mem_cons, List.not_mem_nil, or_false] at hc
    omega
  have sep : ZipSep2 (N + 4) (N + 2) (N + 3) N (N + 1) [N, a] [N + 1, b] := zip_sep2 (fun c hc => by rw [List.mem_singleton] at hc; rw [hc]; exact ha) fun c hc => by rw [List.mem_singleton] at hc; rw [hc]; exact hb
  have wrfp : ∀ {c : Nat}, c ∉ [N + 4, N + 2, N + 3, N, N + 1] → c ∉ [N + 4, N + 3, N, N + 1] := fun {c} hc hm => hc (by
    simp only [List.mem_cons, List.not_mem_nil, or_false] at hm ⊢
    omega)
  refine ⟨List.mem_cons_self, fun i h st c hc => ?_, fun i h h' st k => ?_, ?_, ?_, fun A i s Q E st h => wpAny_pyIter_zip st.1 h⟩
  · obtain ⟨s1, s2, ⟨u, v, s3⟩, ⟨o1, g1, _, d1⟩, ⟨o2, g2, _, d2⟩⟩ := st
    simp only [List.mem_cons, List.not_mem_nil, or_false] at hc
    rcases hc with e | e | e | e | e <;> subst e
    · exact ⟨_, s1, fun v q => nomatch q⟩
    · exact ⟨_, s2, fun v q => nomatch q⟩
    · exact ⟨_, s3, fun v q => nomatch q⟩
    · exact ⟨o1, g1, fun v q => by rw [d1] at q; cases q⟩
    · exact ⟨o2, g2, fun v q => by rw [d2] at q; cases q⟩
  · obtain ⟨s1, s2, ⟨u, v, s3⟩, s4, s5⟩ := st
    exact ⟨k _ (by simp) _ s1, k _ (by simp) _ s2, ⟨u, v, k _ (by simp) _ s3⟩, s4.at fun o q => k N (by simp) o q, s5.at fun o q => k (N + 1) (by simp) o q⟩
  · intro X eP ew eK calm i pins s σ H E I hf st hg
    subst eP ew eK
    obtain ⟨xs, ys, x, y, lx, ty, gx, gy⟩ := hg
    obtain ⟨us, rx, px, _⟩ := I.list lx
    obtain ⟨vs, ry, py, _⟩ := I.tuple ty
    obtain ⟨s1, s2, s3, s4, s5⟩ := st
    have hh : X.A.in1.handled = none := I.ok.hd calm
    have G := GoesN.zip2 (elts := es) (x1 := kk) (pos := tp) sep (Draws.list (prog := X.prog) (w := X.w) hh N a (Nat.ne_of_lt ha) us.toArray) (Draws.tuple (prog := X.prog) (w := X.w) hh (N + 1) b (Nat.ne_of_lt (Nat.lt_succ_of_lt hb)) vs.toArray)
    have lu := rx.length
    have lv := ry.length
    have ix : i < xs.length := (List.getElem?_eq_some_iff.mp gx).1
    have iy : i < ys.length := (List.getElem?_eq_some_iff.mp gy).1
    refine G.goes i s _ E (by rw [List.size_toArray, List.size_toArray]; omega) ⟨s1, s2, s3, ⟨s4, px.isList⟩, ⟨s5, py⟩⟩ fun v h' tk hY st' hk _ => ?_
    obtain ⟨T, u1, u2, rfl, hT, q1, q2, hTu⟩ := hY
    obtain ⟨w1, e1, r1⟩ := rx.get gx
    obtain ⟨w2, e2, r2⟩ := ry.get gy
    have f1 : w1 = u1 := Option.some.inj (e1.symm.trans (by simpa using q1))
    have f2 : w2 = u2 := Option.some.inj (e2.symm.trans (by simpa using q2))
    subst f1 f2
    have new : ObjOk X.prog X.w (upd H T (.tup [x, y])) h' T (.tup [x, y]) := ⟨len2 rfl, [w1, w2], .cons r1 (.cons r2 .nil), hTu⟩
    refine ⟨.ref T, _, I.turnedNew (t' := tk) (fun c o hc e => hk c o (wrfp hc) e) hf hT new, rfl, ⟨T, x, y, rfl, I.hok.fresh hT, rfl, fun l hl => by rw [I.list_inj hl lx]; exact gx, fun l hl => by rw [I.tuple_inj hl ty]; exact gy⟩, ⟨st'.1, st'.2.1, st'.2.2.1, st'.2.2.2.1.1, st'.2.2.2.2.1⟩, fun c hc => ?_⟩
    obtain ⟨o, g, _⟩ : ∃ o, s.heap.get? c = some o ∧ True := by
      obtain ⟨u, v, s3⟩ := s3
      obtain ⟨o1, g1, _⟩ := s4
      obtain ⟨o2, g2, _⟩ := s5
      simp only [List.mem_cons, List.not_mem_nil, or_false] at hc
      rcases hc with e | e | e | e | e <;> subst e
      · exact ⟨_, s1, trivial⟩
      · exact ⟨_, s2, trivial⟩
      · exact ⟨_, s3, trivial⟩
      · exact ⟨_, g1, trivial⟩
      · exact ⟨_, g2, trivial⟩
    rw [upd_ne (Nat.ne_of_lt (Nat.lt_of_lt_of_le (Heap.lt_size g) hT))]
    exact (hf c hc).1
  · intro X eP ew eK calm i pins s σ H E I hf st hg
    subst eP ew eK
    obtain ⟨xs, ys, lx, ty, hm⟩ := hg
    obtain ⟨us, rx, px, _⟩ := I.list lx
    obtain ⟨vs, ry, py, _⟩ := I.tuple ty
    obtain ⟨s1, s2, s3, s4, s5⟩ := st
    have hh : X.A.in1.handled = none := I.ok.hd calm
    have G := GoesN.zip2 (elts := es) (x1 := kk) (pos := tp) sep (Draws.list (prog := X.prog) (w := X.w) hh N a (Nat.ne_of_lt ha) us.toArray) (Draws.tuple (prog := X.prog) (w := X.w) hh (N + 1) b (Nat.ne_of_lt (Nat.lt_succ_of_lt hb)) vs.toArray)
    have lu := rx.length
    have lv := ry.length
    have hn : min us.toArray.size vs.toArray.size = i := by rw [List.size_toArray, List.size_toArray]; omega
    rw [hn] at G
    exact G.stops s _ E ⟨s1, s2, s3, ⟨s4, px.isList⟩, ⟨s5, py⟩⟩ fun h' tk hk _ => I.turnedL (t' := tk) (fun c o hc e => hk c o (wrfp hc) e) hf
def iM (K : PySem.W.Frag) (ta : TA) : TI := fun σ H R => ta σ H fun vs H1 => ∃ a b xs ys, vs = [.ref a, .ref b] ∧ SqL K H1 a xs ∧ SqT K H1 b ys ∧ R (ItM K a b) H1
theorem pi_zipM {X : Cx} {e e2 : Expr} {ta : TA} {p pos tp : Pos} {es : List Expr} {kk : Nat} (gl : Gl X "zip") (mz : X.mg "zip" = none) (pa : PA X [e, e2] ta)
    (se : starEach [e, e2] X.env = (false, eval e X.env) :: starEach [e2] X.env := by rfl) (bk : (backTo pos (starEach [e2] X.env)).any (·.1) = false := by rfl) : PI X (.Tuple es kk tp) (.Call (.Name "zip" p) [e, e2] [] pos) (iM X.K ta) := by
  refine ⟨fun pins s σ H R I h => Call_ (ld_blt I gl mz boot_zip (callWith_type1 (thn (pa.run pos pins s σ H _ I h) fun us s1 ⟨vs, H1, I1, r1, q1⟩ => ?_) se bk))⟩
  obtain ⟨a, b, xs, ys, rfl, lx, ty, q⟩ := q1
  cases r1 with
  | cons ra rr => cases rr with
    | cons rb rn =>
      cases rn
      cases ra
      cases rb
      obtain ⟨us, rx, px, _⟩ := I1.list lx
      obtain ⟨vs, ry, py, _⟩ := I1.tuple ty
      obtain ⟨ob, gb, _⟩ := id py
      refine zip_begins2 (begins_list a us.toArray) (begins_tuple b vs.toArray) px.isList py fun h' z1 z2 z3 g1 g2 _ hk => wpAny_pyIter_zip z1 ?_
      have I2 : Inv X pins σ H1 { s1 with heap := h' } := I1.kept (t' := s1.toks) hk
      refine ⟨_, _, _, _, H1, rfl, I2, turnM px.lt (Heap.lt_size gb), ⟨z1, z2, ⟨_, _, z3⟩, ⟨_, g1, rfl, rfl⟩, ⟨_, g2, rfl, rfl⟩⟩, fun c hc => ?_, q⟩
      have hle : s1.heap.objs.size ≤ c := by
        simp only [List.mem_cons, List.not_mem_nil, or_false] at hc
        rcases hc with e | e | e | e | e <;> subst e <;> first | exact Nat.le_add_right _ _ | exact Nat.le_refl _
      exact I1.fpOk hle (I1.hok.fresh hle)
section
variable {K : PySem.W.Frag} {H : Hp} {σ : L2.St} {D : Ends} {R : It → Hp → Prop}
def IM (K : PySem.W.Frag) (vs : List V) (H : Hp) (R : It → Hp → Prop) : Prop := iM K (fun _ H Q => Q vs H) [] H R
theorem w_im {ta : TA} (h : ta σ H fun vs H1 => IM K vs H1 R) : iM K ta σ H R := h
theorem w_IM {a b : Addr} {xs ys : List V} (h1 : SqL K H a xs) (h2 : SqT K H b ys) (q : R (ItM K a b) H) : IM K [.ref a, .ref b] H R := ⟨a, b, xs, ys, rfl, h1, h2, q⟩
theorem fb_zipM {a b : Addr} (xs ys : List V) (hl : xs.length = ys.length) {g : TG} {tb : TS} (Pv : Nat → L2.St → Hp → Prop) (h0 : Pv 0 σ H) (hq : ∀ i σ H, i ≤ xs.length → Pv i σ H → SqL K H a xs ∧ SqT K H b ys)
    (hs : ∀ i x y T σ H, xs[i]? = some x → ys[i]? = some y → Pv i σ H → H T = none → g (.ref T) σ (upd H T (.tup [x, y])) fun σ2 H2 => tb { D with nx := Pv (i + 1), ct := Pv (i + 1), bk := D.nx } σ2 H2) (hd : ∀ σ H, Pv xs.length σ H → D.nx σ H) : FB (ItM K a b) g tb D σ H := by
  refine ⟨fun i m σ H => m = xs.length - i ∧ i ≤ xs.length ∧ Pv i σ H, ⟨xs.length, rfl, Nat.zero_le _, h0⟩, ?_⟩
  rintro i m σ H ⟨rfl, hi, p⟩
  obtain ⟨q1, q2⟩ := hq i σ H hi p
  by_cases hlt : i < xs.length
  · refine .inr ⟨⟨xs, ys, _, _, q1, q2, List.getElem?_eq_getElem hlt, List.getElem?_eq_getElem (hl ▸ hlt)⟩, Pv (i + 1), fun σ' H' p' => ⟨xs.length - (i + 1), by omega, rfl, hlt, p'⟩, fun v H' y => ?_⟩
    obtain ⟨T, x1, x2, rfl, hT, rfl, f1, f2⟩ := y
    exact hs i x1 x2 T σ H (f1 _ q1) (f2 _ q2) p hT
  · exact .inl ⟨⟨xs, ys, q1, q2, by omega⟩, hd σ H (by rw [show xs.length = i by omega]; exact p)⟩
end
end Ct

namespace Ct
open PySem PySem.Spec PyProof.Rows L2
/-! pushes of one deed, reckoned at once -/
def cnt (ms : List Int) (r : Int) : Int := ((ms.filter fun m => decide (m ≤ r)).length : Int)
theorem cnt_nil (r : Int) : cnt [] r = 0 := rfl
theorem cnt_cons (m : Int) (ms : List Int) (r : Int) : cnt (m :: ms) r = (if m ≤ r then 1 else 0) + cnt ms r := by
  unfold cnt
  rw [List.filter_cons]
  by_cases h : m ≤ r
  · rw [if_pos h, if_pos (decide_eq_true h), List.length_cons]
    omega
  · rw [if_neg h, if_neg (by rw [decide_eq_false h]; exact Bool.false_ne_true)]
    omega
theorem cnt_all : ∀ {ms : List Int} {r : Int}, (∀ m ∈ ms, m ≤ r) → cnt ms r = ms.length
  | [], _, _ => rfl
  | m :: ms, r, h => by
    rw [cnt_cons, if_pos (h m List.mem_cons_self), cnt_all fun x hx => h x (List.mem_cons_of_mem _ hx), List.length_cons]
    omega
theorem cnt_zero : ∀ {ms : List Int} {r : Int}, (∀ m ∈ ms, r < m) → cnt ms r = 0
  | [], _, _ => rfl
  | m :: ms, r, h => by
    have h1 := h m List.mem_cons_self
    rw [cnt_cons, if_neg (by omega), cnt_zero fun x hx => h x (List.mem_cons_of_mem _ hx)]
    rfl
theorem cnt_split : ∀ (ms : List Int) (k : Nat) (r : Int), k ≤ ms.length → (∀ (j : Nat) (m : Int), j < k → ms[j]? = some m → m ≤ r) → (∀ (j : Nat) (m : Int), k ≤ j → ms[j]? = some m → r < m) → cnt ms r = k
  | ms, 0, r, _, _, h => cnt_zero fun m hm => by
    obtain ⟨j, hj, e⟩ := List.mem_iff_getElem.mp hm
    exact h j m (Nat.zero_le _) (by rw [List.getElem?_eq_getElem hj, e])
  | [], k + 1, r, hk, _, _ => absurd hk (by simp)
  | m :: ms, k + 1, r, hk, h1, h2 => by
    rw [cnt_cons, if_pos (h1 0 m (Nat.succ_pos k) rfl), cnt_split ms k r (by rw [List.length_cons] at hk; omega) (fun j x hj hx => h1 (j + 1) x (by omega) hx) fun j x hj hx => h2 (j + 1) x (by omega) hx]
    omega
theorem cnt_step : ∀ {ms : List Int} (r : Int), ms.Pairwise (· < ·) → cnt ms r = cnt ms (r - 1) + (if r ∈ ms then 1 else 0)
  | [], _, _ => rfl
  | m :: ms, r, h => by
    obtain ⟨h1, h2⟩ := List.pairwise_cons.mp h
    have ih := cnt_step r h2
    rw [cnt_cons, cnt_cons, ih]
    by_cases e : r = m
    · subst e
      have hn : r ∉ ms := fun z => by
        have := h1 r z
        omega
      rw [if_neg hn, if_pos List.mem_cons_self, if_pos (Int.le_refl _), if_neg (by omega)]
      omega
    · have hm : (r ∈ m :: ms) ↔ r ∈ ms := ⟨fun z => (List.mem_cons.mp z).resolve_left e, fun z => List.mem_cons_of_mem _ z⟩
      by_cases hr : r ∈ ms
      · rw [if_pos hr, if_pos (hm.mpr hr)]
        by_cases h3 : m ≤ r
        · rw [if_pos h3, if_pos (by omega)]
          omega
        · rw [if_neg h3, if_neg (by omega)]
          omega
      · rw [if_neg hr, if_neg (fun z => hr (hm.mp z))]
        by_cases h3 : m ≤ r
        · rw [if_pos h3, if_pos (by omega)]
          omega
        · rw [if_neg h3, if_neg (by omega)]
          omega
/-- marks up to a tooth, over all turns -/
def mah (z : Int) (ms : List Int) (y : Int) : Int := y / z * (ms.length : Int) + cnt ms (y % z)
theorem mah_step {z : Int} {ms : List Int} (hz : 1 ≤ z) (rs : Rise z ms) (y : Int) : mah z ms y = mah z ms (y - 1) + (if y % z ∈ ms then 1 else 0) := by
  unfold mah
  have e := Int.emod_add_mul_ediv y z
  have r0 := Int.emod_nonneg y (show z ≠ 0 by omega)
  have r1 := Int.emod_lt_of_pos y (show 0 < z by omega)
  by_cases h : y % z = 0
  · obtain ⟨e1, e2⟩ := (Int.ediv_emod_unique (a := y - 1) (b := z) (r := z - 1) (q := y / z - 1) (by omega)).mpr ⟨by rw [Int.mul_sub]; omega, by omega, by omega⟩
    rw [e1, e2, h, cnt_all (ms := ms) (r := z - 1) (fun m hm => by have := (rs.2 m hm).2; omega), cnt_step 0 rs.1, cnt_zero (ms := ms) (r := 0 - 1) (fun m hm => by have := (rs.2 m hm).1; omega), Int.sub_mul]
    omega
  · obtain ⟨e1, e2⟩ := (Int.ediv_emod_unique (a := y - 1) (b := z) (r := y % z - 1) (q := y / z) (by omega)).mpr ⟨by omega, by omega, by omega⟩
    rw [e1, e2, cnt_step (y % z) rs.1]
    omega
theorem mah_up {z : Int} {ms : List Int} (hz : 1 ≤ z) (rs : Rise z ms) (y : Int) : ∀ t : Nat, mah z ms y ≤ mah z ms (y + t)
  | 0 => by rw [show y + ((0 : Nat) : Int) = y by omega]; exact Int.le_refl _
  | t + 1 => by
    have h := mah_step hz rs (y + ((t + 1 : Nat) : Int))
    rw [show y + ((t + 1 : Nat) : Int) - 1 = y + t by omega] at h
    have ih := mah_up hz rs y t
    rw [h]
    split <;> omega
/-- so many pushes one way at a part: its place, and how many it gives -/
def pt (p : Part) (x w t : Int) : Int × Int := match p with
  | .wheel z ms => ((x + w * t) % z, if mah z ms (x + w * t) - mah z ms x < 0 then -(mah z ms (x + w * t) - mah z ms x) else mah z ms (x + w * t) - mah z ms x)
  | .click => (x, if w = 1 then t else 0)
  | .rocker => if t = 0 then (x, 0) else if w = -1 then (0, 0) else (1, 1 - x)
  | .spring k => if w = -1 then (if x - t > 0 then x - t else 0, 0) else ((x + t) % k, (x + t) / k)
theorem pt_zero {p : Part} {x w : Int} (ok : p.ok) (h0 : 0 ≤ x) (h1 : x < p.places) : pt p x w 0 = (x, 0) := by
  cases p with
  | wheel z ms =>
    have h2 : x < z := h1
    simp only [pt, Int.mul_zero, Int.add_zero, Int.emod_eq_of_lt h0 h2, Int.sub_self]
    rfl
  | click =>
    simp only [pt]
    split <;> rfl
  | rocker => rfl
  | spring k =>
    have h2 : x < k := h1
    simp only [pt]
    split
    · rw [show (if x - 0 > 0 then x - 0 else 0) = x by split <;> omega]
    · rw [Int.add_zero, Int.emod_eq_of_lt h0 h2, Int.ediv_eq_zero_of_lt h0 h2]
theorem pp_way (p : Part) (x w : Int) (h : Sign w) : (pp p x w).2 = 0 ∨ (pp p x w).2 = w := by
  cases p with
  | wheel z ms =>
    by_cases e : (if w = 1 then (x + w) % z else x) ∈ ms
    · exact .inr (if_pos e)
    · exact .inl (if_neg e)
  | click =>
    by_cases e : w = 1
    · exact .inr (by simp only [pp, if_pos e]; exact e.symm)
    · exact .inl (if_neg e)
  | rocker =>
    by_cases e : w = 1 ∧ x = 0
    · exact .inr (by simp only [pp, if_pos e]; exact e.1.symm)
    · exact .inl (if_neg e)
  | spring k =>
    by_cases e : w = 1
    · by_cases e2 : x = k - 1
      · exact .inr (by simp only [pp, if_pos e, if_pos e2]; exact e.symm)
      · exact .inl (by simp only [pp, if_pos e, if_neg e2])
    · exact .inl (by simp only [pp, if_neg e])
theorem neg_abs {d : Int} (h : 0 ≤ d) : (if d < 0 then -d else d) = d := if_neg (by omega)
theorem abs_neg {d : Int} (h : d ≤ 0) : (if d < 0 then -d else d) = -d := by
  split <;> omega
/-- one push more -/
theorem pt_step {p : Part} {x w : Int} (ok : p.ok) (h0 : 0 ≤ x) (h1 : x < p.places) (hw : Sign w) (t : Nat) :
    pt p x w ((t + 1 : Nat) : Int) = ((pp p (pt p x w t).1 w).1, (pt p x w t).2 + if (pp p (pt p x w t).1 w).2 = 0 then 0 else 1) := by
  cases p with
  | wheel z ms =>
    have hz : 1 ≤ z := ok.1
    have rs : Rise z ms := ok.2.2.1
    rcases hw with rfl | rfl
    · have u1 := mah_up hz rs x t
      have u2 := mah_up hz rs x (t + 1)
      have st := mah_step hz rs (x + ((t + 1 : Nat) : Int))
      rw [show x + ((t + 1 : Nat) : Int) - 1 = x + t by omega] at st
      simp only [pt, pp, Int.one_mul, if_true]
      rw [neg_abs (by omega), neg_abs (by omega)]
      have em : ((x + (t : Int)) % z + 1) % z = (x + ((t + 1 : Nat) : Int)) % z := by
        rw [Int.emod_add_emod]
        congr 1
        omega
      rw [em]
      by_cases hm : (x + ((t + 1 : Nat) : Int)) % z ∈ ms
      · rw [if_pos hm] at st ⊢
        rw [if_neg (by decide)]
        exact Prod.ext rfl (by show mah z ms _ - mah z ms x = mah z ms _ - mah z ms x + 1; omega)
      · rw [if_neg hm] at st ⊢
        rw [if_pos rfl]
        exact Prod.ext rfl (by show mah z ms _ - mah z ms x = mah z ms _ - mah z ms x + 0; omega)
    · have v1 := mah_up hz rs (x - t) t
      have v2 := mah_up hz rs (x - ((t + 1 : Nat) : Int)) (t + 1)
      have st := mah_step hz rs (x - t)
      rw [show x - t + t = x by omega] at v1
      rw [show x - ((t + 1 : Nat) : Int) + ((t + 1 : Nat) : Int) = x by omega] at v2
      simp only [pt, pp, show ∀ y : Int, x + -1 * y = x - y from fun y => by omega, if_neg (show ¬ (-1 : Int) = 1 by decide)]
      rw [abs_neg (by omega), abs_neg (by omega)]
      have em : ((x - (t : Int)) % z + -1) % z = (x - ((t + 1 : Nat) : Int)) % z := by
        rw [Int.emod_add_emod]
        congr 1
        omega
      rw [em]
      rw [show x - (t : Int) - 1 = x - ((t + 1 : Nat) : Int) by omega] at st
      by_cases hm : (x - (t : Int)) % z ∈ ms
      · rw [if_pos hm] at st ⊢
        rw [if_neg (by decide)]
        exact Prod.ext rfl (by show -(mah z ms _ - mah z ms x) = -(mah z ms _ - mah z ms x) + 1; omega)
      · rw [if_neg hm] at st ⊢
        rw [if_pos rfl]
        exact Prod.ext rfl (by show -(mah z ms _ - mah z ms x) = -(mah z ms _ - mah z ms x) + 0; omega)
  | click =>
    have h2 : x < 1 := h1
    have ex : x = 0 := by omega
    subst ex
    rcases hw with rfl | rfl
    · simp only [pt, pp, if_true]
      rw [if_neg (by decide)]
      exact Prod.ext rfl (by show ((t + 1 : Nat) : Int) = (t : Int) + 1; omega)
    · rfl
  | rocker =>
    have h2 : x < 2 := h1
    rcases hw with rfl | rfl
    · simp only [pt, pp, if_neg (show ¬ ((t + 1 : Nat) : Int) = 0 by omega), if_neg (show ¬ (1 : Int) = -1 by decide), if_true]
      by_cases ht : (t : Int) = 0
      · rw [if_pos ht]
        by_cases hx : x = 0
        · subst hx
          rfl
        · have hx1 : x = 1 := by omega
          subst hx1
          rfl
      · rw [if_neg ht]
        simp
    · simp only [pt, pp, if_neg (show ¬ ((t + 1 : Nat) : Int) = 0 by omega), if_true]
      by_cases ht : (t : Int) = 0
      · rw [if_pos ht]
        rfl
      · rw [if_neg ht]
        rfl
  | spring k =>
    have h2 : x < k := h1
    have hk : 1 ≤ k := ok.1
    rcases hw with rfl | rfl
    · simp only [pt, pp, if_neg (show ¬ (1 : Int) = -1 by decide), if_true]
      have e := Int.emod_add_mul_ediv (x + t) k
      have r0 := Int.emod_nonneg (x + t) (show k ≠ 0 by omega)
      have r1 := Int.emod_lt_of_pos (x + t) (show 0 < k by omega)
      by_cases hx : (x + (t : Int)) % k = k - 1
      · obtain ⟨e1, e2⟩ := (Int.ediv_emod_unique (a := x + ((t + 1 : Nat) : Int)) (b := k) (r := 0) (q := (x + t) / k + 1) (by omega)).mpr ⟨by rw [Int.mul_add]; omega, by omega, by omega⟩
        rw [if_pos hx, e1, e2]
        rfl
      · obtain ⟨e1, e2⟩ := (Int.ediv_emod_unique (a := x + ((t + 1 : Nat) : Int)) (b := k) (r := (x + t) % k + 1) (q := (x + t) / k) (by omega)).mpr ⟨by omega, by omega, by omega⟩
        rw [if_neg hx, e1, e2]
        exact Prod.ext rfl (by show (x + (t : Int)) / k = (x + (t : Int)) / k + 0; omega)
    · simp only [pt, pp, if_true, if_neg (show ¬ (-1 : Int) = 1 by decide)]
      refine Prod.ext ?_ rfl
      show (if x - ((t + 1 : Nat) : Int) > 0 then x - ((t + 1 : Nat) : Int) else 0) = (if (if x - (t : Int) > 0 then x - (t : Int) else 0) - 1 > 0 then (if x - (t : Int) > 0 then x - (t : Int) else 0) - 1 else 0)
      by_cases hx : x - (t : Int) > 0
      · rw [if_pos hx]
        split <;> split <;> omega
      · rw [if_neg hx]
        split <;> split <;> omega
theorem pt_nn {p : Part} {x w : Int} (ok : p.ok) (h0 : 0 ≤ x) (h1 : x < p.places) (hw : Sign w) : ∀ t : Nat, 0 ≤ (pt p x w t).2
  | 0 => by
    show 0 ≤ (pt p x w 0).2
    rw [pt_zero ok h0 h1]
    exact Int.le_refl _
  | t + 1 => by
    rw [pt_step ok h0 h1 hw t]
    have := pt_nn ok h0 h1 hw t
    show 0 ≤ (pt p x w t).2 + _
    split <;> omega
theorem pt_le {p : Part} {x w : Int} (ok : p.ok) (h0 : 0 ≤ x) (h1 : x < p.places) (hw : Sign w) : ∀ t : Nat, (pt p x w t).2 ≤ t
  | 0 => by
    show (pt p x w 0).2 ≤ 0
    rw [pt_zero ok h0 h1]
    exact Int.le_refl _
  | t + 1 => by
    rw [pt_step ok h0 h1 hw t]
    have := pt_le ok h0 h1 hw t
    show (pt p x w t).2 + _ ≤ _
    split <;> omega
theorem pp_place {p : Part} {x w : Int} (ok : p.ok) (h0 : 0 ≤ x) (h1 : x < p.places) (hw : Sign w) : 0 ≤ (pp p x w).1 ∧ (pp p x w).1 < p.places := by
  cases p with
  | wheel z ms =>
    have hz : 1 ≤ z := ok.1
    exact ⟨Int.emod_nonneg _ (by omega), Int.emod_lt_of_pos _ (by omega)⟩
  | click => exact ⟨Int.le_refl _, show (0 : Int) < 1 by decide⟩
  | rocker =>
    rcases hw with rfl | rfl
    · exact ⟨show (0 : Int) ≤ 1 by decide, show (1 : Int) < 2 by decide⟩
    · exact ⟨show (0 : Int) ≤ 0 by decide, show (0 : Int) < 2 by decide⟩
  | spring k =>
    have h2 : x < k := h1
    rcases hw with rfl | rfl
    · simp only [pp, if_true]
      by_cases e : x = k - 1
      · rw [if_pos e]
        exact ⟨Int.le_refl _, show (0 : Int) < k by omega⟩
      · rw [if_neg e]
        exact ⟨show 0 ≤ x + 1 by omega, show x + 1 < k by omega⟩
    · simp only [pp, if_neg (show ¬ (-1 : Int) = 1 by decide)]
      refine ⟨?_, ?_⟩
      · show 0 ≤ (if x - 1 > 0 then x - 1 else 0)
        split <;> omega
      · show (if x - 1 > 0 then x - 1 else 0) < k
        split <;> omega
theorem pt_place {p : Part} {x w : Int} (ok : p.ok) (h0 : 0 ≤ x) (h1 : x < p.places) (hw : Sign w) : ∀ t : Nat, 0 ≤ (pt p x w t).1 ∧ (pt p x w t).1 < p.places
  | 0 => by
    show 0 ≤ (pt p x w 0).1 ∧ (pt p x w 0).1 < p.places
    rw [pt_zero ok h0 h1]
    exact ⟨h0, h1⟩
  | t + 1 => by
    rw [pt_step ok h0 h1 hw t]
    obtain ⟨a, b⟩ := pt_place ok h0 h1 hw t
    exact pp_place ok a b hw
/-! along a train -/
def gen (f : Part → Int → Int → Int × Int) : List Part → List Int → Int → List Int × Int
  | p :: ps, x :: xs, a => ((f p x a).1 :: (gen f ps xs (f p x a).2).1, (gen f ps xs (f p x a).2).2)
  | _, xs, a => (xs, a)
def stF (f : Part → Int → Int → Int × Int) (ps : List Part) (s : List Int × Int) (n : Nat) : List Int × Int := match ps[n]?, s.1[n]? with
  | some p, some x => (s.1.set n (f p x s.2).1, (f p x s.2).2)
  | _, _ => s
def rnF (f : Part → Int → Int → Int × Int) (ps : List Part) (i : Nat) (s : List Int × Int) : Nat → List Int × Int
  | 0 => s
  | n + 1 => stF f ps (rnF f ps i s n) (i + n)
theorem stF_at {f : Part → Int → Int → Int × Int} {ps : List Part} {s : List Int × Int} {n : Nat} {p : Part} {x : Int} (hp : ps[n]? = some p) (hx : s.1[n]? = some x) : stF f ps s n = (s.1.set n (f p x s.2).1, (f p x s.2).2) := by
  unfold stF
  rw [hp, hx]
theorem rnF_first (f : Part → Int → Int → Int × Int) (ps : List Part) (i : Nat) (s : List Int × Int) : ∀ n, rnF f ps i s (n + 1) = rnF f ps (i + 1) (stF f ps s i) n
  | 0 => rfl
  | n + 1 => by
    show stF f ps (rnF f ps i s (n + 1)) (i + (n + 1)) = stF f ps (rnF f ps (i + 1) (stF f ps s i) n) (i + 1 + n)
    rw [rnF_first f ps i s n, show i + (n + 1) = i + 1 + n by omega]
theorem rnF_len (f : Part → Int → Int → Int × Int) (ps : List Part) (i : Nat) (s : List Int × Int) : ∀ n, (rnF f ps i s n).1.length = s.1.length
  | 0 => rfl
  | n + 1 => by
    show (stF f ps _ _).1.length = _
    rw [← rnF_len f ps i s n]
    unfold stF
    split
    · show (List.set _ _ _).length = _
      rw [List.length_set]
    · rfl
theorem rnF_ahead (f : Part → Int → Int → Int × Int) (ps : List Part) (i : Nat) (s : List Int × Int) : ∀ n m, i + n ≤ m → (rnF f ps i s n).1[m]? = s.1[m]?
  | 0, _, _ => rfl
  | n + 1, m, h => by
    rw [← rnF_ahead f ps i s n m (by omega)]
    show (stF f ps _ _).1[m]? = _
    unfold stF
    split
    · show (List.set _ _ _)[m]? = _
      rw [List.getElem?_set_ne (by omega)]
    · rfl
/-- places one by one, by number, or by going down the train -/
theorem rnF_gen (f : Part → Int → Int → Int × Int) (ps : List Part) : ∀ (n i : Nat) (xs : List Int) (a : Int), xs.length = ps.length → i + n = ps.length →
    rnF f ps i (xs, a) n = (xs.take i ++ (gen f (ps.drop i) (xs.drop i) a).1, (gen f (ps.drop i) (xs.drop i) a).2)
  | 0, i, xs, a, hl, hn => by
    have e1 : ps.drop i = [] := List.drop_of_length_le (by omega)
    have e2 : xs.drop i = [] := List.drop_of_length_le (by omega)
    rw [e1, e2]
    show (xs, a) = (xs.take i ++ [], a)
    rw [List.append_nil, List.take_of_length_le (by omega)]
  | n + 1, i, xs, a, hl, hn => by
    have hi : i < ps.length := by omega
    have hx : i < xs.length := by omega
    rw [rnF_first, stF_at (List.getElem?_eq_getElem hi) (List.getElem?_eq_getElem hx), rnF_gen f ps n (i + 1) _ _ (by rw [List.length_set]; exact hl) (by omega)]
    rw [List.drop_eq_getElem_cons hi, List.drop_eq_getElem_cons hx]
    show (List.take (i + 1) (xs.set i _) ++ (gen f _ (List.drop (i + 1) (xs.set i _)) _).1, _) = (xs.take i ++ ((f ps[i] xs[i] a).1 :: (gen f (ps.drop (i + 1)) (xs.drop (i + 1)) (f ps[i] xs[i] a).2).1), (gen f (ps.drop (i + 1)) (xs.drop (i + 1)) (f ps[i] xs[i] a).2).2)
    rw [List.drop_set_of_lt (by omega), show List.take (i + 1) (xs.set i (f ps[i] xs[i] a).1) = xs.take i ++ [(f ps[i] xs[i] a).1] by
      rw [List.take_set, List.take_add_one, List.getElem?_eq_getElem hx, List.set_append_right _ _ (by rw [List.length_take]; omega), List.length_take, show i - min i xs.length = 0 by omega]
      rfl, List.append_assoc]
    rfl
/-- a push that may be none -/
def ppz (p : Part) (x g : Int) : Int × Int := if g = 0 then (x, 0) else pp p x g
theorem stp_stF (ps : List Part) (s : List Int × Int) (n : Nat) : stp ps s n = stF ppz ps s n := by
  unfold stp stF
  split
  · rename_i h
    cases e1 : ps[n]? with
    | none => rfl
    | some p =>
      cases e2 : s.1[n]? with
      | none => rfl
      | some x =>
        obtain ⟨hn, hx⟩ := List.getElem?_eq_some_iff.mp e2
        show s = (s.1.set n (ppz p x s.2).1, (ppz p x s.2).2)
        unfold ppz
        rw [if_pos h]
        show s = (s.1.set n x, 0)
        rw [← hx, List.set_getElem_self, ← h]
  · rename_i h
    cases e1 : ps[n]? with
    | none => rfl
    | some p =>
      cases e2 : s.1[n]? with
      | none => rfl
      | some x =>
        show _ = (s.1.set n (ppz p x s.2).1, (ppz p x s.2).2)
        unfold ppz
        rw [if_neg h]
theorem runN_rnF (ps : List Part) (i : Nat) (s : List Int × Int) : ∀ n, runN ps i s n = rnF ppz ps i s n
  | 0 => rfl
  | n + 1 => by
    show stp ps _ _ = stF ppz ps _ _
    rw [stp_stF, runN_rnF ps i s n]
theorem run_gen {ps : List Part} {xs : List Int} {i : Nat} {w : Int} (hl : xs.length = ps.length) (hi : i ≤ ps.length) : Ct.run ps xs i w = (xs.take i ++ (gen ppz (ps.drop i) (xs.drop i) w).1, (gen ppz (ps.drop i) (xs.drop i) w).2) := by
  unfold Ct.run
  rw [runN_rnF, rnF_gen ppz ps _ _ _ _ hl (by omega)]
/-- pushes one by one -/
def itP (ps : List Part) (w : Int) : Nat → List Int → List Int × Int
  | 0, xs => (xs, 0)
  | t + 1, xs => ((gen ppz ps (itP ps w t xs).1 w).1, (itP ps w t xs).2 + (gen ppz ps (itP ps w t xs).1 w).2)
def ptw (w : Int) (p : Part) (x t : Int) : Int × Int := pt p x w t
theorem gen_ppz_zero : ∀ (ps : List Part) (xs : List Int), gen ppz ps xs 0 = (xs, 0)
  | [], _ => rfl
  | _ :: _, [] => rfl
  | p :: ps, x :: xs => by
    show ((ppz p x 0).1 :: (gen ppz ps xs (ppz p x 0).2).1, (gen ppz ps xs (ppz p x 0).2).2) = _
    rw [show ppz p x 0 = (x, 0) from rfl, gen_ppz_zero ps xs]
def StandL : List Part → List Int → Prop
  | [], [] => True
  | p :: ps, x :: xs => p.ok ∧ 0 ≤ x ∧ x < p.places ∧ StandL ps xs
  | _, _ => False
theorem itP_cons {p : Part} {x : Int} (ps : List Part) (xs : List Int) {w : Int} (ok : p.ok) (h0 : 0 ≤ x) (h1 : x < p.places) (hw : Sign w) : ∀ t : Nat,
    itP (p :: ps) w t (x :: xs) = ((pt p x w t).1 :: (itP ps w (pt p x w t).2.toNat xs).1, (itP ps w (pt p x w t).2.toNat xs).2)
  | 0 => by
    show (x :: xs, (0 : Int)) = ((pt p x w 0).1 :: (itP ps w (pt p x w 0).2.toNat xs).1, (itP ps w (pt p x w 0).2.toNat xs).2)
    rw [pt_zero ok h0 h1]
    rfl
  | t + 1 => by
    have w0 : w ≠ 0 := by rcases hw with rfl | rfl <;> decide
    have nn := pt_nn ok h0 h1 hw t
    show ((gen ppz (p :: ps) (itP (p :: ps) w t (x :: xs)).1 w).1, (itP (p :: ps) w t (x :: xs)).2 + (gen ppz (p :: ps) (itP (p :: ps) w t (x :: xs)).1 w).2) = _
    rw [itP_cons ps xs ok h0 h1 hw t, pt_step ok h0 h1 hw t]
    generalize hy : (pt p x w t).1 = y
    generalize hn : (pt p x w t).2 = n at nn
    show ((ppz p y w).1 :: (gen ppz ps (itP ps w n.toNat xs).1 (ppz p y w).2).1, (itP ps w n.toNat xs).2 + (gen ppz ps (itP ps w n.toNat xs).1 (ppz p y w).2).2) = _
    rw [show ppz p y w = pp p y w from if_neg w0]
    rcases pp_way p y w hw with e | e
    · rw [e, gen_ppz_zero, if_pos rfl]
      show ((pp p y w).1 :: (itP ps w n.toNat xs).1, (itP ps w n.toNat xs).2 + 0) = ((pp p y w).1 :: (itP ps w (n + 0).toNat xs).1, (itP ps w (n + 0).toNat xs).2)
      rw [Int.add_zero, Int.add_zero]
    · rw [e, if_neg w0]
      show ((pp p y w).1 :: (gen ppz ps (itP ps w n.toNat xs).1 w).1, (itP ps w n.toNat xs).2 + (gen ppz ps (itP ps w n.toNat xs).1 w).2) = ((pp p y w).1 :: (itP ps w (n + 1).toNat xs).1, (itP ps w (n + 1).toNat xs).2)
      rw [show (n + 1).toNat = n.toNat + 1 by omega]
      rfl
theorem itP_nil (w : Int) : ∀ (t : Nat), itP [] w t [] = ([], w * t)
  | 0 => by
    show (([] : List Int), (0 : Int)) = ([], w * ((0 : Nat) : Int))
    rw [show ((0 : Nat) : Int) = 0 from rfl, Int.mul_zero]
  | t + 1 => by
    show ((gen ppz [] (itP [] w t []).1 w).1, (itP [] w t []).2 + (gen ppz [] (itP [] w t []).1 w).2) = _
    rw [itP_nil w t]
    refine Prod.ext rfl ?_
    show w * t + w = w * ((t + 1 : Nat) : Int)
    rw [show ((t + 1 : Nat) : Int) = (t : Int) + 1 by omega, Int.mul_add, Int.mul_one]
/-- THE promise: reckoned at once is as pushed one by one -/
theorem itP_gen {w : Int} (hw : Sign w) : ∀ (ps : List Part) (xs : List Int) (t : Nat), StandL ps xs → itP ps w t xs = ((gen (ptw w) ps xs t).1, w * (gen (ptw w) ps xs t).2)
  | [], [], t, _ => itP_nil w t
  | p :: ps, x :: xs, t, ⟨ok, h0, h1, h⟩ => by
    rw [itP_cons ps xs ok h0 h1 hw t, itP_gen hw ps xs _ h]
    have nn := pt_nn ok h0 h1 hw t
    show _ = ((pt p x w t).1 :: (gen (ptw w) ps xs (pt p x w t).2).1, w * (gen (ptw w) ps xs (pt p x w t).2).2)
    rw [show (((pt p x w t).2.toNat : Nat) : Int) = (pt p x w t).2 by omega]
theorem gen_stand {w : Int} (hw : Sign w) : ∀ (ps : List Part) (xs : List Int) (t : Int), 0 ≤ t → StandL ps xs → StandL ps (gen (ptw w) ps xs t).1 ∧ 0 ≤ (gen (ptw w) ps xs t).2
  | [], [], t, ht, _ => ⟨trivial, ht⟩
  | p :: ps, x :: xs, t, ht, ⟨ok, h0, h1, h⟩ => by
    have e : ((t.toNat : Nat) : Int) = t := by omega
    have a := pt_place ok h0 h1 hw t.toNat
    have n := pt_nn ok h0 h1 hw t.toNat
    rw [e] at a n
    have ih := gen_stand hw ps xs (pt p x w t).2 n h
    exact ⟨⟨ok, a.1, a.2, ih.1⟩, ih.2⟩
theorem stand_drop : ∀ {ps : List Part} {xs : List Int} (i : Nat), StandL ps xs → StandL (ps.drop i) (xs.drop i)
  | [], [], i, _ => by rw [List.drop_nil, List.drop_nil]; trivial
  | p :: ps, x :: xs, 0, h => h
  | p :: ps, x :: xs, i + 1, ⟨_, _, _, h⟩ => stand_drop (ps := ps) (xs := xs) i h
theorem stand_join : ∀ {ps : List Part} {xs ys : List Int} (i : Nat), StandL ps xs → StandL (ps.drop i) ys → StandL ps (xs.take i ++ ys)
  | ps, xs, ys, 0, _, h => h
  | [], [], ys, i + 1, _, h => by
    rw [List.drop_nil] at h
    exact h
  | p :: ps, x :: xs, ys, i + 1, ⟨a, b, c, d⟩, h => ⟨a, b, c, stand_join (ps := ps) (xs := xs) i d h⟩
theorem StandL.len : ∀ {ps : List Part} {xs : List Int}, StandL ps xs → xs.length = ps.length
  | [], [], _ => rfl
  | p :: ps, x :: xs, ⟨_, _, _, h⟩ => by rw [List.length_cons, List.length_cons, StandL.len (ps := ps) (xs := xs) h]
theorem StandL.okp : ∀ {ps : List Part} {xs : List Int}, StandL ps xs → ∀ p ∈ ps, p.ok
  | [], [], _, p, hp => by cases hp
  | a :: ps, x :: xs, ⟨h, _, _, hr⟩, p, hp => by
    rcases List.mem_cons.mp hp with rfl | hp
    · exact h
    · exact StandL.okp (ps := ps) (xs := xs) hr p hp
theorem standL_of : ∀ {ps : List Part} {xs : List Int}, (∀ p ∈ ps, p.ok) → StandOk ps xs → StandL ps xs
  | [], [], _, _ => trivial
  | [], _ :: _, _, h => by have := h.1; simp at this
  | _ :: _, [], _, h => by have := h.1; simp at this
  | p :: ps, x :: xs, hp, h => by
    have a := h.2 0 p x rfl rfl
    exact ⟨hp p List.mem_cons_self, a.1, a.2, standL_of (fun q hq => hp q (List.mem_cons_of_mem _ hq)) ⟨by have := h.1; rw [List.length_cons, List.length_cons] at this; omega, fun i q y hq hy => h.2 (i + 1) q y hq hy⟩⟩
theorem StandL.ok : ∀ {ps : List Part} {xs : List Int}, StandL ps xs → StandOk ps xs
  | [], [], _ => ⟨rfl, fun i p x h _ => by simp at h⟩
  | p :: ps, x :: xs, ⟨_, a, b, h⟩ => by
    have ih := StandL.ok (ps := ps) (xs := xs) h
    refine ⟨by rw [List.length_cons, List.length_cons, ih.1], fun i q y hq hy => ?_⟩
    cases i with
    | zero =>
      cases Option.some.inj hq
      cases Option.some.inj hy
      exact ⟨a, b⟩
    | succ i => exact ih.2 i q y hq hy
/-! rows -/
structure Deed where
  i : Nat
  w : Int
  t : Nat
def Deed.ok (d : Deed) (n : Nat) : Prop := d.i < n ∧ Sign d.w
def Deed.data (d : Deed) : PyData := .tuple [.int d.i, .int d.w, .int d.t]
/-- one deed, at once -/
def deedL (ps : List Part) (xs : List Int) (d : Deed) : List Int × Int := (xs.take d.i ++ (gen (ptw d.w) (ps.drop d.i) (xs.drop d.i) d.t).1, d.w * (gen (ptw d.w) (ps.drop d.i) (xs.drop d.i) d.t).2)
def rowL (ps : List Part) : List Deed → List Int × Int → List Int × Int
  | [], s => s
  | d :: ds, s => rowL ps ds ((deedL ps s.1 d).1, s.2 + (deedL ps s.1 d).2)
theorem rowL_app (ps : List Part) : ∀ (ds es : List Deed) (s : List Int × Int), rowL ps (ds ++ es) s = rowL ps es (rowL ps ds s)
  | [], _, _ => rfl
  | d :: ds, es, s => rowL_app ps ds es _
theorem deedL_stand {ps : List Part} {xs : List Int} {d : Deed} (h : StandL ps xs) (hd : d.ok ps.length) : StandL ps (deedL ps xs d).1 :=
  stand_join d.i h (gen_stand hd.2 _ _ d.t (by omega) (stand_drop d.i h)).1
theorem rowL_stand {ps : List Part} : ∀ {ds : List Deed} {s : List Int × Int}, StandL ps s.1 → (∀ d ∈ ds, d.ok ps.length) → StandL ps (rowL ps ds s).1
  | [], _, h, _ => h
  | d :: ds, s, h, hd => rowL_stand (ds := ds) (deedL_stand h (hd d List.mem_cons_self)) fun e he => hd e (List.mem_cons_of_mem _ he)
/-- a deed, push by push: each push goes along the train from part i -/
def pushes (ps : List Part) (i : Nat) (w : Int) : Nat → List Int × Int → List Int × Int
  | 0, s => s
  | t + 1, s => ((Ct.run ps (pushes ps i w t s).1 i w).1, (pushes ps i w t s).2 + (Ct.run ps (pushes ps i w t s).1 i w).2)
theorem pushes_itP {ps : List Part} {xs : List Int} {i : Nat} {w : Int} (hl : xs.length = ps.length) (hi : i ≤ ps.length) (a : Int) : ∀ t, pushes ps i w t (xs, a) = (xs.take i ++ (itP (ps.drop i) w t (xs.drop i)).1, a + (itP (ps.drop i) w t (xs.drop i)).2) ∧ (itP (ps.drop i) w t (xs.drop i)).1.length = ps.length - i
  | 0 => by
    refine ⟨Prod.ext ?_ ?_, ?_⟩
    · show xs = xs.take i ++ xs.drop i
      rw [List.take_append_drop]
    · show a = a + 0
      omega
    · show (xs.drop i).length = _
      rw [List.length_drop, hl]
  | t + 1 => by
    obtain ⟨ih, il⟩ := pushes_itP hl hi a t
    have tl : (xs.take i).length = i := by rw [List.length_take]; omega
    have gl : ∀ (qs : List Part) (ys : List Int) (g : Int), (gen ppz qs ys g).1.length = ys.length := fun qs => by
      induction qs with
      | nil => intro ys g; rfl
      | cons q qs ih =>
        intro ys g
        cases ys with
        | nil => rfl
        | cons y ys =>
          show ((ppz q y g).1 :: (gen ppz qs ys (ppz q y g).2).1).length = _
          rw [List.length_cons, List.length_cons, ih]
    refine ⟨?_, ?_⟩
    · show ((Ct.run ps (pushes ps i w t (xs, a)).1 i w).1, (pushes ps i w t (xs, a)).2 + (Ct.run ps (pushes ps i w t (xs, a)).1 i w).2) = _
      rw [ih]
      rw [run_gen (by show (xs.take i ++ _).length = _; rw [List.length_append, tl, il]; omega) hi]
      show (List.take i (xs.take i ++ _) ++ (gen ppz (ps.drop i) (List.drop i (xs.take i ++ _)) w).1, a + _ + (gen ppz (ps.drop i) (List.drop i (xs.take i ++ _)) w).2) = _
      rw [List.take_left' tl, List.drop_left' tl]
      refine Prod.ext rfl ?_
      show a + (itP (ps.drop i) w t (xs.drop i)).2 + (gen ppz (ps.drop i) (itP (ps.drop i) w t (xs.drop i)).1 w).2 = a + ((itP (ps.drop i) w t (xs.drop i)).2 + (gen ppz (ps.drop i) (itP (ps.drop i) w t (xs.drop i)).1 w).2)
      omega
    · show (gen ppz (ps.drop i) (itP (ps.drop i) w t (xs.drop i)).1 w).1.length = _
      rw [gl, il]
theorem pushes_deed {ps : List Part} {xs : List Int} {d : Deed} (h : StandL ps xs) (hd : d.ok ps.length) (a : Int) : pushes ps d.i d.w d.t (xs, a) = ((deedL ps xs d).1, a + (deedL ps xs d).2) := by
  rw [(pushes_itP h.len (Nat.le_of_lt hd.1) a d.t).1, itP_gen hd.2 _ _ _ (stand_drop d.i h)]
  rfl
theorem pushes_stand {ps : List Part} {xs : List Int} {i : Nat} {w : Int} (h : StandL ps xs) (hi : i < ps.length) (hw : Sign w) (a : Int) (t : Nat) : StandL ps (pushes ps i w t (xs, a)).1 := by
  have := deedL_stand (d := ⟨i, w, t⟩) h ⟨hi, hw⟩
  rw [pushes_deed (d := ⟨i, w, t⟩) h ⟨hi, hw⟩ a]
  exact this
section
variable {K : PySem.W.Frag} {H : Hp}
theorem deed_inv {v : V} {d : Deed} (h : Dp K H v d.data) : ∃ a, v = .ref a ∧ SqT K H a [.int d.i, .int d.w, .int d.t] := by
  obtain ⟨a, vs, rfl, hs, ht⟩ := tup_inv h
  cases ht with
  | cons h1 t1 => cases h1; cases t1 with
    | cons h2 t2 => cases h2; cases t2 with
      | cons h3 t3 => cases h3; cases t3; exact ⟨a, rfl, hs⟩
theorem deed_dp {a : Addr} {d : Deed} (h : SqT K H a [.int d.i, .int d.w, .int d.t]) : Dp K H (.ref a) d.data := .tup h (.cons (.int _) (.cons (.int _) (.cons (.int _) .nil)))
theorem deeds_upd {l : Addr} {ws : List V} {o : HO} (hl : H l = some (.lst ws)) : ∀ {vs : List V} (ds : List Deed), DpAll K H vs (ds.map Deed.data) → DpAll K (upd H l o) vs (ds.map Deed.data)
  | _, [], .nil => .nil
  | _, d :: r, .cons h t => by
    obtain ⟨a, rfl, ha⟩ := deed_inv h
    exact .cons (deed_dp (sqT_upd ha hl)) (deeds_upd hl r t)
def RowAt (K : PySem.W.Frag) (H : Hp) (a : Addr) (ds : List Deed) : Prop := ∃ vs, SqL K H a vs ∧ DpAll K H vs (ds.map Deed.data)
theorem RowAt.same {H' : Hp} {a : Addr} {ds : List Deed} (e : Same H H') (h : RowAt K H a ds) : RowAt K H' a ds := by
  obtain ⟨vs, h1, h2⟩ := h
  exact ⟨vs, e.seq h1, dpAll_same e h2⟩
theorem deed_get {ds : List Deed} {vs : List V} (h2 : DpAll K H vs (ds.map Deed.data)) {i : Nat} {d : Deed} (e : ds[i]? = some d) : ∃ v, vs[i]? = some v ∧ Dp K H v d.data :=
  dpAll_get h2 (by rw [List.getElem?_map, e]; rfl)
end
theorem lay_deed (d : Deed) : d.data.canLay0 = true ∧ d.data.depth ≤ 1 := lay_tup (n := 0) (lay_ints [(d.i : Int), d.w, (d.t : Int)] 0)
theorem lay_row (ds : List Deed) : (PyData.list (ds.map Deed.data)).canLay0 = true ∧ (PyData.list (ds.map Deed.data)).depth ≤ 2 := lay_lst fun d hd => by
  obtain ⟨e, _, rfl⟩ := List.mem_map.mp hd
  exact lay_deed e
/-! what the checks look at -/
def isW : PyData → Bool
  | .int _ => true
  | _ => false
def risesD (last z : Int) : List PyData → Bool
  | [] => true
  | .int m :: r => if m ≤ last ∨ z ≤ m then false else risesD m z r
  | _ :: _ => false
def areM (d : PyData) (z : Int) : Bool := match d with
  | .tuple ds => risesD (-1) z ds
  | _ => false
def wheelT : List PyData → Bool
  | [.int z, m] => decide (1 ≤ z) && areM m z
  | _ => false
def springT : List PyData → Bool
  | [.int k] => decide (1 ≤ k)
  | _ => false
def isP : PyData → Bool
  | .tuple (h :: t) =>
    if PyData.eqv h (.str "wheel") = true then wheelT t
    else if PyData.eqv h (.str "spring") = true then springT t
    else PyData.eqv (.tuple (h :: t)) (.tuple [.str "click"]) || PyData.eqv (.tuple (h :: t)) (.tuple [.str "rocker"])
  | _ => false
theorem rises_of : ∀ {ms : List Int} {last z : Int}, ms.Pairwise (· < ·) → (∀ m ∈ ms, last < m ∧ m < z) → risesD last z (ms.map PyData.int) = true
  | [], _, _, _, _ => rfl
  | m :: ms, last, z, h, hm => by
    obtain ⟨h1, h2⟩ := List.pairwise_cons.mp h
    have hm1 := hm m List.mem_cons_self
    show (if m ≤ last ∨ z ≤ m then false else risesD m z (ms.map PyData.int)) = true
    rw [if_neg (by omega)]
    exact rises_of h2 fun x hx => ⟨h1 x hx, (hm x (List.mem_cons_of_mem _ hx)).2⟩
theorem isP_of {p : Part} (ok : p.ok) : isP p.data = true := by
  cases p with
  | wheel z ms =>
    simp only [isP, Part.data, wheelT, areM]
    rw [if_pos (by decide +kernel), decide_eq_true ok.1, rises_of ok.2.2.1.1 fun m hm => ?_]
    · rfl
    · have := ok.2.2.1.2 m hm
      omega
  | click => decide +kernel
  | rocker => decide +kernel
  | spring k =>
    simp only [isP, Part.data, springT]
    rw [if_neg (by decide +kernel), if_pos (by decide +kernel)]
    exact decide_eq_true ok.1
def isD (d : PyData) (n : Int) : Bool := match d with
  | .tuple [.int i, .int w, .int t] => decide (0 ≤ i) && decide (i < n) && (decide (w = 1) || decide (w = -1)) && decide (0 ≤ t)
  | _ => false
theorem dpAll_drop {K : PySem.W.Frag} {H : Hp} : ∀ {vs : List V} {ds : List PyData} (k : Nat), DpAll K H vs ds → DpAll K H (vs.drop k) (ds.drop k)
  | _, _, 0, h => h
  | _, _, _ + 1, .nil => .nil
  | _, _, k + 1, .cons _ t => dpAll_drop k t
theorem dpAll_take {K : PySem.W.Frag} {H : Hp} : ∀ {vs : List V} {ds : List PyData} (k : Nat), DpAll K H vs ds → DpAll K H (vs.take k) (ds.take k)
  | _, _, 0, _ => .nil
  | _, _, _ + 1, .nil => .nil
  | _, _, k + 1, .cons h t => .cons h (dpAll_take k t)
theorem dpAll_cut {K : PySem.W.Frag} {H : Hp} {vs : List V} {ds : List Deed} (lo hi : Option Int) (h : DpAll K H vs (ds.map Deed.data)) : ∃ es : List Deed, DpAll K H (cutV vs lo hi) (es.map Deed.data) ∧ ∀ d ∈ es, d ∈ ds := by
  refine ⟨(ds.drop (HT.sIx vs.length 0 lo)).take (HT.sIx vs.length vs.length hi - HT.sIx vs.length 0 lo), ?_, fun d hd => List.mem_of_mem_drop (List.mem_of_mem_take hd)⟩
  rw [List.map_take, List.map_drop]
  exact dpAll_take _ (dpAll_drop _ h)
/-! how often each mark is met -/
def wsum (z : Int) : List Int → Int → Int
  | [], _ => 0
  | m :: r, y => (y - m) / z + wsum z r y
theorem wsum_app (z y : Int) : ∀ (ms : List Int) (m : Int), wsum z (ms ++ [m]) y = wsum z ms y + (y - m) / z
  | [], m => by
    show (y - m) / z + 0 = 0 + (y - m) / z
    omega
  | a :: r, m => by
    show (y - a) / z + wsum z (r ++ [m]) y = (y - a) / z + wsum z r y + (y - m) / z
    rw [wsum_app z y r m]
    omega
theorem wsum_mah {z : Int} (hz : 1 ≤ z) (y : Int) : ∀ {ms : List Int}, (∀ m ∈ ms, 0 ≤ m ∧ m < z) → wsum z ms y = mah z ms y - ms.length
  | [], _ => by
    show (0 : Int) = y / z * ((0 : Nat) : Int) + 0 - ((0 : Nat) : Int)
    rw [show ((0 : Nat) : Int) = 0 from rfl, Int.mul_zero]
    rfl
  | m :: r, h => by
    have hm := h m List.mem_cons_self
    have ih := wsum_mah hz y (ms := r) fun x hx => h x (List.mem_cons_of_mem _ hx)
    have e := Int.emod_add_mul_ediv y z
    have r0 := Int.emod_nonneg y (show z ≠ 0 by omega)
    have r1 := Int.emod_lt_of_pos y (show 0 < z by omega)
    show (y - m) / z + wsum z r y = _
    rw [ih]
    unfold mah
    rw [cnt_cons, List.length_cons, show ((r.length + 1 : Nat) : Int) = (r.length : Int) + 1 by omega, Int.mul_add, Int.mul_one]
    by_cases hmr : m ≤ y % z
    · obtain ⟨e1, _⟩ := (Int.ediv_emod_unique (a := y - m) (b := z) (r := y % z - m) (q := y / z) (by omega)).mpr ⟨by omega, by omega, by omega⟩
      rw [e1, if_pos hmr]
      omega
    · obtain ⟨e1, _⟩ := (Int.ediv_emod_unique (a := y - m) (b := z) (r := y % z - m + z) (q := y / z - 1) (by omega)).mpr ⟨by rw [Int.mul_sub]; omega, by omega, by omega⟩
      rw [e1, if_neg hmr]
      omega
theorem wsum_up {z : Int} {ms : List Int} {x : Int} (ok : (Part.wheel z ms).ok) (t : Nat) : wsum z ms (x + t) - wsum z ms x = (pt (.wheel z ms) x 1 t).2 := by
  have rs : Rise z ms := ok.2.2.1
  have u := mah_up ok.1 rs x t
  rw [wsum_mah ok.1 _ rs.2, wsum_mah ok.1 _ rs.2]
  simp only [pt, Int.one_mul]
  rw [neg_abs (by omega)]
  omega
theorem wsum_down {z : Int} {ms : List Int} {x : Int} (ok : (Part.wheel z ms).ok) (t : Nat) : wsum z ms x - wsum z ms (x - t) = (pt (.wheel z ms) x (-1) t).2 := by
  have rs : Rise z ms := ok.2.2.1
  have u := mah_up ok.1 rs (x - t) t
  rw [show x - (t : Int) + t = x by omega] at u
  rw [wsum_mah ok.1 _ rs.2, wsum_mah ok.1 _ rs.2]
  simp only [pt, show x + -1 * (t : Int) = x - t by omega]
  rw [abs_neg (by omega)]
  omega
/-! a deed in two -/
theorem pushes_add (ps : List Part) (i : Nat) (w : Int) (a : Nat) (s : List Int × Int) : ∀ b, pushes ps i w (a + b) s = pushes ps i w b (pushes ps i w a s)
  | 0 => rfl
  | b + 1 => by
    show ((Ct.run ps (pushes ps i w (a + b) s).1 i w).1, (pushes ps i w (a + b) s).2 + (Ct.run ps (pushes ps i w (a + b) s).1 i w).2) = _
    rw [pushes_add ps i w a s b]
    rfl
theorem rowL_one {ps : List Part} {s : List Int × Int} {d : Deed} (h : StandL ps s.1) (hd : d.ok ps.length) : rowL ps [d] s = pushes ps d.i d.w d.t s := (pushes_deed h hd s.2).symm
def halves : List Deed → List Deed
  | [] => []
  | d :: r => ⟨d.i, d.w, d.t / 2⟩ :: ⟨d.i, d.w, d.t - d.t / 2⟩ :: halves r
theorem halves_app : ∀ (ds es : List Deed), halves (ds ++ es) = halves ds ++ halves es
  | [], _ => rfl
  | d :: r, es => by
    show _ :: _ :: halves (r ++ es) = _ :: _ :: (halves r ++ halves es)
    rw [halves_app r es]
theorem halves_ok {n : Nat} {b : Nat} : ∀ {ds : List Deed}, (∀ d ∈ ds, d.ok n ∧ d.t < b) → ∀ d ∈ halves ds, d.ok n ∧ d.t < b
  | [], _, d, hd => by cases hd
  | e :: r, h, d, hd => by
    have he := h e List.mem_cons_self
    rcases List.mem_cons.mp hd with rfl | hd
    · exact ⟨he.1, Nat.lt_of_le_of_lt (Nat.div_le_self _ _) he.2⟩
    rcases List.mem_cons.mp hd with rfl | hd
    · exact ⟨he.1, Nat.lt_of_le_of_lt (Nat.sub_le _ _) he.2⟩
    · exact halves_ok (fun d hd => h d (List.mem_cons_of_mem _ hd)) d hd
theorem rowL_halves {ps : List Part} : ∀ {ds : List Deed} {s : List Int × Int}, StandL ps s.1 → (∀ d ∈ ds, d.ok ps.length) → rowL ps (halves ds) s = rowL ps ds s
  | [], _, _, _ => rfl
  | d :: r, s, h, hd => by
    have hd0 := hd d List.mem_cons_self
    have k1 : Deed.ok ⟨d.i, d.w, d.t / 2⟩ ps.length := hd0
    have k2 : Deed.ok ⟨d.i, d.w, d.t - d.t / 2⟩ ps.length := hd0
    show rowL ps ([⟨d.i, d.w, d.t / 2⟩] ++ ([⟨d.i, d.w, d.t - d.t / 2⟩] ++ halves r)) s = rowL ps ([d] ++ r) s
    have h1 : StandL ps (rowL ps [⟨d.i, d.w, d.t / 2⟩] s).1 := rowL_stand h fun e he => by rw [List.mem_singleton] at he; rw [he]; exact k1
    have h2 : StandL ps (rowL ps [⟨d.i, d.w, d.t - d.t / 2⟩] (rowL ps [⟨d.i, d.w, d.t / 2⟩] s)).1 := rowL_stand h1 fun e he => by rw [List.mem_singleton] at he; rw [he]; exact k2
    rw [rowL_app, rowL_app, rowL_app, rowL_halves h2 fun e he => hd e (List.mem_cons_of_mem _ he)]
    rw [rowL_one h1 k2, rowL_one h k1, rowL_one h hd0, ← pushes_add, show d.t / 2 + (d.t - d.t / 2) = d.t by omega]
theorem run_deed {ps : List Part} {xs : List Int} {i : Nat} {w : Int} (h : StandL ps xs) (hi : i < ps.length) (hw : Sign w) : deedL ps xs ⟨i, w, 1⟩ = Ct.run ps xs i w := by
  have e : ((Ct.run ps xs i w).1, 0 + (Ct.run ps xs i w).2) = ((deedL ps xs ⟨i, w, 1⟩).1, 0 + (deedL ps xs ⟨i, w, 1⟩).2) := pushes_deed (d := ⟨i, w, 1⟩) h ⟨hi, hw⟩ 0
  obtain ⟨e1, e2⟩ := Prod.mk.inj e
  exact Prod.ext e1.symm (by omega)
theorem rowL_snoc (ps : List Part) (ds : List Deed) (d : Deed) (s : List Int × Int) : rowL ps (ds ++ [d]) s = ((deedL ps (rowL ps ds s).1 d).1, (rowL ps ds s).2 + (deedL ps (rowL ps ds s).1 d).2) := rowL_app ps ds [d] s
theorem told_dp {K : PySem.W.Frag} {H : Hp} {q u : Addr} {xs : List Int} {y : Int} (h : SqT K H q [.ref u, .int y]) (hu : SqT K H u (xs.map V.int)) : Dp K H (.ref q) (.tuple [.tuple (xs.map PyData.int), .int y]) :=
  .tup h (.cons (.tup hu (dpAll_ints xs)) (.cons (.int y) .nil))
end Ct

namespace Ct
open PySem PySem.Spec PyProof.Rows L2
/-! all stands of a train -/
theorem ip_mul {X : Cx} : PIp X .Mult (rI CMul fun i j => .int (i * j)) := iop_mul
def rowS (s : List Int) (k : Nat) : List (List Int) := (List.range k).map fun (x : Nat) => s ++ [(x : Int)]
def grow (ss : List (List Int)) (p : Part) : List (List Int) := ss.flatMap fun s => rowS s p.places.toNat
def allS (ps : List Part) : List (List Int) := ps.foldl grow [[]]
def tupD (s : List Int) : PyData := .tuple (s.map PyData.int)
theorem rowS_len (s : List Int) (k : Nat) : (rowS s k).length = k := by
  unfold rowS
  rw [List.length_map, List.length_range]
theorem rowS_succ (s : List Int) (k : Nat) : rowS s (k + 1) = rowS s k ++ [s ++ [(k : Int)]] := by
  unfold rowS
  rw [List.range_succ, List.map_append]
  rfl
theorem flat_len (k : Nat) : ∀ ss : List (List Int), (ss.flatMap fun s => rowS s k).length = ss.length * k
  | [] => by simp
  | s :: r => by
    rw [List.flatMap_cons, List.length_append, rowS_len, flat_len k r, List.length_cons, Nat.add_mul, Nat.one_mul]
    omega
theorem allS_snoc (ps : List Part) (p : Part) : allS (ps ++ [p]) = grow (allS ps) p := by
  unfold allS
  rw [List.foldl_append]
  rfl
theorem allS_take {ps : List Part} {n : Nat} {p : Part} (h : ps[n]? = some p) : allS (ps.take (n + 1)) = grow (allS (ps.take n)) p := by
  rw [List.take_add_one, h]
  exact allS_snoc _ _
theorem stands_take {ps : List Part} {n : Nat} {p : Part} (h : ps[n]? = some p) : stands (ps.take (n + 1)) = stands (ps.take n) * p.places := by
  rw [List.take_add_one, h]
  exact stands_app _ _
theorem allS_len {ps : List Part} (hok : ∀ p ∈ ps, p.ok) : ∀ n, n ≤ ps.length → ((allS (ps.take n)).length : Int) = stands (ps.take n)
  | 0, _ => rfl
  | n + 1, hn => by
    obtain ⟨p, hp⟩ : ∃ p, ps[n]? = some p := ⟨_, List.getElem?_eq_getElem (by omega)⟩
    have po := (hok p (List.mem_of_getElem? hp)).pos.1
    rw [allS_take hp, stands_take hp, ← allS_len hok n (by omega)]
    unfold grow
    rw [flat_len, Int.natCast_mul, Int.toNat_of_nonneg (by omega)]
theorem stands_le {ps : List Part} (hok : ∀ p ∈ ps, p.ok) : ∀ n, n ≤ ps.length → stands (ps.take (ps.length - n)) ≤ stands ps
  | 0, _ => by
    rw [Nat.sub_zero, List.take_length]
    exact Int.le_refl _
  | n + 1, hn => by
    have ih := stands_le hok n (by omega)
    obtain ⟨p, hp⟩ : ∃ p, ps[ps.length - (n + 1)]? = some p := ⟨_, List.getElem?_eq_getElem (by omega)⟩
    have po := (hok p (List.mem_of_getElem? hp)).pos.1
    have e := stands_take hp
    rw [show ps.length - (n + 1) + 1 = ps.length - n by omega] at e
    have sp := stands_pos (ps.take (ps.length - (n + 1))) fun q hq => hok q (List.mem_of_mem_take hq)
    rw [e] at ih
    have := Int.mul_le_mul_of_nonneg_left po (show 0 ≤ stands (ps.take (ps.length - (n + 1))) by omega)
    omega
theorem stands_le' {ps : List Part} (hok : ∀ p ∈ ps, p.ok) {n : Nat} (hn : n ≤ ps.length) : stands (ps.take n) ≤ stands ps := by
  have := stands_le hok (ps.length - n) (by omega)
  rw [show ps.length - (ps.length - n) = n by omega] at this
  exact this
theorem place_le {ps : List Part} (hok : ∀ p ∈ ps, p.ok) {n : Nat} {p : Part} (hp : ps[n]? = some p) : p.places ≤ stands ps := by
  have hn : n < ps.length := (List.getElem?_eq_some_iff.mp hp).1
  have po := (hok p (List.mem_of_getElem? hp)).pos.1
  have h3 := stands_le' hok (n := n + 1) hn
  have sp := stands_pos (ps.take n) fun q hq => hok q (List.mem_of_mem_take hq)
  rw [stands_take hp] at h3
  have := Int.mul_le_mul_of_nonneg_right sp (show 0 ≤ p.places by omega)
  omega
theorem fold_each {k : Nat} : ∀ (ps : List Part) (ss : List (List Int)), (∀ s ∈ ss, s.length = k) → ∀ s ∈ ps.foldl grow ss, s.length = k + ps.length
  | [], ss, h, s, hs => h s hs
  | p :: ps, ss, h, s, hs => by
    have := fold_each (k := k + 1) ps (grow ss p) (fun t ht => by
      obtain ⟨u, hu, hr⟩ := List.mem_flatMap.mp ht
      obtain ⟨x, _, rfl⟩ := List.mem_map.mp hr
      rw [List.length_append, h u hu]
      rfl) s hs
    rw [List.length_cons]
    omega
theorem allS_each (ps : List Part) (s : List Int) (h : s ∈ allS ps) : s.length = ps.length := by
  have := fold_each (k := 0) ps [[]] (fun t ht => by rw [List.mem_singleton] at ht; rw [ht]; rfl) s h
  omega
theorem grow_le {ps : List Part} (hok : ∀ p ∈ ps, p.ok) {n : Nat} {p : Part} (hp : ps[n]? = some p) {i : Nat} : (((allS (ps.take n)).take i).flatMap fun s => rowS s p.places.toNat).length ≤ (stands ps).toNat := by
  have hn : n < ps.length := (List.getElem?_eq_some_iff.mp hp).1
  have h1 : (((allS (ps.take n)).take i).flatMap fun s => rowS s p.places.toNat).length ≤ (grow (allS (ps.take n)) p).length := by
    unfold grow
    rw [flat_len, flat_len, List.length_take]
    exact Nat.mul_le_mul_right _ (Nat.min_le_right _ _)
  rw [← allS_take hp] at h1
  have h2 := allS_len hok (n + 1) hn
  have h3 := stands_le' hok (n := n + 1) hn
  omega
section
variable {K : PySem.W.Frag} {H : Hp}
theorem tupD_inv {v : V} {s : List Int} (h : Dp K H v (tupD s)) : ∃ a, v = .ref a ∧ SqT K H a (s.map V.int) := by
  obtain ⟨a, vs, rfl, hs, ht⟩ := tup_inv h
  cases dpAll_ints_inv s ht
  exact ⟨a, rfl, hs⟩
theorem tupD_dp {a : Addr} {s : List Int} (h : SqT K H a (s.map V.int)) : Dp K H (.ref a) (tupD s) := .tup h (dpAll_ints s)
theorem tups_upd {l : Addr} {ws : List V} {o : HO} (hl : H l = some (.lst ws)) : ∀ {vs : List V} (ss : List (List Int)), DpAll K H vs (ss.map tupD) → DpAll K (upd H l o) vs (ss.map tupD)
  | _, [], .nil => .nil
  | _, s :: r, .cons h t => by
    obtain ⟨a, rfl, ha⟩ := tupD_inv h
    exact .cons (tupD_dp (sqT_upd ha hl)) (tups_upd hl r t)
theorem tup_get {ss : List (List Int)} {vs : List V} (h2 : DpAll K H vs (ss.map tupD)) {i : Nat} {s : List Int} (e : ss[i]? = some s) : ∃ a, vs[i]? = some (.ref a) ∧ SqT K H a (s.map V.int) := by
  obtain ⟨v, hv, hd⟩ := dpAll_get h2 (d := tupD s) (by rw [List.getElem?_map, e]; rfl)
  obtain ⟨a, rfl, ha⟩ := tupD_inv hd
  exact ⟨a, hv, ha⟩
end
theorem lay_tupD (s : List Int) : (tupD s).canLay0 = true ∧ (tupD s).depth ≤ 1 := lay_tup (lay_ints s 0)
theorem lay_tups (ss : List (List Int)) : (PyData.list (ss.map tupD)).canLay0 = true ∧ (PyData.list (ss.map tupD)).depth ≤ 2 := lay_lst fun d hd => by
  obtain ⟨s, _, rfl⟩ := List.mem_map.mp hd
  exact lay_tupD s
theorem stands_rev : ∀ ps : List Part, stands ps.reverse = stands ps
  | [] => rfl
  | p :: r => by
    rw [List.reverse_cons, stands_app, stands_rev r]
    exact Int.mul_comm _ _
theorem dpAll_rev {K : PySem.W.Frag} {H : Hp} : ∀ {vs : List V} {ds : List PyData}, DpAll K H vs ds → DpAll K H vs.reverse ds.reverse
  | _, _, .nil => .nil
  | _, _, .cons h t => by
    rw [List.reverse_cons, List.reverse_cons]
    exact dpAll_app (dpAll_rev t) (.cons h .nil)
/-! two fors in one list -/
section
variable {K : PySem.W.Frag} {H : Hp} {σ : L2.St} {Q : VK}
def LB2 (J : It) (g : TG) (tt : TT) (wi1 : TI) (g1 : TG) (tt1 : TT) (te : TE) (vs vs1 : List Nat) (σ : L2.St) (H : Hp) (Q : VK) : Prop := tLc2 (fun _ H R => R J H) g tt wi1 g1 tt1 te vs vs1 σ H Q
theorem w_lc2 {wi wi1 : TI} {g g1 : TG} {tt tt1 : TT} {te : TE} {vs vs1 : List Nat} (h : wi σ H fun J H1 => LB2 J g tt wi1 g1 tt1 te vs vs1 σ H1 Q) : tLc2 wi g tt wi1 g1 tt1 te vs vs1 σ H Q := h
/-- the inner loop, from which Nx is reached -/
def IB (J : It) (g : TG) (tt : TT) (te : TE) (vs : List Nat) (D : Addr) (σ : L2.St) (H : Hp) (Nx : Hp → Prop) : Prop :=
  ∃ U : Nat → Nat → Hp → Prop, (∃ m, U 0 m H) ∧
    ∀ j k H, U j k H → (J.stop j H ∧ Nx H) ∨
      (J.go j H ∧ ∃ Z : Hp → Prop, (∀ H', Z H' → ∃ k', k' < k ∧ U (j + 1) k' H') ∧
        ∀ x H', J.yld j H x H' →
          g x (wipe σ vs) H' fun σ3 H5 => wipe σ3 vs = wipe σ vs ∧ tt σ3 H5 fun b H6 =>
            if b = true then te σ3 H6 fun y H7 => ∃ acc, H7 D = some (.lst acc) ∧ acc.length < sizeLine ∧ Z (upd H7 D (.lst (acc ++ [y]))) else Z H6)
theorem ib_range {lo : Int} {n : Nat} {g : TG} {tt : TT} {te : TE} {vs : List Nat} {D : Addr} {Nx : Hp → Prop} (Pi : Nat → Hp → Prop) (h0 : Pi 0 H)
    (hs : ∀ j H, j < n → Pi j H → g (.int (lo + j)) (wipe σ vs) H fun σ3 H5 => wipe σ3 vs = wipe σ vs ∧ tt σ3 H5 fun b H6 =>
      if b = true then te σ3 H6 fun y H7 => ∃ acc, H7 D = some (.lst acc) ∧ acc.length < sizeLine ∧ Pi (j + 1) (upd H7 D (.lst (acc ++ [y]))) else Pi (j + 1) H6) (hd : ∀ H, Pi n H → Nx H) : IB (Itr lo n) g tt te vs D σ H Nx := by
  refine ⟨fun j k H => k = n - j ∧ j ≤ n ∧ Pi j H, ⟨n, rfl, Nat.zero_le _, h0⟩, ?_⟩
  rintro j k H ⟨rfl, hj, p⟩
  by_cases hlt : j < n
  · refine .inr ⟨hlt, Pi (j + 1), fun H' p' => ⟨n - (j + 1), by omega, rfl, hlt, p'⟩, fun x H' y => ?_⟩
    obtain ⟨e1, e2⟩ := y
    subst e1 e2
    exact hs j _ hlt p
  · have e : j = n := by omega
    subst e
    exact .inl ⟨Nat.le_refl _, hd H p⟩
theorem lb2_list {a : Addr} (xs : List V) {wi1 : TI} {g g1 : TG} {tt tt1 : TT} {te : TE} {vs vs1 : List Nat} (Pv : Addr → Nat → Hp → Prop) (h0 : ∀ D, H D = none → Pv D 0 (upd H D (.lst []))) (hl : ∀ D, H D = none → ∀ i H1, i ≤ xs.length → Pv D i H1 → SqL K H1 a xs)
    (hs : ∀ D, H D = none → ∀ i x H1, xs[i]? = some x → Pv D i H1 → g x (wipe σ vs) H1 fun σ2 H2 => wipe σ2 vs = wipe σ vs ∧ tt σ2 H2 fun b H3 =>
      if b = true then wi1 σ2 H3 fun J1 H4 => IB J1 g1 tt1 te vs1 D σ2 H4 (Pv D (i + 1)) else Pv D (i + 1) H3) (hd : ∀ D, H D = none → ∀ H1, Pv D xs.length H1 → Q (.ref D) H1) : LB2 (Itl K a) g tt wi1 g1 tt1 te vs vs1 σ H Q := by
  intro D hD
  refine ⟨fun i m H1 => m = xs.length - i ∧ i ≤ xs.length ∧ Pv D i H1, ⟨xs.length, rfl, Nat.zero_le _, h0 D hD⟩, ?_⟩
  rintro i m H1 ⟨rfl, hi, p⟩
  have q := hl D hD i H1 hi p
  by_cases hlt : i < xs.length
  · refine .inr ⟨⟨xs, _, q, List.getElem?_eq_getElem hlt⟩, Pv D (i + 1), fun H' p' => ⟨xs.length - (i + 1), by omega, rfl, hlt, p'⟩, fun x H' y => ?_⟩
    obtain ⟨e, y⟩ := y
    subst e
    exact hs D hD i x _ (y xs q) p
  · have e : i = xs.length := by omega
    subst e
    exact .inl ⟨⟨xs, q, Nat.le_refl _⟩, hd D hD H1 p⟩
theorem w_star {te : TE} {t : TA} {QA : List V → Hp → Prop} (h : te σ H fun x H1 => ∃ p xs, x = V.ref p ∧ (SqT K H1 p xs ∨ SqL K H1 p xs) ∧ t σ H1 fun ys H2 => QA (xs ++ ys) H2) : StX.tStar K te t σ H QA := h
theorem lb_tup {a : Addr} (xs : List V) {g : TG} {tt : TT} {te : TE} {vs : List Nat} (Pv : Addr → Nat → Hp → Prop) (h0 : ∀ D, H D = none → Pv D 0 (upd H D (.lst []))) (hl : ∀ D, H D = none → ∀ i H1, i ≤ xs.length → Pv D i H1 → SqT K H1 a xs)
    (hs : ∀ D, H D = none → ∀ i x H1, xs[i]? = some x → Pv D i H1 → g x (wipe σ vs) H1 fun σ2 H2 => wipe σ2 vs = wipe σ vs ∧ tt σ2 H2 fun b H3 =>
      if b = true then te σ2 H3 fun y H4 => ∃ acc, H4 D = some (.lst acc) ∧ acc.length < sizeLine ∧ Pv D (i + 1) (upd H4 D (.lst (acc ++ [y]))) else Pv D (i + 1) H3) (hd : ∀ D, H D = none → ∀ H1, Pv D xs.length H1 → Q (.ref D) H1) : LB (Itt K a) g tt te vs σ H Q :=
  fun D hD => lc_tup (Pv D) (h0 D hD) (hl D hD) (hs D hD) (hd D hD)
theorem w_revL {te : TE} (h : te σ H fun x H1 => ∃ a xs, x = .ref a ∧ SqL K H1 a xs ∧ ∀ p, H1 p = none → Q (.ref p) (upd H1 p (.lst xs.reverse))) : tRevL K te σ H Q := h
end
end Ct
namespace Ct
open PySem PySem.Spec PyProof.Rows L2
theorem w_catA {K : PySem.W.Frag} {H : Hp} {Q : VK} {a b : Addr} {xs ys : List V} (ha : SqT K H a xs) (hb : SqT K H b ys) (l : xs.length + ys.length ≤ 1000) (q : ∀ u H', Same H H' → SqT K H' u (xs ++ ys) → Q (.ref u) H') : rCatA K (.ref a) (.ref b) H Q := by
  refine ⟨a, b, xs, ys, rfl, rfl, ha, hb, Nat.le_of_lt (small1000 l), fun hx => ?_, fun _ hy => ?_, fun _ _ p np => ?_⟩
  · refine q b H (Same.refl H) ?_
    rw [hx, List.nil_append]
    exact hb
  · refine q a H (Same.refl H) ?_
    rw [hy, List.append_nil]
    exact ha
  · exact q p _ (same_upd np) (.of upd_same)
end Ct
namespace Ct
open PySem PySem.Spec PyProof.Rows L2
theorem standL_app : ∀ {ps qs : List Part} {xs ys : List Int}, StandL ps xs → StandL qs ys → StandL (ps ++ qs) (xs ++ ys)
  | [], _, [], _, _, h => h
  | _ :: _, _, _ :: _, _, ⟨a, b, c, d⟩, h => ⟨a, b, c, standL_app d h⟩
end Ct
namespace Ct
open PySem PySem.Spec PyProof.Rows L2
/-! signs fed to a train -/
def isSg : PyData → Bool
  | .int i => decide (i ∈ [(1 : Int), -1, 0])
  | _ => false
theorem isSg_of {s : Int} (h : s = 0 ∨ Sign s) : isSg (.int s) = true := by
  rcases h with h | h | h <;> rw [h] <;> decide
theorem run_zero (ps : List Part) (xs : List Int) (i : Nat) : Ct.run ps xs i 0 = (xs, 0) := by
  unfold Ct.run
  have z := runN_zero (ps := ps) (i := i) (s := (xs, 0)) (n := 0) rfl (ps.length - i)
  rw [Nat.zero_add] at z
  exact z
theorem run_stand {ps : List Part} {xs : List Int} {i : Nat} {w : Int} (h : StandL ps xs) (hi : i < ps.length) (hw : w = 0 ∨ Sign w) : StandL ps (Ct.run ps xs i w).1 := by
  rcases hw with e | e
  · rw [e, run_zero]
    exact h
  · rw [← run_deed h hi e]
    exact deedL_stand h ⟨hi, e⟩
def fedS (ps : List Part) : List Int → List Int → List Int × List Int
  | xs, [] => (xs, [])
  | xs, s :: r => ((fedS ps (Ct.run ps xs 0 s).1 r).1, (Ct.run ps xs 0 s).2 :: (fedS ps (Ct.run ps xs 0 s).1 r).2)
theorem fedS_snoc (ps : List Part) (s : Int) : ∀ (ss : List Int) (xs : List Int), fedS ps xs (ss ++ [s]) = ((Ct.run ps (fedS ps xs ss).1 0 s).1, (fedS ps xs ss).2 ++ [(Ct.run ps (fedS ps xs ss).1 0 s).2])
  | [], xs => rfl
  | a :: r, xs => by
    rw [List.cons_append, fedS, fedS_snoc ps s r, fedS]
    rfl
theorem fedS_take {ps : List Part} {ss : List Int} {k : Nat} {s : Int} (xs : List Int) (h : ss[k]? = some s) : fedS ps xs (ss.take (k + 1)) = ((Ct.run ps (fedS ps xs (ss.take k)).1 0 s).1, (fedS ps xs (ss.take k)).2 ++ [(Ct.run ps (fedS ps xs (ss.take k)).1 0 s).2]) := by
  rw [← fedS_snoc, List.take_add_one, h]
  rfl
theorem fedS_stand {ps : List Part} (h1 : 1 ≤ ps.length) : ∀ {ss : List Int} {xs : List Int}, StandL ps xs → (∀ s ∈ ss, s = 0 ∨ Sign s) → StandL ps (fedS ps xs ss).1
  | [], _, h, _ => h
  | s :: r, _, h, hs => fedS_stand (ss := r) h1 (run_stand h h1 (hs s List.mem_cons_self)) fun t ht => hs t (List.mem_cons_of_mem s ht)
theorem fedS_len (ps : List Part) : ∀ (ss : List Int) (xs : List Int), (fedS ps xs ss).2.length = ss.length
  | [], _ => rfl
  | s :: r, xs => by
    rw [fedS, List.length_cons, List.length_cons, fedS_len ps r]
end Ct
namespace Ct
open PySem PySem.Spec PyProof.Rows L2
theorem fold_mem : ∀ (ps : List Part) (ss : List (List Int)) (xs : List Int), (∀ p ∈ ps, p.ok) → (xs ∈ ps.foldl grow ss ↔ ∃ s ∈ ss, ∃ ys, xs = s ++ ys ∧ StandL ps ys)
  | [], ss, xs, _ => by
    constructor
    · intro h
      exact ⟨xs, h, [], (List.append_nil xs).symm, trivial⟩
    · rintro ⟨s, hs, ys, rfl, hy⟩
      cases ys with
      | nil => rw [List.append_nil]; exact hs
      | cons _ _ => exact nomatch hy
  | p :: ps, ss, xs, ok => by
    have po := (ok p List.mem_cons_self).pos.1
    rw [List.foldl_cons, fold_mem ps (grow ss p) xs fun q hq => ok q (List.mem_cons_of_mem _ hq)]
    constructor
    · rintro ⟨s', hs', ys, rfl, hy⟩
      obtain ⟨s, hs, hin⟩ := List.mem_flatMap.mp hs'
      obtain ⟨k, hk, rfl⟩ := List.mem_map.mp hin
      rw [List.mem_range] at hk
      exact ⟨s, hs, (k : Int) :: ys, by rw [List.append_assoc]; rfl, ok p List.mem_cons_self, by omega, by omega, hy⟩
    · rintro ⟨s, hs, ys, rfl, hy⟩
      cases ys with
      | nil => exact nomatch hy
      | cons y ys =>
        obtain ⟨_, y0, y1, hy⟩ := hy
        refine ⟨s ++ [y], List.mem_flatMap.mpr ⟨s, hs, List.mem_map.mpr ⟨y.toNat, List.mem_range.mpr (by omega), by rw [Int.toNat_of_nonneg y0]⟩⟩, ys, by rw [List.append_assoc]; rfl, hy⟩
theorem allS_mem {ps : List Part} (ok : ∀ p ∈ ps, p.ok) (xs : List Int) : xs ∈ allS ps ↔ StandL ps xs := by
  rw [allS, fold_mem ps [[]] xs ok]
  constructor
  · rintro ⟨s, hs, ys, rfl, hy⟩
    rw [List.mem_singleton] at hs
    rw [hs]
    exact hy
  · intro h
    exact ⟨[], List.mem_singleton.mpr rfl, xs, rfl, h⟩
/-! one-way trains -/
def gvb : Part → Bool
  | .wheel _ ms => decide (0 < ms.length)
  | _ => false
theorem pp_back {p : Part} {x w : Int} (hw : Sign w) (h : (pp p x w).2 = -1) : w = -1 ∧ gvb p = true := by
  have e := pp_way p x w hw
  rw [h] at e
  have hw1 : w = -1 := by
    rcases e with e | e
    · exact absurd e (by decide)
    · exact e.symm
  refine ⟨hw1, ?_⟩
  subst hw1
  cases p with
  | wheel z ms =>
    have h : (if (if (-1 : Int) = 1 then (x + -1) % z else x) ∈ ms then (-1 : Int) else 0) = -1 := h
    by_cases e2 : (if (-1 : Int) = 1 then (x + -1) % z else x) ∈ ms
    · exact decide_eq_true (List.length_pos_of_mem e2)
    · rw [if_neg e2] at h
      exact absurd h (by decide)
  | click => exact absurd (show (if (-1 : Int) = 1 then (1 : Int) else 0) = -1 from h) (by decide)
  | rocker =>
    have h : (if (-1 : Int) = 1 ∧ x = 0 then (1 : Int) else 0) = -1 := h
    rw [if_neg (by intro z; exact absurd z.1 (by decide))] at h
    exact absurd h (by decide)
  | spring k => exact absurd (show (0 : Int) = -1 from h) (by decide)
/-- what is shown below nought comes through all parts -/
theorem gen_back : ∀ {ps : List Part} {xs : List Int} {w : Int}, w = 0 ∨ Sign w → xs.length = ps.length → (gen ppz ps xs w).2 = -1 → w = -1 ∧ ps.all gvb = true
  | [], [], w, _, _, h => ⟨h, rfl⟩
  | p :: ps, x :: xs, w, hw, hl, h => by
    have hl' : xs.length = ps.length := Nat.succ.inj hl
    have h' : (gen ppz ps xs (ppz p x w).2).2 = -1 := h
    have hz : (ppz p x w).2 = 0 ∨ Sign (ppz p x w).2 := by
      unfold ppz
      split
      · exact .inl rfl
      · rename_i e
        exact pp_sign p x w (hw.resolve_left e)
    obtain ⟨h1, h2⟩ := gen_back hz hl' h'
    have e : w ≠ 0 := fun z => by
      rw [show ppz p x w = (x, 0) from if_pos z] at h1
      exact absurd (show (0 : Int) = -1 from h1) (by decide)
    unfold ppz at h1
    rw [if_neg e] at h1
    obtain ⟨h3, h4⟩ := pp_back (hw.resolve_left e) h1
    exact ⟨h3, by rw [List.all_cons, h4, h2]; rfl⟩
/-- a stand at which each wheel stands at a mark -/
def atMarks : List Part → List Int
  | [] => []
  | .wheel _ (m :: _) :: r => m :: atMarks r
  | _ :: r => 0 :: atMarks r
theorem marks_back : ∀ {ps : List Part}, (∀ p ∈ ps, p.ok) → ps.all gvb = true → StandL ps (atMarks ps) ∧ (gen ppz ps (atMarks ps) (-1)).2 = -1
  | [], _, _ => ⟨trivial, rfl⟩
  | .wheel z (m :: ms) :: r, ok, h => by
    rw [List.all_cons, Bool.and_eq_true] at h
    have o := ok _ List.mem_cons_self
    obtain ⟨h1, h2⟩ := marks_back (fun p hp => ok p (List.mem_cons_of_mem _ hp)) h.2
    have hm := o.2.2.1.2 m List.mem_cons_self
    refine ⟨⟨o, hm.1, hm.2, h1⟩, ?_⟩
    show (gen ppz r (atMarks r) (ppz (.wheel z (m :: ms)) m (-1)).2).2 = -1
    rw [show (ppz (.wheel z (m :: ms)) m (-1)).2 = -1 from if_pos List.mem_cons_self]
    exact h2
  | .wheel z [] :: r, _, h => by
    rw [List.all_cons, Bool.and_eq_true] at h
    exact absurd (show false = true from h.1) (by decide)
  | .click :: r, _, h => by
    rw [List.all_cons, Bool.and_eq_true] at h
    exact absurd h.1 (by decide)
  | .rocker :: r, _, h => by
    rw [List.all_cons, Bool.and_eq_true] at h
    exact absurd h.1 (by decide)
  | .spring k :: r, _, h => by
    rw [List.all_cons, Bool.and_eq_true] at h
    exact absurd (show false = true from h.1) (by decide)
theorem run_back {ps : List Part} {xs : List Int} {w : Int} (hl : xs.length = ps.length) (hw : Sign w) (h : (Ct.run ps xs 0 w).2 = -1) : w = -1 ∧ ps.all gvb = true := by
  rw [run_gen hl (Nat.zero_le _)] at h
  exact gen_back (.inr hw) hl h
theorem run_marks {ps : List Part} (ok : ∀ p ∈ ps, p.ok) (h : ps.all gvb = true) : StandL ps (atMarks ps) ∧ (Ct.run ps (atMarks ps) 0 (-1)).2 = -1 := by
  obtain ⟨h1, h2⟩ := marks_back ok h
  refine ⟨h1, ?_⟩
  rw [run_gen h1.len (Nat.zero_le _)]
  exact h2
/-! worn teeth -/
def offMark (ms : List Int) (m : Int) : List Int := ms.filter fun k => !decide (k = m)
def wornP (ps : List Part) : Option (Nat × Int) → List Part
  | none => ps
  | some (i, m) => match ps[i]? with
    | some (.wheel z ms) => ps.set i (.wheel z (offMark ms m))
    | _ => ps
theorem offMark_ok {z : Int} {ms : List Int} {m : Int} (h : (Part.wheel z ms).ok) : (Part.wheel z (offMark ms m)).ok :=
  ⟨h.1, h.2.1, ⟨h.2.2.1.1.filter _, fun k hk => h.2.2.1.2 k (List.mem_filter.mp hk).1⟩, Nat.le_trans (List.length_filter_le _ _) h.2.2.2⟩
theorem wornP_ok {ps : List Part} (h : ∀ p ∈ ps, p.ok) (w : Option (Nat × Int)) : ∀ p ∈ wornP ps w, p.ok := by
  unfold wornP
  split
  · exact h
  · split
    · rename_i i m z ms e
      intro p hp
      rcases List.mem_or_eq_of_mem_set hp with hp | hp
      · exact h p hp
      · rw [hp]
        exact offMark_ok (h _ (List.mem_of_getElem? e))
    · exact h
theorem wornP_len (ps : List Part) (w : Option (Nat × Int)) : (wornP ps w).length = ps.length := by
  unfold wornP
  split
  · rfl
  · split
    · rw [List.length_set]
    · rfl
/-- a wear as it is handed in -/
def WearAt (K : PySem.W.Frag) (H : Hp) (v : V) : Option (Nat × Int) → Prop
  | none => v = .non
  | some (i, m) => ∃ g, v = .ref g ∧ SqT K H g [.int i, .int m]
end Ct
namespace Ct
open PySem PySem.Spec PyProof.Rows L2
theorem dpAll_set {K : PySem.W.Frag} {H : Hp} : ∀ {vs : List V} {ds : List PyData} {i : Nat} {v : V} {d : PyData}, DpAll K H vs ds → Dp K H v d → DpAll K H (vs.set i v) (ds.set i d)
  | _, _, _, _, _, .nil, _ => .nil
  | _, _, 0, _, _, .cons _ t, h => .cons h t
  | _, _, _ + 1, _, _, .cons a t, h => .cons a (dpAll_set t h)
theorem WearAt.same {K : PySem.W.Frag} {H H' : Hp} {v : V} {w : Option (Nat × Int)} (s : Same H H') (h : WearAt K H v w) : WearAt K H' v w := by
  cases w with
  | none => exact h
  | some im =>
    obtain ⟨g, e, hg⟩ := h
    exact ⟨g, e, Same.tup s hg⟩
end Ct
namespace Ct
open PySem PySem.Spec PyProof.Rows L2
/-! trains behind one another -/
theorem gen_app (f : Part → Int → Int → Int × Int) (qs : List Part) (ys : List Int) : ∀ (ps : List Part) (xs : List Int) (a : Int), xs.length = ps.length →
    gen f (ps ++ qs) (xs ++ ys) a = ((gen f ps xs a).1 ++ (gen f qs ys (gen f ps xs a).2).1, (gen f qs ys (gen f ps xs a).2).2)
  | [], [], _, _ => rfl
  | p :: ps, x :: xs, a, h => by
    have ih := gen_app f qs ys ps xs (f p x a).2 (Nat.succ.inj h)
    show ((f p x a).1 :: (gen f (ps ++ qs) (xs ++ ys) (f p x a).2).1, (gen f (ps ++ qs) (xs ++ ys) (f p x a).2).2) = _
    rw [ih]
    rfl
theorem run0 {ps : List Part} {xs : List Int} (w : Int) (hx : xs.length = ps.length) : Ct.run ps xs 0 w = gen ppz ps xs w := by
  rw [run_gen hx (Nat.zero_le _)]
  rfl
theorem run_len (ps : List Part) (xs : List Int) (w : Int) : (Ct.run ps xs 0 w).1.length = xs.length := runN_len ps 0 (xs, w) _
theorem run_app {ps qs : List Part} {xs ys : List Int} (w : Int) (hx : xs.length = ps.length) (hy : ys.length = qs.length) :
    Ct.run (ps ++ qs) (xs ++ ys) 0 w = ((Ct.run ps xs 0 w).1 ++ (Ct.run qs ys 0 (Ct.run ps xs 0 w).2).1, (Ct.run qs ys 0 (Ct.run ps xs 0 w).2).2) := by
  rw [run0 w (by rw [List.length_append, List.length_append, hx, hy]), gen_app ppz qs ys ps xs w hx, run0 w hx, run0 _ hy]
theorem run_sg {ps : List Part} {xs : List Int} {w : Int} (hw : w = 0 ∨ Sign w) : (Ct.run ps xs 0 w).2 = 0 ∨ Sign (Ct.run ps xs 0 w).2 := by
  rcases hw with e | e
  · rw [e, run_zero]
    exact .inl rfl
  · exact runN_sign ps 0 (xs, w) e _
theorem fedS_sg {ps : List Part} : ∀ {ss : List Int} {xs : List Int}, (∀ s ∈ ss, s = 0 ∨ Sign s) → ∀ s ∈ (fedS ps xs ss).2, s = 0 ∨ Sign s
  | [], _, _, _, h => by cases h
  | s :: r, xs, hs, t, h => by
    rcases List.mem_cons.mp h with h | h
    · rw [h]
      exact run_sg (hs s List.mem_cons_self)
    · exact fedS_sg (ss := r) (fun u hu => hs u (List.mem_cons_of_mem s hu)) t h
theorem fedS_len1 (ps : List Part) : ∀ (ss : List Int) (xs : List Int), (fedS ps xs ss).1.length = xs.length
  | [], _ => rfl
  | s :: r, xs => by rw [fedS, fedS_len1 ps r, run_len]
theorem fed_app {ps qs : List Part} : ∀ {ss : List Int} {xs ys : List Int}, xs.length = ps.length → ys.length = qs.length →
    fedS (ps ++ qs) (xs ++ ys) ss = ((fedS ps xs ss).1 ++ (fedS qs ys (fedS ps xs ss).2).1, (fedS qs ys (fedS ps xs ss).2).2)
  | [], _, _, _, _ => rfl
  | s :: r, xs, ys, hx, hy => by
    have ih := fed_app (ss := r) (xs := (Ct.run ps xs 0 s).1) (ys := (Ct.run qs ys 0 (Ct.run ps xs 0 s).2).1) (by rw [run_len, hx]) (by rw [run_len, hy])
    rw [fedS, run_app s hx hy, fedS]
    show ((fedS (ps ++ qs) ((Ct.run ps xs 0 s).1 ++ (Ct.run qs ys 0 (Ct.run ps xs 0 s).2).1) r).1, (Ct.run qs ys 0 (Ct.run ps xs 0 s).2).2 :: (fedS (ps ++ qs) ((Ct.run ps xs 0 s).1 ++ (Ct.run qs ys 0 (Ct.run ps xs 0 s).2).1) r).2) = _
    rw [ih]
    rfl
theorem gen_nought {w : Int} : ∀ {ps : List Part} {xs : List Int}, StandL ps xs → gen (ptw w) ps xs 0 = (xs, 0)
  | [], [], _ => rfl
  | p :: ps, x :: xs, h => by
    obtain ⟨ok, x0, x1, hr⟩ := h
    show ((ptw w p x 0).1 :: (gen (ptw w) ps xs (ptw w p x 0).2).1, (gen (ptw w) ps xs (ptw w p x 0).2).2) = _
    rw [show ptw w p x 0 = (x, 0) from pt_zero ok x0 x1, gen_nought hr]
theorem gen_upto {w : Int} (hw : Sign w) : ∀ {ps : List Part} {xs : List Int} {t : Int}, 0 ≤ t → StandL ps xs → 0 ≤ (gen (ptw w) ps xs t).2 ∧ (gen (ptw w) ps xs t).2 ≤ t
  | [], [], t, h, _ => ⟨h, Int.le_refl _⟩
  | p :: ps, x :: xs, t, h, hs => by
    obtain ⟨ok, x0, x1, hr⟩ := hs
    have e : ((t.toNat : Nat) : Int) = t := Int.toNat_of_nonneg h
    have h1 := pt_nn ok x0 x1 hw t.toNat
    have h2 := pt_le ok x0 x1 hw t.toNat
    rw [e] at h1 h2
    have ih := gen_upto (ps := ps) (xs := xs) (t := (ptw w p x t).2) hw h1 hr
    exact ⟨ih.1, Int.le_trans ih.2 h2⟩
/-- a deed at a part of the first train: what it gives comes to the second one -/
theorem deed_front {ps qs : List Part} {xs ys : List Int} {d : Deed} (hx : StandL ps xs) (hy : StandL qs ys) (hd : d.ok ps.length) {w' : Int} {t' : Nat} (hw' : w' = if (deedL ps xs d).2 < 0 then -1 else 1) (ht' : (t' : Int) = if (deedL ps xs d).2 < 0 then -(deedL ps xs d).2 else (deedL ps xs d).2) :
    t' ≤ d.t ∧ deedL (ps ++ qs) (xs ++ ys) d = ((deedL ps xs d).1 ++ (deedL qs ys ⟨0, w', t'⟩).1, (deedL qs ys ⟨0, w', t'⟩).2) := by
  have hl := hx.len
  have e1 : (xs ++ ys).take d.i = xs.take d.i := List.take_append_of_le_length (by have := hd.1; omega)
  have e2 : (xs ++ ys).drop d.i = xs.drop d.i ++ ys := List.drop_append_of_le_length (by have := hd.1; omega)
  have e3 : (ps ++ qs).drop d.i = ps.drop d.i ++ qs := List.drop_append_of_le_length (by have := hd.1; omega)
  have hg := gen_upto (t := (d.t : Int)) hd.2 (by omega) (stand_drop d.i hx)
  have ga := gen_app (ptw d.w) qs ys (ps.drop d.i) (xs.drop d.i) d.t (by rw [List.length_drop, List.length_drop, hl])
  unfold deedL at hw' ht' ⊢
  rw [e1, e2, e3, ga]
  generalize gen (ptw d.w) (ps.drop d.i) (xs.drop d.i) d.t = r at *
  have hw' : w' = if d.w * r.2 < 0 then -1 else 1 := hw'
  have ht' : (t' : Int) = if d.w * r.2 < 0 then -(d.w * r.2) else d.w * r.2 := ht'
  have et : (t' : Int) = r.2 := by
    rcases hd.2 with e | e <;> rw [e] at ht' <;> split at ht' <;> omega
  refine ⟨by omega, ?_⟩
  show (xs.take d.i ++ (r.1 ++ (gen (ptw d.w) qs ys r.2).1), d.w * (gen (ptw d.w) qs ys r.2).2) = ((xs.take d.i ++ r.1) ++ ([] ++ (gen (ptw w') qs ys (t' : Int)).1), w' * (gen (ptw w') qs ys (t' : Int)).2)
  rw [et, List.nil_append, List.append_assoc]
  by_cases h0 : r.2 = 0
  · rw [h0, gen_nought hy, gen_nought hy, Int.mul_zero, Int.mul_zero]
  · have ew : w' = d.w := by
      rcases hd.2 with e | e <;> rw [e] at hw' ⊢ <;> rw [hw'] <;> split <;> omega
    rw [ew]
theorem deed_behind {ps qs : List Part} {xs ys : List Int} {d : Deed} {j : Nat} (hx : xs.length = ps.length) (hi : d.i = ps.length + j) : deedL (ps ++ qs) (xs ++ ys) d = (xs ++ (deedL qs ys ⟨j, d.w, d.t⟩).1, (deedL qs ys ⟨j, d.w, d.t⟩).2) := by
  unfold deedL
  rw [hi]
  have e1 : (xs ++ ys).take (ps.length + j) = xs ++ ys.take j := by rw [← hx, List.take_length_add_append]
  have e2 : (xs ++ ys).drop (ps.length + j) = ys.drop j := by rw [← hx, List.drop_length_add_append]
  have e3 : (ps ++ qs).drop (ps.length + j) = qs.drop j := by rw [List.drop_length_add_append]
  rw [e1, e2, e3, List.append_assoc]
end Ct

namespace Ct
open PySem PySem.Spec PyProof.Rows L2
/-! a row done often -/
def itR (ps : List Part) (ds : List Deed) : Nat → List Int → List Int × Int
  | 0, xs => (xs, 0)
  | n + 1, xs => ((rowL ps ds ((itR ps ds n xs).1, 0)).1, (itR ps ds n xs).2 + (rowL ps ds ((itR ps ds n xs).1, 0)).2)
theorem itR_stand {ps : List Part} {ds : List Deed} {xs : List Int} (h : StandL ps xs) (hd : ∀ d ∈ ds, d.ok ps.length) : ∀ n, StandL ps (itR ps ds n xs).1
  | 0 => h
  | n + 1 => rowL_stand (s := ((itR ps ds n xs).1, 0)) (itR_stand h hd n) hd
theorem itR_round {ps : List Part} {ds : List Deed} {xs : List Int} {j k : Nat} (e : (itR ps ds j xs).1 = (itR ps ds k xs).1) : ∀ m, (itR ps ds (k + m) xs).1 = (itR ps ds (j + m) xs).1 ∧ (itR ps ds (k + m) xs).2 - (itR ps ds (j + m) xs).2 = (itR ps ds k xs).2 - (itR ps ds j xs).2
  | 0 => ⟨e.symm, rfl⟩
  | m + 1 => by
    obtain ⟨h1, h2⟩ := itR_round e m
    show (rowL ps ds ((itR ps ds (k + m) xs).1, 0)).1 = (rowL ps ds ((itR ps ds (j + m) xs).1, 0)).1 ∧ (itR ps ds (k + m) xs).2 + (rowL ps ds ((itR ps ds (k + m) xs).1, 0)).2 - ((itR ps ds (j + m) xs).2 + (rowL ps ds ((itR ps ds (j + m) xs).1, 0)).2) = _
    rw [h1]
    exact ⟨rfl, by omega⟩
theorem itR_rounds {ps : List Part} {ds : List Deed} {xs : List Int} {j k : Nat} (hjk : j ≤ k) (e : (itR ps ds j xs).1 = (itR ps ds k xs).1) (m : Nat) : ∀ r : Nat, itR ps ds (j + m + r * (k - j)) xs = ((itR ps ds (j + m) xs).1, (itR ps ds (j + m) xs).2 + (r : Int) * ((itR ps ds k xs).2 - (itR ps ds j xs).2))
  | 0 => by
    rw [Nat.zero_mul, Nat.add_zero, show ((0 : Nat) : Int) = 0 from rfl, Int.zero_mul, Int.add_zero]
  | r + 1 => by
    have ih := itR_rounds hjk e m r
    have hr := itR_round e (m + r * (k - j))
    rw [← Nat.add_assoc j m, ih] at hr
    rw [show j + m + (r + 1) * (k - j) = k + (m + r * (k - j)) by rw [Nat.add_mul, Nat.one_mul]; omega]
    refine Prod.ext hr.1 ?_
    have h2 : (itR ps ds (k + (m + r * (k - j))) xs).2 - ((itR ps ds (j + m) xs).2 + (r : Int) * ((itR ps ds k xs).2 - (itR ps ds j xs).2)) = (itR ps ds k xs).2 - (itR ps ds j xs).2 := hr.2
    show (itR ps ds (k + (m + r * (k - j))) xs).2 = (itR ps ds (j + m) xs).2 + ((r + 1 : Nat) : Int) * ((itR ps ds k xs).2 - (itR ps ds j xs).2)
    rw [show ((r + 1 : Nat) : Int) = (r : Int) + 1 by omega, Int.add_mul, Int.one_mul]
    omega
/-- the way round, reckoned -/
theorem itR_at {ps : List Part} {ds : List Deed} {xs : List Int} {j k n : Nat} (hjk : j < k) (hn : j ≤ n) (e : (itR ps ds j xs).1 = (itR ps ds k xs).1) :
    itR ps ds n xs = ((itR ps ds (j + (n - j) % (k - j)) xs).1, (itR ps ds (j + (n - j) % (k - j)) xs).2 + (((n - j) / (k - j) : Nat) : Int) * ((itR ps ds k xs).2 - (itR ps ds j xs).2)) := by
  have h := itR_rounds (Nat.le_of_lt hjk) e ((n - j) % (k - j)) ((n - j) / (k - j))
  rw [show j + (n - j) % (k - j) + (n - j) / (k - j) * (k - j) = n by
    have := Nat.mod_add_div (n - j) (k - j)
    rw [Nat.mul_comm (k - j)] at this
    omega] at h
  exact h
/-! no more unlike stands than there are -/
theorem filt_len {N : Nat} : ∀ {l : List Nat}, l.Nodup → (∀ x ∈ l, x < N + 1) → l.length ≤ (l.filter fun x => decide (x < N)).length + 1
  | [], _, _ => Nat.zero_le _
  | a :: r, hn, h => by
    obtain ⟨h1, h2⟩ := List.nodup_cons.mp hn
    by_cases ha : a < N
    · rw [List.filter_cons, if_pos (decide_eq_true ha), List.length_cons, List.length_cons]
      have := filt_len h2 fun x hx => h x (List.mem_cons_of_mem _ hx)
      omega
    · have ea : a = N := by
        have := h a List.mem_cons_self
        omega
      have : (r.filter fun x => decide (x < N)) = r := List.filter_eq_self.mpr fun x hx => decide_eq_true (by
        have h3 := h x (List.mem_cons_of_mem _ hx)
        have h4 : x ≠ N := fun z => h1 (by rw [ea, ← z]; exact hx)
        omega)
      rw [List.filter_cons, if_neg (by rw [decide_eq_false ha]; exact Bool.false_ne_true), this, List.length_cons]
      omega
theorem holes : ∀ (N : Nat) (l : List Nat), l.Nodup → (∀ x ∈ l, x < N) → l.length ≤ N
  | 0, [], _, _ => Nat.le_refl _
  | 0, a :: _, _, h => absurd (h a List.mem_cons_self) (Nat.not_lt_zero a)
  | N + 1, l, hn, h => by
    have h1 := filt_len hn h
    have h2 := holes N (l.filter fun x => decide (x < N)) (hn.filter _) fun x hx => of_decide_eq_true (List.mem_filter.mp hx).2
    omega
def code : List Part → List Int → Nat
  | _ :: ps, x :: xs => x.toNat * (stands ps).toNat + code ps xs
  | _, _ => 0
theorem code_lt : ∀ {ps : List Part} {xs : List Int}, StandL ps xs → code ps xs < (stands ps).toNat
  | [], [], _ => by decide
  | p :: ps, x :: xs, ⟨ok, h0, h1, h⟩ => by
    have ih := code_lt (ps := ps) (xs := xs) h
    have po := ok.pos.1
    show x.toNat * (stands ps).toNat + code ps xs < (p.places * stands ps).toNat
    have sp : 1 ≤ stands ps := stands_pos ps h.okp
    have e : (p.places * stands ps).toNat = p.places.toNat * (stands ps).toNat := by
      rw [Int.toNat_mul (by omega) (by omega)]
    rw [e]
    have hx : x.toNat + 1 ≤ p.places.toNat := by omega
    have := Nat.mul_le_mul_right (stands ps).toNat hx
    rw [Nat.add_mul, Nat.one_mul] at this
    omega
theorem code_inj : ∀ {ps : List Part} {xs ys : List Int}, StandL ps xs → StandL ps ys → code ps xs = code ps ys → xs = ys
  | [], [], [], _, _, _ => rfl
  | p :: ps, x :: xs, y :: ys, ⟨_, a0, _, ha⟩, ⟨_, b0, _, hb⟩, e => by
    have la := code_lt ha
    have lb := code_lt hb
    have e2 : x.toNat * (stands ps).toNat + code ps xs = y.toNat * (stands ps).toNat + code ps ys := e
    generalize (stands ps).toNat = N at *
    have d1 : (x.toNat * N + code ps xs) / N = x.toNat := by
      rw [Nat.mul_comm, Nat.mul_add_div (by omega), Nat.div_eq_of_lt la, Nat.add_zero]
    have d2 : (y.toNat * N + code ps ys) / N = y.toNat := by
      rw [Nat.mul_comm, Nat.mul_add_div (by omega), Nat.div_eq_of_lt lb, Nat.add_zero]
    rw [e2, d2] at d1
    have ex : x = y := by omega
    subst ex
    rw [code_inj ha hb (by omega)]
theorem few_stands {ps : List Part} {ds : List Deed} {xs : List Int} (h : StandL ps xs) (hd : ∀ d ∈ ds, d.ok ps.length) {k : Nat} (dist : ∀ i j, i < j → j < k → (itR ps ds i xs).1 ≠ (itR ps ds j xs).1) : k ≤ (stands ps).toNat := by
  have := holes (stands ps).toNat ((List.range k).map fun i => code ps (itR ps ds i xs).1) ?_ ?_
  · rw [List.length_map, List.length_range] at this
    exact this
  · rw [List.nodup_iff_pairwise_ne, List.pairwise_map]
    refine List.Pairwise.imp_of_mem (fun {a b} ha hb hab => ?_) (List.pairwise_lt_range (n := k))
    rw [List.mem_range] at ha hb
    exact fun z => dist a b hab hb (code_inj (itR_stand h hd a) (itR_stand h hd b) z)
  · intro x hx
    obtain ⟨i, _, rfl⟩ := List.mem_map.mp hx
    exact code_lt (itR_stand h hd i)
/-! how great a sum may be -/
theorem gen_le {w : Int} (hw : Sign w) : ∀ (ps : List Part) (xs : List Int) (t : Int), 0 ≤ t → StandL ps xs → (gen (ptw w) ps xs t).2 ≤ t
  | [], [], t, _, _ => Int.le_refl _
  | p :: ps, x :: xs, t, ht, ⟨ok, h0, h1, h⟩ => by
    have e : ((t.toNat : Nat) : Int) = t := by omega
    have a := pt_le ok h0 h1 hw t.toNat
    have n := pt_nn ok h0 h1 hw t.toNat
    rw [e] at a n
    exact Int.le_trans (gen_le hw ps xs (pt p x w t).2 n h) a
theorem deedL_sum {ps : List Part} {xs : List Int} {d : Deed} (h : StandL ps xs) (hd : d.ok ps.length) : -(d.t : Int) ≤ (deedL ps xs d).2 ∧ (deedL ps xs d).2 ≤ d.t := by
  have g1 := (gen_stand hd.2 _ _ (d.t : Int) (by omega) (stand_drop d.i h)).2
  have g2 := gen_le hd.2 _ _ (d.t : Int) (by omega) (stand_drop d.i h)
  show -(d.t : Int) ≤ d.w * (gen (ptw d.w) (ps.drop d.i) (xs.drop d.i) d.t).2 ∧ d.w * (gen (ptw d.w) (ps.drop d.i) (xs.drop d.i) d.t).2 ≤ d.t
  generalize (gen (ptw d.w) (ps.drop d.i) (xs.drop d.i) d.t).2 = g at *
  rcases hd.2 with e | e
  · rw [e, Int.one_mul]
    exact ⟨by omega, g2⟩
  · rw [e]
    exact ⟨by omega, by omega⟩
theorem rowL_sum {ps : List Part} : ∀ {ds : List Deed} {s : List Int × Int}, StandL ps s.1 → (∀ d ∈ ds, d.ok ps.length ∧ d.t < 2 ^ 200) → s.2 - ds.length * 2 ^ 200 ≤ (rowL ps ds s).2 ∧ (rowL ps ds s).2 ≤ s.2 + ds.length * 2 ^ 200
  | [], s, _, _ => by
    show s.2 - ((0 : Nat) : Int) * 2 ^ 200 ≤ s.2 ∧ s.2 ≤ s.2 + ((0 : Nat) : Int) * 2 ^ 200
    rw [show ((0 : Nat) : Int) = 0 from rfl, Int.zero_mul]
    omega
  | d :: ds, s, h, hd => by
    have d0 := hd d List.mem_cons_self
    have a := deedL_sum h d0.1
    have ih := rowL_sum (ds := ds) (s := ((deedL ps s.1 d).1, s.2 + (deedL ps s.1 d).2)) (deedL_stand h d0.1) fun e he => hd e (List.mem_cons_of_mem _ he)
    have i1 : s.2 + (deedL ps s.1 d).2 - (ds.length : Int) * 2 ^ 200 ≤ (rowL ps (d :: ds) s).2 := ih.1
    have i2 : (rowL ps (d :: ds) s).2 ≤ s.2 + (deedL ps s.1 d).2 + (ds.length : Int) * 2 ^ 200 := ih.2
    have dt := d0.2
    rw [List.length_cons, show ((ds.length + 1 : Nat) : Int) = (ds.length : Int) + 1 by omega, Int.add_mul, Int.one_mul]
    omega
theorem itR_sum {ps : List Part} {ds : List Deed} {xs : List Int} (h : StandL ps xs) (hd : ∀ d ∈ ds, d.ok ps.length ∧ d.t < 2 ^ 200) (hl : ds.length ≤ 1000) : ∀ n : Nat, -(n : Int) * 2 ^ 210 ≤ (itR ps ds n xs).2 ∧ (itR ps ds n xs).2 ≤ (n : Int) * 2 ^ 210
  | 0 => by
    show -((0 : Nat) : Int) * 2 ^ 210 ≤ 0 ∧ (0 : Int) ≤ ((0 : Nat) : Int) * 2 ^ 210
    decide
  | n + 1 => by
    have ih := itR_sum h hd hl n
    have r := rowL_sum (s := ((itR ps ds n xs).1, 0)) (itR_stand h (fun d hm => (hd d hm).1) n) hd
    have r1 : (0 : Int) - ds.length * 2 ^ 200 ≤ (rowL ps ds ((itR ps ds n xs).1, 0)).2 := r.1
    have r2 : (rowL ps ds ((itR ps ds n xs).1, 0)).2 ≤ 0 + ds.length * 2 ^ 200 := r.2
    show -((n + 1 : Nat) : Int) * 2 ^ 210 ≤ (itR ps ds n xs).2 + (rowL ps ds ((itR ps ds n xs).1, 0)).2 ∧ (itR ps ds n xs).2 + (rowL ps ds ((itR ps ds n xs).1, 0)).2 ≤ ((n + 1 : Nat) : Int) * 2 ^ 210
    rw [show ((n + 1 : Nat) : Int) = (n : Int) + 1 by omega]
    omega
theorem inl_inj : ∀ {xs ys : List Int}, xs.map (Sum.inl : Int → Key) = ys.map Sum.inl → xs = ys
  | [], [], _ => rfl
  | [], _ :: _, h => nomatch h
  | _ :: _, [], h => nomatch h
  | x :: xs, y :: ys, h => by
    injection h with h1 h2
    injection h1 with h3
    rw [h3, inl_inj h2]
theorem key_map (xs : List Int) : (xs.map (Sum.inl : Int → Key)).map kV = xs.map V.int := by
  rw [List.map_map]
  rfl
theorem units65 {k : Nat} {A : Around} (r : Room k A) : A.units + 65 < cLine := by
  have := r.un
  omega
theorem eqv_ints : ∀ (xs ys : List Int), PyData.eqvAll (xs.map PyData.int) (ys.map PyData.int) = decide (xs = ys)
  | [], [] => rfl
  | [], _ :: _ => rfl
  | _ :: _, [] => rfl
  | x :: xs, y :: ys => by
    rw [List.map_cons, List.map_cons, PyData.eqvAll, eqv_ints xs ys, PyData.eqv]
    by_cases e : x = y
    · subst e
      by_cases e2 : xs = ys
      · subst e2
        simp
      · rw [decide_eq_false e2, decide_eq_false (fun z => e2 (List.cons.inj z).2), Bool.and_false]
    · rw [decide_eq_false (fun z => e (List.cons.inj z).1), show (x == y) = false from beq_eq_false_iff_ne.mpr e, Bool.false_and]
theorem eqv_tupD (xs ys : List Int) : PyData.eqv (tupD xs) (tupD ys) = decide (xs = ys) := by
  unfold tupD
  rw [PyData.eqv]
  exact eqv_ints xs ys
theorem itR_one {ps : List Part} {xs : List Int} {i : Nat} {w : Int} (h : StandL ps xs) (hi : i < ps.length) (hw : Sign w) : ∀ n, itR ps [⟨i, w, 1⟩] n xs = pushes ps i w n (xs, 0)
  | 0 => rfl
  | n + 1 => by
    have ih := itR_one h hi hw n
    have hs : StandL ps (pushes ps i w n (xs, 0)).1 := pushes_stand h hi hw 0 n
    have e : rowL ps [⟨i, w, 1⟩] ((pushes ps i w n (xs, 0)).1, 0) = pushes ps i w 1 ((pushes ps i w n (xs, 0)).1, 0) := rowL_one (s := ((pushes ps i w n (xs, 0)).1, 0)) (d := ⟨i, w, 1⟩) hs ⟨hi, hw⟩
    show ((rowL ps [⟨i, w, 1⟩] ((itR ps [⟨i, w, 1⟩] n xs).1, 0)).1, (itR ps [⟨i, w, 1⟩] n xs).2 + (rowL ps [⟨i, w, 1⟩] ((itR ps [⟨i, w, 1⟩] n xs).1, 0)).2) = _
    rw [ih, e]
    refine Prod.ext rfl ?_
    show (pushes ps i w n (xs, 0)).2 + (0 + (Ct.run ps (pushes ps i w n (xs, 0)).1 i w).2) = (pushes ps i w n (xs, 0)).2 + (Ct.run ps (pushes ps i w n (xs, 0)).1 i w).2
    omega
theorem itR_deed {ps : List Part} {xs : List Int} {i : Nat} {w : Int} (h : StandL ps xs) (hi : i < ps.length) (hw : Sign w) (n : Nat) : itR ps [⟨i, w, 1⟩] n xs = rowL ps [⟨i, w, n⟩] (xs, 0) := by
  rw [itR_one h hi hw n, rowL_one (s := (xs, 0)) (d := ⟨i, w, n⟩) h ⟨hi, hw⟩]
theorem itR_add {ps : List Part} {ds : List Deed} (a : Nat) (xs : List Int) : ∀ b, itR ps ds (a + b) xs = ((itR ps ds b (itR ps ds a xs).1).1, (itR ps ds a xs).2 + (itR ps ds b (itR ps ds a xs).1).2)
  | 0 => Prod.ext rfl (Int.add_zero _).symm
  | b + 1 => by
    have ih := itR_add (ps := ps) (ds := ds) a xs b
    show ((rowL ps ds ((itR ps ds (a + b) xs).1, 0)).1, (itR ps ds (a + b) xs).2 + (rowL ps ds ((itR ps ds (a + b) xs).1, 0)).2) = _
    rw [ih]
    refine Prod.ext rfl ?_
    show (itR ps ds a xs).2 + (itR ps ds b (itR ps ds a xs).1).2 + _ = (itR ps ds a xs).2 + ((itR ps ds b (itR ps ds a xs).1).2 + _)
    rw [Int.add_assoc]
section
variable {K : PySem.W.Frag} {H : Hp} {σ : L2.St} {Q : VK} {D : Ends}
theorem w_dnewT (h : ∀ p, H p = none → Q (.ref p) (upd H p (.dT []))) : tDNewT σ H Q := h
theorem w_dnotin {ty td : TE} (h : ty σ H fun y H1 => td σ H1 fun x H2 => ∃ a o, x = .ref a ∧ DGet H2 a y o ∧ Q (.bl (!o.isSome)) H2) : tDNotIn ty td σ H Q := h
theorem w_dget {td ty : TE} (h : td σ H fun x H1 => ty σ H1 fun y H2 => ∃ a v, x = .ref a ∧ DGet H2 a y (some v) ∧ Q v H2) : tDGet td ty σ H Q := h
theorem w_dput {td ty tv : TE} (h : tv σ H fun v H1 => td σ H1 fun x H2 => ty σ H2 fun y H3 => ∃ a H4, x = .ref a ∧ DPut H3 a y v H4 ∧ D.nx σ H4) : sDPut td ty tv D σ H := h
end
end Ct

namespace Ct
open PySem PySem.Spec PyProof.Rows L2
/-! what stays, found by looking -/
section
variable {K : PySem.W.Frag} {H G : Hp} {a p : Addr} {o : HO} {xs : List V} {v : V} {d : PyData} {ds : List PyData} {ps : List Part}
theorem mv_get (s : Same H G) (h : H a = some o) : G a = some o := s _ _ h
theorem mv_lst (s : Same H G) (h : H a = some (.lst xs)) : SqL K G a xs := .of (s _ _ h)
theorem mv_sql (s : Same H G) (h : SqL K H a xs) : SqL K G a xs := s.seq h
theorem mv_tup (s : Same H G) (h : H a = some (.tup xs)) : SqT K G a xs := .of (s _ _ h)
theorem mv_sqt (s : Same H G) (h : SqT K H a xs) : SqT K G a xs := Same.tup s h
theorem mv_dp (s : Same H G) (h : Dp K H v d) : Dp K G v d := dp_same s h
theorem mv_dpa (s : Same H G) (h : DpAll K H xs ds) : DpAll K G xs ds := dpAll_same s h
theorem mv_train (s : Same H G) (h : TrainAt K H a ps) : TrainAt K G a ps := h.same s
theorem mv_free (s : Same H G) (h : G a = none) : H a = none := s.free h
theorem upd_new (h : upd H p o = G) (n : H p = none) : Same H G ∧ G p = some o := by
  subst h
  exact ⟨same_upd n, upd_same⟩
variable {Q : VK} {b : Addr} {ys : List V} {n : Nat} {ms : List Int}
theorem w_slLu (h : SqL K H a xs) (hn : n ≤ xs.length) (q : ∀ p G, H p = none → Same H G → G p = some (.lst (xs.take n)) → Q (.ref p) G) : rSlL K (.ref a) none (some (n : Int)) H Q := by
  refine w_slL h fun p np => ?_
  have e : cutV xs none (some (n : Int)) = xs.take n := by
    unfold cutV
    rw [HT.sIx_none, HT.sIx_nat, List.drop_zero, Nat.min_eq_left (by omega), Nat.sub_zero]
  rw [e]
  exact q p _ np (same_upd np) upd_same
theorem w_slLf (h : SqL K H a xs) (hn : n ≤ xs.length) (q : ∀ p G, H p = none → Same H G → G p = some (.lst (xs.drop n)) → Q (.ref p) G) : rSlL K (.ref a) (some (n : Int)) none H Q := by
  refine w_slL h fun p np => ?_
  have e : cutV xs (some (n : Int)) none = xs.drop n := by
    unfold cutV
    rw [HT.sIx_none, HT.sIx_nat, Nat.min_eq_left (by omega), List.take_of_length_le (by rw [List.length_drop]; exact Nat.le_refl _)]
  rw [e]
  exact q p _ np (same_upd np) upd_same
theorem w_cat (h : H a = some (.lst xs)) (h2 : H b = some (.lst ys)) (l : xs.length + ys.length ≤ sizeLine) (q : ∀ p G, H p = none → Same H G → G p = some (.lst (xs ++ ys)) → Q (.ref p) G) : rCat (.ref a) (.ref b) H Q :=
  ⟨a, b, xs, ys, rfl, rfl, h, h2, l, fun p np => q p _ np (same_upd np) upd_same⟩
theorem w_rNs {x y : Str} {c : Bool} (e : (!decide (V.str x = V.str y)) = c) (h : Q (.bl c) H) : rNe (.str x) (.str y) H Q := by
  refine ⟨rfl, ?_⟩
  rw [e]
  exact h
variable {σ : L2.St}
theorem walk_zipM {n : Nat} (hn : n = min xs.length ys.length) : Walk (ItM K a b) n (fun H => SqL K H a xs ∧ SqT K H b ys) (YPair (fun i => xs[i]?) (fun i => ys[i]?)) := by
  subst hn
  refine ⟨fun i _ hi q => ?_, fun _ q => ⟨xs, ys, q.1, q.2, by omega⟩, fun i H v H' _ q y => ?_⟩
  · have h1 : i < xs.length := by omega
    have h2 : i < ys.length := by omega
    exact ⟨xs, ys, xs[i], ys[i], q.1, q.2, by simp [h1], by simp [h2]⟩
  · obtain ⟨T, x, z, h1, h2, h3, h4, h5⟩ := y
    exact ⟨T, x, z, h1, h2, h3, h4 xs q.1, h5 ys q.2⟩
theorem lb_zipM (xs ys : List V) (hl : xs.length = ys.length) {g : TG} {tt : TT} {te : TE} {vs : List Nat} (Pv : Addr → Nat → Hp → Prop) (h0 : ∀ D, H D = none → Pv D 0 (upd H D (.lst []))) (hq : ∀ D, H D = none → ∀ i H1, i ≤ xs.length → Pv D i H1 → SqL K H1 a xs ∧ SqT K H1 b ys)
    (hs : ∀ D, H D = none → ∀ i x y T H1 G, xs[i]? = some x → ys[i]? = some y → Pv D i H1 → H1 T = none → Same H1 G → G T = some (.tup [x, y]) → g (.ref T) (wipe σ vs) G fun σ2 H2 => wipe σ2 vs = wipe σ vs ∧ tt σ2 H2 fun b H3 =>
      if b = true then te σ2 H3 fun y H4 => ∃ acc, H4 D = some (.lst acc) ∧ acc.length < sizeLine ∧ Pv D (i + 1) (upd H4 D (.lst (acc ++ [y]))) else Pv D (i + 1) H3) (hd : ∀ D, H D = none → ∀ H1, Pv D xs.length H1 → Q (.ref D) H1) : LB (ItM K a b) g tt te vs σ H Q :=
  fun D hD => lc_it (walk_zipM (xs := xs) (ys := ys) (n := xs.length) (by omega)) (Pv D) (h0 D hD) (hq D hD) (fun i x H1 H2 _ p y => by
    obtain ⟨T, u, v, rfl, hT, rfl, e1, e2⟩ := y
    exact hs D hD i u v T H1 _ e1 e2 p hT (same_upd hT) upd_same) (hd D hD)
theorem ne_new {H : Hp} {a p : Addr} {o : HO} (e : H a = some o) (n : H p = none) : p ≠ a := fun z => by rw [z, e] at n; cases n
theorem keepU {H : Hp} {a p : Addr} {o o' : HO} (e : H p = some o) (n : p ≠ a) : (upd H a o') p = some o := by rw [upd_ne n]; exact e
end
end Ct
/-! zip of two lists -/
namespace Ct
open PySem PySem.Spec PyProof.Rows L2
section
variable {K : PySem.W.Frag} {H : Hp} {σ : L2.St} {D : Ends} {R : It → Hp → Prop} {a b : Addr} {xs ys : List V}
def IZw (K : PySem.W.Frag) (vs : List V) (H : Hp) (R : It → Hp → Prop) : Prop := iZip K (fun _ H Q => Q vs H) [] H R
theorem w_izipw {ta : TA} (h : ta σ H fun vs H1 => IZw K vs H1 R) : iZip K ta σ H R := h
theorem w_IZw (h1 : SqL K H a xs) (h2 : SqL K H b ys) (q : R (Itz K a b) H) : IZw K [.ref a, .ref b] H R := ⟨a, b, xs, ys, rfl, h1, h2, q⟩
theorem fb_zipw (xs ys : List V) (hl : xs.length = ys.length) {g : TG} {tb : TS} (Pv : Nat → L2.St → Hp → Prop) (h0 : Pv 0 σ H) (hq : ∀ i σ H, i ≤ xs.length → Pv i σ H → SqL K H a xs ∧ SqL K H b ys)
    (hs : ∀ i x y T σ H G, xs[i]? = some x → ys[i]? = some y → Pv i σ H → H T = none → Same H G → G T = some (.tup [x, y]) → g (.ref T) σ G fun σ2 H2 => tb { D with nx := Pv (i + 1), ct := Pv (i + 1), bk := D.nx } σ2 H2) (hd : ∀ σ H, Pv xs.length σ H → D.nx σ H) : FB (Itz K a b) g tb D σ H :=
  for_it (walk_zip (xs := xs) (ys := ys) (n := xs.length) (by omega)) Pv h0 hq (fun i x σ H H' _ p y => by
    obtain ⟨T, u, v, rfl, hT, rfl, e1, e2⟩ := y
    exact hs i u v T σ H _ e1 e2 p hT (same_upd hT) upd_same) hd
end
end Ct

/-! what stays but for one object -/
namespace Ct
open PySem PySem.Spec PyProof.Rows L2
/-- all that was tracked stays, but for what lies at k -/
def But (k : Addr) (H H' : Hp) : Prop := ∀ a o, a ≠ k → H a = some o → H' a = some o
theorem but_same {k : Addr} {H H' : Hp} (s : Same H H') : But k H H' := fun a o _ h => s a o h
theorem But.refl {k : Addr} {H : Hp} : But k H H := fun _ _ _ h => h
theorem But.trans {k : Addr} {H H1 H2 : Hp} (a : But k H H1) (b : But k H1 H2) : But k H H2 := fun c o n h => b c o n (a c o n h)
theorem but_upd {k : Addr} {H : Hp} {o : HO} : But k H (upd H k o) := fun c u n h => by rw [upd_ne n]; exact h
theorem But.same {k : Addr} {H H1 H2 : Hp} (hk : H k = none) (s : Same H H1) (b : But k H1 H2) : Same H H2 := fun c o h => b c o (fun e => by rw [e, hk] at h; cases h) (s c o h)
def Ext (H : Hp) (k : Addr) : Prop := ∃ f, H k = some (.ext f)
theorem but_tup {K : PySem.W.Frag} {k a : Addr} {H H' : Hp} {xs : List V} (x : Ext H k) (e : But k H H') (h : SqT K H a xs) : SqT K H' a xs := by
  obtain ⟨f, x⟩ := x
  rcases h with (h | ⟨o, h⟩) | h
  · exact .inl (.inl (e _ _ (fun z => by rw [z, x] at h; cases h) h))
  · exact .inl (.inr ⟨o, e _ _ (fun z => by rw [z, x] at h; cases h) h⟩)
  · exact .inr h
theorem but_seq {K : PySem.W.Frag} {k a : Addr} {H H' : Hp} {xs : List V} (x : Ext H k) (e : But k H H') (h : SqL K H a xs) : SqL K H' a xs := by
  obtain ⟨f, x⟩ := x
  rcases h with (h | ⟨o, h⟩) | h
  · exact .inl (.inl (e _ _ (fun z => by rw [z, x] at h; cases h) h))
  · exact .inl (.inr ⟨o, e _ _ (fun z => by rw [z, x] at h; cases h) h⟩)
  · exact .inr h
mutual
theorem dp_but {K : PySem.W.Frag} {H H' : Hp} {k : Addr} (x : Ext H k) (e : But k H H') : ∀ {v : V} {d : PyData}, Dp K H v d → Dp K H' v d
  | _, _, .non => .non
  | _, _, .bl b => .bl b
  | _, _, .int i => .int i
  | _, _, .str x => .str x
  | _, _, .lst h t => .lst (but_seq x e h) (dpAll_but x e t)
  | _, _, .tup h t => .tup (but_tup x e h) (dpAll_but x e t)
theorem dpAll_but {K : PySem.W.Frag} {H H' : Hp} {k : Addr} (x : Ext H k) (e : But k H H') : ∀ {vs : List V} {ds : List PyData}, DpAll K H vs ds → DpAll K H' vs ds
  | _, _, .nil => .nil
  | _, _, .cons h t => .cons (dp_but x e h) (dpAll_but x e t)
end
theorem TrainAt.but {K : PySem.W.Frag} {H H' : Hp} {k a : Addr} {ps : List Part} (x : Ext H k) (e : But k H H') : TrainAt K H a ps → TrainAt K H' a ps
  | ⟨vs, h1, h2⟩ => ⟨vs, but_seq x e h1, dpAll_but x e h2⟩
end Ct

/-! defs that stand on no guard of a showing (so that str of a list may be asked), exceptions that are kept behind the except suite -/
namespace Ct
open PySem PySem.Spec PyProof.Rows L2
section
variable {P : Program} {w : World} {K : PySem.W.Frag} {mg : Str → Option Value} {base : Heap} {CX : CXT}
/-- as a def's promise, asked only where no guard is below -/
structure FnG (P : Program) (w : World) (K : PySem.W.Frag) (mg : Str → Option Value) (base : Heap) (CX : CXT) (k : Nat) (f : Addr) (fd : FuncData) (ps : List Str) (sp : Sp) : Prop where
  long : ∀ vs H Q E, sp vs H Q E → vs.length = ps.length
  goes : ∀ (A : Around), A.guards = some [] → Room k A → ∀ (below : List Env) (z : Shared) (H : Hp) (given : Args) (ws : List Value) (vs : List V) (Q : VK) (E : XK),
    Env0 P w K mg base A below z H → BindsTo z fd given (ps.zip ws) → Vals vs ws → sp vs H Q E → codeAny (model P w) A (.call (.ref f) given) (CR CX below P w H z Q E) z
theorem FnG.more {j k : Nat} {f : Addr} {fd : FuncData} {ps : List Str} {sp : Sp} (F : FnG P w K mg base CX j f fd ps sp) (h : j ≤ k) : FnG P w K mg base CX k f fd ps sp :=
  ⟨F.long, fun A g r => F.goes A g (r.mono h)⟩
theorem fnG_of {x qual : Str} {st : Stmt} {f : Addr} {fd : FuncData} {N ps : List Str} {k : Nat} {sp : Sp} (F : Fun K x qual st f fd) (S : FnScope N ps (defScope st))
    (len : ∀ vs H Q E, sp vs H Q E → (vs.length = ps.length))
    (inside : ∀ (cdv : Value) (A : Around), A.guards = some [] → ∀ (below : List Env) (z : Shared) (H : Hp) (vs : List V) (Q : VK) (E : XK), Room k (A.deeper (envOfC qual (defScope st) z.heap.objs.size f cdv)) → sp vs H Q E →
      ∃ t, PSs (cxOf CX P w K mg base N qual (defScope st) f cdv A below z H E) (defBody st) t ∧ t { nx := fun _ H' => Q .non H', rt := Q } (start N vs) H) :
    FnG P w K mg base CX (k + 1) f fd ps sp := by
  obtain ⟨oc, od, kV, doc, pm, an, cdv, ct, osl, rfl, there, coded⟩ := F.ex
  constructor
  · exact len
  intro A g room below z H given ws vs Q E env bd rel wish
  have kz : K.In z.heap := env.mod.kin.keeps fun b o q => (env.bs b o q).1
  have nl : z.heap.NoLimit := env.mod.nolimit.keeps fun b o q => (env.bs b o q).1
  refine codeAny_call_function room.depth (kz _ _ there) rfl S.co S.gen rfl (PySem.W.codeRec_of kz coded) (bd _ _ _ _ ?_)
  refine wpAny_newFunctionEnv_cells S.kind ?_ ?_
  · rintro ⟨n, v⟩ hn
    cases S.par n (List.of_mem_zip hn).1 with
    | inl q => exact .inl q
    | inr q => exact .inr ⟨q, PySem.W.cellsFrom_some _ _ _ (.inl q)⟩
  · intro env1 henv z1 laid
    subst henv
    refine ⟨nl.keeps laid.toInCall.keep, codeAny_func ?_⟩
    obtain ⟨t, ht, tq⟩ := inside cdv A g below z H vs Q E (room.deeper _) wish
    have J := inv_start (CX := CX) (E := E) S room.hd env (len _ _ _ _ wish) rel laid
    refine wpAny_mono (ht.run [] z1 (start N vs) H _ J tq) ?_ (fun _ _ q => q)
    intro flow z2 out
    match flow, out with
    | .ret u, ⟨v, σ2, H2, J2, r2, q2⟩ => exact ⟨v, H2, J2.os, J2.bare, J2.base, J2.hok, r2, q2⟩
    | .next, ⟨σ2, H2, J2, q2⟩ => exact ⟨.non, H2, J2.os, J2.bare, J2.base, J2.hok, rfl, q2⟩
    | .brk, ⟨_, _, _, q2⟩ => exact q2.elim
    | .cont, ⟨_, _, _, q2⟩ => exact q2.elim
/-- .. for a def that lets nothing out -/
theorem fnG_of0 {x qual : Str} {st : Stmt} {f : Addr} {fd : FuncData} {N ps : List Str} {k : Nat} {sp : Sp} (F : Fun K x qual st f fd) (S : FnScope N ps (defScope st))
    (len : ∀ vs H Q E, sp vs H Q E → (vs.length = ps.length))
    (inside : ∀ (cdv : Value) (A : Around), A.guards = some [] → ∀ (below : List Env) (z : Shared) (H : Hp) (vs : List V) (Q : VK) (E : XK), Room k (A.deeper (envOfC qual (defScope st) z.heap.objs.size f cdv)) → sp vs H Q E →
      ∃ t, PSs (cxOf CX0 P w K mg base N qual (defScope st) f cdv A below z H E).nox (defBody st) t ∧ t { nx := fun _ H' => Q .non H', rt := Q } (start N vs) H) :
    FnG P w K mg base CX0 (k + 1) f fd ps sp :=
  fnG_of F S len fun cdv A g below z H vs Q E r q => by
    obtain ⟨t, h, tq⟩ := inside cdv A g below z H vs Q E r q
    exact ⟨t, h.nox, tq⟩
end
section
variable {X : Cx} {CX : CXT} {k : Nat} {f : Addr} {fd : FuncData} {ps : List Str} {sp : Sp} {E : XK} {x : Str} {p pos : Pos} {e : Expr} {es : List Expr} {t : TA}
/-- f(e, ..) of such a def -/
theorem pe_callG (F : FnG X.prog X.w X.K X.mg X.base CX k f fd ps sp) (gd : X.A.guards = some []) (room : Room k X.A) (gl : Gl X x) (here : X.mg x = some (.ref f)) (kp : PySem.W.keepIn X.K (.ref f) = true) (bd : Binds X.K fd ps [])
    (out : Passes CX X E) (ha : PA X (e :: es) t) (hdb : (x == ("__debug__" : Str)) = false := by decide)
    (h1 : starEach (e :: es) X.env = (false, eval e X.env) :: starEach es X.env := by rfl) (h2 : (backTo pos (starEach es X.env)).any (·.1) = false := by rfl) :
    PE X (.Call (.Name x p) (e :: es) [] pos) (tCall sp [] E t) := by
  constructor
  intro pins z σ H Q J h
  refine wpAny_Call_Name_kw (ld_glob J gl here ?_ hdb)
  refine PySem.W.callWith_K (h₀ := X.base) J.ok.mod.kin kp (thn (ha.run pos pins z σ H _ J h) ?_) h1 h2
  rintro ws z1 ⟨vs, H1, J1, rel, q⟩
  refine ⟨J1.kIn, wpAny_call (codeAny_mono (F.goes X.A gd room X.stack z1 H1 ⟨ws, []⟩ ws vs Q E J1.env0 ?_ rel (by rw [List.append_nil] at q; exact q)) ?_)⟩
  · have q' : sp vs H1 Q E := by rw [List.append_nil] at q; exact q
    have b := bd z1 ws J1.kIn (by rw [List.append_nil, ← rel.length]; exact F.long _ _ _ _ q')
    rw [List.append_nil] at b
    exact b
  · intro r z2 hq
    match r, hq with
    | .error er, hq => exact out pins σ H1 z1 er z2 J1 hq
    | .ok (.ret u), hq => exact J1.after hq
    | .ok .next, hq => exact (show False from hq).elim
    | .ok .brk, hq => exact (show False from hq).elim
    | .ok .cont, hq => exact (show False from hq).elim
end
end Ct
namespace Ct
open PySem PySem.Spec PyProof.Rows L2
/-- what is tracked at the law's call: the script, unless it is one of the module's own objects -/
def ScrH (K : PySem.W.Frag) (a : Addr) (o : Obj) (ns : List Int) : Hp := fun b => if b = a ∧ K.lookup a = none then some (.frz o (.lst (ns.map V.int))) else none
theorem scrH_cases (K : PySem.W.Frag) (a : Addr) (o : Obj) (ns : List Int) (b : Addr) : ScrH K a o ns b = none ∨ (b = a ∧ K.lookup a = none ∧ ScrH K a o ns b = some (.frz o (.lst (ns.map V.int)))) := by
  unfold ScrH
  by_cases c : b = a ∧ K.lookup a = none
  · exact .inr ⟨c.1, c.2, if_pos c⟩
  · exact .inl (if_neg c)
/-- the law's def, called on the script -/
theorem lawG_call {P : Program} {w : World} {K : PySem.W.Frag} {mg mb : Str → Option Value} {k : Nat} {fa a : Addr} {fd : FuncData} {x : Str} {sp : Sp} {z : Shared} {vs : List Value} {ns : List Int}
    (kz : K.In z.heap) (gl : z.heap.Ns mainGlobals mg) (bl : z.heap.Ns builtinsNs mb) (blt : ∀ y : Str, y ≠ "__name__" → mb y = bootBuiltins y) (lim : z.heap.NoLimit) (gens : z.gens = #[])
    (ha : z.heap.get? a = some { cls := .type "list", data := .seq vs.toArray }) (areInts : IntsAre vs ns) (len : ns.length ≤ sizeLine) (room : Room k callerA)
    (F : ∀ base : Heap, K.In base → base.Ns mainGlobals mg → FnG P w K mg base CX0 k fa fd [x] sp) (bind : ∀ (s : Shared) (u : Value), BindsTo s fd ⟨[u], []⟩ [(x, u)])
    (wish : ∀ H : Hp, Only H → SqL K H a (ns.map V.int) → sp [.ref a] H (fun v _ => v = .bl true) fun _ _ _ => False) :
    codeAny (model P w) callerA (.call (.ref fa) ⟨[.ref a], []⟩) (fun r s' => r = .ok (.ret (.bool true)) ∧ OldK z.heap s'.heap ∧ s'.os = z.os ∧ AllBare s'.gens) z := by
  obtain ⟨o, ho⟩ : ∃ o : Obj, o = { cls := .type "list", data := .seq vs.toArray } := ⟨_, rfl⟩
  rw [← ho] at ha
  have two := scrH_cases K a o ns
  generalize hH : ScrH K a o ns = H at two
  have only : Only H := fun b => (two b).elim .inl fun q => .inr ⟨_, _, q.2.2⟩
  have rel := vals_ints areInts
  have hseq : SqL K H a (ns.map V.int) := by
    rcases two a with q | ⟨_, _, q⟩
    · cases c : K.lookup a with
      | none =>
        rw [← hH] at q
        unfold ScrH at q
        rw [if_pos ⟨rfl, c⟩] at q
        cases q
      | some o' =>
        have e := kz a o' c
        rw [ha] at e
        cases e
        subst ho
        exact .inr ⟨_, vs.toArray, _, c, rfl, rfl, rfl, by rw [List.size_toArray, areInts.length]; exact len, by simpa using rel⟩
    · exact .inl (.inr ⟨o, q⟩)
  have held : HOk P w H z.heap := fun b u e => by
    rcases two b with q | ⟨rfl, _, q⟩
    · rw [q] at e
      cases e
    · rw [q] at e
      cases e
      refine ⟨ha, by rw [List.length_map]; exact len, vs, 0, rel, ?_⟩
      rw [ha, ho]
  have still : ∀ {b : Addr} {u : Obj}, z.heap.get? b = some u → (b = a → K.lookup a ≠ none ∨ u ≠ o) → (hidT z.heap H).get? b = some u := fun {b u} e no => by
    refine hidT_get e ?_
    rcases two b with q | ⟨rfl, q1, _⟩
    · exact q
    · rcases no rfl with q | q
      · exact absurd q1 q
      · rw [ha] at e
        exact absurd (Option.some.inj e).symm q
  have names : ∀ {b : Addr} {m : Str → Option Value}, z.heap.Ns b m → (hidT z.heap H).Ns b m := fun {b m} ⟨u, es, ep, e, d, r⟩ =>
    ⟨u, es, ep, still e (fun _ => .inr fun q => by rw [q, ho] at d; cases d), d, r⟩
  have kb : K.In (hidT z.heap H) := fun b u e => still (kz b u e) fun q => .inl fun n => by rw [← q, e] at n; cases n
  obtain ⟨mc, l1, l2⟩ := lim
  have env : Env0 P w K mg (hidT z.heap H) callerA [] z H :=
    { frames := rfl, mod := ⟨kb, names gl, ⟨mb, names bl, blt⟩, mc, names l1, l2⟩, bs := fun b u e => of_hidT e, bsz := Nat.le_of_eq (hidT_size _ _), funs := trivial, frf := fun b q => (List.not_mem_nil q).elim, hok := held, bare := .of_eq gens }
  refine codeAny_mono ((F _ kb (names gl)).goes callerA rfl room [] z H ⟨[.ref a], []⟩ [.ref a] [.ref a] _ _ env (bind z (.ref a)) (.cons rfl .nil) (wish H only hseq)) ?_
  intro r z2 hq
  match r, hq with
  | .error er, hq => exact (show False from hq).elim
  | .ok .next, hq => exact (show False from hq).elim
  | .ok .brk, hq => exact (show False from hq).elim
  | .ok .cont, hq => exact (show False from hq).elim
  | .ok (.ret u), ⟨v, H2, os, bare, un, held2, rv, q⟩ =>
    have q' : v = .bl true := q
    subst q'
    obtain rfl : u = Value.bool true := rv
    refine ⟨rfl, OldK.of_keep fun b ob e => ?_, os, bare⟩
    rcases two b with n | ⟨rfl, _, n⟩
    · exact un.keep b ob e n (fun m => (List.not_mem_nil m).elim) (fun m => (List.not_mem_nil m).elim)
    · have k2 := (held2 b _ (un.frzs b _ _ n)).1
      rw [ha] at e
      cases e
      exact k2
/-- the end of a law whose def asks str of lists -/
theorem walk_ofG {l : PySem.W.OpenLaw} {n k : Nat} {q : Program} {loose : List Str} {XP : (Str → Option Value) → Heap → Prop} {YP : World → Heap → Prop} {d : DefRec} {K : Params → PySem.W.Frag} {sp : World → Sp} {x : Str}
    (most : l.most = some n) (most2 : n ≤ sizeLine) (nodef : d.params.defaults = []) (room : Room k callerA) (hY : ∀ (w : World) (h : Heap), YP w h → (K w.params).In h)
    (F : ∀ (w : World) (mg : Str → Option Value) (fa : Addr) (h : Heap), (K w.params).In h → h.Ns mainGlobals mg → mg d.name = some (.ref fa) →
      ∃ fd : FuncData, (∀ (s : Shared) (u : Value), BindsTo s fd ⟨[u], []⟩ [(x, u)]) ∧ ∀ base : Heap, (K w.params).In base → base.Ns mainGlobals mg → FnG l.prog w (K w.params) mg base CX0 k fa fd [x] (sp w))
    (wish : ∀ (w : World) (H : Hp) (a : Addr) (ns : List Int), ns.length ≤ n → Only H → SqL (K w.params) H a (ns.map V.int) → sp w [.ref a] H (fun v _ => v = .bl true) fun _ _ _ => False) :
    PySem.W.WalkO q loose XP YP l.row.toRowW d [] (fun f vs => PySem.call f vs) := by
  apply Att.attach_call most nodef
  intro w _ z mg mb fa _ _ _ _ a vs ns ground y _ _ _ named hobj areInts len gens
  obtain ⟨fd, bind, hF⟩ := F w mg fa _ (hY w _ y) ground.T.g named
  exact lawG_call (hY w _ y) ground.T.g ground.T.b ground.T.builtins ground.T.nolimit gens hobj areInts (Nat.le_trans len most2) room hF bind fun H hO hS => wish w H a ns len hO hS
end Ct

/-! an exception that is kept as a value behind its except suite: caught = e; isinstance of it -/
namespace Ct
open PySem PySem.Spec PyProof.Rows L2
/-- an exception object of the class cls at a, without a dict -/
def KeptX (cls : Value) (a : Addr) : HO := .ext fun h => ∃ (oe : Obj) (vs : Array Value), h.get? a = some oe ∧ Zc cls none oe ∧ oe.data = .fields vs
theorem keptX_ok {P : Program} {w : World} {H : Hp} {h : Heap} {a : Addr} {cls : Value} {oe : Obj} {vs : Array Value} (e : h.get? a = some oe) (z : Zc cls none oe) (d : oe.data = .fields vs) : ObjOk P w H h a (KeptX cls a) :=
  ⟨⟨oe, vs, e, z, d⟩, ⟨oe, e⟩, fun _ _ ⟨o, v, q, r⟩ k => ⟨o, v, k o q, r⟩⟩
section
variable {X : Cx} {pins : List (Addr × Obj)} {σ : L2.St} {H : Hp} {s : Shared}
/-- an object that came behind the entry and is not tracked yet may be tracked from here on -/
theorem track {a : Addr} {oe : Obj} {u : HO} (J : Inv X pins σ H s) (na : H a = none) (nL : a ≠ X.env.locals) (ha : s.heap.get? a = some oe) (nc : ∀ v, oe.data ≠ .cell v) (new0 : X.s_0.heap.get? a = none) (np : ∀ p ∈ X.pn ++ pins, p.1 ≠ a)
    (ok : ObjOk X.prog X.w (upd H a u) s.heap a u) : Inv X pins σ (upd H a u) s := by
  have apart : ∀ {b : Addr} {o : HO}, H b = some o → b ≠ a := fun e z => by rw [z, na] at e; cases e
  refine { ok := J.ok, os := J.os, bare := J.bare, base := ?_, loc := J.loc, cell := J.cell, free := ?_, freeC := ?_, pin := ?_, hok := ?_, len := J.len }
  · refine { keep := J.base.keep, slot := J.base.slot, free := ?_, there := J.base.there, tups := ?_, frzs := ?_, tbls := ?_ }
    · intro b o e n hx
      rw [upd_ne (fun z => by rw [z, new0] at e; cases e)]
      exact J.base.free b o e n hx
    · intro b xs e
      have q := J.base.tups b xs e
      rw [upd_ne (apart q)]
      exact q
    · intro b o xs e
      have q := J.base.frzs b o xs e
      rw [upd_ne (apart q)]
      exact q
    · intro b ps e
      obtain ⟨m, q⟩ := J.base.tbls b ps e
      exact ⟨m, by rw [upd_ne (apart q)]; exact q⟩
  · rw [upd_ne (Ne.symm nL)]
    exact J.free
  · intro x c e
    have nca : c ≠ a := fun z => by
      obtain ⟨v, o, ho, hd⟩ := J.cell x c e
      rw [z, ha] at ho
      cases ho
      exact nc v hd
    rw [upd_ne nca]
    exact J.freeC x c e
  · intro p hp
    obtain ⟨q1, q2, q3, q4, q5⟩ := J.pin p hp
    exact ⟨q1, by rw [upd_ne (np p hp)]; exact q2, q3, q4, q5⟩
  · intro b o e
    by_cases c : b = a
    · subst c
      rw [upd_same] at e
      cases e
      exact ok
    · rw [upd_ne c] at e
      exact (J.hok b o e).stay (fun _ _ _ q => q) (fun d q => by rw [upd_ne (apart q)]; exact q) (fun d xs q => by rw [upd_ne (apart q)]; exact q)
end
/-- what the clause 'except x as n: suite' wishes of an exception of the body, where it takes every one: slot i is n's; behind the suite the exception is tracked -/
def wKeep (K : PySem.W.Frag) (c : Value) (i : Nat) (ts : TS) (D : Ends) : WX := fun cls d σ H =>
  d = none ∧ PySem.W.exmOne K cls c = some true ∧ ∀ a, H a = none →
    ts { nx := fun σ' H' => H' a = none → D.nx (σ'.set i none) (upd H' a (KeptX cls a)), rt := fun _ _ => False, bk := fun _ _ => False, ct := fun _ _ => False } (σ.set i (some (.ref a))) H
section
variable {X : Cx} {x n : Str} {c : Value} {i : Nat} {body suite : List Stmt} {b₀ : Stmt} {np pos pos' : Pos} {tb : WX → TS} {ts : TS}
theorem ps_try_keep (hs : X.stack = X.env :: X.outer) (hf : X.env.frame = some X.env.locals) (hex : X.ex = []) (nd : X.N.Nodup) (hi : X.N[i]? = some n) (loc : X.env.kindOf n = some .local) (hc : Names X x c)
    (inner : ∀ (W : WX) (pn : List (Addr × Obj)) (xe : Value → Shared → Prop), Takes (X.tr pn xe) W → PassesOwn (model X.prog X.w) X.A X.env xe → PSs (X.tr pn xe) body (tb W))
    (handler : ∀ (a : Addr) (pn : List (Addr × Obj)), PSs (X.suite a pn) (b₀ :: suite) ts) :
    PS X (.Try body [.ExceptHandler (some (.Name x np)) (some n) (b₀ :: suite) pos'] [] [] pos) (fun D σ H => tb (wKeep X.K c i ts D) D σ H) := by
  constructor
  intro pins s σ H D J0 h
  have ok := J0.ok
  have frames : X.A.frames = some (X.env :: X.outer) := by rw [ok.frames, hs]
  refine wpAny_Try_except ?_
  have caught : Takes (X.tr (X.pn ++ pins) fun e s₁ => wpAny (model X.prog X.w) X.A (noteFrame e X.env) (fun _ s₂ => wpAny (model X.prog X.w) X.A (setFlight e none) (fun _ s₃ =>
      wpAny (model X.prog X.w) X.A (handleBy e X.env [.ExceptHandler (some (.Name x np)) (some n) (b₀ :: suite) pos']) (SP X pins D) X.xe s₃) X.xe s₂) X.xe s₁) (wKeep X.K c i ts D) := by
    rintro er s1 ⟨a, B, sI, pins1, σ1, H1, cls, d, rfl, J1, ground, slots, sky, na, os, gens, rfl, takes, go⟩
    have J : Inv X pins σ1 H1 sI := J1.ofTry ok
    have sky' : Sky B (X.env :: X.outer) a (Zc cls none) X.env.locals s1.heap := hs ▸ sky
    refine Sky.land Zc.steady frames hf sky' ?_
    intro h2 fl2 up2
    have J2 : Inv X pins σ1 H1 { s1 with heap := h2 } := J.landed ground fl2.1 (slots.trans up2) os gens
    obtain ⟨oe2, vs2, he2, hz2, hd2⟩ := fl2.there
    have outFr : a ∉ frs (X.env :: X.outer) := fun m => by
      obtain ⟨_, o1, e1, nf⟩ := fl2.2.2.1.mem m
      rw [he2] at e1
      cases e1
      exact nf _ hd2
    have nL : a ≠ X.env.locals := fun z => outFr (List.mem_filterMap.mpr ⟨X.env, List.mem_cons_self, by rw [hf, z]⟩)
    have nF : a ∉ X.fs := fun m => by
      obtain ⟨ev, he, q⟩ := List.mem_filterMap.mp m
      exact outFr (List.mem_filterMap.mpr ⟨ev, List.mem_cons_of_mem _ he, q⟩)
    have newB : B.get? a = none := fl2.2.1
    have gone : ∀ {b : Addr} {o : Obj}, sI.heap.get? b = some o → b ∉ frs X.stack → b ≠ a := fun {b o} e m z => by
      have q := ground b o e m
      rw [z, newB] at q
      cases q
    have new0 : X.s_0.heap.get? a = none := by
      cases e : X.s_0.heap.get? a with
      | none => rfl
      | some o =>
        obtain ⟨o1, q⟩ := J.base.there a o e (by rw [hex]; exact List.not_mem_nil)
        exact (gone q (by rw [hs]; exact outFr) rfl).elim
    have npin : ∀ p ∈ X.pn ++ pins, p.1 ≠ a := fun p hp => by
      obtain ⟨q1, _, q3, q4, _⟩ := J.pin p hp
      refine gone q1 fun m => ?_
      rw [hs] at m
      obtain ⟨ev, he, q⟩ := List.mem_filterMap.mp m
      rcases List.mem_cons.mp he with rfl | he
      · rw [hf] at q
        exact q3 (Option.some.inj q).symm
      · exact q4 (List.mem_filterMap.mpr ⟨ev, he, q⟩)
    have S2 := J2.suite he2 hd2 na nL nF
    refine wpAny_handleBy_cons (codeAny_handlers_test ?_) (by intro q; cases q)
    have kind : PySem.W.Looks (model X.prog X.w) h2 (typeOf (.ref a)) cls := fun A Q E s k q => wpAny_typeOf_ref (k _ _ he2) (by rw [hz2.1]; exact q)
    have asked := PySem.W.exm_one (M := model X.prog X.w) J2.kIn kind takes
    have named : ∀ {Q : Value → Shared → Prop} {E : Value → Shared → Prop}, Q c { s1 with heap := h2 } → wpAny (model X.prog X.w) (X.A.mark (some (.ref a))) (eval (.Name x np) X.env) Q E { s1 with heap := h2 } := by
      intro Q E q
      obtain ⟨g1, g2, g3⟩ := hc
      rcases g3 with g3 | ⟨g3, g4, g5⟩
      · exact ld_glob (X := X.suite a ((a, oe2) :: (X.pn ++ pins))) S2 g1 g3 q g2
      · exact ld_blt (X := X.suite a ((a, oe2) :: (X.pn ++ pins))) S2 g1 g3 g4 q g5 g2
    refine named (asked.here (codeAny_handlers_suite_as (HandSPX.lands_againZ fl2 ?_)))
    intro h3 fl3 up3
    have J3 : Inv X pins σ1 H1 { s1 with heap := h3 } := J.landed ground fl3.1 ((slots.trans up2).trans up3) os gens
    obtain ⟨oe3, vs3, he3, hz3, hd3⟩ := fl3.there
    have S3 := J3.suite he3 hd3 na nL nF
    refine store_ok (X := X.suite a ((a, oe3) :: (X.pn ++ pins))) (v := .ref a) S3 nd hi (.inl loc) rfl ?_ (.inr loc)
    intro s4 S4
    refine wpAny_mono ((handler a ((a, oe3) :: (X.pn ++ pins))).run [] s4 _ H1 _ S4 (go a na)) ?_ (fun _ _ z => z.elim)
    intro flow s5 out
    match flow, out with
    | .ret u, ⟨_, _, _, _, _, q⟩ => exact q.elim
    | .brk, ⟨_, _, _, q⟩ => exact q.elim
    | .cont, ⟨_, _, _, q⟩ => exact q.elim
    | .next, ⟨σ5, H5, S5, q5⟩ =>
      refine gone_ok (X := X.suite a ((a, oe3) :: (X.pn ++ pins))) S5 nd hi loc ?_
      intro s6 S6
      obtain ⟨p1, p2, _, _, p5⟩ := S6.pin (a, oe3) (List.mem_append_left _ List.mem_cons_self)
      exact ⟨_, _, track (S6.unsuite ok) p2 nL p1 p5 new0 npin (keptX_ok p1 hz3 hd3), q5 p2⟩
  refine wpAny_mono ((inner _ _ _ caught PassesOwn.looking).run [] s σ H D (J0.toTry _) h) ?_ (fun _ _ q => q)
  intro flow s1 out
  match flow, out with
  | .next, ⟨σ1, H1, J1, q⟩ => exact wpAny_execs_nil ⟨σ1, H1, J1.ofTry ok, q⟩
  | .brk, ⟨σ1, H1, J1, q⟩ => exact ⟨σ1, H1, J1.ofTry ok, q⟩
  | .cont, ⟨σ1, H1, J1, q⟩ => exact ⟨σ1, H1, J1.ofTry ok, q⟩
  | .ret u, ⟨v, σ1, H1, J1, r, q⟩ => exact ⟨v, σ1, H1, J1.ofTry ok, r, q⟩
end
/-- isinstance of a kept exception of the class at D -/
def rIsX (K : PySem.W.Frag) : List V → Hp → VK → Prop := fun xs H Q => ∃ (a D : Addr) (c : V) (u : Value) (b : Bool), xs = [.ref a, c] ∧ H a = some (KeptX (.ref D) a) ∧ ExcC K D ∧ ClsV c u ∧ PySem.W.kitOne K (.ref D) u = some b ∧ Q (.bl b) H
def rIsXT (K : PySem.W.Frag) : List V → Hp → VK → Prop := fun xs H Q => ∃ (a D tp : Addr) (cs : List V) (us : List Value) (b : Bool), xs = [.ref a, .ref tp] ∧ H a = some (KeptX (.ref D) a) ∧ ExcC K D ∧ H tp = some (.tup cs) ∧ Paired ClsV cs us ∧ PySem.W.kitAny K (.ref D) us = some b ∧ Q (.bl b) H
section
variable {X : Cx}
theorem kept_inst {pins : List (Addr × Obj)} {σ : L2.St} {H : Hp} {s : Shared} {a D : Addr} (J : Inv X pins σ H s) (e : H a = some (KeptX (.ref D) a)) : ∃ oe, PySem.W.InstAt s.heap a oe D none := by
  obtain ⟨⟨oe, vs, h1, hz, hd⟩, _, _⟩ := (show ObjOk X.prog X.w H s.heap a (KeptX (.ref D) a) from J.hok a _ e)
  obtain ⟨oc, od, oda, osl⟩ := oe
  obtain ⟨z1, z2⟩ := hz
  dsimp only at z1 z2 hd
  subst z1 z2 hd
  exact ⟨_, h1, rfl, rfl, trivial⟩
theorem call_isX : CallR X (.builtin "isinstance") (rIsX X.K) := by
  rintro pins s σ H xs us Q J r ⟨a, D, c, u, b, rfl, e, C, k, kit, q⟩
  obtain ⟨u1, u2, rfl, r1, r2⟩ := vals2 r
  cases (show u1 = Value.ref a from r1)
  cases k.eq r2
  obtain ⟨oe, I1⟩ := kept_inst J e
  exact PySem.W.kia_one (PySem.W.handS_kitx_exc C.hg C.hk C.hs C.hd C.ha C.hn C.ht C.hm) J.kIn I1 kit (fun z => nomatch z) fun tk => ⟨.bl b, H, J.tok tk, rfl, q⟩
theorem call_isXT : CallR X (.builtin "isinstance") (rIsXT X.K) := by
  rintro pins s σ H xs us Q J r ⟨a, D, tp, cs, ws, b, rfl, e, C, tup, k, kit, q⟩
  obtain ⟨u1, u2, rfl, r1, r2⟩ := vals2 r
  cases (show u1 = Value.ref a from r1)
  cases (show u2 = Value.ref tp from r2)
  obtain ⟨oe, I1⟩ := kept_inst J e
  obtain ⟨_, its, rv, ⟨oc, od, dt, sl⟩, h1, h2, m, h3⟩ := (show ObjOk X.prog X.w H s.heap tp (.tup cs) from J.hok tp _ tup)
  cases ClsV.all k rv
  simp only at h2 h3
  cases h2
  cases h3
  exact PySem.W.kia_tup (PySem.W.handS_kitx_exc C.hg C.hk C.hs C.hd C.ha C.hn C.ht C.hm) J.kIn I1 h1 kit (fun z => nomatch z) fun tk => ⟨.bl b, H, J.tok tk, rfl, q⟩
end
end Ct

/-! data that may be shown (str of a list), and what is raised -/
namespace Ct
open PySem PySem.Spec PyProof.Rows L2
mutual
/-- numbers below 2 ** 200, texts, no dict -/
def okN : PyData → Bool
  | .none => true
  | .bool _ => true
  | .int i => decide (i.natAbs < 2 ^ 200)
  | .str x => PyData.canLay0 (.str x)
  | .list xs => okAll xs
  | .tuple xs => okAll xs
  | .dict _ => false
def okAll : List PyData → Bool
  | [] => true
  | x :: xs => okN x && okAll xs
end
mutual
/-- how many things stand in it -/
def bulkN : PyData → Nat
  | .none => 0
  | .bool _ => 0
  | .int _ => 0
  | .str x => x.cps.size
  | .list xs => bulkAll xs
  | .tuple xs => bulkAll xs
  | .dict _ => 0
def bulkAll : List PyData → Nat
  | [] => 0
  | x :: xs => bulkN x + 1 + bulkAll xs
end
theorem log2_200 {n : Nat} (h : n < 2 ^ 200) (hn : n ≠ 0) : n.log2 < 200 := (Nat.log2_lt hn).mpr h
theorem short_int {i : Int} (h : i.natAbs < 2 ^ 200) : (PyData.shown (.int i)).length ≤ 100 := by
  have e := int_text_length_le10 (k := 61) (by decide) (Nat.lt_of_lt_of_le h (by decide +kernel))
  show (Str.ofString (toString i)).length ≤ 100
  rw [PySem.ofString_length]
  omega
mutual
theorem okN_facts : ∀ d : PyData, okN d = true → d.canLay0 = true ∧ d.showable = true ∧ d.hasDict = false ∧ d.leavesShort 100 = true ∧ d.weight ≤ 203 * bulkN d + 202
  | .none, _ => ⟨rfl, rfl, rfl, rfl, Nat.zero_le _⟩
  | .bool _, _ => ⟨rfl, rfl, rfl, rfl, Nat.zero_le _⟩
  | .int i, h => by
    have h' : i.natAbs < 2 ^ 200 := of_decide_eq_true h
    refine ⟨rfl, ?_, rfl, decide_eq_true (short_int h'), ?_⟩
    · show decide (i.natAbs.log2 < 1920) = true
      by_cases c : i.natAbs = 0
      · rw [c]; decide
      · exact decide_eq_true (Nat.lt_trans (log2_200 h' c) (by decide))
    · show (if i == 0 then 0 else i.natAbs.log2 + 1) ≤ 203 * 0 + 202
      split
      · exact Nat.zero_le _
      · by_cases c : i.natAbs = 0
        · rw [c]; decide
        · have := log2_200 h' c
          omega
  | .str x, h => by
    refine ⟨h, rfl, rfl, PyData.leavesShort_of_canLay0 100 (.str x) h rfl, ?_⟩
    show x.cps.size ≤ 203 * x.cps.size + 202
    omega
  | .list xs, h => by
    obtain ⟨h1, h2, h3, h4, h5⟩ := okAll_facts xs h
    refine ⟨h1, h2, h3, h4, ?_⟩
    show PyData.weightAll xs ≤ 203 * bulkAll xs + 202
    omega
  | .tuple xs, h => by
    obtain ⟨h1, h2, h3, h4, h5⟩ := okAll_facts xs h
    refine ⟨h1, h2, h3, h4, ?_⟩
    show PyData.weightAll xs ≤ 203 * bulkAll xs + 202
    omega
  | .dict _, h => nomatch h
theorem okAll_facts : ∀ xs : List PyData, okAll xs = true → PyData.canLayAll0 xs = true ∧ PyData.showableAll xs = true ∧ PyData.hasDictAll xs = false ∧ PyData.leavesShortAll 100 xs = true ∧ PyData.weightAll xs ≤ 203 * bulkAll xs
  | [], _ => ⟨rfl, rfl, rfl, rfl, Nat.le_refl _⟩
  | x :: xs, h => by
    have h' : okN x = true ∧ okAll xs = true := by rw [okAll, Bool.and_eq_true] at h; exact h
    obtain ⟨a1, a2, a3, a4, a5⟩ := okN_facts x h'.1
    obtain ⟨b1, b2, b3, b4, b5⟩ := okAll_facts xs h'.2
    refine ⟨?_, ?_, ?_, ?_, ?_⟩
    · rw [PyData.canLayAll0, a1, b1]; rfl
    · rw [PyData.showableAll, a2, b2]; rfl
    · rw [PyData.hasDictAll, a3, b3]; rfl
    · rw [PyData.leavesShortAll, a4, b4]; rfl
    · rw [PyData.weightAll, bulkAll]
      omega
end
/-- data that may be handed about, looked at and shown -/
structure Fine (d : PyData) (n m : Nat) : Prop where
  ok : okN d = true
  dep : d.depth ≤ n
  few : bulkN d ≤ m
theorem Fine.lay {d : PyData} {n m : Nat} (h : Fine d n m) : d.canLay0 = true := (okN_facts d h.ok).1
theorem Fine.mono {d : PyData} {n m n' m' : Nat} (h : Fine d n m) (e : n ≤ n') (e' : m ≤ m') : Fine d n' m' := ⟨h.ok, Nat.le_trans h.dep e, Nat.le_trans h.few e'⟩
theorem Fine.fits {d : PyData} {n m : Nat} (h : Fine d n m) (e : m ≤ 600) : d.shown.length ≤ sizeLine := by
  obtain ⟨_, _, _, s, w⟩ := okN_facts d h.ok
  have q := PyData.shown_le 100 (by decide) d s
  have w2 : d.weight ≤ 203 * 601 := by have := h.few; omega
  have w3 : (100 + 2) * d.weight ≤ 102 * (203 * 601) := Nat.mul_le_mul_left _ w2
  rw [sizeLine_eq]
  omega
/-- str of a list or a tuple of such data -/
def rStrD (K : PySem.W.Frag) : List V → Hp → VK → Prop := fun xs H Q => ∃ (a : Addr) (d : PyData), xs = [.ref a] ∧ Dp K H (.ref a) d ∧ Fine d 40 600 ∧ Q (.str d.shown) H
section
variable {X : Cx}
theorem call_strD (gd : X.A.guards = some []) (hu : X.A.units + 64 < cLine) : CallR X (.type "str") (rStrD X.K) := by
  rintro pins s σ H xs us Q J r ⟨a, d, rfl, hd, fine, q⟩
  obtain ⟨u, rfl, r1⟩ := vals1 r
  cases (show u = Value.ref a from r1)
  obtain ⟨as, rd⟩ := Dp.reads J d (.ref a) (.ref a) hd rfl
  obtain ⟨_, f2, f3, _, _⟩ := okN_facts d fine.ok
  refine str_of_reads rd f2 (fun z => by rw [f3] at z; cases z) gd (by have := fine.dep; omega) (fun _ _ e => e) ?_ (fine.fits (by decide))
  intro h' t tk keeps
  exact ⟨.str d.shown, H, J.kept (t' := tk) keeps, ⟨t, rfl⟩, q⟩
end
/-- a class of error of the text that is raised -/
structure ErrC (K : PySem.W.Frag) (mg : Str → Option Value) (x : Str) (C : Addr) : Prop where
  g : mg x = some (.ref C)
  kp : PySem.W.keepIn K (.ref C) = true
  ex : PySem.W.excIn K C [.type "ValueError", .type "Exception", .type "BaseException", .type "object"] "ValueError.__new__" = true
  sub : PySem.W.subIn K (.ref C) (.type "BaseException") = some true
  ty : PySem.W.typeIn K (.ref C) = some (.type "type")
  is : ExcC K C
def tRaise (C : Addr) (W : WX) : TS := fun _ σ H => W (.ref C) none σ H
theorem ps_raiseC {X : Cx} {W : WX} {x m : Str} {C : Addr} {j : Nat} {p p2 pos pos' : Pos} (calm : X.calm = true) (tk : Takes X W) (E : ErrC X.K X.mg x C) (hg : Gl X x) (hdb : (x == ("__debug__" : Str)) = false := by decide) :
    PS X (.Raise (some (.Call (.Name x p) [.Constant (.str m) j p2] [] pos)) none pos') (tRaise C W) :=
  ps_raise calm tk (pmk_own PySem.F.excBase_ValueError E.ex E.g E.kp (raises_own E.sub E.ty) hg hdb)
end Ct

/-! what is a train, a stand: of any data -/
namespace Ct
open PySem PySem.Spec PyProof.Rows L2
theorem eqv_text {h : PyData} {x : Str} (e : PyData.eqv h (.str x) = true) : h = .str x := by
  cases h with
  | str y => rw [PyData.eqv, beq_iff_eq] at e; rw [e]
  | none => exact nomatch e
  | bool b => cases b <;> exact nomatch e
  | int i => exact nomatch e
  | list xs => exact nomatch e
  | tuple xs => exact nomatch e
  | dict kvs => exact nomatch e
theorem eqv_word {h : PyData} {t : List PyData} {x : Str} (e : PyData.eqv (.tuple (h :: t)) (.tuple [.str x]) = true) : h = .str x ∧ t = [] := by
  cases t with
  | nil =>
    rw [PyData.eqv, PyData.eqvAll, Bool.and_eq_true] at e
    exact ⟨eqv_text e.1, rfl⟩
  | cons y r =>
    rw [PyData.eqv, PyData.eqvAll, Bool.and_eq_true] at e
    exact nomatch e.2
theorem marks_of : ∀ {ds : List PyData} {last z : Int}, risesD last z ds = true → ∃ ms : List Int, ds = ms.map PyData.int ∧ ms.Pairwise (· < ·) ∧ ∀ m ∈ ms, last < m ∧ m < z
  | [], _, _, _ => ⟨[], rfl, .nil, fun _ h => nomatch h⟩
  | .int m :: r, last, z, h => by
    by_cases c : m ≤ last ∨ z ≤ m
    · rw [risesD, if_pos c] at h
      cases h
    · rw [risesD, if_neg c] at h
      obtain ⟨ms, e, p, q⟩ := marks_of h
      refine ⟨m :: ms, by rw [e]; rfl, List.pairwise_cons.mpr ⟨fun x hx => (q x hx).1, p⟩, fun x hx => ?_⟩
      rcases List.mem_cons.mp hx with rfl | hx
      · omega
      · have := q x hx
        omega
  | .none :: _, _, _, h => nomatch h
  | .bool _ :: _, _, _, h => nomatch h
  | .str _ :: _, _, _, h => nomatch h
  | .list _ :: _, _, _, h => nomatch h
  | .tuple _ :: _, _, _, h => nomatch h
  | .dict _ :: _, _, _, h => nomatch h
theorem bulk_map (ms : List Int) : bulkAll (ms.map PyData.int) = ms.length := by
  induction ms with
  | nil => rfl
  | cons m r ih => rw [List.map_cons, bulkAll, ih, List.length_cons, bulkN]; omega
/-- a part, by what the checks look at -/
theorem part_of {d : PyData} (h : isP d = true) (ok : okN d = true) (few : bulkN d ≤ 900) : ∃ p : Part, d = p.data ∧ p.ok := by
  match d, h, ok, few with
  | .tuple (a :: t), h, ok, few =>
    rw [isP] at h
    split at h
    · rename_i e
      cases eqv_text e
      match t, h, ok, few with
      | [.int z, m], h, ok, few =>
        rw [wheelT, Bool.and_eq_true] at h
        have hz : 1 ≤ z := of_decide_eq_true h.1
        match m, h.2, ok, few with
        | .tuple ds, h2, ok, few =>
          obtain ⟨ms, rfl, p, q⟩ := marks_of (show risesD (-1) z ds = true from h2)
          rw [okN, okAll, okAll, Bool.and_eq_true, Bool.and_eq_true] at ok
          have hz2 : z.natAbs < 2 ^ 200 := of_decide_eq_true ok.2.1
          rw [bulkN, bulkAll, bulkAll, bulkAll, bulkN, bulkN, bulkN, bulk_map] at few
          exact ⟨.wheel z ms, rfl, hz, by omega, ⟨p, fun m hm => by have := q m hm; omega⟩, by omega⟩
    · split at h
      · rename_i _ e
        cases eqv_text e
        match t, h, ok with
        | [.int k], h, ok =>
          have hk : 1 ≤ k := of_decide_eq_true h
          rw [okN, okAll, okAll, Bool.and_eq_true, Bool.and_eq_true] at ok
          have hk2 : k.natAbs < 2 ^ 200 := of_decide_eq_true ok.2.1
          exact ⟨.spring k, rfl, hk, by omega⟩
      · rw [Bool.or_eq_true] at h
        rcases h with h | h
        · obtain ⟨rfl, rfl⟩ := eqv_word h
          exact ⟨.click, rfl, trivial⟩
        · obtain ⟨rfl, rfl⟩ := eqv_word h
          exact ⟨.rocker, rfl, trivial⟩
def isT : PyData → Bool
  | .list ds => !ds.isEmpty && ds.all isP
  | _ => false
theorem okAll_mem : ∀ {ds : List PyData}, okAll ds = true → ∀ d ∈ ds, okN d = true
  | x :: xs, h, d, hd => by
    rw [okAll, Bool.and_eq_true] at h
    rcases List.mem_cons.mp hd with rfl | hd
    · exact h.1
    · exact okAll_mem h.2 d hd
theorem bulk_mem : ∀ {ds : List PyData}, ∀ d ∈ ds, bulkN d + 1 ≤ bulkAll ds
  | x :: xs, d, hd => by
    rw [bulkAll]
    rcases List.mem_cons.mp hd with rfl | hd
    · omega
    · have := bulk_mem d hd
      omega
theorem bulk_len : ∀ ds : List PyData, ds.length ≤ bulkAll ds
  | [] => Nat.le_refl _
  | x :: xs => by
    have := bulk_len xs
    rw [bulkAll, List.length_cons]
    omega
theorem depth_mem : ∀ {ds : List PyData}, ∀ d ∈ ds, d.depth ≤ PyData.depthAll ds
  | x :: xs, d, hd => by
    rw [PyData.depthAll]
    rcases List.mem_cons.mp hd with rfl | hd
    · omega
    · have := depth_mem d hd
      omega
theorem parts_of : ∀ {ds : List PyData}, ds.all isP = true → okAll ds = true → bulkAll ds ≤ 900 → ∃ ps : List Part, ds = ps.map Part.data ∧ ∀ p ∈ ps, p.ok
  | [], _, _, _ => ⟨[], rfl, fun _ h => nomatch h⟩
  | d :: ds, h, ok, few => by
    rw [List.all_cons, Bool.and_eq_true] at h
    rw [okAll, Bool.and_eq_true] at ok
    rw [bulkAll] at few
    obtain ⟨p, rfl, hp⟩ := part_of h.1 ok.1 (by omega)
    obtain ⟨ps, rfl, hps⟩ := parts_of h.2 ok.2 (by omega)
    refine ⟨p :: ps, rfl, fun q hq => ?_⟩
    rcases List.mem_cons.mp hq with rfl | hq
    · exact hp
    · exact hps q hq
theorem train_of {d : PyData} {n m : Nat} (h : isT d = true) (f : Fine d n m) (e : m ≤ 900) : ∃ ps : List Part, d = .list (ps.map Part.data) ∧ (∀ p ∈ ps, p.ok) ∧ 1 ≤ ps.length := by
  match d, h, f with
  | .list ds, h, f =>
    rw [isT, Bool.and_eq_true] at h
    have few : bulkAll ds ≤ m := f.few
    obtain ⟨ps, rfl, hp⟩ := parts_of h.2 f.ok (by omega)
    refine ⟨ps, rfl, hp, ?_⟩
    cases ps with
    | nil => cases h.1
    | cons p r => rw [List.length_cons]; omega
/-- places, one for each part -/
def stOk : List Part → List PyData → Bool
  | [], [] => true
  | p :: ps, .int x :: es => decide (0 ≤ x) && decide (x < p.places) && stOk ps es
  | _, _ => false
def isSt (ps : List Part) : PyData → Bool
  | .tuple es => es.length == ps.length && stOk ps es
  | _ => false
end Ct
namespace Ct
theorem drop_at {α : Type} {l : List α} {n : Nat} {x : α} (h : l[n]? = some x) : l.drop n = x :: l.drop (n + 1) := by
  obtain ⟨hn, e⟩ := List.getElem?_eq_some_iff.mp h
  rw [List.drop_eq_getElem_cons hn, e]
end Ct
namespace Ct
open PySem PySem.Spec PyProof.Rows L2
theorem eqvAll_nil (t : List PyData) : PyData.eqvAll t [] = t.isEmpty := by cases t <;> rfl
theorem isP_str (x : Str) (t : List PyData) : isP (.tuple (.str x :: t)) = if x = "wheel" then wheelT t else if x = "spring" then springT t else if x = "click" ∨ x = "rocker" then t.isEmpty else false := by
  rw [isP]
  have e : ∀ y : Str, PyData.eqv (.str x) (.str y) = decide (x = y) := fun y => by
    rw [PyData.eqv]
    by_cases c : x = y
    · rw [c, decide_eq_true rfl, beq_self_eq_true]
    · rw [decide_eq_false c, beq_false_of_ne c]
  have e2 : ∀ y : Str, PyData.eqv (.tuple (.str x :: t)) (.tuple [.str y]) = (decide (x = y) && t.isEmpty) := fun y => by
    rw [PyData.eqv, PyData.eqvAll, e, eqvAll_nil]
  rw [e, e, e2, e2]
  by_cases c1 : x = "wheel"
  · rw [if_pos (decide_eq_true c1), if_pos c1]
  rw [if_neg (by rw [decide_eq_false c1]; exact Bool.false_ne_true), if_neg c1]
  by_cases c2 : x = "spring"
  · rw [if_pos (decide_eq_true c2), if_pos c2]
  rw [if_neg (by rw [decide_eq_false c2]; exact Bool.false_ne_true), if_neg c2]
  by_cases c3 : x = "click"
  · rw [if_pos (.inl c3), decide_eq_true c3, decide_eq_false (by rw [c3]; decide +kernel)]
    simp
  by_cases c4 : x = "rocker"
  · rw [if_pos (.inr c4), decide_eq_true c4, decide_eq_false c3]
    simp
  rw [if_neg (fun q => q.elim c3 c4), decide_eq_false c3, decide_eq_false c4]
  rfl
theorem isP_nostr {d : PyData} {t : List PyData} (h : ∀ x, d ≠ .str x) : isP (.tuple (d :: t)) = false := by
  cases c : isP (.tuple (d :: t)) with
  | false => rfl
  | true =>
    rw [isP] at c
    split at c
    · rename_i e
      exact absurd (eqv_text e) (h _)
    · split at c
      · rename_i _ e
        exact absurd (eqv_text e) (h _)
      · rw [Bool.or_eq_true] at c
        rcases c with c | c
        · exact absurd (eqv_word c).1 (h _)
        · exact absurd (eqv_word c).1 (h _)
end Ct
namespace Ct
open PySem PySem.Spec PyProof.Rows L2
theorem w_rNeS {H : Hp} {Q : VK} {x y : Str} {b : Bool} (e : (!decide (V.str x = V.str y)) = b) (h : Q (.bl b) H) : rNe (.str x) (.str y) H Q := by
  refine ⟨rfl, ?_⟩
  rw [e]
  exact h
end Ct
namespace Ct
open PySem PySem.Spec PyProof.Rows L2
theorem w_m1 {σ : L2.St} {H : Hp} {Q : VK} {r : V → List V → Hp → VK → Prop} {ta tb : TE} (h : ta σ H fun x H1 => (∃ a, x = .str a) ∧ tb σ H1 fun y H2 => r x [y] H2 Q) : tM1 r ta tb σ H Q := h
def W5 : List Str := ["train", "stand", "row", "count", "many"]
def pick5 (bs : List Bool) (i : Nat) : List Str := (((W5.zip bs).take i).filter (·.2)).map (·.1)
theorem pick5_succ {bs : List Bool} {i : Nat} {x : Str} {b : Bool} (h : (W5.zip bs)[i]? = some (x, b)) : pick5 bs (i + 1) = pick5 bs i ++ if b = true then [x] else [] := by
  unfold pick5
  rw [List.take_succ, h]
  cases b <;> simp
theorem pick5_len (bs : List Bool) (i : Nat) : (pick5 bs i).length ≤ i := by
  unfold pick5
  rw [List.length_map]
  exact Nat.le_trans (List.length_filter_le _ _) (List.length_take_le _ _)
/-- what the classes' own lines say of an error of the class at D -/
structure Kind (K : PySem.W.Frag) (D : Addr) (o : List Value) (c1 c2 c3 c4 c5 : Addr) (b1 b2 b3 b4 b5 : Bool) : Prop where
  ex : ExcC K D
  val : PySem.W.kitOne K (.ref D) (.type "ValueError") = some true
  oth : PySem.W.kitAny K (.ref D) o = some false
  k1 : PySem.W.kitOne K (.ref D) (.ref c1) = some b1
  k2 : PySem.W.kitOne K (.ref D) (.ref c2) = some b2
  k3 : PySem.W.kitOne K (.ref D) (.ref c3) = some b3
  k4 : PySem.W.kitOne K (.ref D) (.ref c4) = some b4
  k5 : PySem.W.kitOne K (.ref D) (.ref c5) = some b5
end Ct
namespace Ct
open PySem PySem.Spec PyProof.Rows L2
theorem w_callS {σ : L2.St} {H : Hp} {Q : VK} {sp : Sp} {E : L2.St → XK} {t : TA} (h : t σ H fun vs H1 => sp vs H1 Q (E σ)) : tCallS sp E t σ H Q := h
theorem join_train : Txt.join " " (pick5 [true, false, false, false, false] 5) = "train" := by decide +kernel
theorem join_stand : Txt.join " " (pick5 [false, true, false, false, false] 5) = "stand" := by decide +kernel
end Ct
namespace Ct
theorem isT_of {ps : List Part} (h : ∀ p ∈ ps, p.ok) (n : 1 ≤ ps.length) : isT (.list (ps.map Part.data)) = true := by
  have e : (ps.map Part.data).isEmpty = false := by
    cases ps with
    | nil => exact absurd n (by decide)
    | cons _ _ => rfl
  have a : (ps.map Part.data).all isP = true := List.all_eq_true.mpr fun d hd => by
    obtain ⟨p, hp, rfl⟩ := List.mem_map.mp hd
    exact isP_of (h p hp)
  rw [isT, e, a]
  rfl
end Ct
namespace Ct
open PySem PySem.Spec PyProof.Rows L2
theorem fine_two {d e : PyData} (fd : Fine d 30 290) (fe : Fine e 30 290) : Fine (.list [d, e]) 40 600 := by
  refine ⟨?_, ?_, ?_⟩
  · rw [okN, okAll, okAll, okAll, fd.ok, fe.ok]
    rfl
  · rw [PyData.depth, PyData.depthAll, PyData.depthAll, PyData.depthAll]
    have h1 := fd.dep
    have h2 := fe.dep
    omega
  · rw [bulkN, bulkAll, bulkAll, bulkAll]
    have h1 := fd.few
    have h2 := fe.few
    omega
theorem data_inj {p q : Part} (h : p.data = q.data) : p = q := by
  have im : ∀ ms ns : List Int, ms.map PyData.int = ns.map PyData.int → ms = ns := fun ms ns h => List.map_inj_right (fun _ _ z => PyData.int.inj z) |>.mp h
  cases p <;> cases q <;> simp only [Part.data, PyData.tuple.injEq, List.cons.injEq, PyData.str.injEq, PyData.int.injEq, and_true, reduceCtorEq, List.nil_eq, and_false, false_and] at h
  all_goals first
    | rfl
    | (obtain ⟨_, rfl, h2⟩ := h; rw [im _ _ h2])
    | (obtain ⟨_, rfl⟩ := h; rfl)
    | exact absurd h (by decide +kernel)
    | exact absurd h.1 (by decide +kernel)
theorem datas_inj {ps qs : List Part} (h : ps.map Part.data = qs.map Part.data) : ps = qs := (List.map_inj_right (fun _ _ z => data_inj z)).mp h
theorem isSt_same {ps qs : List Part} {e : PyData} (h : qs.map Part.data = ps.map Part.data) : isSt qs e = isSt ps e := by rw [datas_inj h]
end Ct
namespace Ct
open PySem PySem.Spec PyProof.Rows L2
/-- by looking -/
def fineB (n m : Nat) (d : PyData) : Bool := okN d && decide (d.depth ≤ n) && decide (bulkN d ≤ m)
theorem fine_by {n m : Nat} {ds : List PyData} (h : ds.all (fineB n m) = true) : ∀ d ∈ ds, Fine d n m := fun d hd => by
  have z := List.all_eq_true.mp h d hd
  rw [fineB, Bool.and_eq_true, Bool.and_eq_true] at z
  exact ⟨z.1.1, of_decide_eq_true z.1.2, of_decide_eq_true z.2⟩
end Ct
namespace Ct
open PySem PySem.Spec PyProof.Rows L2
theorem okAll_ints : ∀ {ms : List Int}, (∀ m ∈ ms, m.natAbs < 2 ^ 200) → okAll (ms.map PyData.int) = true
  | [], _ => rfl
  | m :: r, h => by
    rw [List.map_cons, okAll, okN, decide_eq_true (h m List.mem_cons_self), okAll_ints fun x hx => h x (List.mem_cons_of_mem _ hx)]
    rfl
theorem depth_ints : ∀ ms : List Int, PyData.depthAll (ms.map PyData.int) = 0
  | [] => rfl
  | m :: r => by rw [List.map_cons, PyData.depthAll, depth_ints r]; rfl
theorem fine_ints {ms : List Int} {n : Nat} (h : ∀ m ∈ ms, m.natAbs < 2 ^ 200) (l : ms.length ≤ n) : Fine (.tuple (ms.map PyData.int)) 1 n :=
  ⟨okAll_ints h, by rw [PyData.depth, depth_ints]; omega, by rw [bulkN, bulk_map]; exact l⟩
theorem fine_wheel {z : Int} {ms : List Int} (h1 : 1 ≤ z) (h2 : z < 2 ^ 200) (rs : Rise z ms) (l : ms.length ≤ 7) : Fine (Part.wheel z ms).data 2 16 := by
  have f := fine_ints (n := 7) (fun m hm => by have := rs.2 m hm; omega) l
  refine ⟨?_, ?_, ?_⟩
  · rw [Part.data, okN, okAll, okAll, okAll, okAll, f.ok, show okN (.int z) = true from decide_eq_true (by omega), show okN (.str "wheel") = true from by decide +kernel]
    rfl
  · rw [Part.data, PyData.depth, PyData.depthAll, PyData.depthAll, PyData.depthAll, PyData.depthAll]
    have := f.dep
    have e1 : (PyData.str "wheel").depth = 0 := rfl
    have e2 : (PyData.int z).depth = 0 := rfl
    omega
  · rw [Part.data, bulkN, bulkAll, bulkAll, bulkAll, bulkAll]
    have := f.few
    have e1 : bulkN (.str "wheel") = 5 := by decide +kernel
    have e2 : bulkN (.int z) = 0 := by rw [bulkN]
    omega
theorem fine_spring {z : Int} (h1 : 1 ≤ z) (h2 : z < 2 ^ 200) : Fine (Part.spring z).data 2 16 := by
  refine ⟨?_, ?_, ?_⟩
  · rw [Part.data, okN, okAll, okAll, okAll, show okN (.int z) = true from decide_eq_true (by omega), show okN (.str "spring") = true from by decide +kernel]
    rfl
  · rw [Part.data, PyData.depth, PyData.depthAll, PyData.depthAll, PyData.depthAll]
    have e1 : (PyData.str "spring").depth = 0 := rfl
    have e2 : (PyData.int z).depth = 0 := rfl
    omega
  · rw [Part.data, bulkN, bulkAll, bulkAll, bulkAll]
    have e1 : bulkN (.str "spring") = 6 := by decide +kernel
    have e2 : bulkN (.int z) = 0 := by rw [bulkN]
    omega
theorem fine_click : Fine Part.click.data 2 16 := ⟨by decide +kernel, by decide +kernel, by decide +kernel⟩
theorem fine_rocker : Fine Part.rocker.data 2 16 := ⟨by decide +kernel, by decide +kernel, by decide +kernel⟩
end Ct
namespace Ct
open PySem PySem.Spec PyProof.Rows L2
/-- a part that may be handed about and bent -/
def PF (p : Part) : Prop := Fine p.data 2 16 ∧ p.places < 2 ^ 199
end Ct
namespace Ct
open PySem PySem.Spec PyProof.Rows L2
theorem cut_to (xs : List V) (k : Nat) (h : k ≤ xs.length) : cutV xs none (some (k : Int)) = xs.take k := by
  unfold cutV
  rw [HT.sIx_none, HT.sIx_nat, List.drop_zero, Nat.min_eq_left h, Nat.sub_zero]
theorem cut_from (xs : List V) (k : Nat) (h : k + 1 ≤ xs.length) : cutV xs (some ((k : Int) + 1)) none = xs.drop (k + 1) := by
  unfold cutV
  rw [show ((k : Int) + 1) = ((k + 1 : Nat) : Int) from rfl, HT.sIx_none, HT.sIx_nat, Nat.min_eq_left h, List.take_of_length_le (by rw [List.length_drop]; omega)]
/-- a wheel or a spring of many figures -/
theorem big_wheel {n : Int} (h0 : 0 ≤ n) (h1 : n < 2147483648) : (Part.wheel (10 ^ 30 + n) [0, 5]).ok ∧ PF (.wheel (10 ^ 30 + n) [0, 5]) := by
  have e : (10 : Int) ^ 30 = 1000000000000000000000000000000 := by decide
  have rs : Rise (10 ^ 30 + n) [0, 5] := by
    refine ⟨by decide, fun m hm => ?_⟩
    simp only [List.mem_cons, List.not_mem_nil, or_false] at hm
    rcases hm with rfl | rfl <;> omega
  exact ⟨⟨by omega, by omega, rs, by decide⟩, fine_wheel (by omega) (by omega) rs (by decide), show 10 ^ 30 + n < 2 ^ 199 by omega⟩
theorem big_spring {n : Int} (h0 : 0 ≤ n) (h1 : n < 2147483648) : (Part.spring (10 ^ 30 + n)).ok ∧ PF (.spring (10 ^ 30 + n)) := by
  have e : (10 : Int) ^ 30 = 1000000000000000000000000000000 := by decide
  exact ⟨⟨by omega, by omega⟩, fine_spring (by omega) (by omega), show 10 ^ 30 + n < 2 ^ 199 by omega⟩
end Ct

/-! displays of data, read at once: what an expression gives is told by its data alone -/
namespace Ct
open PySem PySem.Spec PyProof.Rows L2
section
variable {K : PySem.W.Frag} {H0 : Hp} {σ : L2.St}
/-- t gives some value of the data d, over any heap that bears what H0 bears -/
def Gv (K : PySem.W.Frag) (H0 : Hp) (σ : L2.St) (t : TE) (d : PyData) : Prop := ∀ (H : Hp) (Q : VK), Same H0 H → (∀ v H', Same H H' → Dp K H' v d → Q v H') → t σ H Q
/-- .. a new list -/
def GvL (K : PySem.W.Frag) (H0 : Hp) (σ : L2.St) (t : TE) (ds : List PyData) : Prop := ∀ (H : Hp) (Q : VK), Same H0 H → (∀ l vs H', Same H H' → H' l = some (.lst vs) → DpAll K H' vs ds → Q (.ref l) H') → t σ H Q
/-- .. a tuple -/
def GvT (K : PySem.W.Frag) (H0 : Hp) (σ : L2.St) (t : TE) (ds : List PyData) : Prop := ∀ (H : Hp) (Q : VK), Same H0 H → (∀ l vs H', Same H H' → SqT K H' l vs → DpAll K H' vs ds → Q (.ref l) H') → t σ H Q
def GvA (K : PySem.W.Frag) (H0 : Hp) (σ : L2.St) (t : TA) (ds : List PyData) : Prop := ∀ (H : Hp) (Q : List V → Hp → Prop), Same H0 H → (∀ vs H', Same H H' → DpAll K H' vs ds → Q vs H') → t σ H Q
/-- .. a number, whichever it is -/
def GvI (H0 : Hp) (σ : L2.St) (t : TE) (R : Int → Prop) : Prop := ∀ (H : Hp) (Q : VK), Same H0 H → (∀ i, R i → Q (.int i) H) → t σ H Q
theorem gv_int {i : Int} : Gv K H0 σ (tC (.int i)) (.int i) := fun H _ _ q => q _ H (Same.refl H) (.int i)
theorem gv_str {x : Str} : Gv K H0 σ (tC (.str x)) (.str x) := fun H _ _ q => q _ H (Same.refl H) (.str x)
theorem gv_bl {b : Bool} : Gv K H0 σ (tC (.bl b)) (.bool b) := fun H _ _ q => q _ H (Same.refl H) (.bl b)
theorem gv_non : Gv K H0 σ (tC .non) .none := fun H _ _ q => q _ H (Same.refl H) .non
theorem gv_var {i : Nat} {v : V} {d : PyData} (e : σ[i]? = some (some v)) (h : Dp K H0 v d) : Gv K H0 σ (tVar i) d := fun H _ s q => ⟨v, e, q v H (Same.refl H) (dp_same s h)⟩
theorem gv_nil : GvA K H0 σ tNil [] := fun H _ _ q => q [] H (Same.refl H) .nil
theorem gv_cons {t : TE} {ts : TA} {d : PyData} {ds : List PyData} (h : Gv K H0 σ t d) (hs : GvA K H0 σ ts ds) : GvA K H0 σ (tCons t ts) (d :: ds) := fun H Q s q =>
  h H _ s fun v H1 s1 hv => hs H1 _ (s.trans s1) fun vs H2 s2 hvs => q _ H2 (s1.trans s2) (.cons (dp_same s2 hv) hvs)
theorem gvT_tup {t : TA} {ds : List PyData} (h : GvA K H0 σ t ds) (l : ds.length ≤ 1000 := by first | decide | exact Nat.le_of_ble_eq_true rfl) : GvT K H0 σ (tTup t) ds := fun H Q s q =>
  h H _ s fun vs H1 s1 hvs => ⟨Nat.le_of_lt (small1000 (by rw [dpAll_len hvs]; exact l)), fun p np => q p vs _ (s1.trans (same_upd np)) (.of upd_same) (dpAll_same (same_upd np) hvs)⟩
theorem gvL_lst {t : TA} {ds : List PyData} (h : GvA K H0 σ t ds) (l : ds.length ≤ 1000 := by first | decide | exact Nat.le_of_ble_eq_true rfl) : GvL K H0 σ (tLst t) ds := fun H Q s q =>
  h H _ s fun vs H1 s1 hvs => ⟨Nat.le_of_lt (small1000 (by rw [dpAll_len hvs]; exact l)), fun p np => q p vs _ (s1.trans (same_upd np)) upd_same (dpAll_same (same_upd np) hvs)⟩
theorem GvT.gv {t : TE} {ds : List PyData} (h : GvT K H0 σ t ds) : Gv K H0 σ t (.tuple ds) := fun H _ s q => h H _ s fun _ _ H1 s1 h1 h2 => q _ H1 s1 (.tup h1 h2)
theorem GvL.gv {t : TE} {ds : List PyData} (h : GvL K H0 σ t ds) : Gv K H0 σ t (.list ds) := fun H _ s q => h H _ s fun _ _ H1 s1 h1 h2 => q _ H1 s1 (.lst (.of h1) h2)
theorem gvL_var {i : Nat} {l : Addr} {vs : List V} {ds : List PyData} (e : σ[i]? = some (some (.ref l))) (h : H0 l = some (.lst vs)) (hd : DpAll K H0 vs ds) : GvL K H0 σ (tVar i) ds := fun H _ s q =>
  ⟨_, e, q l vs H (Same.refl H) (s _ _ h) (dpAll_same s hd)⟩
theorem gvT_var {i : Nat} {l : Addr} {vs : List V} {ds : List PyData} (e : σ[i]? = some (some (.ref l))) (h : SqT K H0 l vs) (hd : DpAll K H0 vs ds) : GvT K H0 σ (tVar i) ds := fun H _ s q =>
  ⟨_, e, q l vs H (Same.refl H) (Same.tup s h) (dpAll_same s hd)⟩
theorem gvL_cat {ta tb : TE} {ds es : List PyData} (ha : GvL K H0 σ ta ds) (hb : GvL K H0 σ tb es) (l : ds.length + es.length ≤ 1000 := by first | decide | exact Nat.le_of_ble_eq_true rfl) : GvL K H0 σ (tOp rCat ta tb) (ds ++ es) := fun H Q s q =>
  ha H _ s fun a xs H1 s1 h1 d1 => hb H1 _ (s.trans s1) fun b ys H2 s2 h2 d2 =>
    ⟨a, b, xs, ys, rfl, rfl, s2 _ _ h1, h2, Nat.le_of_lt (small1000 (by rw [dpAll_len d1, dpAll_len d2]; exact l)), fun p np => q p _ _ ((s1.trans s2).trans (same_upd np)) upd_same (dpAll_same (same_upd np) (dpAll_app (dpAll_same s2 d1) d2))⟩
theorem GvL.use {t : TE} {ds : List PyData} {H : Hp} {Q : VK} (h : GvL K H σ t ds) (q : ∀ l vs H', Same H H' → H' l = some (.lst vs) → DpAll K H' vs ds → Q (.ref l) H') : t σ H Q := h H Q (Same.refl H) q
theorem GvT.use {t : TE} {ds : List PyData} {H : Hp} {Q : VK} (h : GvT K H σ t ds) (q : ∀ l vs H', Same H H' → SqT K H' l vs → DpAll K H' vs ds → Q (.ref l) H') : t σ H Q := h H Q (Same.refl H) q
theorem Gv.use {t : TE} {d : PyData} {H : Hp} {Q : VK} (h : Gv K H σ t d) (q : ∀ v H', Same H H' → Dp K H' v d → Q v H') : t σ H Q := h H Q (Same.refl H) q
theorem gv_rI0 {g : Int → Int → V} {i j k : Int} (e : g i j = .int k) : Gv K H0 σ (tOp (rI0 g) (tC (.int i)) (tC (.int j))) (.int k) := fun H _ _ q => ⟨i, j, rfl, rfl, by rw [e]; exact q _ H (Same.refl H) (.int k)⟩
theorem gv_pow {g : Int → Int → V} {i j k : Int} (c : CPowB i j) (e : g i j = .int k) : Gv K H0 σ (tOp (rI CPowB g) (tC (.int i)) (tC (.int j))) (.int k) := fun H _ _ q => ⟨i, j, rfl, rfl, c, by rw [e]; exact q _ H (Same.refl H) (.int k)⟩
theorem gv_rI0V {H0 : Hp} {i : Nat} {g : Int → Int → V} {v j k : Int} (e : σ[i]? = some (some (.int v))) (z : g v j = .int k) : Gv K H0 σ (tOp (rI0 g) (tVar i) (tC (.int j))) (.int k) := fun H _ _ q => ⟨_, e, ⟨v, j, rfl, rfl, by rw [z]; exact q _ H (Same.refl H) (.int k)⟩⟩
/-- one of a list: some of its data -/
theorem w_some {a : Addr} {xs : List V} {ds : List PyData} {r : Int} {H : Hp} {Q : VK} (h : SqL K H a xs) (hd : DpAll K H xs ds) (r0 : 0 ≤ r) (r1 : r < (ds.length : Int)) (q : ∀ v d, d ∈ ds → Dp K H v d → Q v H) : rIxL K (.ref a) (.int r) H Q := by
  obtain ⟨n, rfl⟩ : ∃ n : Nat, r = n := ⟨r.toNat, by omega⟩
  have hn : n < ds.length := by omega
  obtain ⟨v, hv, hdv⟩ := dpAll_get hd (List.getElem?_eq_getElem hn)
  exact w_ixL h (atI_nat hv) (q v _ (List.getElem_mem hn) hdv)
end
end Ct

/-! what an expression gives, by bounds of its data alone -/
namespace Ct
open PySem PySem.Spec PyProof.Rows L2
/-- items within bounds -/
structure FineA (ds : List PyData) (n m : Nat) : Prop where
  ok : okAll ds = true
  dep : PyData.depthAll ds ≤ n
  few : bulkAll ds ≤ m
theorem okAll_app : ∀ ds es : List PyData, okAll (ds ++ es) = (okAll ds && okAll es)
  | [], _ => rfl
  | d :: ds, es => by rw [List.cons_append, okAll, okAll, okAll_app ds es, Bool.and_assoc]
theorem bulk_app : ∀ ds es : List PyData, bulkAll (ds ++ es) = bulkAll ds + bulkAll es
  | [], es => by rw [List.nil_append, bulkAll]; omega
  | d :: ds, es => by rw [List.cons_append, bulkAll, bulkAll, bulk_app ds es]; omega
theorem depth_app : ∀ ds es : List PyData, PyData.depthAll (ds ++ es) = max (PyData.depthAll ds) (PyData.depthAll es)
  | [], es => by rw [List.nil_append, PyData.depthAll]; omega
  | d :: ds, es => by rw [List.cons_append, PyData.depthAll, PyData.depthAll, depth_app ds es]; omega
theorem FineA.app {ds es : List PyData} {n m k : Nat} (h : FineA ds n m) (g : FineA es n k) : FineA (ds ++ es) n (m + k) :=
  ⟨by rw [okAll_app, h.ok, g.ok]; rfl, by rw [depth_app]; have := h.dep; have := g.dep; omega, by rw [bulk_app]; have := h.few; have := g.few; omega⟩
theorem FineA.part {ds es fs : List PyData} {n m : Nat} (h : FineA (ds ++ es ++ fs) n m) : FineA es n m := by
  obtain ⟨h1, h2, h3⟩ := h
  rw [okAll_app, okAll_app, Bool.and_eq_true, Bool.and_eq_true] at h1
  rw [depth_app, depth_app] at h2
  rw [bulk_app, bulk_app] at h3
  exact ⟨h1.1.2, by omega, by omega⟩
theorem FineA.cut {ds : List PyData} {n m : Nat} (h : FineA ds n m) (i k : Nat) : FineA ((ds.drop i).take k) n m := by
  have e : ds.take i ++ (ds.drop i).take k ++ (ds.drop i).drop k = ds := by rw [List.append_assoc, List.take_append_drop, List.take_append_drop]
  rw [← e] at h
  exact h.part
theorem FineA.lst {ds : List PyData} {n m : Nat} (h : FineA ds n m) : Fine (.list ds) (n + 1) m := ⟨h.ok, by rw [PyData.depth]; have := h.dep; omega, h.few⟩
theorem FineA.tup {ds : List PyData} {n m : Nat} (h : FineA ds n m) : Fine (.tuple ds) (n + 1) m := ⟨h.ok, by rw [PyData.depth]; have := h.dep; omega, h.few⟩
theorem FineA.of_tup {ds : List PyData} {n m : Nat} (h : Fine (.tuple ds) (n + 1) m) : FineA ds n m := ⟨h.ok, by have := h.dep; rw [PyData.depth] at this; omega, h.few⟩
theorem FineA.one {d : PyData} {n m : Nat} (h : Fine d n m) : FineA [d] n (m + 1) :=
  ⟨by rw [okAll, okAll, h.ok]; rfl, by rw [PyData.depthAll, PyData.depthAll]; have := h.dep; omega, by rw [bulkAll, bulkAll]; have := h.few; omega⟩
theorem FineA.nil {n m : Nat} : FineA [] n m := ⟨rfl, Nat.zero_le _, Nat.zero_le _⟩
theorem FineA.mono {ds : List PyData} {n m n' m' : Nat} (h : FineA ds n m) (e : n ≤ n') (e' : m ≤ m') : FineA ds n' m' := ⟨h.ok, Nat.le_trans h.dep e, Nat.le_trans h.few e'⟩
theorem FineA.len {ds : List PyData} {n m : Nat} (h : FineA ds n m) : ds.length ≤ m := Nat.le_trans (bulk_len ds) h.few
theorem dpAll_cutD {K : PySem.W.Frag} {H : Hp} {vs : List V} {ds : List PyData} {n m : Nat} (lo hi : Option Int) (h : DpAll K H vs ds) (f : FineA ds n m) : ∃ es : List PyData, DpAll K H (cutV vs lo hi) es ∧ FineA es n m :=
  ⟨_, dpAll_take _ (dpAll_drop _ h), f.cut (HT.sIx vs.length 0 lo) (HT.sIx vs.length vs.length hi - HT.sIx vs.length 0 lo)⟩
section
variable {K : PySem.W.Frag} {H0 : Hp} {σ : L2.St} {n m k : Nat}
def FV (K : PySem.W.Frag) (H0 : Hp) (σ : L2.St) (t : TE) (n m : Nat) : Prop := ∀ (H : Hp) (Q : VK), Same H0 H → (∀ v d H', Same H H' → Dp K H' v d → Fine d n m → Q v H') → t σ H Q
def FL (K : PySem.W.Frag) (H0 : Hp) (σ : L2.St) (t : TE) (n m : Nat) : Prop := ∀ (H : Hp) (Q : VK), Same H0 H → (∀ l vs ds H', Same H H' → H' l = some (.lst vs) → DpAll K H' vs ds → FineA ds n m → Q (.ref l) H') → t σ H Q
def FT (K : PySem.W.Frag) (H0 : Hp) (σ : L2.St) (t : TE) (n m : Nat) : Prop := ∀ (H : Hp) (Q : VK), Same H0 H → (∀ l vs ds H', Same H H' → SqT K H' l vs → DpAll K H' vs ds → FineA ds n m → Q (.ref l) H') → t σ H Q
/-- len items, each within bounds -/
def FA (K : PySem.W.Frag) (H0 : Hp) (σ : L2.St) (t : TA) (n m : Nat) (len : Nat) : Prop := ∀ (H : Hp) (Q : List V → Hp → Prop), Same H0 H → (∀ vs ds H', Same H H' → DpAll K H' vs ds → (∀ d ∈ ds, Fine d n m) → ds.length = len → Q vs H') → t σ H Q
def FI (H0 : Hp) (σ : L2.St) (t : TE) : Prop := ∀ (H : Hp) (Q : VK), Same H0 H → (∀ i, Q (.int i) H) → t σ H Q
theorem FV.use {t : TE} {H : Hp} {Q : VK} (h : FV K H σ t n m) (q : ∀ v d H', Same H H' → Dp K H' v d → Fine d n m → Q v H') : t σ H Q := h H Q (Same.refl H) q
theorem Gv.fv {t : TE} {d : PyData} (h : Gv K H0 σ t d) (f : Fine d n m) : FV K H0 σ t n m := fun H _ s q => h H _ s fun v H' s' hv => q v d H' s' hv f
theorem fv_c {v : V} {d : PyData} (h : ∀ H, Dp K H v d) (f : Fine d n m) : FV K H0 σ (tC v) n m := fun H _ _ q => q v d H (Same.refl H) (h H) f
theorem fine_int {i : Int} (h : i.natAbs < 2 ^ 200) : Fine (.int i) n m := ⟨decide_eq_true h, Nat.zero_le _, by rw [bulkN]; exact Nat.zero_le _⟩
theorem fv_int {i : Int} (h : i.natAbs < 2 ^ 200 := by decide) : FV K H0 σ (tC (.int i)) n m := fv_c (fun _ => .int i) (fine_int h)
theorem fv_bl {b : Bool} : FV K H0 σ (tC (.bl b)) n m := fv_c (fun _ => .bl b) ⟨rfl, Nat.zero_le _, Nat.zero_le _⟩
theorem fv_non : FV K H0 σ (tC .non) n m := fv_c (fun _ => .non) ⟨rfl, Nat.zero_le _, Nat.zero_le _⟩
theorem fv_str {x : Str} (h : (okN (.str x) && decide (bulkN (.str x) ≤ m)) = true := by decide +kernel) : FV K H0 σ (tC (.str x)) n m := by
  rw [Bool.and_eq_true] at h
  exact fv_c (fun _ => .str x) ⟨h.1, Nat.zero_le _, of_decide_eq_true h.2⟩
theorem fv_var {i : Nat} {v : V} {d : PyData} (h : Dp K H0 v d) (f : Fine d n m) (e : σ[i]? = some (some v)) : FV K H0 σ (tVar i) n m := fun H _ s q => ⟨v, e, q v d H (Same.refl H) (dp_same s h) f⟩
theorem FV.mono {t : TE} {n' m' : Nat} (h : FV K H0 σ t n m) (e : n ≤ n') (e' : m ≤ m') : FV K H0 σ t n' m' := fun H _ s q => h H _ s fun v d H' s' hv f => q v d H' s' hv (f.mono e e')
theorem FT.fv {t : TE} (h : FT K H0 σ t n m) : FV K H0 σ t (n + 1) m := fun H _ s q => h H _ s fun _ _ _ H' s' h1 h2 f => q _ _ H' s' (.tup h1 h2) f.tup
theorem FL.fv {t : TE} (h : FL K H0 σ t n m) : FV K H0 σ t (n + 1) m := fun H _ s q => h H _ s fun _ _ _ H' s' h1 h2 f => q _ _ H' s' (.lst (.of h1) h2) f.lst
theorem ft_var {i : Nat} {l : Addr} {vs : List V} {ds : List PyData} (h : SqT K H0 l vs) (hd : DpAll K H0 vs ds) (f : FineA ds n m) (e : σ[i]? = some (some (.ref l))) : FT K H0 σ (tVar i) n m := fun H _ s q =>
  ⟨_, e, q l vs ds H (Same.refl H) (Same.tup s h) (dpAll_same s hd) f⟩
theorem fl_var {i : Nat} {l : Addr} {vs : List V} {ds : List PyData} (h : H0 l = some (.lst vs)) (hd : DpAll K H0 vs ds) (f : FineA ds n m) (e : σ[i]? = some (some (.ref l))) : FL K H0 σ (tVar i) n m := fun H _ s q =>
  ⟨_, e, q l vs ds H (Same.refl H) (s _ _ h) (dpAll_same s hd) f⟩
theorem ft_nil : FT K H0 σ (tTup tNil) n m := fun H Q s q => ⟨Nat.zero_le _, fun p np => q p [] [] _ (same_upd np) (.of upd_same) .nil .nil⟩
theorem fl_nil : FL K H0 σ (tLst tNil) n m := fun H Q s q => ⟨Nat.zero_le _, fun p np => q p [] [] _ (same_upd np) upd_same .nil .nil⟩
theorem ft_one {t : TE} (h : FV K H0 σ t n m) : FT K H0 σ (tTup (tCons t tNil)) n (m + 1) := fun H Q s q => h H _ s fun v d H1 s1 hv f =>
  ⟨len2 rfl, fun p np => q p [v] [d] _ (s1.trans (same_upd np)) (.of upd_same) (.cons (dp_same (same_upd np) hv) .nil) (.one f)⟩
theorem fl_one {t : TE} (h : FV K H0 σ t n m) : FL K H0 σ (tLst (tCons t tNil)) n (m + 1) := fun H Q s q => h H _ s fun v d H1 s1 hv f =>
  ⟨len2 rfl, fun p np => q p [v] [d] _ (s1.trans (same_upd np)) upd_same (.cons (dp_same (same_upd np) hv) .nil) (.one f)⟩
theorem ft_two {t u : TE} (h : FV K H0 σ t n m) (g : FV K H0 σ u n k) : FT K H0 σ (tTup (tCons t (tCons u tNil))) n (m + 1 + (k + 1)) := fun H Q s q => h H _ s fun v d H1 s1 hv f => g H1 _ (s.trans s1) fun v2 d2 H2 s2 hv2 f2 =>
  ⟨len2 rfl, fun p np => q p [v, v2] [d, d2] _ ((s1.trans s2).trans (same_upd np)) (.of upd_same) (.cons (dp_same (s2.trans (same_upd np)) hv) (.cons (dp_same (same_upd np) hv2) .nil)) (FineA.app (ds := [d]) (.one f) (.one f2))⟩
theorem ft_three {t u w : TE} {j : Nat} (h : FV K H0 σ t n m) (g : FV K H0 σ u n k) (g3 : FV K H0 σ w n j) : FT K H0 σ (tTup (tCons t (tCons u (tCons w tNil)))) n (m + 1 + ((k + 1) + (j + 1))) := fun H Q s q =>
  h H _ s fun v d H1 s1 hv f => g H1 _ (s.trans s1) fun v2 d2 H2 s2 hv2 f2 => g3 H2 _ ((s.trans s1).trans s2) fun v3 d3 H3 s3 hv3 f3 =>
  ⟨len2 rfl, fun p np => q p [v, v2, v3] [d, d2, d3] _ (((s1.trans s2).trans s3).trans (same_upd np)) (.of upd_same)
    (.cons (dp_same ((s2.trans s3).trans (same_upd np)) hv) (.cons (dp_same (s3.trans (same_upd np)) hv2) (.cons (dp_same (same_upd np) hv3) .nil))) (FineA.app (ds := [d]) (.one f) (FineA.app (ds := [d2]) (.one f2) (.one f3)))⟩
theorem ft_cat {ta tb : TE} (ha : FT K H0 σ ta n m) (hb : FT K H0 σ tb n k) (e : m + k ≤ 1000 := by decide) : FT K H0 σ (tOp (rCatA K) ta tb) n (m + k) := fun H Q s q =>
  ha H _ s fun a xs ds H1 s1 h1 d1 f1 => hb H1 _ (s.trans s1) fun b ys es H2 s2 h2 d2 f2 => by
    have d3 := dpAll_app (dpAll_same s2 d1) d2
    have f3 := f1.app f2
    refine ⟨a, b, xs, ys, rfl, rfl, Same.tup s2 h1, h2, Nat.le_of_lt (small1000 ?_), fun hx => ?_, fun _ hy => ?_, fun _ _ p np => ?_⟩
    · rw [dpAll_len d1, dpAll_len d2]
      have := f1.len
      have := f2.len
      omega
    · rw [hx, List.nil_append] at d3
      exact q b ys _ H2 (s1.trans s2) h2 d3 f3
    · rw [hy, List.append_nil] at d3
      exact q a xs _ H2 (s1.trans s2) (Same.tup s2 h1) d3 f3
    · exact q p _ _ _ ((s1.trans s2).trans (same_upd np)) (.of upd_same) (dpAll_same (same_upd np) d3) f3
theorem fl_cat {ta tb : TE} (ha : FL K H0 σ ta n m) (hb : FL K H0 σ tb n k) (e : m + k ≤ 1000 := by decide) : FL K H0 σ (tOp rCat ta tb) n (m + k) := fun H Q s q =>
  ha H _ s fun a xs ds H1 s1 h1 d1 f1 => hb H1 _ (s.trans s1) fun b ys es H2 s2 h2 d2 f2 => by
    refine ⟨a, b, xs, ys, rfl, rfl, s2 _ _ h1, h2, Nat.le_of_lt (small1000 ?_), fun p np => q p _ _ _ ((s1.trans s2).trans (same_upd np)) upd_same (dpAll_same (same_upd np) (dpAll_app (dpAll_same s2 d1) d2)) (f1.app f2)⟩
    rw [dpAll_len d1, dpAll_len d2]
    have := f1.len
    have := f2.len
    omega
/-- a bound of a slice: whichever it is -/
def FO (H0 : Hp) (σ : L2.St) (t : TO) : Prop := ∀ (H : Hp) (Q : Option Int → Hp → Prop), Same H0 H → (∀ i, Q i H) → t σ H Q
theorem fo_none : FO H0 σ tNoPart := fun _ _ _ q => q none
theorem fo_some {t : TE} (h : FI H0 σ t) : FO H0 σ (tPart t) := fun H Q s q => h H _ s fun i => ⟨i, rfl, q (some i)⟩
theorem fi_c {i : Int} : FI H0 σ (tC (.int i)) := fun _ _ _ q => q i
theorem fi_var {i : Nat} {x : Int} (e : σ[i]? = some (some (.int x))) : FI H0 σ (tVar i) := fun _ _ _ q => ⟨_, e, q x⟩
theorem fi_rI0 {g : Int → Int → Int} {ta tb : TE} (ha : FI H0 σ ta) (hb : FI H0 σ tb) : FI H0 σ (tOp (rI0 fun i j => .int (g i j)) ta tb) := fun H Q s q => ha H _ s fun i => hb H _ s fun j => ⟨i, j, rfl, rfl, q _⟩
theorem fi_neg {i : Int} {r : Int → V} (e : r i = .int (-i)) : FI H0 σ (tUn (rU r) (tC (.int i))) := fun H Q s q => ⟨i, rfl, by rw [e]; exact q _⟩
theorem fi_div {ta : TE} {j : Int} (ha : FI H0 σ ta) (h : ∀ i, CDivW i j) : FI H0 σ (tOp (rI CDivW fun i j => .int (i / j)) ta (tC (.int j))) := fun H Q s q => ha H _ s fun i => ⟨i, j, rfl, rfl, h i, q _⟩
theorem ft_sl {te : TE} {tl th : TO} (h : FT K H0 σ te n m) (hl : FO H0 σ tl) (hh : FO H0 σ th) : FT K H0 σ (tSl (rSlA K) te tl th) n m := fun H Q s q =>
  h H _ s fun a xs ds H1 s1 h1 d1 f1 => hl H1 _ (s.trans s1) fun lo => hh H1 _ (s.trans s1) fun hi => by
    obtain ⟨es, d2, f2⟩ := dpAll_cutD lo hi d1 f1
    exact ⟨a, xs, rfl, h1, fun _ => q a xs ds H1 s1 h1 d1 f1, fun _ p np => q p _ es _ (s1.trans (same_upd np)) (.of upd_same) (dpAll_same (same_upd np) d2) f2⟩
theorem fl_sl {te : TE} {tl th : TO} (h : FL K H0 σ te n m) (hl : FO H0 σ tl) (hh : FO H0 σ th) : FL K H0 σ (tSl (rSlL K) te tl th) n m := fun H Q s q =>
  h H _ s fun a xs ds H1 s1 h1 d1 f1 => hl H1 _ (s.trans s1) fun lo => hh H1 _ (s.trans s1) fun hi => by
    obtain ⟨es, d2, f2⟩ := dpAll_cutD lo hi d1 f1
    exact ⟨a, xs, rfl, .of h1, fun p np => q p _ es _ (s1.trans (same_upd np)) upd_same (dpAll_same (same_upd np) d2) f2⟩
theorem fa_nil : FA K H0 σ tNil n m 0 := fun H _ _ q => q [] [] H (Same.refl H) .nil (fun _ h => nomatch h) rfl
theorem fa_cons {t : TE} {ts : TA} {len : Nat} (h : FV K H0 σ t n m) (hs : FA K H0 σ ts n m len) : FA K H0 σ (tCons t ts) n m (len + 1) := fun H Q s q =>
  h H _ s fun v d H1 s1 hv f => hs H1 _ (s.trans s1) fun vs ds H2 s2 hvs fs e => q _ _ H2 (s1.trans s2) (.cons (dp_same s2 hv) hvs) (fun x hx => by
    rcases List.mem_cons.mp hx with rfl | hx
    · exact f
    · exact fs x hx) (by rw [List.length_cons, e])
/-- [.., .., ..][x % len] -/
theorem fv_pick {ta : TA} {tx : TE} {len : Nat} {j : Int} (h : FA K H0 σ ta n m len) (hx : FI H0 σ tx) (e : j = len) (p : 0 < j) (l : len ≤ 1000 := by decide) :
    FV K H0 σ (tOp (rIxL K) (tLst ta) (tOp (rI (fun _ j => 0 < j) fun i j => .int (i % j)) tx (tC (.int j)))) n m := fun H Q s q =>
  h H _ s fun vs ds H1 s1 hvs fs le => ⟨Nat.le_of_lt (small1000 (by rw [dpAll_len hvs, le]; exact l)), fun a na => hx _ _ ((s.trans s1).trans (same_upd na)) fun i => ⟨i, j, rfl, rfl, p, by
    refine w_some (.of upd_same) (dpAll_same (same_upd na) hvs) (Int.emod_nonneg _ (by omega)) (by rw [le, ← e]; exact Int.emod_lt_of_pos _ p) fun v d hd hv => ?_
    exact q v d _ (s1.trans (same_upd na)) hv (fs d hd)⟩⟩
theorem fv_listT {t : TE} {r : List V → Hp → VK → Prop} (h : FT K H0 σ t n m) (e : r = fun xs H Q => ∃ p ys, xs = [.ref p] ∧ (SqL K H p ys ∨ SqT K H p ys) ∧ ∀ l, H l = none → Q (.ref l) (upd H l (.lst ys))) : FL K H0 σ (tCB r (tCons t tNil)) n m := fun H Q s q =>
  h H _ s fun l vs ds H1 s1 h1 d1 f1 => by
    rw [e]
    exact ⟨l, vs, rfl, .inr h1, fun p np => q p vs ds _ (s1.trans (same_upd np)) upd_same (dpAll_same (same_upd np) d1) f1⟩
theorem fv_tupL {t : TE} {r : List V → Hp → VK → Prop} (h : FL K H0 σ t n m) (e : r = fun xs H Q => ∃ p ys, xs = [.ref p] ∧ ((SqL K H p ys ∧ ∀ l, H l = none → Q (.ref l) (upd H l (.tup ys))) ∨ (SqT K H p ys ∧ Q (.ref p) H))) : FT K H0 σ (tCB r (tCons t tNil)) n m := fun H Q s q =>
  h H _ s fun l vs ds H1 s1 h1 d1 f1 => by
    rw [e]
    exact ⟨l, vs, rfl, .inl ⟨.of h1, fun p np => q p vs ds _ (s1.trans (same_upd np)) (.of upd_same) (dpAll_same (same_upd np) d1) f1⟩⟩
end
end Ct
namespace Ct
open PySem PySem.Spec PyProof.Rows L2
theorem fineA_map : ∀ {ps : List Part}, (∀ p ∈ ps, Fine p.data 2 16) → FineA (ps.map Part.data) 2 (17 * ps.length)
  | [], _ => .nil
  | p :: ps, h => by
    have f := FineA.app (FineA.one (h p List.mem_cons_self)) (fineA_map fun q hq => h q (List.mem_cons_of_mem _ hq))
    refine f.mono (Nat.le_refl _) ?_
    rw [List.length_cons]
    omega
end Ct
namespace Ct
open PySem PySem.Spec PyProof.Rows L2
theorem fineA_ints {xs : List Int} {n m : Nat} (h : ∀ x ∈ xs, x.natAbs < 2 ^ 200) (l : xs.length ≤ m) : FineA (xs.map PyData.int) n m := ⟨okAll_ints h, by rw [depth_ints]; exact Nat.zero_le _, by rw [bulk_map]; exact l⟩
section
variable {K : PySem.W.Frag} {H0 : Hp} {σ : L2.St} {n m k : Nat}
/-- a list of items within bounds, laid -/
theorem FA.useL {t : TA} {len : Nat} {H : Hp} {Q : VK} (h : FA K H σ t n m len) (l : len ≤ 1000) (q : ∀ a vs ds H', Same H H' → H' a = some (.lst vs) → DpAll K H' vs ds → (∀ d ∈ ds, Fine d n m) → ds.length = len → Q (.ref a) H') : tLst t σ H Q :=
  h H _ (Same.refl H) fun vs ds H1 s1 hvs fs le => ⟨Nat.le_of_lt (small1000 (by rw [dpAll_len hvs, le]; exact l)), fun p np => q p vs ds _ (s1.trans (same_upd np)) upd_same (dpAll_same (same_upd np) hvs) fs le⟩
/-- xs[x % len] of such a list -/
theorem fv_pickV {i : Nat} {tx : TE} {a : Addr} {vs : List V} {ds : List PyData} {j : Int} (e : σ[i]? = some (some (.ref a))) (ha : H0 a = some (.lst vs)) (hd : DpAll K H0 vs ds) (fs : ∀ d ∈ ds, Fine d n m) (hx : FI H0 σ tx) (ej : j = ds.length) (p : 0 < j) :
    FV K H0 σ (tOp (rIxL K) (tVar i) (tOp (rI (fun _ j => 0 < j) fun i j => .int (i % j)) tx (tC (.int j)))) n m := fun H Q s q =>
  ⟨.ref a, e, hx _ _ s fun x => ⟨x, j, rfl, rfl, p, by
    refine w_some (.of (s _ _ ha)) (dpAll_same s hd) (Int.emod_nonneg _ (by omega)) (by rw [← ej]; exact Int.emod_lt_of_pos _ p) fun v d hd hv => ?_
    exact q v d _ (Same.refl H) hv (fs d hd)⟩⟩
end
end Ct

/-! t[::-1] of a tuple -/
namespace Ct
open PySem PySem.Spec PyProof.Rows L2
theorem pick_back_to (xs : Array Value) : ∀ k : Nat, k ≤ xs.size → ((List.range k).filterMap fun (k : Nat) => xs[((xs.size : Int) - 1 + (k : Int) * -1).toNat]?) = xs.toList.reverse.take k
  | 0, _ => rfl
  | k + 1, h => by
    have z : ((xs.size : Int) - 1 + (k : Int) * -1).toNat = xs.size - 1 - k := by omega
    have h2 : xs.size - 1 - k < xs.size := by omega
    have h3 : k < xs.toList.length := by rw [Array.length_toList]; omega
    rw [List.range_succ, List.filterMap_append, pick_back_to xs k (by omega), List.take_succ, List.getElem?_reverse h3]
    congr 1
    rw [List.filterMap_cons, List.filterMap_nil, z, Array.length_toList, Array.getElem?_toList, Array.getElem?_eq_getElem h2]
    rfl
theorem pick_back (xs : Array Value) : ((List.range xs.size).filterMap fun (k : Nat) => xs[((xs.size : Int) - 1 + (k : Int) * -1).toNat]?).toArray = xs.toList.reverse.toArray := by
  rw [pick_back_to xs xs.size (Nat.le_refl _), List.take_of_length_le (by simp)]
section
variable {prog : Program} {w : World} {A : Around} {E : Value → Shared → Prop} {s : Shared}
theorem back_applied {sl : Addr} {vl vu vs : Value} {n : Nat} {Q : Int × Int × Nat → Shared → Prop} (hs : s.heap.IsSliceOf sl vl vu vs) (pl : IsPart vl none) (pu : IsPart vu none) (pk : IsPart vs (some (-1)))
    (h : Q ((n : Int) - 1, -1, n) s) : wpAny (model prog w) A (Builtin.Slice.sliceApplied (.ref sl) (pure (n : Int))) Q E s := by
  obtain ⟨o, ho, _, hd⟩ := hs
  unfold Builtin.Slice.sliceApplied Builtin.Slice.sliceFields
  refine wpAny_bind (wpAny_bind (wpAny_field ho hd (x := vl) rfl (wpAny_bind (wpAny_field ho hd (x := vu) rfl (wpAny_bind (wpAny_field ho hd (x := vs) rfl (wpAny_pure ?_)))))))
  refine wpAny_bind (HT.slicePart_ pk ?_)
  show wpAny _ _ (if ((-1 : Int) == 0) = true then _ else _) _ _ s
  rw [if_neg (by decide)]
  refine wpAny_bind (HT.slicePart_ pl (wpAny_bind (HT.slicePart_ pu (wpAny_bind (wpAny_pure ?_)))))
  have e : Builtin.Slice.slicePlaces ((n : Int) - 1) (-1) (-1) = n := by
    unfold Builtin.Slice.slicePlaces
    rw [if_neg (by decide), Int.neg_neg, Int.ediv_one]
    split <;> omega
  show wpAny _ _ (pure ((n : Int) - 1, (-1 : Int), Builtin.Slice.slicePlaces ((n : Int) - 1) (-1) (-1))) _ _ s
  rw [e]
  exact wpAny_pure h
theorem back_item {t sl : Addr} {items : Array Value} {vl vu vs : Value} {Q : Value → Shared → Prop} (ht : IsTup s.heap t items) (hs : s.heap.IsSliceOf sl vl vu vs) (pl : IsPart vl none) (pu : IsPart vu none) (pk : IsPart vs (some (-1)))
    (h : Q (.ref s.heap.objs.size) { s with heap := s.heap.push { cls := .type "tuple", data := .seq items.toList.reverse.toArray } }) (fits : items.size ≤ sizeLine) : wpAny (model prog w) A (getItem (.ref t) (.ref sl)) Q E s := by
  have small : sizeOk (.seq items.toList.reverse.toArray) := by
    show items.toList.reverse.toArray.size ≤ sizeLine
    rw [List.size_toArray, List.length_reverse, Array.length_toList]
    exact fits
  obtain ⟨o, ho, hc, _⟩ := id hs
  have kind : s.TypeIs (.ref sl) "slice" := ⟨o, ho, hc⟩
  unfold getItem
  try with_reducible refine wpAny_holding ?_
  first | refine wpAny_bind (wpAny_pure ?_) | skip
  refine wpAny_bind (wpAny_sequenceKey ht.typeIs (by decide) ?_)
  refine wpAny_bind (wpAny_callSpecial?_slot (name := Str.ofString "__getitem__") ht.typeIs PyProof.Rows.slot_tuple_getitem (wpAny_call_entry PyProof.Rows.slot_tuple_getitem ht.typeIs PyProof.Rows.entry_tuple_getitem ?_ (PyProof.Rows.args_tuple_getitem _ _)))
  show wpAny _ _ (Builtin.Tuple.tupleItemsOf (.ref t) >>= _) _ _ s
  refine wpAny_bind (PyProof.Rows.tupleItemsOf_ ht (wpAny_bind (wpAny_typeOf kind ?_)))
  rw [if_pos (by decide)]
  refine wpAny_bind (back_applied hs pl pu pk ?_)
  show wpAny _ _ (if (((items.size : Int) - 1) == 0 && (-1 : Int) == 1 && items.size == items.size) = true then _ else _) _ _ s
  rw [if_neg (by rw [show ((-1 : Int) == 1) = false from rfl, Bool.and_false, Bool.false_and]; exact Bool.false_ne_true), pick_back]
  first
    | exact wpAny_bind (m := Builtin.Tuple.tupleExact _) (wpAny_newObj_type (wpAny_pure ⟨_, rfl, wpAny_pure h⟩) small)
    | exact wpAny_bind (m := Builtin.Tuple.tupleExact _) (wpAny_newObj_type (wpAny_bind (wpAny_pure (wpAny_pure ⟨_, rfl, wpAny_pure h⟩))) small)
    | exact wpAny_bind (wpAny_bind (m := Builtin.Tuple.tupleExact _) (wpAny_newObj_type (wpAny_pure (wpAny_pure ⟨_, rfl, wpAny_pure h⟩)) small))
    | exact wpAny_bind (wpAny_bind (m := Builtin.Tuple.tupleExact _) (wpAny_newObj_type (wpAny_pure ⟨_, rfl, wpAny_pure h⟩) small))
end
def tRevT (K : PySem.W.Frag) (te : TE) : TE := fun σ H Q => te σ H fun x H1 => ∃ a xs, x = .ref a ∧ SqT K H1 a xs ∧ ∀ p, H1 p = none → Q (.ref p) (upd H1 p (.tup xs.reverse))
section
variable {X : Cx}
theorem pe_revT {e : Expr} {te : TE} {k : Nat} {p1 p2 p3 pos : Pos} (he : PE X e te) : PE X (.Subscript e (.Slice none none (some (.UnaryOp .USub (.Constant (.int 1) k p1) p2)) p3) pos) (tRevT X.K te) := by
  constructor
  intro pins s σ H Q J h
  refine Subscript_ (thn (he.run pins s σ H _ J h) ?_)
  rintro v s1 ⟨x, H1, J1, r1, a, xs, rfl, hx, q⟩
  cases r1
  have step : PO X (some (.UnaryOp .USub (.Constant (.int 1) k p1) p2)) (tPart (tUn (rU fun i => .int (-i)) (tC (.int 1)))) := po_some (pe_un un_neg pe_int)
  refine wpAny_Slice (thn (po_none.run pins s1 σ H1 (fun o H2 => o = none ∧ H2 = H1) J1 ⟨rfl, rfl⟩) ?_)
  rintro vl s2 ⟨_, _, J2, pl, rfl, rfl⟩
  refine thn (po_none.run pins s2 σ _ (fun o H3 => o = none ∧ H3 = _) J2 ⟨rfl, rfl⟩) ?_
  rintro vu s3 ⟨_, _, J3, pu, rfl, rfl⟩
  refine thn (step.run pins s3 σ _ (fun o H4 => o = some (-1) ∧ H4 = _) J3 ⟨1, rfl, -1, rfl, rfl, rfl⟩) ?_
  rintro vs s4 ⟨_, H4, J4, pk, rfl, rfl⟩
  have J5 : Inv X pins σ H4 { s4 with heap := s4.heap.push { cls := .type "slice", data := .fields #[vl, vu, vs] } } := J4.kept (t' := s4.toks) fun b ob z => Heap.get?_push_of_some _ z
  obtain ⟨its, r, ht, hz⟩ := J5.tuple hx
  have len := r.length
  show wpAny (model X.prog X.w) X.A (subscriptTail e (.Slice none none (some (.UnaryOp .USub (.Constant (.int 1) k p1) p2)) p3) (.ref a) (.ref s4.heap.objs.size)) (EP X pins σ Q) X.xe { s4 with heap := s4.heap.push { cls := .type "slice", data := .fields #[vl, vu, vs] } }
  refine tail_any (ops := [.ref a, .ref s4.heap.objs.size]) ht.typeIs (PyProof.Rows.slot_tuple_getitem.lookup) ?_ (by with_unfolding_all rfl)
  refine back_item ht (Heap.IsSliceOf.new _ vl vu vs) pl pu pk ?_ (by rw [List.size_toArray]; omega)
  refine ⟨.ref _, _, J5.laid (t' := s4.toks) (o := .tup xs.reverse) (fun b ob z => Heap.get?_push_of_some _ z) (Nat.le_refl _) ?_, rfl, q _ (J5.hok.fresh (Nat.le_refl _))⟩
  exact ⟨by rw [List.length_reverse]; exact hz, _, r.reverse, ⟨_, Heap.get?_push_size _ rfl, rfl, _, rfl⟩⟩
theorem pe_revTw {K0 : PySem.W.Frag} (hK : X.K = K0) {e : Expr} {te : TE} {k : Nat} {p1 p2 p3 pos : Pos} (he : PE X e te) : PE X (.Subscript e (.Slice none none (some (.UnaryOp .USub (.Constant (.int 1) k p1) p2)) p3) pos) (tRevT K0 te) := by
  subst hK
  exact pe_revT he
end
end Ct

/-! .. of bounded data -/
namespace Ct
open PySem PySem.Spec PyProof.Rows L2
section
variable {K : PySem.W.Frag} {H0 : Hp} {σ : L2.St} {n m : Nat}
theorem okAll_rev : ∀ ds : List PyData, okAll ds.reverse = okAll ds
  | [] => rfl
  | d :: ds => by rw [List.reverse_cons, okAll_app, okAll_rev ds, okAll, okAll, okAll, Bool.and_true, Bool.and_comm]
theorem bulk_rev : ∀ ds : List PyData, bulkAll ds.reverse = bulkAll ds
  | [] => rfl
  | d :: ds => by rw [List.reverse_cons, bulk_app, bulk_rev ds, bulkAll, bulkAll, bulkAll]; omega
theorem depth_rev : ∀ ds : List PyData, PyData.depthAll ds.reverse = PyData.depthAll ds
  | [] => rfl
  | d :: ds => by rw [List.reverse_cons, depth_app, depth_rev ds, PyData.depthAll, PyData.depthAll, PyData.depthAll]; omega
theorem FineA.rev {ds : List PyData} (h : FineA ds n m) : FineA ds.reverse n m := ⟨by rw [okAll_rev]; exact h.ok, by rw [depth_rev]; exact h.dep, by rw [bulk_rev]; exact h.few⟩
theorem ft_rev {te : TE} (h : FT K H0 σ te n m) : FT K H0 σ (tRevT K te) n m := fun H Q s q => h H _ s fun a xs ds H1 s1 h1 d1 f1 =>
  ⟨a, xs, rfl, h1, fun p np => q p _ _ _ (s1.trans (same_upd np)) (.of upd_same) (dpAll_same (same_upd np) (dpAll_rev d1)) f1.rev⟩
theorem FA.useCat {i : Nat} {t : TA} {len : Nat} {H : Hp} {Q : VK} {a : Addr} {vs : List V} {ds : List PyData} (e : σ[i]? = some (some (.ref a))) (ha : H a = some (.lst vs)) (hd : DpAll K H vs ds) (fs : ∀ d ∈ ds, Fine d n m) (h : FA K H σ t n m len) (l : ds.length + len ≤ 1000)
    (q : ∀ a' vs' ds' H', Same H H' → H' a' = some (.lst vs') → DpAll K H' vs' ds' → (∀ d ∈ ds', Fine d n m) → ds'.length = ds.length + len → Q (.ref a') H') : tOp rCat (tVar i) (tLst t) σ H Q :=
  ⟨.ref a, e, h.useL (by omega) fun b ws es H1 s1 hb hw fw le => by
    refine ⟨a, b, vs, ws, rfl, rfl, s1 _ _ ha, hb, Nat.le_of_lt (small1000 ?_), fun p np => ?_⟩
    · rw [dpAll_len hd, dpAll_len hw, le]
      exact l
    refine q p _ (ds ++ es) _ (s1.trans (same_upd np)) upd_same (dpAll_same (same_upd np) (dpAll_app (dpAll_same s1 hd) hw)) (fun d hm => ?_) (by rw [List.length_append, le])
    rcases List.mem_append.mp hm with hm | hm
    · exact fs d hm
    · exact fw d hm⟩
theorem part_open {H : Hp} {v : V} {p : Part} (h : Dp K H v p.data) (f : Fine p.data 2 16) : ∃ (a : Addr) (x : Str) (ws : List V) (ds : List PyData), v = .ref a ∧ SqT K H a (.str x :: ws) ∧ DpAll K H (.str x :: ws) (.str x :: ds) ∧ FineA (.str x :: ds) 1 16 ∧ ∀ n, Fine (.str x) n 6 := by
  have fx : ∀ n, Fine (.str "wheel") n 6 ∧ Fine (.str "click") n 6 ∧ Fine (.str "rocker") n 6 ∧ Fine (.str "spring") n 6 := fun n => ⟨⟨by decide +kernel, Nat.zero_le _, by decide +kernel⟩, ⟨by decide +kernel, Nat.zero_le _, by decide +kernel⟩, ⟨by decide +kernel, Nat.zero_le _, by decide +kernel⟩, ⟨by decide +kernel, Nat.zero_le _, by decide +kernel⟩⟩
  cases p with
  | wheel z ms =>
    obtain ⟨a, b, rfl, ha, hb⟩ := wheel_inv h
    exact ⟨a, _, _, _, rfl, ha, .cons (.str _) (.cons (.int _) (.cons (.tup hb (dpAll_ints ms)) .nil)), .of_tup f, fun n => (fx n).1⟩
  | click =>
    obtain ⟨a, rfl, ha⟩ := click_inv h
    exact ⟨a, _, _, _, rfl, ha, .cons (.str _) .nil, .of_tup f, fun n => (fx n).2.1⟩
  | rocker =>
    obtain ⟨a, rfl, ha⟩ := rocker_inv h
    exact ⟨a, _, _, _, rfl, ha, .cons (.str _) .nil, .of_tup f, fun n => (fx n).2.2.1⟩
  | spring k =>
    obtain ⟨a, rfl, ha⟩ := spring_inv h
    exact ⟨a, _, _, _, rfl, ha, .cons (.str _) (.cons (.int _) .nil), .of_tup f, fun n => (fx n).2.2.2⟩
end
end Ct

/-! rows, stands and counts of any data: what is asked of a train, a stand and a row -/
namespace Ct
open PySem PySem.Spec PyProof.Rows L2
def isR (n : Int) : PyData → Bool
  | .list ds => ds.all fun d => isD d n
  | _ => false
def isC : PyData → Bool
  | .int i => decide (0 ≤ i)
  | _ => false
theorem deed_of {d : PyData} {n : Nat} (h : isD d n = true) (ok : okN d = true) : ∃ e : Deed, d = e.data ∧ e.ok n ∧ e.t < 2 ^ 200 := by
  match d, h, ok with
  | .tuple [.int i, .int w, .int t], h, ok =>
    have h' : (decide (0 ≤ i) && decide (i < (n : Int)) && (decide (w = 1) || decide (w = -1)) && decide (0 ≤ t)) = true := h
    simp only [Bool.and_eq_true, Bool.or_eq_true, decide_eq_true_eq] at h'
    obtain ⟨⟨⟨h1, h2⟩, h3⟩, h4⟩ := h'
    rw [okN, okAll, okAll, okAll, Bool.and_eq_true, Bool.and_eq_true, Bool.and_eq_true] at ok
    have ht : t.natAbs < 2 ^ 200 := of_decide_eq_true ok.2.2.1
    refine ⟨⟨i.toNat, w, t.toNat⟩, ?_, ⟨?_, h3⟩, ?_⟩
    · show PyData.tuple [.int i, .int w, .int t] = PyData.tuple [.int (i.toNat : Int), .int w, .int (t.toNat : Int)]
      rw [Int.toNat_of_nonneg h1, Int.toNat_of_nonneg h4]
    · show i.toNat < n
      omega
    · show t.toNat < 2 ^ 200
      omega
theorem deeds_of {n : Nat} : ∀ {ds : List PyData}, (ds.all fun d => isD d n) = true → okAll ds = true → ∃ es : List Deed, ds = es.map Deed.data ∧ ∀ e ∈ es, e.ok n ∧ e.t < 2 ^ 200
  | [], _, _ => ⟨[], rfl, fun _ h => nomatch h⟩
  | d :: ds, h, ok => by
    rw [List.all_cons, Bool.and_eq_true] at h
    rw [okAll, Bool.and_eq_true] at ok
    obtain ⟨e, rfl, he⟩ := deed_of h.1 ok.1
    obtain ⟨es, rfl, hes⟩ := deeds_of h.2 ok.2
    refine ⟨e :: es, rfl, fun x hx => ?_⟩
    rcases List.mem_cons.mp hx with rfl | hx
    · exact he
    · exact hes x hx
theorem row_of {r : PyData} {n k m : Nat} (h : isR n r = true) (f : Fine r k m) : ∃ es : List Deed, r = .list (es.map Deed.data) ∧ es.length ≤ m ∧ ∀ e ∈ es, e.ok n ∧ e.t < 2 ^ 200 := by
  match r, h, f with
  | .list ds, h, f =>
    obtain ⟨es, rfl, hes⟩ := deeds_of (show (ds.all fun d => isD d n) = true from h) f.ok
    have l := Nat.le_trans (bulk_len _) (show bulkAll (es.map Deed.data) ≤ m from f.few)
    rw [List.length_map] at l
    exact ⟨es, rfl, l, hes⟩
theorem places_of : ∀ {ps : List Part} {es : List PyData}, stOk ps es = true → (∀ p ∈ ps, p.ok) → ∃ xs : List Int, es = xs.map PyData.int ∧ StandL ps xs
  | [], [], _, _ => ⟨[], rfl, trivial⟩
  | p :: ps, .int x :: es, h, hp => by
    rw [stOk, Bool.and_eq_true, Bool.and_eq_true] at h
    obtain ⟨xs, rfl, hx⟩ := places_of h.2 fun q hq => hp q (List.mem_cons_of_mem _ hq)
    exact ⟨x :: xs, rfl, hp p List.mem_cons_self, of_decide_eq_true h.1.1, of_decide_eq_true h.1.2, hx⟩
  | [], _ :: _, h, _ => nomatch h
  | _ :: _, [], h, _ => nomatch h
  | _ :: _, .none :: _, h, _ => nomatch h
  | _ :: _, .bool _ :: _, h, _ => nomatch h
  | _ :: _, .str _ :: _, h, _ => nomatch h
  | _ :: _, .list _ :: _, h, _ => nomatch h
  | _ :: _, .tuple _ :: _, h, _ => nomatch h
  | _ :: _, .dict _ :: _, h, _ => nomatch h
theorem stand_of {ps : List Part} {e : PyData} (h : isSt ps e = true) (hp : ∀ p ∈ ps, p.ok) : ∃ xs : List Int, e = .tuple (xs.map PyData.int) ∧ StandL ps xs := by
  match e, h with
  | .tuple es, h =>
    rw [isSt, Bool.and_eq_true] at h
    obtain ⟨xs, rfl, hx⟩ := places_of h.2 hp
    exact ⟨xs, rfl, hx⟩
/-- what is due, and what then -/
def Ask (d e r : PyData) (T S R : Prop) (G : List Part → List Int → List Deed → Prop) : Prop :=
  (isT d = false ∧ T) ∨ ∃ ps : List Part, d = .list (ps.map Part.data) ∧ isT d = true ∧ (∀ p ∈ ps, p.ok) ∧ 1 ≤ ps.length ∧ ps.length ≤ 600 ∧
    ((isSt ps e = false ∧ S) ∨ ∃ xs : List Int, e = .tuple (xs.map PyData.int) ∧ isSt ps e = true ∧ StandL ps xs ∧
      ((isR ps.length r = false ∧ R) ∨ ∃ ds : List Deed, r = .list (ds.map Deed.data) ∧ isR ps.length r = true ∧ ds.length ≤ 600 ∧ (∀ d ∈ ds, d.ok ps.length ∧ d.t < 2 ^ 200) ∧ G ps xs ds))
theorem ask_by {d e r : PyData} {n m : Nat} (fd : Fine d n 600) (fr : Fine r m 600) : Ask d e r True True True fun _ _ _ => True := by
  cases c : isT d with
  | false => exact .inl ⟨c, trivial⟩
  | true =>
    obtain ⟨ps, rfl, hp, l⟩ := train_of c fd (by decide)
    have l2 := Nat.le_trans (bulk_len _) (show bulkAll (ps.map Part.data) ≤ 600 from fd.few)
    rw [List.length_map] at l2
    refine .inr ⟨ps, rfl, c, hp, l, l2, ?_⟩
    cases c2 : isSt ps e with
    | false => exact .inl ⟨rfl, trivial⟩
    | true =>
      obtain ⟨xs, rfl, hx⟩ := stand_of c2 hp
      refine .inr ⟨xs, rfl, rfl, hx, ?_⟩
      cases c3 : isR ps.length r with
      | false => exact .inl ⟨rfl, trivial⟩
      | true =>
        obtain ⟨ds, rfl, l3, hd⟩ := row_of c3 fr
        exact .inr ⟨ds, rfl, rfl, l3, hd, trivial⟩
/-- the places of parts, read back -/
theorem ints_inj {xs ys : List Int} (h : PyData.tuple (xs.map PyData.int) = .tuple (ys.map PyData.int)) : xs = ys := (List.map_inj_right fun _ _ z => PyData.int.inj z).mp (PyData.tuple.inj h)
theorem trains_inj {ps qs : List Part} (h : PyData.list (ps.map Part.data) = .list (qs.map Part.data)) : ps = qs := datas_inj (PyData.list.inj h)
theorem join_row : Txt.join " " (pick5 [false, false, true, false, false] 5) = "row" := by decide +kernel
theorem join_count : Txt.join " " (pick5 [false, false, false, true, false] 5) = "count" := by decide +kernel
theorem itR_1 (ps : List Part) (ds : List Deed) (xs : List Int) : itR ps ds 1 xs = rowL ps ds (xs, 0) := by
  show ((rowL ps ds (xs, 0)).1, 0 + (rowL ps ds (xs, 0)).2) = _
  rw [Int.zero_add]
theorem fineA_three {d e r : PyData} {n : Nat} (fd : Fine d n 290) (fe : Fine e n 100) (fr : Fine r n 100) : FineA [d, e, r] n 600 :=
  (FineA.app (ds := [d]) (.one fd) (FineA.app (ds := [e]) (.one fe) (.one fr))).mono (Nat.le_refl _) (by decide)
/-! a tuple of one thing or more that is tracked itself -/
def Held (K : PySem.W.Frag) (H : Hp) (v : V) (d : PyData) : Prop := ∀ ds, d = .tuple ds → ds ≠ [] → ∃ a vs, v = .ref a ∧ H a = some (.tup vs) ∧ DpAll K H vs ds
theorem Held.same {K : PySem.W.Frag} {H H' : Hp} {v : V} {d : PyData} (s : Same H H') (h : Held K H v d) : Held K H' v d := fun ds hd hn => by
  obtain ⟨a, vs, ha, e, q⟩ := h ds hd hn
  exact ⟨a, vs, ha, s _ _ e, dpAll_same s q⟩
/-- held, and told: its items are those -/
theorem Held.is {K : PySem.W.Frag} {H : Hp} {v : V} {xs : List Int} (h : Held K H v (.tuple (xs.map PyData.int))) (n : 1 ≤ xs.length) : ∃ a, v = .ref a ∧ H a = some (.tup (xs.map V.int)) := by
  obtain ⟨a, vs, ha, e, q⟩ := h _ rfl (fun z => by
    have := congrArg List.length z
    rw [List.length_map] at this
    exact absurd this (by show ¬ xs.length = 0; omega))
  cases dpAll_ints_inv xs q
  exact ⟨a, ha, e⟩
theorem held_not {K : PySem.W.Frag} {H : Hp} {v : V} {d : PyData} (h : ∀ ds, d ≠ .tuple ds) : Held K H v d := fun ds hd => absurd hd (h ds)
theorem held_tup {K : PySem.W.Frag} {H : Hp} {a : Addr} {vs : List V} {d : PyData} (h : H a = some (.tup vs)) (hd : ∀ ds, d = .tuple ds → DpAll K H vs ds) : Held K H (.ref a) d := fun ds e _ => ⟨a, vs, rfl, h, hd ds e⟩
section
variable {K : PySem.W.Frag} {H0 : Hp} {σ : L2.St} {n m k : Nat}
def FW (K : PySem.W.Frag) (H0 : Hp) (σ : L2.St) (t : TE) (n m : Nat) : Prop := ∀ (H : Hp) (Q : VK), Same H0 H → (∀ v d H', Same H H' → Dp K H' v d → Fine d n m → Held K H' v d → Q v H') → t σ H Q
def FWT (K : PySem.W.Frag) (H0 : Hp) (σ : L2.St) (t : TE) (n m : Nat) : Prop := ∀ (H : Hp) (Q : VK), Same H0 H → (∀ l vs ds H', Same H H' → H' l = some (.tup vs) → DpAll K H' vs ds → FineA ds n m → Q (.ref l) H') → t σ H Q
def FWA (K : PySem.W.Frag) (H0 : Hp) (σ : L2.St) (t : TA) (n m : Nat) (len : Nat) : Prop := ∀ (H : Hp) (Q : List V → Hp → Prop), Same H0 H → (∀ vs ds H', Same H H' → DpAll K H' vs ds → (∀ d ∈ ds, Fine d n m) → (∀ (i : Nat) (v : V) (d : PyData), vs[i]? = some v → ds[i]? = some d → Held K H' v d) → ds.length = len → Q vs H') → t σ H Q
theorem FW.use {t : TE} {H : Hp} {Q : VK} (h : FW K H σ t n m) (q : ∀ v d H', Same H H' → Dp K H' v d → Fine d n m → Held K H' v d → Q v H') : t σ H Q := h H Q (Same.refl H) q
theorem FW.mono {t : TE} {n' m' : Nat} (h : FW K H0 σ t n m) (e : n ≤ n') (e' : m ≤ m') : FW K H0 σ t n' m' := fun H _ s q => h H _ s fun v d H' s' hv f w => q v d H' s' hv (f.mono e e') w
theorem fw_c {v : V} {d : PyData} (h : ∀ H, Dp K H v d) (f : Fine d n m) (z : ∀ ds, d ≠ .tuple ds) : FW K H0 σ (tC v) n m := fun H _ _ q => q v d H (Same.refl H) (h H) f (held_not z)
theorem fw_int {i : Int} (h : i.natAbs < 2 ^ 200 := by decide) : FW K H0 σ (tC (.int i)) n m := fw_c (fun _ => .int i) (fine_int h) (fun _ z => nomatch z)
theorem fw_bl {b : Bool} : FW K H0 σ (tC (.bl b)) n m := fw_c (fun _ => .bl b) ⟨rfl, Nat.zero_le _, Nat.zero_le _⟩ (fun _ z => nomatch z)
theorem fw_non : FW K H0 σ (tC .non) n m := fw_c (fun _ => .non) ⟨rfl, Nat.zero_le _, Nat.zero_le _⟩ (fun _ z => nomatch z)
theorem fw_str {x : Str} (h : (okN (.str x) && decide (bulkN (.str x) ≤ m)) = true := by decide +kernel) : FW K H0 σ (tC (.str x)) n m := by
  rw [Bool.and_eq_true] at h
  exact fw_c (fun _ => .str x) ⟨h.1, Nat.zero_le _, of_decide_eq_true h.2⟩ (fun _ z => nomatch z)
theorem FL.fw {t : TE} (h : FL K H0 σ t n m) : FW K H0 σ t (n + 1) m := fun H _ s q => h H _ s fun _ _ _ H' s' h1 h2 f => q _ _ H' s' (.lst (.of h1) h2) f.lst (held_not fun _ z => nomatch z)
theorem FWT.fw {t : TE} (h : FWT K H0 σ t n m) : FW K H0 σ t (n + 1) m := fun H _ s q => h H _ s fun l vs ds H' s' h1 h2 f => q _ _ H' s' (.tup (.of h1) h2) f.tup (held_tup h1 fun _ z => by cases z; exact h2)
theorem FWT.ft {t : TE} (h : FWT K H0 σ t n m) : FT K H0 σ t n m := fun H _ s q => h H _ s fun l vs ds H' s' h1 h2 f => q l vs ds H' s' (.of h1) h2 f
theorem fwT_var {i : Nat} {l : Addr} {vs : List V} {ds : List PyData} (h : H0 l = some (.tup vs)) (hd : DpAll K H0 vs ds) (f : FineA ds n m) (e : σ[i]? = some (some (.ref l))) : FWT K H0 σ (tVar i) n m := fun H _ s q =>
  ⟨_, e, q l vs ds H (Same.refl H) (s _ _ h) (dpAll_same s hd) f⟩
theorem fwT_nil : FWT K H0 σ (tTup tNil) n m := fun H Q s q => ⟨Nat.zero_le _, fun p np => q p [] [] _ (same_upd np) upd_same .nil .nil⟩
theorem fwT_one {t : TE} (h : FV K H0 σ t n m) : FWT K H0 σ (tTup (tCons t tNil)) n (m + 1) := fun H Q s q => h H _ s fun v d H1 s1 hv f =>
  ⟨len2 rfl, fun p np => q p [v] [d] _ (s1.trans (same_upd np)) upd_same (.cons (dp_same (same_upd np) hv) .nil) (.one f)⟩
theorem fwT_cat {ta tb : TE} (ha : FWT K H0 σ ta n m) (hb : FWT K H0 σ tb n k) (e : m + k ≤ 1000 := by decide) : FWT K H0 σ (tOp (rCatA K) ta tb) n (m + k) := fun H Q s q =>
  ha H _ s fun a xs ds H1 s1 h1 d1 f1 => hb H1 _ (s.trans s1) fun b ys es H2 s2 h2 d2 f2 => by
    have d3 := dpAll_app (dpAll_same s2 d1) d2
    have f3 := f1.app f2
    refine ⟨a, b, xs, ys, rfl, rfl, .of (s2 _ _ h1), .of h2, Nat.le_of_lt (small1000 ?_), fun hx => ?_, fun _ hy => ?_, fun _ _ p np => ?_⟩
    · rw [dpAll_len d1, dpAll_len d2]
      have := f1.len
      have := f2.len
      omega
    · rw [hx, List.nil_append] at d3
      exact q b ys _ H2 (s1.trans s2) h2 d3 f3
    · rw [hy, List.append_nil] at d3
      exact q a xs _ H2 (s1.trans s2) (s2 _ _ h1) d3 f3
    · exact q p _ _ _ ((s1.trans s2).trans (same_upd np)) upd_same (dpAll_same (same_upd np) d3) f3
theorem fwT_sl {te : TE} {tl th : TO} (h : FWT K H0 σ te n m) (hl : FO H0 σ tl) (hh : FO H0 σ th) : FWT K H0 σ (tSl (rSlA K) te tl th) n m := fun H Q s q =>
  h H _ s fun a xs ds H1 s1 h1 d1 f1 => hl H1 _ (s.trans s1) fun lo => hh H1 _ (s.trans s1) fun hi => by
    obtain ⟨es, d2, f2⟩ := dpAll_cutD lo hi d1 f1
    exact ⟨a, xs, rfl, .of h1, fun _ => q a xs ds H1 s1 h1 d1 f1, fun _ p np => q p _ es _ (s1.trans (same_upd np)) upd_same (dpAll_same (same_upd np) d2) f2⟩
theorem fwa_nil : FWA K H0 σ tNil n m 0 := fun H _ _ q => q [] [] H (Same.refl H) .nil (fun _ h => nomatch h) (fun _ _ _ h => nomatch h) rfl
theorem fwa_cons {t : TE} {ts : TA} {len : Nat} (h : FW K H0 σ t n m) (hs : FWA K H0 σ ts n m len) : FWA K H0 σ (tCons t ts) n m (len + 1) := fun H Q s q =>
  h H _ s fun v d H1 s1 hv f w => hs H1 _ (s.trans s1) fun vs ds H2 s2 hvs fs ws e => q _ _ H2 (s1.trans s2) (.cons (dp_same s2 hv) hvs) (fun x hx => by
    rcases List.mem_cons.mp hx with rfl | hx
    · exact f
    · exact fs x hx) (fun i x y hx hy => by
    cases i with
    | zero =>
      cases Option.some.inj hx
      cases Option.some.inj hy
      exact w.same s2
    | succ i => exact ws i x y hx hy) (by rw [List.length_cons, e])
theorem fw_pick {ta : TA} {tx : TE} {len : Nat} {j : Int} (h : FWA K H0 σ ta n m len) (hx : FI H0 σ tx) (e : j = len) (p : 0 < j) (l : len ≤ 1000 := by decide) :
    FW K H0 σ (tOp (rIxL K) (tLst ta) (tOp (rI (fun _ j => 0 < j) fun i j => .int (i % j)) tx (tC (.int j)))) n m := fun H Q s q =>
  h H _ s fun vs ds H1 s1 hvs fs ws le => ⟨Nat.le_of_lt (small1000 (by rw [dpAll_len hvs, le]; exact l)), fun a na => hx _ _ ((s.trans s1).trans (same_upd na)) fun i => ⟨i, j, rfl, rfl, p, by
    have r0 := Int.emod_nonneg i (show j ≠ 0 by omega)
    have r1 := Int.emod_lt_of_pos i p
    obtain ⟨c, hc⟩ : ∃ c : Nat, i % j = c := ⟨(i % j).toNat, by omega⟩
    have hn : c < ds.length := by omega
    have hd := List.getElem?_eq_getElem hn
    obtain ⟨v, hv, hdv⟩ := dpAll_get hvs hd
    exact w_ixL (.of upd_same) (by rw [hc]; exact atI_nat hv) (q v _ _ (s1.trans (same_upd na)) (dp_same (same_upd na) hdv) (fs _ (List.getElem_mem hn)) ((ws _ _ _ hv hd).same (same_upd na)))⟩⟩
end
end Ct
namespace Ct
open PySem PySem.Spec PyProof.Rows L2
theorem filt_w (d0 d1 d2 : PyData) : PyData.eqv (.list ([d0, d1, d2].filter fun d => !isW d)) (.list []) = (isW d0 && isW d1 && isW d2) := by
  rw [PyData.eqv, eqvAll_nil]
  cases e0 : isW d0 <;> cases e1 : isW d1 <;> cases e2 : isW d2 <;> simp [e0, e1, e2]
theorem isD_w {d0 d1 d2 : PyData} {n : Int} (h : (isW d0 && isW d1 && isW d2) = false) : isD (.tuple [d0, d1, d2]) n = false := by
  cases d0 <;> first | rfl | skip
  cases d1 <;> first | rfl | skip
  cases d2 <;> first | rfl | (exact nomatch h)
theorem w_ints {K : PySem.W.Frag} {H : Hp} {v : V} {d : PyData} (h : isW d = true) (hd : Dp K H v d) : ∃ i, v = .int i ∧ d = .int i := by
  cases hd with
  | int i => exact ⟨i, rfl, rfl⟩
  | non => exact nomatch h
  | bl b => exact nomatch h
  | str s => exact nomatch h
  | lst a b => exact nomatch h
  | tup a b => exact nomatch h
theorem inV_way (w : Int) : inV (.int w) [.int 1, .int (0 - 1)] = (decide (w = 1) || decide (w = -1)) := by
  show ((1 : Int) == w || ((0 - 1 : Int) == w || false)) = _
  rw [Bool.or_false, Bool.eq_iff_iff, Bool.or_eq_true, Bool.or_eq_true, beq_iff_eq, beq_iff_eq, decide_eq_true_iff, decide_eq_true_iff]
  omega
theorem isD_long {es : List PyData} {n : Int} (h : es.length ≠ 3) : isD (.tuple es) n = false := by
  match es, h with
  | [], _ => rfl
  | [d0], _ => cases d0 <;> rfl
  | [d0, d1], _ => cases d0 <;> first | rfl | (cases d1 <;> rfl)
  | [_, _, _], z => exact absurd rfl z
  | d0 :: d1 :: d2 :: d3 :: _, _ => cases d0 <;> first | rfl | (cases d1 <;> first | rfl | (cases d2 <;> rfl))
end Ct
namespace Ct
open PySem PySem.Spec PyProof.Rows L2
theorem fineA_all {n m : Nat} : ∀ {ds : List PyData}, (∀ d ∈ ds, Fine d n m) → FineA ds n (ds.length * (m + 1))
  | [], _ => .nil
  | d :: ds, h => by
    have f := FineA.app (ds := [d]) (FineA.one (h d List.mem_cons_self)) (fineA_all fun q hq => h q (List.mem_cons_of_mem _ hq))
    refine f.mono (Nat.le_refl _) ?_
    rw [List.length_cons, Nat.succ_mul]
    omega
theorem fine_deed {d : Deed} (h1 : d.i < 2 ^ 199) (h2 : Sign d.w) (h3 : d.t < 2 ^ 199) : Fine d.data 1 3 := by
  refine (fineA_ints (xs := [(d.i : Int), d.w, (d.t : Int)]) (n := 0) (m := 3) (fun x hx => ?_) (Nat.le_refl 3)).tup
  simp only [List.mem_cons, List.not_mem_nil, or_false] at hx
  rcases hx with rfl | rfl | rfl
  · omega
  · rcases h2 with z | z <;> rw [z] <;> decide
  · omega
theorem fineA_deeds {ds : List Deed} (h : ∀ d ∈ ds, Fine d.data 1 3) : FineA (ds.map Deed.data) 1 (ds.length * 4) := by
  have f := fineA_all (ds := ds.map Deed.data) (n := 1) (m := 3) fun x hx => by
    obtain ⟨d, hd, rfl⟩ := List.mem_map.mp hx
    exact h d hd
  rw [List.length_map] at f
  exact f
section
variable {K : PySem.W.Frag} {H0 : Hp} {σ : L2.St} {n m : Nat}
theorem ft_all {t : TA} {len : Nat} (h : FA K H0 σ t n m len) (l : len ≤ 1000 := by decide) : FT K H0 σ (tTup t) n (len * (m + 1)) := fun H Q s q =>
  h H _ s fun vs ds H1 s1 hvs fs le => ⟨Nat.le_of_lt (small1000 (by rw [dpAll_len hvs, le]; exact l)), fun p np => q p vs ds _ (s1.trans (same_upd np)) (.of upd_same) (dpAll_same (same_upd np) hvs) (by rw [← le]; exact fineA_all fs)⟩
theorem fl_all {t : TA} {len : Nat} (h : FA K H0 σ t n m len) (l : len ≤ 1000 := by decide) : FL K H0 σ (tLst t) n (len * (m + 1)) := fun H Q s q =>
  h H _ s fun vs ds H1 s1 hvs fs le => ⟨Nat.le_of_lt (small1000 (by rw [dpAll_len hvs, le]; exact l)), fun p np => q p vs ds _ (s1.trans (same_upd np)) upd_same (dpAll_same (same_upd np) hvs) (by rw [← le]; exact fineA_all fs)⟩
end
end Ct

/-! what an expression gives, by a property of its data -/
namespace Ct
open PySem PySem.Spec PyProof.Rows L2
def Part.items : Part → List PyData
  | .wheel z ms => [.str "wheel", .int z, .tuple (ms.map PyData.int)]
  | .click => [.str "click"]
  | .rocker => [.str "rocker"]
  | .spring k => [.str "spring", .int k]
theorem Part.data_items (p : Part) : p.data = .tuple p.items := by cases p <;> rfl
/-- whatever part it is, it has few places -/
def SmP (d : PyData) : Prop := ∀ p : Part, d = p.data → p.places ≤ 61
theorem smP_list (ds : List PyData) : SmP (.list ds) := fun p h => by cases p <;> exact nomatch h
theorem smP_head {a : PyData} {ds : List PyData} (h1 : a ≠ .str "wheel") (h2 : a ≠ .str "spring") : SmP (.tuple (a :: ds)) := fun p h => by
  cases p with
  | wheel z ms => exact absurd (List.cons.inj (PyData.tuple.inj h)).1 h1
  | spring k => exact absurd (List.cons.inj (PyData.tuple.inj h)).1 h2
  | click => exact (by decide : (1 : Int) ≤ 61)
  | rocker => exact (by decide : (2 : Int) ≤ 61)
theorem str_ne {x y : Str} (h : x ≠ y) : PyData.str x ≠ .str y := fun z => h (PyData.str.inj z)
theorem smP_wheel {a b : PyData} {x : Str} (h : ∀ i, a = .int i → i ≤ 61) : SmP (.tuple [.str x, a, b]) := fun p e => by
  cases p with
  | wheel z ms => exact h z (List.cons.inj (List.cons.inj (PyData.tuple.inj e)).2).1
  | spring k => exact nomatch (List.cons.inj (List.cons.inj (PyData.tuple.inj e)).2).2
  | click => exact (by decide : (1 : Int) ≤ 61)
  | rocker => exact (by decide : (2 : Int) ≤ 61)
theorem smP_spring {a : PyData} {x : Str} (h : ∀ i, a = .int i → i ≤ 61) : SmP (.tuple [.str x, a]) := fun p e => by
  cases p with
  | wheel z ms => exact nomatch (List.cons.inj (List.cons.inj (PyData.tuple.inj e)).2).2
  | spring k => exact h k (List.cons.inj (List.cons.inj (PyData.tuple.inj e)).2).1
  | click => exact (by decide : (1 : Int) ≤ 61)
  | rocker => exact (by decide : (2 : Int) ≤ 61)
theorem smP_long {a b c d : PyData} {ds : List PyData} : SmP (.tuple (a :: b :: c :: d :: ds)) := fun p e => by
  have l := congrArg List.length (PyData.tuple.inj ((e.trans p.data_items)))
  cases p with
  | wheel z ms => exact absurd l (by show ¬ ds.length + 4 = 3; omega)
  | spring k => exact absurd l (by show ¬ ds.length + 4 = 2; omega)
  | click => exact (by decide : (1 : Int) ≤ 61)
  | rocker => exact (by decide : (2 : Int) ≤ 61)
theorem smP_one {a : PyData} : SmP (.tuple [a]) := fun p e => by
  cases p with
  | wheel z ms => exact nomatch (List.cons.inj (PyData.tuple.inj e)).2
  | spring k => exact nomatch (List.cons.inj (PyData.tuple.inj e)).2
  | click => exact (by decide : (1 : Int) ≤ 61)
  | rocker => exact (by decide : (2 : Int) ≤ 61)
theorem smP_nil : SmP (.tuple []) := fun p e => by cases p <;> exact nomatch (PyData.tuple.inj e)
theorem smP_more (p : Part) (h : p.places ≤ 60) (o : PyData) : SmP (.tuple (p.items ++ [o])) := by
  cases p with
  | wheel z ms => exact smP_long
  | click => exact smP_head (str_ne (by decide +kernel)) (str_ne (by decide +kernel))
  | rocker => exact smP_head (str_ne (by decide +kernel)) (str_ne (by decide +kernel))
  | spring k => exact smP_wheel fun i z => by cases z; exact Int.le_trans h (by decide)
def cutD (ds : List PyData) (lo hi : Option Int) : List PyData := (ds.drop (HT.sIx ds.length 0 lo)).take (HT.sIx ds.length ds.length hi - HT.sIx ds.length 0 lo)
theorem smP_less (p : Part) (h : p.places ≤ 60) : SmP (.tuple (cutD p.items none (some (-1)))) := by
  cases p with
  | wheel z ms => exact smP_spring (x := "wheel") fun i e => by cases e; exact Int.le_trans h (by decide)
  | click => exact smP_nil
  | rocker => exact smP_nil
  | spring k => exact smP_one
def smB : PyData → Bool
  | .tuple [.str _, .int z, _] => decide (z ≤ 61)
  | .tuple [.str _, .int k] => decide (k ≤ 61)
  | _ => true
theorem smB_ok {d : PyData} (h : smB d = true) : SmP d := fun p e => by
  cases p with
  | wheel z ms => rw [e] at h; exact of_decide_eq_true h
  | spring k => rw [e] at h; exact of_decide_eq_true h
  | click => exact (by decide : (1 : Int) ≤ 61)
  | rocker => exact (by decide : (2 : Int) ≤ 61)
theorem smB_all {ds : List PyData} (h : ds.all smB = true) : ∀ d ∈ ds, SmP d := fun d hd => smB_ok (List.all_eq_true.mp h d hd)
section
variable {K : PySem.W.Frag} {H0 : Hp} {σ : L2.St}
def FVP (K : PySem.W.Frag) (H0 : Hp) (σ : L2.St) (t : TE) (P : PyData → Prop) : Prop := ∀ (H : Hp) (Q : VK), Same H0 H → (∀ v d H', Same H H' → Dp K H' v d → P d → Q v H') → t σ H Q
def FTP (K : PySem.W.Frag) (H0 : Hp) (σ : L2.St) (t : TE) (P : List PyData → Prop) : Prop := ∀ (H : Hp) (Q : VK), Same H0 H → (∀ l vs ds H', Same H H' → SqT K H' l vs → DpAll K H' vs ds → P ds → Q (.ref l) H') → t σ H Q
def FAP (K : PySem.W.Frag) (H0 : Hp) (σ : L2.St) (t : TA) (P : PyData → Prop) (len : Nat) : Prop := ∀ (H : Hp) (Q : List V → Hp → Prop), Same H0 H → (∀ vs ds H', Same H H' → DpAll K H' vs ds → (∀ d ∈ ds, P d) → ds.length = len → Q vs H') → t σ H Q
theorem FVP.use {t : TE} {H : Hp} {Q : VK} {P : PyData → Prop} (h : FVP K H σ t P) (q : ∀ v d H', Same H H' → Dp K H' v d → P d → Q v H') : t σ H Q := h H Q (Same.refl H) q
theorem FVP.imp {t : TE} {P R : PyData → Prop} (h : FVP K H0 σ t P) (i : ∀ d, P d → R d) : FVP K H0 σ t R := fun H _ s q => h H _ s fun v d H' s' hv p => q v d H' s' hv (i d p)
theorem FV.fvp {t : TE} {n m : Nat} (h : FV K H0 σ t n m) : FVP K H0 σ t fun d => Fine d n m := h
theorem FL.fvp {t : TE} {n m : Nat} (h : FL K H0 σ t n m) : FVP K H0 σ t fun d => ∃ ds, d = .list ds ∧ FineA ds n m := fun H _ s q => h H _ s fun _ _ ds H' s' h1 h2 f => q _ _ H' s' (.lst (.of h1) h2) ⟨ds, rfl, f⟩
theorem Gv.fvp {t : TE} {d : PyData} {P : PyData → Prop} (h : Gv K H0 σ t d) (p : P d) : FVP K H0 σ t P := fun H _ s q => h H _ s fun v H' s' hv => q v d H' s' hv p
theorem fvp_two {t u : TE} {P R : PyData → Prop} (h : FVP K H0 σ t P) (g : FVP K H0 σ u R) : FVP K H0 σ (tTup (tCons t (tCons u tNil))) fun d => ∃ a b, d = .tuple [a, b] ∧ P a ∧ R b := fun H Q s q => h H _ s fun v d H1 s1 hv f => g H1 _ (s.trans s1) fun v2 d2 H2 s2 hv2 f2 =>
  ⟨len2 rfl, fun p np => q _ _ _ ((s1.trans s2).trans (same_upd np)) (.tup (.of upd_same) (.cons (dp_same (s2.trans (same_upd np)) hv) (.cons (dp_same (same_upd np) hv2) .nil))) ⟨d, d2, rfl, f, f2⟩⟩
theorem fvp_three {t u w : TE} {P R S : PyData → Prop} (h : FVP K H0 σ t P) (g : FVP K H0 σ u R) (g3 : FVP K H0 σ w S) : FVP K H0 σ (tTup (tCons t (tCons u (tCons w tNil)))) fun d => ∃ a b c, d = .tuple [a, b, c] ∧ P a ∧ R b ∧ S c := fun H Q s q =>
  h H _ s fun v d H1 s1 hv f => g H1 _ (s.trans s1) fun v2 d2 H2 s2 hv2 f2 => g3 H2 _ ((s.trans s1).trans s2) fun v3 d3 H3 s3 hv3 f3 =>
  ⟨len2 rfl, fun p np => q _ _ _ (((s1.trans s2).trans s3).trans (same_upd np)) (.tup (.of upd_same) (.cons (dp_same ((s2.trans s3).trans (same_upd np)) hv) (.cons (dp_same (s3.trans (same_upd np)) hv2) (.cons (dp_same (same_upd np) hv3) .nil)))) ⟨d, d2, d3, rfl, f, f2, f3⟩⟩
theorem FTP.fvp {t : TE} {P : List PyData → Prop} (h : FTP K H0 σ t P) : FVP K H0 σ t fun d => ∃ ds, d = .tuple ds ∧ P ds := fun H _ s q => h H _ s fun _ _ ds H' s' h1 h2 p => q _ _ H' s' (.tup h1 h2) ⟨ds, rfl, p⟩
theorem ftp_one {t : TE} {P : PyData → Prop} (h : FVP K H0 σ t P) : FTP K H0 σ (tTup (tCons t tNil)) fun ds => ∃ a, ds = [a] ∧ P a := fun H Q s q => h H _ s fun v d H1 s1 hv f =>
  ⟨len2 rfl, fun p np => q p [v] [d] _ (s1.trans (same_upd np)) (.of upd_same) (.cons (dp_same (same_upd np) hv) .nil) ⟨d, rfl, f⟩⟩
theorem ftp_var {i : Nat} {l : Addr} {vs : List V} {ds : List PyData} (h : SqT K H0 l vs) (hd : DpAll K H0 vs ds) (e : σ[i]? = some (some (.ref l))) : FTP K H0 σ (tVar i) fun es => es = ds := fun H _ s q =>
  ⟨_, e, q l vs ds H (Same.refl H) (Same.tup s h) (dpAll_same s hd) rfl⟩
theorem ftp_cat {ta tb : TE} {P R : List PyData → Prop} (ha : FTP K H0 σ ta P) (hb : FTP K H0 σ tb R) (lp : ∀ ds, P ds → ds.length ≤ 500) (lr : ∀ ds, R ds → ds.length ≤ 500) : FTP K H0 σ (tOp (rCatA K) ta tb) fun ds => ∃ a b, ds = a ++ b ∧ P a ∧ R b := fun H Q s q =>
  ha H _ s fun a xs ds H1 s1 h1 d1 f1 => hb H1 _ (s.trans s1) fun b ys es H2 s2 h2 d2 f2 => by
    have d3 := dpAll_app (dpAll_same s2 d1) d2
    refine ⟨a, b, xs, ys, rfl, rfl, Same.tup s2 h1, h2, Nat.le_of_lt (small1000 ?_), fun hx => ?_, fun _ hy => ?_, fun _ _ p np => ?_⟩
    · rw [dpAll_len d1, dpAll_len d2]
      have := lp _ f1
      have := lr _ f2
      omega
    · rw [hx, List.nil_append] at d3
      exact q b ys _ H2 (s1.trans s2) h2 d3 ⟨ds, es, rfl, f1, f2⟩
    · rw [hy, List.append_nil] at d3
      exact q a xs _ H2 (s1.trans s2) (Same.tup s2 h1) d3 ⟨ds, es, rfl, f1, f2⟩
    · exact q p _ _ _ ((s1.trans s2).trans (same_upd np)) (.of upd_same) (dpAll_same (same_upd np) d3) ⟨ds, es, rfl, f1, f2⟩
/-- a bound of a slice, exactly -/
def GO (H0 : Hp) (σ : L2.St) (t : TO) (i : Option Int) : Prop := ∀ (H : Hp) (Q : Option Int → Hp → Prop), Same H0 H → Q i H → t σ H Q
theorem go_none : GO H0 σ tNoPart none := fun _ _ _ q => q
theorem go_c {i : Int} : GO H0 σ (tPart (tC (.int i))) (some i) := fun _ _ _ q => ⟨i, rfl, q⟩
theorem go_neg {i : Int} : GO H0 σ (tPart (tUn (rU fun i => .int (-i)) (tC (.int i)))) (some (-i)) := fun _ _ _ q => ⟨i, rfl, -i, rfl, q⟩
theorem ftp_sl {te : TE} {tl th : TO} {ds : List PyData} {lo hi : Option Int} (h : FTP K H0 σ te fun es => es = ds) (hl : GO H0 σ tl lo) (hh : GO H0 σ th hi) : FTP K H0 σ (tSl (rSlA K) te tl th) fun es => es = cutD ds lo hi := fun H Q s q =>
  h H _ s fun a xs es H1 s1 h1 d1 e => hl H1 _ (s.trans s1) (hh H1 _ (s.trans s1) (by
    subst e
    have l := dpAll_len d1
    refine ⟨a, xs, rfl, h1, fun z => ?_, fun _ p np => ?_⟩
    · refine q a xs es H1 s1 h1 d1 ?_
      rw [l] at z
      unfold cutD
      rw [z.1, z.2, List.drop_zero, Nat.sub_zero, List.take_length]
    · refine q p _ _ _ (s1.trans (same_upd np)) (.of upd_same) (dpAll_same (same_upd np) (dpAll_take _ (dpAll_drop _ d1))) ?_
      rw [l]
      rfl))
theorem fap_nil {P : PyData → Prop} : FAP K H0 σ tNil P 0 := fun H _ _ q => q [] [] H (Same.refl H) .nil (fun _ h => nomatch h) rfl
theorem fap_cons {t : TE} {ts : TA} {len : Nat} {P : PyData → Prop} (h : FVP K H0 σ t P) (hs : FAP K H0 σ ts P len) : FAP K H0 σ (tCons t ts) P (len + 1) := fun H Q s q =>
  h H _ s fun v d H1 s1 hv f => hs H1 _ (s.trans s1) fun vs ds H2 s2 hvs fs e => q _ _ H2 (s1.trans s2) (.cons (dp_same s2 hv) hvs) (fun x hx => by
    rcases List.mem_cons.mp hx with rfl | hx
    · exact f
    · exact fs x hx) (by rw [List.length_cons, e])
theorem fvp_pick {ta : TA} {tx : TE} {len : Nat} {j : Int} {P : PyData → Prop} (h : FAP K H0 σ ta P len) (hx : FI H0 σ tx) (e : j = len) (p : 0 < j) (l : len ≤ 1000 := by decide) :
    FVP K H0 σ (tOp (rIxL K) (tLst ta) (tOp (rI (fun _ j => 0 < j) fun i j => .int (i % j)) tx (tC (.int j)))) P := fun H Q s q =>
  h H _ s fun vs ds H1 s1 hvs fs le => ⟨Nat.le_of_lt (small1000 (by rw [dpAll_len hvs, le]; exact l)), fun a na => hx _ _ ((s.trans s1).trans (same_upd na)) fun i => ⟨i, j, rfl, rfl, p, by
    refine w_some (.of upd_same) (dpAll_same (same_upd na) hvs) (Int.emod_nonneg _ (by omega)) (by rw [le, ← e]; exact Int.emod_lt_of_pos _ p) fun v d hd hv => ?_
    exact q v d _ (s1.trans (same_upd na)) hv (fs d hd)⟩⟩
theorem FAP.useL {t : TA} {len : Nat} {H : Hp} {Q : VK} {P : PyData → Prop} (h : FAP K H σ t P len) (l : len ≤ 1000) (q : ∀ a vs ds H', Same H H' → H' a = some (.lst vs) → DpAll K H' vs ds → (∀ d ∈ ds, P d) → ds.length = len → Q (.ref a) H') : tLst t σ H Q :=
  h H _ (Same.refl H) fun vs ds H1 s1 hvs fs le => ⟨Nat.le_of_lt (small1000 (by rw [dpAll_len hvs, le]; exact l)), fun p np => q p vs ds _ (s1.trans (same_upd np)) upd_same (dpAll_same (same_upd np) hvs) fs le⟩
theorem fvp_pickV {i : Nat} {tx : TE} {a : Addr} {vs : List V} {ds : List PyData} {j : Int} {P : PyData → Prop} (e : σ[i]? = some (some (.ref a))) (ha : H0 a = some (.lst vs)) (hd : DpAll K H0 vs ds) (fs : ∀ d ∈ ds, P d) (hx : FI H0 σ tx) (ej : j = ds.length) (p : 0 < j) :
    FVP K H0 σ (tOp (rIxL K) (tVar i) (tOp (rI (fun _ j => 0 < j) fun i j => .int (i % j)) tx (tC (.int j)))) P := fun H Q s q =>
  ⟨.ref a, e, hx _ _ s fun x => ⟨x, j, rfl, rfl, p, by
    refine w_some (.of (s _ _ ha)) (dpAll_same s hd) (Int.emod_nonneg _ (by omega)) (by rw [← ej]; exact Int.emod_lt_of_pos _ p) fun v d hd hv => ?_
    exact q v d H (Same.refl H) hv (fs d hd)⟩⟩
theorem part_items {H : Hp} {v : V} {p : Part} (h : Dp K H v p.data) : ∃ (a : Addr) (x : Str) (ws : List V) (r : List PyData), v = .ref a ∧ SqT K H a (.str x :: ws) ∧ DpAll K H (.str x :: ws) p.items ∧ p.items = .str x :: r ∧ ∀ n, Fine (.str x) n 6 := by
  have fx : ∀ n, Fine (.str "wheel") n 6 ∧ Fine (.str "click") n 6 ∧ Fine (.str "rocker") n 6 ∧ Fine (.str "spring") n 6 := fun n => ⟨⟨by decide +kernel, Nat.zero_le _, by decide +kernel⟩, ⟨by decide +kernel, Nat.zero_le _, by decide +kernel⟩, ⟨by decide +kernel, Nat.zero_le _, by decide +kernel⟩, ⟨by decide +kernel, Nat.zero_le _, by decide +kernel⟩⟩
  cases p with
  | wheel z ms =>
    obtain ⟨a, b, rfl, ha, hb⟩ := wheel_inv h
    exact ⟨a, _, _, _, rfl, ha, .cons (.str _) (.cons (.int _) (.cons (.tup hb (dpAll_ints ms)) .nil)), rfl, fun n => (fx n).1⟩
  | click =>
    obtain ⟨a, rfl, ha⟩ := click_inv h
    exact ⟨a, _, _, _, rfl, ha, .cons (.str _) .nil, rfl, fun n => (fx n).2.1⟩
  | rocker =>
    obtain ⟨a, rfl, ha⟩ := rocker_inv h
    exact ⟨a, _, _, _, rfl, ha, .cons (.str _) .nil, rfl, fun n => (fx n).2.2.1⟩
  | spring k =>
    obtain ⟨a, rfl, ha⟩ := spring_inv h
    exact ⟨a, _, _, _, rfl, ha, .cons (.str _) (.cons (.int _) .nil), rfl, fun n => (fx n).2.2.2⟩
end
theorem places_le_stands : ∀ {ps : List Part}, (∀ p ∈ ps, p.ok) → ∀ p ∈ ps, p.places ≤ stands ps
  | q :: qs, h, p, hp => by
    have h1 := (h q List.mem_cons_self).pos.1
    have h2 := stands_pos qs fun p hp => h p (List.mem_cons_of_mem _ hp)
    show p.places ≤ q.places * stands qs
    rcases List.mem_cons.mp hp with rfl | hp
    · have := Int.mul_le_mul_of_nonneg_left h2 (show 0 ≤ p.places by omega)
      omega
    · have h3 := places_le_stands (ps := qs) (fun p hp => h p (List.mem_cons_of_mem _ hp)) p hp
      have := Int.mul_le_mul_of_nonneg_right h1 (show 0 ≤ stands qs by omega)
      omega
theorem stands_cat : ∀ (ps qs : List Part), stands (ps ++ qs) = stands ps * stands qs
  | [], qs => by rw [List.nil_append, stands, Int.one_mul]
  | p :: ps, qs => by rw [List.cons_append, stands, stands, stands_cat ps qs, Int.mul_assoc]
/-- one part exchanged -/
theorem stands_bent {ps : List Part} {k : Nat} {p' : Part} (hok : ∀ p ∈ ps, p.ok) (hs : stands ps ≤ 60) (hk : k < ps.length) (h : p'.places ≤ 61) : stands (ps.take k ++ [p'] ++ ps.drop (k + 1)) ≤ 1000000 := by
  obtain ⟨p, hp⟩ : ∃ p, ps[k]? = some p := ⟨_, List.getElem?_eq_getElem hk⟩
  have e : ps = ps.take k ++ [p] ++ ps.drop (k + 1) := by
    rw [List.append_assoc, List.singleton_append, ← drop_at hp, List.take_append_drop]
  have a1 := stands_pos (ps.take k) fun p hp => hok p (List.mem_of_mem_take hp)
  have a2 := stands_pos (ps.drop (k + 1)) fun p hp => hok p (List.mem_of_mem_drop hp)
  have a3 := (hok p (List.mem_of_getElem? hp)).pos.1
  have e2 : stands ps = stands (ps.take k) * p.places * stands (ps.drop (k + 1)) := by
    conv => lhs; rw [e]
    rw [stands_cat, stands_cat]
    show _ * (p.places * 1) * _ = _
    rw [Int.mul_one]
  rw [stands_cat, stands_cat]
  show stands (ps.take k) * (p'.places * 1) * stands (ps.drop (k + 1)) ≤ 1000000
  rw [Int.mul_one]
  have b1 : stands (ps.take k) * 1 ≤ stands (ps.take k) * p.places := Int.mul_le_mul_of_nonneg_left a3 (by omega)
  have b2 : stands (ps.take k) * 1 * stands (ps.drop (k + 1)) ≤ stands (ps.take k) * p.places * stands (ps.drop (k + 1)) := Int.mul_le_mul_of_nonneg_right b1 (by omega)
  rw [Int.mul_one, ← e2] at b2
  have b3 : stands (ps.take k) * stands (ps.drop (k + 1)) * p'.places ≤ stands (ps.take k) * stands (ps.drop (k + 1)) * 61 := Int.mul_le_mul_of_nonneg_left h (by
    have := Int.mul_le_mul a1 a2 (by decide) (by omega)
    omega)
  rw [Int.mul_right_comm]
  omega
theorem stands_more {ps : List Part} {p' : Part} (hok : ∀ p ∈ ps, p.ok) (hs : stands ps ≤ 60) (h : p'.places ≤ 61) : stands (ps ++ [p']) ≤ 1000000 := by
  rw [stands_app]
  have a1 := stands_pos ps hok
  have b3 : stands ps * p'.places ≤ stands ps * 61 := Int.mul_le_mul_of_nonneg_left h (by omega)
  omega
/-- whatever train it is, it has few stands -/
def SmT (d : PyData) : Prop := ∀ ps : List Part, d = .list (ps.map Part.data) → stands ps ≤ 1000000
theorem smT_not {d : PyData} (h : ∀ ds, d ≠ .list ds) : SmT d := fun _ e => absurd e (h _)
theorem smT_more {ps : List Part} {o : PyData} (hok : ∀ p ∈ ps, p.ok) (hs : stands ps ≤ 60) (h : SmP o) : SmT (.list (ps.map Part.data ++ [o])) := fun qs e => by
  have e := PyData.list.inj e
  obtain ⟨q1, q2, rfl, h1, h2⟩ := List.map_eq_append_iff.mp e.symm
  obtain ⟨p', t, rfl, h3, h4⟩ := List.map_eq_cons_iff.mp h2
  cases List.map_eq_nil_iff.mp h4
  cases datas_inj h1
  exact stands_more hok hs (h p' h3.symm)
theorem smT_bent {ps : List Part} {o : PyData} {k : Nat} (hok : ∀ p ∈ ps, p.ok) (hs : stands ps ≤ 60) (hk : k < ps.length) (h : SmP o) : SmT (.list ((ps.map Part.data).take k ++ [o] ++ (ps.map Part.data).drop (k + 1))) := fun qs e => by
  have e := PyData.list.inj e
  obtain ⟨q1, q3, rfl, h1, h5⟩ := List.map_eq_append_iff.mp e.symm
  obtain ⟨q0, q2, rfl, h0, h2⟩ := List.map_eq_append_iff.mp h1
  obtain ⟨p', t, rfl, h3, h4⟩ := List.map_eq_cons_iff.mp h2
  cases List.map_eq_nil_iff.mp h4
  rw [← List.map_take] at h0
  rw [← List.map_drop] at h5
  cases datas_inj h0
  cases datas_inj h5
  exact stands_bent hok hs hk (h p' h3.symm)
end Ct
namespace Ct
open PySem PySem.Spec PyProof.Rows L2
section
variable {K : PySem.W.Frag} {H0 : Hp} {σ : L2.St}
theorem FT.fvp {t : TE} {n m : Nat} (h : FT K H0 σ t n m) : FVP K H0 σ t fun d => ∃ ds, d = .tuple ds ∧ FineA ds n m := fun H _ s q => h H _ s fun _ _ ds H' s' h1 h2 f => q _ _ H' s' (.tup h1 h2) ⟨ds, rfl, f⟩
def FLP (K : PySem.W.Frag) (H0 : Hp) (σ : L2.St) (t : TE) (P : List PyData → Prop) : Prop := ∀ (H : Hp) (Q : VK), Same H0 H → (∀ l vs ds H', Same H H' → H' l = some (.lst vs) → DpAll K H' vs ds → P ds → Q (.ref l) H') → t σ H Q
theorem FLP.fvp {t : TE} {P : List PyData → Prop} (h : FLP K H0 σ t P) : FVP K H0 σ t fun d => ∃ ds, d = .list ds ∧ P ds := fun H _ s q => h H _ s fun _ _ ds H' s' h1 h2 p => q _ _ H' s' (.lst (.of h1) h2) ⟨ds, rfl, p⟩
theorem flp_one {t : TE} {P : PyData → Prop} (h : FVP K H0 σ t P) : FLP K H0 σ (tLst (tCons t tNil)) fun ds => ∃ a, ds = [a] ∧ P a := fun H Q s q => h H _ s fun v d H1 s1 hv f =>
  ⟨len2 rfl, fun p np => q p [v] [d] _ (s1.trans (same_upd np)) upd_same (.cons (dp_same (same_upd np) hv) .nil) ⟨d, rfl, f⟩⟩
theorem flp_var {i : Nat} {l : Addr} {vs : List V} {ds : List PyData} (h : H0 l = some (.lst vs)) (hd : DpAll K H0 vs ds) (e : σ[i]? = some (some (.ref l))) : FLP K H0 σ (tVar i) fun es => es = ds := fun H _ s q =>
  ⟨_, e, q l vs ds H (Same.refl H) (s _ _ h) (dpAll_same s hd) rfl⟩
theorem flp_cat {ta tb : TE} {P R : List PyData → Prop} (ha : FLP K H0 σ ta P) (hb : FLP K H0 σ tb R) (lp : ∀ ds, P ds → ds.length ≤ 500) (lr : ∀ ds, R ds → ds.length ≤ 500) : FLP K H0 σ (tOp rCat ta tb) fun ds => ∃ a b, ds = a ++ b ∧ P a ∧ R b := fun H Q s q =>
  ha H _ s fun a xs ds H1 s1 h1 d1 f1 => hb H1 _ (s.trans s1) fun b ys es H2 s2 h2 d2 f2 => by
    refine ⟨a, b, xs, ys, rfl, rfl, s2 _ _ h1, h2, Nat.le_of_lt (small1000 ?_), fun p np => q p _ _ _ ((s1.trans s2).trans (same_upd np)) upd_same (dpAll_same (same_upd np) (dpAll_app (dpAll_same s2 d1) d2)) ⟨ds, es, rfl, f1, f2⟩⟩
    rw [dpAll_len d1, dpAll_len d2]
    have := lp _ f1
    have := lr _ f2
    omega
theorem flp_sl {te : TE} {tl th : TO} {ds : List PyData} {lo hi : Option Int} (h : FLP K H0 σ te fun es => es = ds) (hl : GO H0 σ tl lo) (hh : GO H0 σ th hi) : FLP K H0 σ (tSl (rSlL K) te tl th) fun es => es = cutD ds lo hi := fun H Q s q =>
  h H _ s fun a xs es H1 s1 h1 d1 e => hl H1 _ (s.trans s1) (hh H1 _ (s.trans s1) (by
    subst e
    have l := dpAll_len d1
    refine ⟨a, xs, rfl, .of h1, fun p np => ?_⟩
    refine q p _ _ _ (s1.trans (same_upd np)) upd_same (dpAll_same (same_upd np) (dpAll_take _ (dpAll_drop _ d1))) ?_
    rw [l]
    rfl))
theorem go_var {i : Nat} {x : Int} (e : σ[i]? = some (some (.int x))) : GO H0 σ (tPart (tVar i)) (some x) := fun _ _ _ q => ⟨_, e, x, rfl, q⟩
theorem go_next {i : Nat} {x : Int} (e : σ[i]? = some (some (.int x))) : GO H0 σ (tPart (tOp (rI0 fun i j => .int (i + j)) (tVar i) (tC (.int 1)))) (some (x + 1)) := fun _ _ _ q => ⟨_, e, x, 1, rfl, rfl, x + 1, rfl, q⟩
end
theorem cutD_to (xs : List PyData) (k : Nat) (h : k ≤ xs.length) : cutD xs none (some (k : Int)) = xs.take k := by
  unfold cutD
  rw [HT.sIx_none, HT.sIx_nat, List.drop_zero, Nat.min_eq_left h, Nat.sub_zero]
theorem cutD_from (xs : List PyData) (k : Nat) (h : k + 1 ≤ xs.length) : cutD xs (some ((k : Int) + 1)) none = xs.drop (k + 1) := by
  unfold cutD
  rw [show ((k : Int) + 1) = ((k + 1 : Nat) : Int) from rfl, HT.sIx_none, HT.sIx_nat, Nat.min_eq_left h, List.take_of_length_le (by rw [List.length_drop]; omega)]
theorem smT_one {o : PyData} (h : SmP o) : SmT (.list [o]) := fun qs e => by
  obtain ⟨p', t, rfl, h3, h4⟩ := List.map_eq_cons_iff.mp (PyData.list.inj e).symm
  cases List.map_eq_nil_iff.mp h4
  have := h p' h3.symm
  show p'.places * 1 ≤ 1000000
  omega
theorem smT_nil : SmT (.list []) := fun qs e => by
  cases List.map_eq_nil_iff.mp (PyData.list.inj e).symm
  exact (by decide : (1 : Int) ≤ 1000000)
end Ct
namespace Ct
open PySem PySem.Spec PyProof.Rows L2
theorem isC_nat {c : PyData} (h : isC c = true) : ∃ n : Nat, c = .int n := by
  match c, h with
  | .int i, h => exact ⟨i.toNat, by rw [Int.toNat_of_nonneg (of_decide_eq_true h)]⟩
theorem fine_nat {c : PyData} {n m : Nat} (f : Fine c n m) : ∀ k : Nat, c = .int k → k < 2 ^ 200 := fun k e => by
  rw [e] at f
  have h : ((k : Int)).natAbs < 2 ^ 200 := of_decide_eq_true f.ok
  exact h
end Ct

/-! a def that may raise, called where it does not -/
namespace Ct
open PySem PySem.Spec PyProof.Rows L2
theorem passE0 {P : Program} {w : World} {X : Cx} : Passes (L2.CX P w) X E0 := fun _ _ _ _ _ _ _ c => by
  obtain ⟨_, _, _, _, _, _, _, _, _, _, _, _, no⟩ := c
  exact no.elim
end Ct

/-! all(.. for .. in ..), any(.. for .. in ..): the generator's own frame -/
namespace Ct
open PySem PySem.Spec PyProof.Rows L2 GenW
/-- the table of a def's code objects, whatever it holds -/
def TabX (P : Addr) : HO := .ext fun h => ∃ ps : Array Value, h.get? P = some { cls := .none, data := .fields ps } ∧ TriplesOk ps.toList
theorem over_gen {A : Around} {elt : Expr} {gs : List Comprehension} {scope : Scope} {pos : Pos} {it acc : Value} {env : Env} : A.over (.compLoop (.GeneratorExp elt gs scope pos) 0 it acc env) [] = A.deeper env := by
  first
    | rfl
    | (obtain ⟨hd, d, fr, gu, u⟩ := A; simp [Around.over, Around.deeper, marksOver, frameCount, unitsOf, envsOf, guardsOf, pushEnvs, pushGuards, Code.envs, Code.env?, Code.isFrame, Code.guards, Code.isGuard, Code.weight, Code.frames, Code.isCreation, Code.isCaller, Code.cUnits])
theorem over_genS {A : Around} {elt : Expr} {gs : List Comprehension} {scope : Scope} {pos : Pos} {it acc : Value} {env : Env} : A.over (.compStart (.GeneratorExp elt gs scope pos) 0 it acc env) [] = A.deeper env := by
  first
    | rfl
    | (obtain ⟨hd, d, fr, gu, u⟩ := A; simp [Around.over, Around.deeper, marksOver, frameCount, unitsOf, envsOf, guardsOf, pushEnvs, pushGuards, Code.envs, Code.env?, Code.isFrame, Code.guards, Code.isGuard, Code.weight, Code.frames, Code.isCreation, Code.isCaller, Code.cUnits])
section
variable {X : Cx} {pins : List (Addr × Obj)} {σ : L2.St} {H : Hp} {s : Shared}
theorem tabx_ok {P0 : Program} {w : World} {H : Hp} {h : Heap} {P : Addr} {ps : Array Value} (hm : h.get? P = some { cls := .none, data := .fields ps }) (ht : TriplesOk ps.toList) : ObjOk P0 w H h P (TabX P) :=
  ⟨⟨ps, hm, ht⟩, ⟨_, hm⟩, fun h1 h2 ⟨qs, a, b⟩ st => ⟨qs, st _ a, b⟩⟩
/-- the table has grown, all else is kept -/
theorem inv_tabX {P : Addr} {ps : Array Value} {h' : Heap} {g' : Array GenState} {d' : Drawn} {t' : Nat} (I : Inv X pins σ H s) (hP : H P = some (TabX P)) (k : ∀ b o, b ≠ P → s.heap.get? b = some o → h'.get? b = some o)
    (hm : h'.get? P = some { cls := .none, data := .fields ps }) (ht : TriplesOk ps.toList) (hg : AllBare g') : Inv X pins σ H { s with heap := h', gens := g', drawn := d', toks := t' } := by
  have nP : ∀ b u, H b = some u → u ≠ TabX P → b ≠ P := fun b u e q z => by
    rw [z, hP] at e
    exact q (Option.some.inj e).symm
  have nN : ∀ b, H b = none → b ≠ P := fun b e z => by
    rw [z, hP] at e
    cases e
  refine I.step (g' := g') (d' := d') (ch := []) (fun b hb => absurd hb (by simp)) (fun b o _ _ _ e n => k b o (nN b n) e) (fun b o _ _ _ e n => ⟨o.slots, k b o (nN b n) e⟩)
    (fun b o _ e n => n) (fun b o _ e => ?_) (fun b xs e => e) (fun b o u e => e) (fun b qs e => ⟨#[], by rw [e]; simp⟩) (fun m hn => ?_) (fun b u e => ?_) hg
  · by_cases hb : b = P
    · rw [hb]
      exact ⟨_, hm⟩
    · exact ⟨o, k b o hb e⟩
  · obtain ⟨ob, es, ep, ho, r⟩ := hn
    exact ⟨ob, es, ep, k _ ob (nN _ I.free) ho, r⟩
  · by_cases hb2 : b = P
    · rw [hb2, hP] at e
      cases e
      rw [hb2]
      exact tabx_ok hm ht
    · refine (I.hok b u e).stay (fun d v hd q => k d v ?_ q) (fun d q => q) fun d xs q => q
      rcases hd with z | z
      · rw [z]
        exact hb2
      · exact nP d _ z (fun q => by unfold TabX at q; cases q)
/-- the context of a generator expression's frame: its iterator's objects at fp, what stands at pn -/
abbrev gxc (X : Cx) (B : Around) (s : Shared) (H : Hp) (scope : Scope) (cenv : Env) (fp : List Addr) (pn : List (Addr × Obj)) : Cx :=
  { X with A := B.deeper cenv, s_0 := s, H_0 := H, env := cenv, outer := X.stack, stack := cenv :: X.stack, ex := fp, fn := fun x => scope.names.lookup x == some .cell, pn := pn, xe := fun _ _ => False }
theorem lookup_clo {cells : List (Str × Addr)} {names : List (Str × NameKind)} {y : Str} {c : Addr} (e : (cloFrom cells names []).lookup y = some c) : (y, NameKind.free) ∈ names ∧ c = (cells.lookup y).getD 0 := by
  rcases cloFrom_mem (PySem.mem_of_lookup e) with z | z
  · cases z
  · exact z
/-- the frame is made -/
theorem gx_start {B : Around} {scope : Scope} {own : List (Str × Nat)} {fp : List Addr} {code : Value} {itv : Value} {h5 : Heap} {g5 : Array GenState} {t5 : Nat} {d5 : Drawn} {a : Addr} {go : Obj}
    (I : Inv X pins σ H s) (hB : B.frames = some X.stack) (hBh : B.handled = none) (ok : BlkOk X.N X.env.scope scope own) (hN : X.N.Nodup) (hcell : ∀ y ∈ scope.names, y.2 ≠ .cell) (hfp : ∀ b ∈ fp, FpOk X pins H b ∧ b < s.heap.objs.size)
    (hns : h5.Ns s.heap.objs.size (fun y => if y = ".0" then some itv else none)) (kp : ∀ b o, s.heap.get? b = some o → h5.get? b = some o)
    (ha : s.heap.objs.size < a) (hgo : h5.get? a = some go) (hgc : ∀ v, go.data ≠ .cell v) (hg5 : AllBare g5) :
    Inv (gxc X B s H scope (genEnv scope (cloFrom X.env.cells scope.names []) s.heap.objs.size code builtinsNs X.env) fp [(a, go)]) [] (wipe σ (own.map (·.2))) H { s with heap := h5, gens := g5, toks := t5, drawn := d5 } := by
  have hfree : ∀ y ∈ scope.names, y.2 = .free → ∃ c, X.env.cells.lookup y.1 = some c := fun y hy e => by
    rcases ok.free y hy e with k | k
    · exact I.ok.has _ (.inl k)
    · exact I.ok.has _ (.inr k)
  generalize hcenv : genEnv scope (cloFrom X.env.cells scope.names []) s.heap.objs.size code builtinsNs X.env = cenv
  have hL : cenv.locals = s.heap.objs.size := by rw [← hcenv]; rfl
  have hcl : cenv.cells = cloFrom X.env.cells scope.names [] := by rw [← hcenv]; rfl
  have hsc : cenv.scope = scope := by rw [← hcenv]; rfl
  have mem : ∀ {y c}, cenv.cells.lookup y = some c → X.env.cells.lookup y = some c ∧ c < s.heap.objs.size := fun {y c} e => by
    rw [hcl] at e
    obtain ⟨h1, rfl⟩ := lookup_clo e
    obtain ⟨c, hc⟩ := hfree _ h1 rfl
    rw [hc]
    obtain ⟨w, z⟩ := I.cell _ _ hc
    exact ⟨rfl, z.lt⟩
  have look : ∀ {y}, scope.names.lookup y = some .free → ∃ c, cenv.cells.lookup y = some c ∧ X.env.cells.lookup y = some c := fun {y} hl => by
    have hy : (y, NameKind.free) ∈ scope.names := PySem.mem_of_lookup hl
    obtain ⟨c', e'⟩ := mem_lookup (cloFrom_has (cells := X.env.cells) (acc := []) hy)
    rw [← hcl] at e'
    exact ⟨c', e', (mem e').1⟩
  have okB : (gxc X B s H scope cenv fp [(a, go)]).Ok := by
    refine ⟨I.ok.mod, by show cenv.scope.kind = _; rw [hsc]; exact ok.kind, by show cenv.globals = _; rw [← hcenv]; exact I.ok.glob, by show cenv.builtins = _; rw [← hcenv]; rfl, by show s.heap.objs.size ≤ cenv.locals; rw [hL]; exact Nat.le_refl _,
      fun y z c e1 e2 => I.ok.inj y z c (mem e1).1 (mem e2).1, fun y hy => ?_, fun y c z e => ?_, fun _ => hBh, Around.frames_deeper hB, .inr ⟨rfl, ?_⟩, fun b hb => ⟨?_, fun y c e z => ?_⟩, I.bs, Nat.le_trans I.ok.bsz I.sz, fun b o e hb => ?_, fun b hb z => ?_, I.stack, I.stkFree⟩
    · have hy : cenv.scope.names.lookup y = some .cell ∨ cenv.scope.names.lookup y = some .free := hy
      rw [hsc] at hy
      rcases hy with hy | hy
      · exact absurd rfl (hcell _ (PySem.mem_of_lookup hy))
      · obtain ⟨c, h1, _⟩ := look hy
        exact ⟨c, h1⟩
    · have z : (scope.names.lookup y == some NameKind.cell) = true := z
      have z : scope.names.lookup y = some .cell := by simpa using z
      exact absurd rfl (hcell _ (PySem.mem_of_lookup z))
    · show cenv.frame = some cenv.locals
      rw [← hcenv]
      rfl
    · show b ≠ cenv.locals
      rw [hL]
      exact Nat.ne_of_lt (hfp b hb).2
    · exact (hfp b hb).1.2.2.2.2.1 y c (mem e).1 z
    · rcases (hfp b hb).1.2.2.2.1 with z | z
      · exact I.ok.noex b o e z
      · exact absurd (Nat.lt_of_lt_of_le (Heap.lt_size e) (Nat.le_trans I.ok.bsz z)) (Nat.lt_irrefl _)
    · rcases List.mem_cons.mp (I.stkSub b z) with z | z
      · exact (hfp b hb).1.2.1 z
      · exact (hfp b hb).1.2.2.1 z
  refine ⟨okB, rfl, hg5, Un.kept kp, ⟨fun y => if y = ".0" then some itv else none, ?_, fun i y av e1 e2 e3 => ?_⟩, fun y c e => ?_, ?_, fun y c e => ?_, fun p hp => ?_, I.hok.kept kp, by rw [wipe_length]; exact I.len⟩
  · show Heap.Ns _ cenv.locals _
    rw [hL]
    exact hns
  · obtain ⟨e2, hne⟩ := wipe_some e2
    have hfr : scope.names.lookup y = some .free := by
      have e3 : Vis cenv.scope y := e3
      rw [hsc] at e3
      have no : ∀ k, scope.names.lookup y = some k → ¬ (k = .local ∨ k = .cell) := fun k e hh => by
        rcases ok.own _ (PySem.mem_of_lookup e) hh with e' | e'
        · obtain ⟨p, hp, hpy⟩ := List.mem_map.mp e'
          have e3 := ok.ix p hp
          have : p.1 = y := hpy
          rw [this] at e3
          exact hne (List.mem_map.mpr ⟨p, hp, nodup_ix hN e3 e1⟩)
        · exact e' (List.mem_of_getElem? e1)
      rcases e3 with e3 | e3 | e3
      · exact absurd (.inl rfl) (no _ e3)
      · exact absurd (.inr rfl) (no _ e3)
      · exact e3
    obtain ⟨m, hn, hl⟩ := I.loc
    have hvis : Vis X.env.scope y := (ok.free _ (PySem.mem_of_lookup hfr) rfl).elim (fun k => .inr (.inl k)) (fun k => .inr (.inr k))
    obtain ⟨w, r, q⟩ := hl i y av e1 e2 hvis
    refine ⟨w, r, .inr ⟨.inr (by show cenv.scope.names.lookup y = _; rw [hsc]; exact hfr), ?_⟩⟩
    obtain ⟨c, h1, h2⟩ := look hfr
    rcases q with ⟨k, _⟩ | ⟨_, c', e', z⟩
    · have k : X.env.scope.names.lookup y = some .local := k
      rcases ok.free _ (PySem.mem_of_lookup hfr) rfl with k' | k' <;> rw [show X.env.scope.names.lookup y = _ from k'] at k <;> cases k
    · rw [h2] at e'
      cases e'
      exact ⟨c, h1, z.keeps kp⟩
  · obtain ⟨w, z⟩ := I.cell y c (mem e).1
    exact ⟨w, z.keeps kp⟩
  · show H cenv.locals = none
    rw [hL]
    exact I.hok.fresh (Nat.le_refl _)
  · exact I.freeC y c (mem e).1
  · have hp : p ∈ [(a, go)] ++ [] := hp
    rw [List.append_nil, List.mem_singleton] at hp
    subst hp
    refine ⟨hgo, I.hok.fresh (Nat.le_of_lt ha), ?_, ?_, hgc⟩
    · show a ≠ cenv.locals
      rw [hL]
      exact Nat.ne_of_gt ha
    · show a ∉ frs X.stack
      intro z
      rcases List.mem_cons.mp (I.stkSub a z) with z | z
      · have h1 := I.lt
        rw [← z] at h1
        exact Nat.lt_irrefl _ (Nat.lt_trans h1 ha)
      · exact I.nofs (Nat.le_of_lt ha) z
end
end Ct
namespace Ct
open PySem PySem.Spec PyProof.Rows L2 GenW
section
variable {X : Cx}
/-- what is known where the whole is done: b the answer -/
def GFin (P : Program) (w : World) (fr fp : List Addr) (H4 : Hp) (h4 : Heap) (Q : VK) (b : Bool) (h : Heap) : Prop := ∃ H', Un fr fp H4 H' h4 h ∧ HOk P w H' h ∧ Q (.bl b) H'
def GDone (P : Program) (w : World) (fr fp : List Addr) (H4 : Hp) (s4 : Shared) (Q : VK) (st : Bool) : Nat → Shared → Shared → Prop := fun _ _ s1 => s1.os = s4.os ∧ AllBare s1.gens ∧ GFin P w fr fp H4 s4.heap Q (!st) s1.heap
/-- the generator hands out a truth: the one that ends the walk, or another one, and goes on -/
def GYld (P : Program) (w : World) (fr fp : List Addr) (H4 : Hp) (s4 : Shared) (Q : VK) (st : Bool) (a : Addr) (g : Nat) : Protocol := fun _ _ v s1 kap =>
  ∃ b, v = .bool b ∧ s1.os = s4.os ∧ AllBare s1.gens ∧ s1.heap.NoLimit ∧ s1.heap.IsGen a g ∧ (if b = st then GFin P w fr fp H4 s4.heap Q st s1.heap else ∀ s' : Shared, s'.heap = s1.heap → s'.os = s1.os → AllBare s'.gens → kap (.send .none) s')
/-- all(..) with st = false, any(..) with st = true -/
def tGen (P : Addr) (st : Bool) (wi : TI) (g : TG) (te : TE) (vs : List Nat) : TE := fun σ H Q => wi σ H fun J H1 => H1 P = some (TabX P) ∧ ∃ W : Nat → Nat → Hp → Prop, (∃ m, W 0 m H1) ∧ ∀ i m H, W i m H →
  (J.stop i H ∧ Q (.bl (!st)) H) ∨ (J.go i H ∧ ∃ Nx : Hp → Prop, (∀ H', Nx H' → ∃ m', m' < m ∧ W (i + 1) m' H') ∧ ∀ x H', J.yld i H x H' → g x (wipe σ vs) H' fun σ2 H2 => wipe σ2 vs = wipe σ vs ∧ te σ2 H2 fun y H3 => ∃ b, y = .bl b ∧ if b = st then Q (.bl st) H3 else Nx H3)

theorem seg_gx {B : Around} {scope : Scope} {own : List (Str × Nat)} {fp : List Addr} {s4 : Shared} {H4 : Hp} {cenv : Env} {a : Addr} {go : Obj} {gn : Nat} {elt tg iter : Expr} {pos : Pos} {it : Addr} {tn : Nat → Heap → Prop} {J : It} {g : TG} {te : TE} {σ : L2.St} {Q : VK} {st : Bool} {W : Nat → Nat → Hp → Prop}
    (hc : X.calm = true) (hco : cenv.scope.isCoroutine = false) (hgn : ∀ h : Heap, h.get? a = some go → h.IsGen a gn)
    (T : Turn X.prog X.w X.K tg J fp it tn) (pg : PG (gxc X B s4 H4 scope cenv fp [(a, go)]) tg g) (pe : PE (gxc X B s4 H4 scope cenv fp [(a, go)]) elt te) (hfa : ∀ b ∈ fp, b ≠ a)
    (turn : ∀ i m H, W i m H → (J.stop i H ∧ Q (.bl (!st)) H) ∨ (J.go i H ∧ ∃ Nx : Hp → Prop, (∀ H', Nx H' → ∃ m', m' < m ∧ W (i + 1) m' H') ∧ ∀ x H', J.yld i H x H' → g x (wipe σ (own.map (·.2))) H' fun σ2 H2 => wipe σ2 (own.map (·.2)) = wipe σ (own.map (·.2)) ∧ te σ2 H2 fun y H3 => ∃ b, y = .bl b ∧ if b = st then Q (.bl st) H3 else Nx H3)) :
    ∀ (m n : Nat), m < n → ∀ (i : Nat) (s₀ s : Shared) (H : Hp), W i m H → Inv (gxc X B s4 H4 scope cenv fp [(a, go)]) [] (wipe σ (own.map (·.2))) H s → tn i s.heap → (∀ b ∈ fp, H b = none) →
      Seg (model X.prog X.w) B (fun n s₀ r s₁ => r = .ok .next ∧ GDone X.prog X.w (frs X.stack) fp H4 s4 Q st n s₀ s₁) (GYld X.prog X.w (frs X.stack) fp H4 s4 Q st a gn) n s₀
        (.compLoop (.GeneratorExp elt [⟨tg, iter, [], 0⟩] scope pos) 0 (.ref it) .none cenv)
        ((model X.prog X.w).den (.compLoop (.GeneratorExp elt [⟨tg, iter, [], 0⟩] scope pos) 0 (.ref it) .none cenv)) [] s := by
  intro m
  induction m using Nat.strongRecOn with
  | ind m ih =>
    intro n hmn i s₀ s H w I st5 n5
    have stat : ∀ {σ' : L2.St} {H' : Hp} {s' : Shared}, Inv (gxc X B s4 H4 scope cenv fp [(a, go)]) [] σ' H' s' → (∀ b ∈ fp, H' b = none) → ∀ b ∈ fp, FpOk (gxc X B s4 H4 scope cenv fp [(a, go)]) [] H' b := fun {σ' H' s'} I' hn b hb =>
      ⟨hn b hb, (I'.ok.exf b hb).1, I'.ok.exfs b hb, .inl hb, fun x c e => (I'.ok.exf b hb).2 x c e, fun p hp => by
        have hp : p ∈ [(a, go)] ++ [] := hp
        rw [List.append_nil, List.mem_singleton] at hp
        subst hp
        exact fun z => hfa b hb z.symm⟩
    have pinned : ∀ {pins' : List (Addr × Obj)} {σ' : L2.St} {H' : Hp} {s' : Shared}, Inv (gxc X B s4 H4 scope cenv fp [(a, go)]) pins' σ' H' s' → s'.heap.IsGen a gn := fun {pins' σ' H' s'} I' =>
      hgn _ (I'.pin (a, go) (List.mem_append_left _ (List.mem_singleton.mpr rfl))).1
    show Seg _ B _ _ _ s₀ _ ((compTurn (.GeneratorExp elt [⟨tg, iter, [], 0⟩] scope pos) 0 (.ref it) .none cenv).onRaise (leaving cenv)) [] s
    rw [compTurn_gen, Sem.onRaise_eq_wrap]
    refine seg_bind_wrap (wpAny_standAt ?_)
    rcases turn i m H w with ⟨stop, qq⟩ | ⟨goes, Nx, hNx, step⟩
    · refine seg_bind_wrap ?_
      rw [over_gen]
      refine wpAny_mono (T.done (gxc X B s4 H4 scope cenv fp [(a, go)]) rfl rfl rfl hc i [] s _ H (fun _ _ => False) I (stat I n5) st5 stop) (fun r s6 hr => ?_) (fun _ _ z => z.elim)
      obtain ⟨rfl, I6⟩ := hr
      exact seg_end (.ok .next) ⟨rfl, I6.os, I6.bare, H, I6.base, I6.hok, qq⟩
    · refine seg_bind_wrap ?_
      rw [over_gen]
      refine wpAny_mono (T.item (gxc X B s4 H4 scope cenv fp [(a, go)]) rfl rfl rfl hc i [] s _ H (fun _ _ => False) I (stat I n5) st5 goes) (fun r s6 hr => ?_) (fun _ _ z => z.elim)
      obtain ⟨u, rfl, h6⟩ := hr
      refine seg_bind_wrap ?_
      rw [over_gen]
      refine wpAny_mono h6 (fun _ s7 h7 => ?_) (fun _ _ z => z.elim)
      obtain ⟨x, H7, I7, r7, y7, st7, n7⟩ := h7
      have I7' := I7.pinned (stat I7 n7) (T.obj _ _ st7)
      refine seg_bind_wrap ?_
      rw [over_gen]
      refine wpAny_mono (pg.run _ s7 _ H7 x u _ I7' r7 (step x H7 y7)) (fun _ s8 h8 => ?_) (fun _ _ z => z.elim)
      obtain ⟨σ8, H8, I8, hw8, q8⟩ := h8
      refine seg_bind_wrap (wpAny_tests_nil ?_)
      simp only [if_true]
      have hy : ∀ v, yieldOut cenv v = yieldValue v := fun v => by simp only [yieldOut, hco, Bool.false_eq_true, if_false]
      simp only [hy]
      rw [Sem.bind_eq_wrap', Sem.bind_eq_wrap', Sem.wrap_wrap, Sem.wrap_wrap]
      refine seg_wrap ?_
      rw [over_gen]
      refine wpAny_mono (pe.run _ s8 σ8 H8 _ I8 q8) (fun z s9 h9 => ?_) (fun _ _ z => z.elim)
      obtain ⟨y, H9, I9, r9, b, rfl, q9⟩ := h9
      have r9 : z = Value.bool b := r9
      subst r9
      have hlim : s9.heap.NoLimit := I9.nolimit
      by_cases hb : b = st
      · obtain ⟨k, rfl⟩ : ∃ k, n = k + 1 := ⟨n - 1, by omega⟩
        rw [if_pos hb] at q9
        refine seg_at (seg_yield rfl rfl rfl ⟨b, rfl, I9.os, I9.bare, hlim, pinned I9, ?_⟩)
        rw [if_pos hb]
        exact ⟨H9, I9.base, I9.hok, q9⟩
      · rw [if_neg hb] at q9
        obtain ⟨m', hm, w'⟩ := hNx H9 q9
        obtain ⟨k, rfl⟩ : ∃ k, n = k + 1 := ⟨n - 1, by omega⟩
        refine seg_at (seg_yield rfl rfl rfl ⟨b, rfl, I9.os, I9.bare, hlim, pinned I9, ?_⟩)
        rw [if_neg hb]
        intro s' e1 e2 e3
        have pin' : ∀ b ∈ fp, ∀ o, s7.heap.get? b = some o → s9.heap.get? b = some o ∧ H9 b = none := fun b hb o e =>
          let z := I9.pin (b, o) (List.mem_append_right _ (List.mem_append_right _ (mem_pinsAt hb e)))
          ⟨z.1, z.2.1⟩
        have hl : (wipe σ (own.map (·.2))).length = σ8.length := by rw [← hw8, wipe_length]
        have I10 : Inv (gxc X B s4 H4 scope cenv fp [(a, go)]) [] (wipe σ (own.map (·.2))) H9 s9 := (I9.unpinned (pins := [])).weak hl (fun j v e => by
          rw [← hw8] at e
          exact (wipe_some e).1)
        have I11 : Inv (gxc X B s4 H4 scope cenv fp [(a, go)]) [] (wipe σ (own.map (·.2))) H9 s' := by
          refine I10.call' (ch := []) e2 (Un.kept fun b o e => by rw [e1]; exact e) (by rw [e1]; exact I10.hok) e3 fun b z => by simp at z
        refine seg_again rfl (ih m' hm k (by omega) (i + 1) s' s' H9 w' I11 ?_ fun b hb => ?_)
        · rw [e1]
          exact T.keep _ _ _ st7 fun b hb o e => (pin' b hb o e).1
        · obtain ⟨o, e, _⟩ := T.obj _ _ st7 b hb
          exact (pin' b hb o e).2
end
end Ct
namespace Ct
open PySem PySem.Spec PyProof.Rows L2 GenW
section
variable {P : Program} {w : World} {A : Around} {fr fp : List Addr} {H4 : Hp} {s4 : Shared} {Q : VK} {a : Addr} {g : Nat} {R : Result → Shared → Prop}
theorem all_gx (hh : A.handled = none) (hd : A.depth < recursionLimit) (hend : ∀ b (s' : Shared), s'.os = s4.os → AllBare s'.gens → GFin P w fr fp H4 s4.heap Q b s'.heap → R (.ok (.ret (.bool b))) s') :
    ∀ (m : Nat) (s : Shared), s.heap.IsGen a g → s.heap.NoLimit →
      (∃ gs, s.gens[g]? = some gs ∧ gs.Goes (model P w) A.in1.in1 (fun n s₀ r s₁ => r = .ok .next ∧ GDone P w fr fp H4 s4 Q false n s₀ s₁) (GYld P w fr fp H4 s4 Q false a g) m (.send .none) (s.setGen g .running)) →
      codeAny (model P w) A (.builtin "all.loop" ⟨[.ref a], []⟩) R s := by
  intro m
  induction m with
  | zero =>
    intro s hg hl ⟨gs, hgs, hgo⟩
    refine codeAny_builtin F.entry_all_loop ?_
    rw [Around.under_plainId F.plain_all_loop _]
    show wpAny _ A.in1 (pyNext (.ref a) >>= _) _ _ s
    refine wpAny_bind (wpAny_pyNext_genexpQ (A := A.in1) hh hl hd hg hgs hgo (fun v s₁ gs' hbare hv => ?_) (fun s₁ hp h' hk => ?_))
    · obtain ⟨b, rfl, os1, hb1, hl1, hg1, q⟩ := hv
      refine wpAny_bind (wpAny_holding (wpAny_truthy_bool ?_))
      refine wpAny_bind (wpAny_letGo ?_)
      by_cases hb : b = false
      · rw [if_pos hb] at q
        subst hb
        simp only [Bool.false_eq_true, if_false]
        refine wpAny_bind (wpAny_rule (wpAny_pure ?_))
        exact hend false _ os1 (allBare_setGen hb1 hbare) q
      · rw [if_neg hb] at q
        exact False.elim (q s₁ rfl rfl hb1)
    · obtain ⟨os1, hb1, H', un, hok, hQ⟩ := hp
      refine wpAny_bind (wpAny_rule (wpAny_pure ?_))
      exact hend true _ os1 (allBare_setGen hb1 rfl) ⟨H', un.trans (Un.kept hk), hok.kept hk, hQ⟩
  | succ m ih =>
    intro s hg hl ⟨gs, hgs, hgo⟩
    have hgl : g < s.gens.size := (Array.getElem?_eq_some_iff.mp hgs).1
    refine codeAny_builtin F.entry_all_loop ?_
    rw [Around.under_plainId F.plain_all_loop _]
    show wpAny _ A.in1 (pyNext (.ref a) >>= _) _ _ s
    refine wpAny_bind (wpAny_gsz (n := g + 1) hgl (wpAny_pyNext_genexpQ (A := A.in1) hh hl hd hg hgs hgo (fun v s₁ gs' hbare hv => ?_) (fun s₁ hp h' hk => ?_)))
    · intro hsz
      obtain ⟨b, rfl, os1, hb1, hl1, hg1, q⟩ := hv
      refine wpAny_bind (wpAny_holding (wpAny_truthy_bool ?_))
      refine wpAny_bind (wpAny_letGo ?_)
      have hsz1 : g < s₁.gens.size := by
        have q : (s₁.setGen g gs').gens.size = s₁.gens.size := setGen_size _ _ _
        have hsz' : g + 1 ≤ (s₁.setGen g gs').gens.size := hsz
        omega
      by_cases hb : b = false
      · rw [if_pos hb] at q
        subst hb
        simp only [Bool.false_eq_true, if_false]
        refine wpAny_bind (wpAny_rule (wpAny_pure ?_))
        exact hend false _ os1 (allBare_setGen hb1 hbare) q
      · rw [if_neg hb] at q
        have hb2 : b = true := by
          cases b with
          | true => rfl
          | false => exact absurd rfl hb
        subst hb2
        simp only [if_true]
        refine wpAny_pure ⟨plainId_quiet F.plain_all_loop _, ?_⟩
        exact ih (s₁.setGen g gs') hg1 hl1 ⟨gs', setGen_at hsz1, q _ rfl rfl (allBare_setGen (allBare_setGen hb1 hbare) rfl)⟩
    · intro _
      obtain ⟨os1, hb1, H', un, hok, hQ⟩ := hp
      refine wpAny_bind (wpAny_rule (wpAny_pure ?_))
      exact hend true _ os1 (allBare_setGen hb1 rfl) ⟨H', un.trans (Un.kept hk), hok.kept hk, hQ⟩
theorem any_gx (hh : A.handled = none) (hd : A.depth < recursionLimit) (hend : ∀ b (s' : Shared), s'.os = s4.os → AllBare s'.gens → GFin P w fr fp H4 s4.heap Q b s'.heap → R (.ok (.ret (.bool b))) s') :
    ∀ (m : Nat) (s : Shared), s.heap.IsGen a g → s.heap.NoLimit →
      (∃ gs, s.gens[g]? = some gs ∧ gs.Goes (model P w) A.in1.in1 (fun n s₀ r s₁ => r = .ok .next ∧ GDone P w fr fp H4 s4 Q true n s₀ s₁) (GYld P w fr fp H4 s4 Q true a g) m (.send .none) (s.setGen g .running)) →
      codeAny (model P w) A (.builtin "any.loop" ⟨[.ref a], []⟩) R s := by
  intro m
  induction m with
  | zero =>
    intro s hg hl ⟨gs, hgs, hgo⟩
    refine codeAny_builtin F.entry_any_loop ?_
    rw [Around.under_plainId F.plain_any_loop _]
    show wpAny _ A.in1 (pyNext (.ref a) >>= _) _ _ s
    refine wpAny_bind (wpAny_pyNext_genexpQ (A := A.in1) hh hl hd hg hgs hgo (fun v s₁ gs' hbare hv => ?_) (fun s₁ hp h' hk => ?_))
    · obtain ⟨b, rfl, os1, hb1, hl1, hg1, q⟩ := hv
      refine wpAny_bind (wpAny_holding (wpAny_truthy_bool ?_))
      refine wpAny_bind (wpAny_letGo ?_)
      by_cases hb : b = true
      · rw [if_pos hb] at q
        subst hb
        simp only [if_true]
        refine wpAny_bind (wpAny_rule (wpAny_pure ?_))
        exact hend true _ os1 (allBare_setGen hb1 hbare) q
      · rw [if_neg hb] at q
        exact False.elim (q s₁ rfl rfl hb1)
    · obtain ⟨os1, hb1, H', un, hok, hQ⟩ := hp
      refine wpAny_bind (wpAny_rule (wpAny_pure ?_))
      exact hend false _ os1 (allBare_setGen hb1 rfl) ⟨H', un.trans (Un.kept hk), hok.kept hk, hQ⟩
  | succ m ih =>
    intro s hg hl ⟨gs, hgs, hgo⟩
    have hgl : g < s.gens.size := (Array.getElem?_eq_some_iff.mp hgs).1
    refine codeAny_builtin F.entry_any_loop ?_
    rw [Around.under_plainId F.plain_any_loop _]
    show wpAny _ A.in1 (pyNext (.ref a) >>= _) _ _ s
    refine wpAny_bind (wpAny_gsz (n := g + 1) hgl (wpAny_pyNext_genexpQ (A := A.in1) hh hl hd hg hgs hgo (fun v s₁ gs' hbare hv => ?_) (fun s₁ hp h' hk => ?_)))
    · intro hsz
      obtain ⟨b, rfl, os1, hb1, hl1, hg1, q⟩ := hv
      refine wpAny_bind (wpAny_holding (wpAny_truthy_bool ?_))
      refine wpAny_bind (wpAny_letGo ?_)
      have hsz1 : g < s₁.gens.size := by
        have q : (s₁.setGen g gs').gens.size = s₁.gens.size := setGen_size _ _ _
        have hsz' : g + 1 ≤ (s₁.setGen g gs').gens.size := hsz
        omega
      by_cases hb : b = true
      · rw [if_pos hb] at q
        subst hb
        simp only [if_true]
        refine wpAny_bind (wpAny_rule (wpAny_pure ?_))
        exact hend true _ os1 (allBare_setGen hb1 hbare) q
      · rw [if_neg hb] at q
        have hb2 : b = false := by
          cases b with
          | false => rfl
          | true => exact absurd rfl hb
        subst hb2
        simp only [Bool.false_eq_true, if_false]
        refine wpAny_pure ⟨plainId_quiet F.plain_any_loop _, ?_⟩
        exact ih (s₁.setGen g gs') hg1 hl1 ⟨gs', setGen_at hsz1, q _ rfl rfl (allBare_setGen (allBare_setGen hb1 hbare) rfl)⟩
    · intro _
      obtain ⟨os1, hb1, H', un, hok, hQ⟩ := hp
      refine wpAny_bind (wpAny_rule (wpAny_pure ?_))
      exact hend false _ os1 (allBare_setGen hb1 rfl) ⟨H', un.trans (Un.kept hk), hok.kept hk, hQ⟩
end
end Ct
namespace Ct
open PySem PySem.Spec PyProof.Rows L2 GenW
section
variable {X : Cx}
theorem gen_eval {pins : List (Addr × Obj)} {σ : L2.St} {H : Hp} {s : Shared} {Q : VK} {c P : Addr} {elt tg iter : Expr} {scope : Scope} {own : List (Str × Nat)} {pos : Pos} {wi : TI} {g : TG} {te : TE} {st : Bool} {k : Nat} {Q' : Value → Shared → Prop}
    (hr : Room (k + 1) X.A) (hc : X.calm = true) (hN : X.N.Nodup) (TB : GxR.TabB X.base X.mg c P) (hcode : X.env.code = .ref c) (hi : PI X tg iter wi) (ok : BlkOk X.N X.env.scope scope own) (hcell : ∀ y ∈ scope.names, y.2 ≠ .cell) (hco : scope.isCoroutine = false) (hdot : scope.names.lookup (".0" : Str) = some NameKind.local)
    (hg : ∀ (s : Shared) (H : Hp) (C : Addr) (cl : List (Str × Addr)) (cd : Value) (fp : List Addr) (pn : List (Addr × Obj)) (B : Around), PG (gxc X B s H scope (genEnv scope cl C cd builtinsNs X.env) fp pn) tg g)
    (he : ∀ (s : Shared) (H : Hp) (C : Addr) (cl : List (Str × Addr)) (cd : Value) (fp : List Addr) (pn : List (Addr × Obj)) (B : Around), Room k (B.deeper (genEnv scope cl C cd builtinsNs X.env)) → PE (gxc X B s H scope (genEnv scope cl C cd builtinsNs X.env) fp pn) elt te)
    (hs : ∀ x, genFold iter X.env x = pure x) (I : Inv X pins σ H s) (h : tGen P st wi g te (own.map (·.2)) σ H Q)
    (hQ : ∀ (a : Addr) (gn : Nat) (s4 s5 : Shared) (H4 : Hp) (fp : List Addr) (m : Nat) (gs : GenState), Inv X pins σ H4 s4 → (∀ b ∈ fp, FpOk X pins H4 b) → s5.heap.IsGen a gn → s5.heap.NoLimit → s5.gens[gn]? = some gs →
      gs.Goes (model X.prog X.w) X.A.in1.in1 (fun n s₀ r s₁ => r = .ok .next ∧ GDone X.prog X.w (frs X.stack) fp H4 s4 Q st n s₀ s₁) (GYld X.prog X.w (frs X.stack) fp H4 s4 Q st a gn) m (.send .none) (s5.setGen gn .running) → Q' (.ref a) s5) :
    wpAny (model X.prog X.w) X.A (eval (.GeneratorExp elt [⟨tg, iter, [], 0⟩] scope pos) X.env) Q' X.xe s := by
  have hfree : ∀ y ∈ scope.names, y.2 = .free → ∃ c, X.env.cells.lookup y.1 = some c := fun y hy e => by
    rcases ok.free y hy e with k | k
    · exact I.ok.has _ (.inl k)
    · exact I.ok.has _ (.inr k)
  refine wpAny_GeneratorExp_make hco (closure_ok hfree) hcell hdot ok.kind hr.depth (thn (hi.run pins s σ H _ I h) fun xv s1 hx => thn hx fun itv s2 h2 => ?_) hs
  obtain ⟨it, fp, tn, J, H2, rfl, I2, T, st2, f2, hTab, W, ⟨m0, w0⟩, turn⟩ := h2
  obtain ⟨⟨ps, hP2, ht⟩, _, _⟩ := I2.hok P _ hTab
  have hPlt : P < s2.heap.objs.size := Heap.lt_size hP2
  have cd : PySem.W.CodeHd s2.heap c P := TB.code.keeps I2.bk
  have nP : ∀ b, H2 b = none → b ≠ P := fun b e z => by
    rw [z, hTab] at e
    cases e
  have cont : ∀ (code : Value) (h3 : Heap) (tk : Nat) (ps' : Array Value), Heap.ExtBut P s2.heap h3 → s2.heap.objs.size ≤ h3.objs.size → h3.get? P = some { cls := .none, data := .fields ps' } → TriplesOk ps'.toList →
      wpAny (model X.prog X.w) X.A (builtinsFor X.env.globals X.env.builtins) (fun bi s₄ =>
        ∀ h', h'.Ns s₄.heap.objs.size (fun y => if y = ".0" then some (Value.ref it) else none) → Heap.SameBut s₄.heap.objs.size (s₄.heap.push { cls := .type "frame", data := .dict #[] }) h' →
          Q' (.ref h'.objs.size) { s₄ with
            gens := s₄.gens.push (.fresh (.compStart (.GeneratorExp elt [⟨tg, iter, [], 0⟩] scope pos) 0 (.ref it) .none (genEnv scope (cloFrom X.env.cells scope.names []) s₄.heap.objs.size code bi X.env))),
            toks := s₄.toks + 1 + 1 + 1,
            heap := h'.push { cls := .type "generator", data := .fields #[.int s₄.gens.size 0, .str "<genexpr>" (s₄.toks + 1), .str (X.env.qual ++ "<genexpr>") (s₄.toks + 1 + 1)] } }) X.xe { s2 with heap := h3, toks := tk } := by
    intro code h3 tk ps' hx hsz hP3 ht3
    obtain ⟨bm, ob, e1, e2, e3, e4, e5, e6, e7, e8⟩ := TB.bm
    have keep3 : ∀ b u, b ≠ P → s2.heap.get? b = some u → h3.get? b = some u := fun b u hb e => hx b u hb e
    refine wpAny_builtinsFor (m := X.mg) (by rw [I2.ok.glob]; exact (I2.mod.glob.keeps I2.bk).extBut hx TB.gP) e1 e2 (keep3 _ _ e4 (I2.bk _ _ e5)) e6 e7 e8 ?_
    intro h' hn' hs'
    have I4 : Inv X pins σ H2 { s2 with heap := h3, toks := tk } := inv_tabX (g' := s2.gens) (d' := s2.drawn) (t' := tk) I2 hTab keep3 hP3 ht3 I2.bare
    generalize hs4 : ({ s2 with heap := h3, toks := tk } : Shared) = s4 at *
    have h4 : s4.heap = h3 := by rw [← hs4]
    have keep' : ∀ b o, s4.heap.get? b = some o → h'.get? b = some o := fun b o e => hs'.extBut b o (Nat.ne_of_lt (Heap.lt_size e)) (Heap.get?_push_of_some _ e)
    have hsz' : h'.objs.size = s4.heap.objs.size + 1 := by rw [hs'.1, Heap.size_push]
    generalize hgo : ({ cls := .type "generator", data := .fields #[.int s4.gens.size 0, .str "<genexpr>" (s4.toks + 1), .str (X.env.qual ++ "<genexpr>") (s4.toks + 1 + 1)] } : Obj) = go
    have hgn : ∀ h : Heap, h.get? h'.objs.size = some go → h.IsGen h'.objs.size s4.gens.size := fun h e => ⟨go, _, _, e, by rw [← hgo], by rw [← hgo], by rw [← hgo]⟩
    have keep5 : ∀ b o, s4.heap.get? b = some o → (h'.push go).get? b = some o := fun b o e => Heap.get?_push_of_some _ (keep' b o e)
    have hgoat : (h'.push go).get? h'.objs.size = some go := Heap.get?_push_size _ (by rw [← hgo]; rfl)
    have f4 : ∀ b ∈ fp, FpOk X pins H2 b ∧ b < s4.heap.objs.size := fun b hb => by
      obtain ⟨o, e, _⟩ := T.obj _ _ st2 b hb
      refine ⟨f2 b hb, ?_⟩
      rw [h4]
      exact Heap.lt_size (keep3 b o (nP b (f2 b hb).1) e)
    have kfp : ∀ b ∈ fp, ∀ o, s2.heap.get? b = some o → (h'.push go).get? b = some o := fun b hb o e => keep5 b o (by rw [h4]; exact keep3 b o (nP b (f2 b hb).1) e)
    have lim5 : (h'.push go).NoLimit := I4.nolimit.keeps keep5
    refine hQ h'.objs.size s4.gens.size s4 _ H2 fp (m0 + 1) _ I4 f2 (hgn _ hgoat) lim5 (Array.getElem?_push_size ..) ?_
    have hns5 : (h'.push go).Ns s4.heap.objs.size (fun y => if y = ".0" then some (Value.ref it) else none) := hn'.push _
    have hfa : ∀ b ∈ fp, b ≠ h'.objs.size := fun b hb => by
      have := (f4 b hb).2
      intro z
      rw [z, hsz'] at this
      exact absurd (Nat.lt_trans (Nat.lt_succ_self _) this) (Nat.lt_irrefl _)
    have J5 : ∀ (g5 : Array GenState), AllBare g5 → Inv (gxc X X.A.in1.in1 s4 H2 scope (genEnv scope (cloFrom X.env.cells scope.names []) s4.heap.objs.size code builtinsNs X.env) fp [(h'.objs.size, go)]) [] (wipe σ (own.map (·.2))) H2 { s4 with heap := h'.push go, gens := g5, toks := s4.toks + 1 + 1 + 1, drawn := s4.drawn } := fun g5 b5 =>
      gx_start (B := X.A.in1.in1) I4 I4.ok.frames hr.hd ok hN hcell f4 hns5 keep5 (by rw [hsz']; exact Nat.lt_succ_self _) hgoat (fun v z => by rw [← hgo] at z; cases z) b5
    have room : Room k (X.A.in1.in1.deeper (genEnv scope (cloFrom X.env.cells scope.names []) s4.heap.objs.size code builtinsNs X.env)) :=
      ⟨hr.hd, by have := hr.dp; show X.A.depth + 1 + 3 * k + 5 < _; omega, by have := hr.un; show X.A.units + 1 + 1 + 3 + 16 * k + 200 < _; omega⟩
    have b5 : AllBare ((s4.gens.push (.fresh (.compStart (.GeneratorExp elt [⟨tg, iter, [], 0⟩] scope pos) 0 (.ref it) .none (genEnv scope (cloFrom X.env.cells scope.names []) s4.heap.objs.size code builtinsNs X.env)))).setIfInBounds s4.gens.size .running) :=
      allBare_setGen (s := { s4 with gens := s4.gens.push (.fresh (.compStart (.GeneratorExp elt [⟨tg, iter, [], 0⟩] scope pos) 0 (.ref it) .none (genEnv scope (cloFrom X.env.cells scope.names []) s4.heap.objs.size code builtinsNs X.env))) }) (g := s4.gens.size) (AllBare.push I4.bare rfl) rfl
    have loop := seg_gx (iter := iter) (pos := pos) (σ := σ) (own := own) (Q := Q) (st := st) hc hco hgn T (hg s4 H2 _ _ code fp [(h'.objs.size, go)] X.A.in1.in1) (he s4 H2 _ _ code fp [(h'.objs.size, go)] X.A.in1.in1 room) hfa turn m0 (m0 + 1) (Nat.lt_succ_self _) 0
      (Shared.setGen { s4 with heap := h'.push go, gens := s4.gens.push (.fresh (.compStart (.GeneratorExp elt [⟨tg, iter, [], 0⟩] scope pos) 0 (.ref it) .none (genEnv scope (cloFrom X.env.cells scope.names []) s4.heap.objs.size code builtinsNs X.env))), toks := s4.toks + 1 + 1 + 1 } s4.gens.size .running)
      (Shared.setGen { s4 with heap := h'.push go, gens := s4.gens.push (.fresh (.compStart (.GeneratorExp elt [⟨tg, iter, [], 0⟩] scope pos) 0 (.ref it) .none (genEnv scope (cloFrom X.env.cells scope.names []) s4.heap.objs.size code builtinsNs X.env))), toks := s4.toks + 1 + 1 + 1 } s4.gens.size .running)
      H2 w0 (J5 _ b5) (T.keep _ _ _ st2 kfp) (fun b hb => (f2 b hb).1)
    refine ⟨rfl, ?_⟩
    show Seg _ X.A.in1.in1 _ _ _ _ _ ((compStart (.GeneratorExp elt [⟨tg, iter, [], 0⟩] scope pos) 0 (.ref it) .none (genEnv scope (cloFrom X.env.cells scope.names []) s4.heap.objs.size code builtinsNs X.env)).onRaise (leaving (genEnv scope (cloFrom X.env.cells scope.names []) s4.heap.objs.size code builtinsNs X.env))) [] _
    unfold compStart
    rw [Sem.onRaise_eq_wrap]
    show Seg _ X.A.in1.in1 _ _ _ _ _ ((ask >>= _).wrap _ _ _ _) [] _
    refine seg_bind_wrap (wpAny_askSetting ?_)
    split
    · exact seg_again rfl loop
    · first
        | exact seg_bind_wrap (wpAny_rule (seg_bind_wrap (wpAny_standAt (seg_bind_wrap (T.self _ 0 _ _ _ (T.keep _ _ _ st2 kfp) (seg_again rfl loop))))))
        | (refine seg_bind_wrap (wpAny_rule ?_); show Seg _ _ _ _ _ _ _ ((standAt iter.pos >>= _).wrap _ _ _ _) [] _; exact seg_bind_wrap (wpAny_standAt (seg_bind_wrap (T.self _ 0 _ _ _ (T.keep _ _ _ st2 kfp) (seg_again rfl loop)))))
  refine ⟨I2.nolimit, ?_⟩
  cases hf : codeAmong pos ps.toList with
  | none =>
    refine wpAny_genexprCodeX hcode (cd.code hP2 ht) (cd.tab hP2) hf fun c' h' tk hx hge hlt hco' _ htab' _ => ?_
    obtain ⟨o1, vs, f1, tf, fl, tg, inF, tx, tt, op, _, _, _, _, _, _, _, _, _, htr, _⟩ := hco'
    exact cont _ h' tk _ hx (Nat.le_trans hge (Nat.le_of_lt hlt)) htab'.2 htr
  | some cv =>
    refine wpAny_genexprCode_hit hcode (cd.code hP2 ht) hf ?_
    exact cont cv s2.heap s2.toks ps (Heap.ExtBut.refl _ _) (Nat.le_refl _) hP2 ht
end
end Ct
namespace Ct
open PySem PySem.Spec PyProof.Rows L2 GenW
section
variable {X : Cx}
theorem gx_end {pins : List (Addr × Obj)} {σ : L2.St} {H4 : Hp} {s4 s' : Shared} {fp : List Addr} {Q : VK} {b : Bool} (I4 : Inv X pins σ H4 s4) (f4 : ∀ b ∈ fp, FpOk X pins H4 b) (os : s'.os = s4.os) (bare : AllBare s'.gens) (h : GFin X.prog X.w (frs X.stack) fp H4 s4.heap Q b s'.heap) : EP X pins σ Q (.bool b) s' := by
  obtain ⟨H', un, hok, q⟩ := h
  exact ⟨.bl b, H', I4.call' (ch := fp) os un hok bare fun b hb => ⟨(f4 b hb).2.2.2.1, (f4 b hb).2.1, (f4 b hb).2.2.2.2.1, (f4 b hb).2.2.2.2.2⟩, rfl, q⟩
/-- all(elt for tg in iter) -/
theorem pe_allX {c P : Addr} {elt tg iter : Expr} {scope : Scope} {own : List (Str × Nat)} {p pos gpos : Pos} {wi : TI} {g : TG} {te : TE} {k : Nat}
    (hr : Room (k + 1) X.A) (hgl : Gl X "all") (hm : X.mg "all" = none) (hc : X.calm = true) (hN : X.N.Nodup) (TB : GxR.TabB X.base X.mg c P) (hcode : X.env.code = .ref c) (hi : PI X tg iter wi) (ok : BlkOk X.N X.env.scope scope own) (hcell : ∀ y ∈ scope.names, y.2 ≠ .cell) (hco : scope.isCoroutine = false) (hdot : scope.names.lookup (".0" : Str) = some NameKind.local)
    (hg : ∀ (s : Shared) (H : Hp) (C : Addr) (cl : List (Str × Addr)) (cd : Value) (fp : List Addr) (pn : List (Addr × Obj)) (B : Around), PG (gxc X B s H scope (genEnv scope cl C cd builtinsNs X.env) fp pn) tg g)
    (he : ∀ (s : Shared) (H : Hp) (C : Addr) (cl : List (Str × Addr)) (cd : Value) (fp : List Addr) (pn : List (Addr × Obj)) (B : Around), Room k (B.deeper (genEnv scope cl C cd builtinsNs X.env)) → PE (gxc X B s H scope (genEnv scope cl C cd builtinsNs X.env) fp pn) elt te)
    (hs : ∀ x, genFold iter X.env x = pure x := by intro _; rfl) (hb : bootBuiltins "all" = some (.builtin "all") := by decide +kernel)
    (hst : starEach [.GeneratorExp elt [⟨tg, iter, [], 0⟩] scope gpos] X.env = (false, eval (.GeneratorExp elt [⟨tg, iter, [], 0⟩] scope gpos) X.env) :: starEach [] X.env := by rfl) :
    PE X (.Call (.Name "all" p) [.GeneratorExp elt [⟨tg, iter, [], 0⟩] scope gpos] [] pos) (tGen P false wi g te (own.map (·.2))) := by
  refine ⟨fun pins s σ H Q I h => ?_⟩
  refine wpAny_Call_Name_kw (ld_blt I hgl hm hb ?_)
  refine PyProof.Rows.callWith_builtin1 ?_ hst (by rfl)
  rw [hst]
  show wpAny _ _ (spliced ((false, eval (.GeneratorExp elt [⟨tg, iter, [], 0⟩] scope gpos) X.env) :: backTo pos (starEach [] X.env))) _ _ s
  refine Calls.spliced_cons (gen_eval hr hc hN TB hcode hi ok hcell hco hdot hg he hs I h fun a gn s4 s5 H4 fp m gs I4 f4 hgen hlim hgs hgo => ?_)
  refine Calls.spliced_nil ?_
  refine call_function_tree F.kind_all F.plain_all F.entry_all (F.args_all1 _) ?_
  unfold Builtin.«all»
  refine wpAny_bind (m := oneArg "all" _) (wpAny_pure ?_)
  refine wpAny_bind (wpAny_pyIter_gen hgen ?_)
  exact wpAny_pure ⟨plainId_quiet F.plain_all_loop _, all_gx hr.hd hr.depth (fun b s' os bare fin => gx_end I4 f4 os bare fin) m s5 hgen hlim ⟨gs, hgs, hgo⟩⟩
/-- any(elt for tg in iter) -/
theorem pe_anyX {c P : Addr} {elt tg iter : Expr} {scope : Scope} {own : List (Str × Nat)} {p pos gpos : Pos} {wi : TI} {g : TG} {te : TE} {k : Nat}
    (hr : Room (k + 1) X.A) (hgl : Gl X "any") (hm : X.mg "any" = none) (hc : X.calm = true) (hN : X.N.Nodup) (TB : GxR.TabB X.base X.mg c P) (hcode : X.env.code = .ref c) (hi : PI X tg iter wi) (ok : BlkOk X.N X.env.scope scope own) (hcell : ∀ y ∈ scope.names, y.2 ≠ .cell) (hco : scope.isCoroutine = false) (hdot : scope.names.lookup (".0" : Str) = some NameKind.local)
    (hg : ∀ (s : Shared) (H : Hp) (C : Addr) (cl : List (Str × Addr)) (cd : Value) (fp : List Addr) (pn : List (Addr × Obj)) (B : Around), PG (gxc X B s H scope (genEnv scope cl C cd builtinsNs X.env) fp pn) tg g)
    (he : ∀ (s : Shared) (H : Hp) (C : Addr) (cl : List (Str × Addr)) (cd : Value) (fp : List Addr) (pn : List (Addr × Obj)) (B : Around), Room k (B.deeper (genEnv scope cl C cd builtinsNs X.env)) → PE (gxc X B s H scope (genEnv scope cl C cd builtinsNs X.env) fp pn) elt te)
    (hs : ∀ x, genFold iter X.env x = pure x := by intro _; rfl) (hb : bootBuiltins "any" = some (.builtin "any") := by decide +kernel)
    (hst : starEach [.GeneratorExp elt [⟨tg, iter, [], 0⟩] scope gpos] X.env = (false, eval (.GeneratorExp elt [⟨tg, iter, [], 0⟩] scope gpos) X.env) :: starEach [] X.env := by rfl) :
    PE X (.Call (.Name "any" p) [.GeneratorExp elt [⟨tg, iter, [], 0⟩] scope gpos] [] pos) (tGen P true wi g te (own.map (·.2))) := by
  refine ⟨fun pins s σ H Q I h => ?_⟩
  refine wpAny_Call_Name_kw (ld_blt I hgl hm hb ?_)
  refine PyProof.Rows.callWith_builtin1 ?_ hst (by rfl)
  rw [hst]
  show wpAny _ _ (spliced ((false, eval (.GeneratorExp elt [⟨tg, iter, [], 0⟩] scope gpos) X.env) :: backTo pos (starEach [] X.env))) _ _ s
  refine Calls.spliced_cons (gen_eval hr hc hN TB hcode hi ok hcell hco hdot hg he hs I h fun a gn s4 s5 H4 fp m gs I4 f4 hgen hlim hgs hgo => ?_)
  refine Calls.spliced_nil ?_
  refine call_function_tree F.kind_any F.plain_any F.entry_any (F.args_any1 _) ?_
  unfold Builtin.«any»
  refine wpAny_bind (m := oneArg "any" _) (wpAny_pure ?_)
  refine wpAny_bind (wpAny_pyIter_gen hgen ?_)
  exact wpAny_pure ⟨plainId_quiet F.plain_any_loop _, any_gx hr.hd hr.depth (fun b s' os bare fin => gx_end I4 f4 os bare fin) m s5 hgen hlim ⟨gs, hgs, hgo⟩⟩
end
end Ct
namespace Ct
open PySem PySem.Spec PyProof.Rows L2
/-! walking it -/
def GB (P : Addr) (st : Bool) (J : It) (g : TG) (te : TE) (vs : List Nat) (σ : L2.St) (H : Hp) (Q : VK) : Prop := tGen P st (fun _ H R => R J H) g te vs σ H Q
theorem w_gen {P : Addr} {st : Bool} {wi : TI} {g : TG} {te : TE} {vs : List Nat} {σ : L2.St} {H : Hp} {Q : VK} (h : wi σ H fun J H1 => GB P st J g te vs σ H1 Q) : tGen P st wi g te vs σ H Q := h
theorem gb_it {P : Addr} {st : Bool} {J : It} {n : Nat} {G : Hp → Prop} {Y : Nat → Hp → V → Hp → Prop} (w : Walk J n G Y) {g : TG} {te : TE} {vs : List Nat} {σ : L2.St} {H : Hp} {Q : VK} (Pv : Nat → Hp → Prop) (hT : H P = some (TabX P)) (h0 : Pv 0 H) (hG : ∀ i H1, i ≤ n → Pv i H1 → G H1)
    (hs : ∀ i x H1 H2, i < n → Pv i H1 → Y i H1 x H2 → g x (wipe σ vs) H2 fun σ3 H3 => wipe σ3 vs = wipe σ vs ∧ te σ3 H3 fun y H4 => ∃ b, y = .bl b ∧ if b = st then Q (.bl st) H4 else Pv (i + 1) H4) (hd : ∀ H1, Pv n H1 → Q (.bl (!st)) H1) : GB P st J g te vs σ H Q := by
  refine ⟨hT, fun i m H1 => m = n - i ∧ i ≤ n ∧ Pv i H1, ⟨n, by simp, Nat.zero_le _, h0⟩, ?_⟩
  rintro i m H1 ⟨rfl, hi, p⟩
  have q := hG i H1 hi p
  by_cases hlt : i < n
  · exact .inr ⟨w.goes i H1 hlt q, Pv (i + 1), fun H' p' => ⟨n - (i + 1), by omega, rfl, hlt, p'⟩, fun x H' y => hs i x H1 H' hlt p (w.yields i H1 x H' hlt q y)⟩
  · have e : i = n := by omega
    subst e
    exact .inl ⟨w.stops H1 q, hd H1 p⟩
theorem gb_list {K : PySem.W.Frag} {P : Addr} {st : Bool} {a : Addr} (xs : List V) {g : TG} {te : TE} {vs : List Nat} {σ : L2.St} {H : Hp} {Q : VK} (Pv : Nat → Hp → Prop) (hT : H P = some (TabX P)) (h0 : Pv 0 H) (hl : ∀ i H1, i ≤ xs.length → Pv i H1 → SqL K H1 a xs)
    (hs : ∀ i x H1, xs[i]? = some x → Pv i H1 → g x (wipe σ vs) H1 fun σ3 H3 => wipe σ3 vs = wipe σ vs ∧ te σ3 H3 fun y H4 => ∃ b, y = .bl b ∧ if b = st then Q (.bl st) H4 else Pv (i + 1) H4) (hd : ∀ H1, Pv xs.length H1 → Q (.bl (!st)) H1) : GB P st (Itl K a) g te vs σ H Q :=
  gb_it (walk_list (xs := xs)) Pv hT h0 hl (fun i x H1 H2 _ p y => by
    obtain ⟨e, y⟩ := y
    subst e
    exact hs i x _ y p) hd
theorem gb_tup {K : PySem.W.Frag} {P : Addr} {st : Bool} {a : Addr} (xs : List V) {g : TG} {te : TE} {vs : List Nat} {σ : L2.St} {H : Hp} {Q : VK} (Pv : Nat → Hp → Prop) (hT : H P = some (TabX P)) (h0 : Pv 0 H) (hl : ∀ i H1, i ≤ xs.length → Pv i H1 → SqT K H1 a xs)
    (hs : ∀ i x H1, xs[i]? = some x → Pv i H1 → g x (wipe σ vs) H1 fun σ3 H3 => wipe σ3 vs = wipe σ vs ∧ te σ3 H3 fun y H4 => ∃ b, y = .bl b ∧ if b = st then Q (.bl st) H4 else Pv (i + 1) H4) (hd : ∀ H1, Pv xs.length H1 → Q (.bl (!st)) H1) : GB P st (Itt K a) g te vs σ H Q :=
  gb_it (walk_tup (xs := xs)) Pv hT h0 hl (fun i x H1 H2 _ p y => by
    obtain ⟨e, y⟩ := y
    subst e
    exact hs i x _ y p) hd
/-- the tables of the defs that hold generator expressions -/
def Tb (T : List Addr) (H : Hp) : Prop := ∀ P ∈ T, H P = some (TabX P)
theorem Tb.same {T : List Addr} {H H' : Hp} (h : Tb T H) (s : Same H H') : Tb T H' := fun P hP => s _ _ (h P hP)
/-- a def whose own code object is known -/
theorem okC {P : Program} {w : World} {K : PySem.W.Frag} {mg : Str → Option Value} {base : Heap} {x qual : Str} {st : Stmt} {f : Addr} {fd : FuncData} {N ps : List Str} {k : Nat} {sp : Sp} (F : Fun K x qual st f fd) (S : FnScope N ps (defScope st)) (len : ∀ vs H Q E, sp vs H Q E → vs.length = ps.length)
    (hbody : ∀ (A : Around) (outer : List Env) (s : Shared) (H : Hp) (vs : List V) (Q : VK) (E : XK), Room k (A.deeper (envOfC qual (defScope st) s.heap.objs.size f fd.code)) → sp vs H Q E →
      ∃ t, PSs (cxOf CX0 P w K mg base N qual (defScope st) f fd.code A outer s H E).nox (defBody st) t ∧ t { nx := fun _ H' => Q .non H', rt := Q } (start N vs) H) : FnOk P w K mg base CX0 (k + 1) f fd ps sp := by
  obtain ⟨oc, od, kV, doc, pm, an, cdv, ct, osl, rfl, lk, hcd⟩ := F.ex
  refine fn_of lk hcd S len fun A outer s H vs Q E hr hsp => ?_
  obtain ⟨t, h, q⟩ := hbody A outer s H vs Q E hr hsp
  exact ⟨t, h.nox, q⟩
end Ct

/-! the end of a law whose defs hold generator expressions -/
namespace Ct
open PySem PySem.Spec PyProof.Rows L2
def codeOf : Value → Addr
  | .ref c => c
  | _ => 0
/-- where the table of a code object stands -/
def tabOf (K : PySem.W.Frag) (cd : Value) : Addr := match K.lookup (codeOf cd) with
  | some ⟨_, _, .fields vs, _⟩ => (match (vs : Array Value)[11]? with | some (Value.ref P) => P | _ => 0)
  | _ => 0
def tabOkB (K : PySem.W.Frag) (cd : Value) : Bool := match cd with
  | .ref c => (match K.lookup c with
    | some ⟨_, _, .fields vs, _⟩ => (match (vs : Array Value)[11]? with | some (Value.ref P) => (K.lookup P).isNone | _ => false)
    | _ => false)
  | _ => false
theorem tab_inv {K : PySem.W.Frag} {cd : Value} (h : tabOkB K cd = true) : ∃ e dd vs sl, cd = .ref (codeOf cd) ∧ K.lookup (codeOf cd) = some ⟨e, dd, .fields vs, sl⟩ ∧ vs[11]? = some (.ref (tabOf K cd)) ∧ K.lookup (tabOf K cd) = none := by
  unfold tabOkB at h
  cases cd with
  | ref c =>
    cases q : K.lookup c with
    | none =>
      simp only [q] at h
      cases h
    | some o =>
      obtain ⟨e, dd, dt, sl⟩ := o
      cases dt with
      | fields vs =>
        simp only [q] at h
        cases r : vs[11]? with
        | none =>
          simp only [r] at h
          cases h
        | some u =>
          cases u with
          | ref P =>
            simp only [r] at h
            have t : tabOf K (.ref c) = P := by
              unfold tabOf codeOf
              simp only [q, r]
            refine ⟨e, dd, vs, sl, rfl, q, ?_, ?_⟩
            · rw [t]
              exact r
            · rw [t]
              exact Option.isNone_iff_eq_none.mp h
          | _ =>
            simp only [r] at h
            cases h
      | _ =>
        simp only [q] at h
        cases h
  | _ => cases h
/-- a def that is called on the script -/
def RunOk (P : Program) (w : World) (K : PySem.W.Frag) (mg : Str → Option Value) (base : Heap) (fa : Addr) (fd : FuncData) (x : Str) (sp : Sp) : Prop :=
  ∀ (z : Shared) (H : Hp) (ws : List Value) (vs : List V) (Q : VK) (E : XK), Env0 P w K mg base callerA [] z H → BindsTo z fd ⟨ws, []⟩ ([x].zip ws) → Vals vs ws → sp vs H Q E → codeAny (model P w) callerA (.call (.ref fa) ⟨ws, []⟩) (CR CX0 [] P w H z Q E) z
/-- the script's own list, as it stands -/
def SqE (K : PySem.W.Frag) (H : Hp) (a : Addr) (xs : List V) : Prop := Rd H a (.lst xs) ∨ ∃ its : List Value, K.lookup a = some { cls := .type "list", data := .seq its.toArray } ∧ its.length ≤ sizeLine ∧ Vals xs its
theorem SqE.sql {K : PySem.W.Frag} {H : Hp} {a : Addr} {xs : List V} (h : SqE K H a xs) : SqL K H a xs := by
  rcases h with h | ⟨its, hk, hl, rv⟩
  · exact .inl h
  · exact .inr ⟨_, its.toArray, _, hk, rfl, rfl, rfl, by rw [List.size_toArray]; exact hl, by simpa using rv⟩
theorem SqE.same {K : PySem.W.Frag} {H H' : Hp} {a : Addr} {xs : List V} (h : SqE K H a xs) (s : Same H H') : SqE K H' a xs := by
  rcases h with (h | ⟨o, h⟩) | h
  · exact .inl (.inl (s _ _ h))
  · exact .inl (.inr ⟨o, s _ _ h⟩)
  · exact .inr h
/-- the script's list and a tracked one, one behind the other -/
def rCatE (K : PySem.W.Frag) : R2 := fun x y H Q => ∃ a b xs ys, x = .ref a ∧ y = .ref b ∧ SqE K H a xs ∧ H b = some (.lst ys) ∧ xs.length + ys.length ≤ sizeLine ∧ ∀ p, H p = none → Q (.ref p) (upd H p (.lst (xs ++ ys)))
theorem op_catE {X : Cx} : OpR X (binaryOp .Add) (rCatE X.K) := by
  intro pins s σ H x y v u Q I rx ry h
  obtain ⟨a, b, xs, ys, rfl, rfl, ha, hb, few, q⟩ := h
  cases rx
  cases ry
  obtain ⟨its, n, rv, ea⟩ : ∃ (its : List Value) (n : Nat), Vals xs its ∧ s.heap.get? a = some { cls := .type "list", data := .seq its.toArray n } := by
    rcases ha with h | ⟨its, hk, _, rv⟩
    · obtain ⟨_, its, n, rv, e⟩ := h.ok I.hok
      exact ⟨its, n, rv, e⟩
    · exact ⟨its, _, rv, I.kIn _ _ hk⟩
  obtain ⟨_, jts, m, rw', _, eb⟩ := I.lstM hb
  have l1 := rv.length
  have l2 := rw'.length
  refine PySem.P.add_list ea eb ?_ (by rw [List.size_toArray, List.size_toArray]; omega)
  rw [show its.toArray ++ jts.toArray = (its ++ jts).toArray by simp]
  exact ⟨.ref _, _, I.lnew (t' := s.toks) (rv.append rw') (by rw [List.length_append]; omega), rfl, q _ I.fresh⟩
theorem law_callX {P : Program} {w : World} {K : PySem.W.Frag} {mg mb : Str → Option Value} {fa a : Addr} {cs : List (Addr × Addr)} {fd : FuncData} {x : Str} {sp : Sp} {s₁ : Shared} {vs : List Value} {ns : List Int}
    (KX : K.In s₁.heap) (hns : s₁.heap.Ns mainGlobals mg) (hb : s₁.heap.Ns builtinsNs mb) (hbb : ∀ x : Str, x ≠ "__name__" → mb x = bootBuiltins x) (hlim : s₁.heap.NoLimit) (hg : s₁.gens = #[])
    (hT : ∀ p ∈ cs, s₁.heap.get? p.2 = some { cls := .none, data := .fields #[] }) (nT : ∀ p ∈ cs, K.lookup p.2 = none) (C : ∀ p ∈ cs, PySem.W.CodeHd s₁.heap p.1 p.2)
    (hbm : ∃ (bm : Addr) (ob : Obj), mg "__builtins__" = some (.ref bm) ∧ bm ≠ builtinsNs ∧ s₁.heap.get? bm = some ob ∧ ob.cls = .type "module" ∧ ob.dict = some builtinsNs ∧ ob.data = .plain)
    (ha : s₁.heap.get? a = some { cls := .type "list", data := .seq vs.toArray }) (hi : IntsAre vs ns) (hl : ns.length ≤ sizeLine)
    (F : ∀ base : Heap, K.In base → base.Ns mainGlobals mg → (∀ p ∈ cs, GxR.TabB base mg p.1 p.2) → RunOk P w K mg base fa fd x sp) (hbind : ∀ (s : Shared) (u : Value), BindsTo s fd ⟨[u], []⟩ [(x, u)])
    (hsp : ∀ H : Hp, (∀ p ∈ cs, H p.2 = some (TabX p.2)) → SqE K H a (ns.map V.int) → sp [.ref a] H (fun v H' => v = .bl true ∧ Same H H') fun _ _ _ => False) :
    codeAny (model P w) callerA (.call (.ref fa) ⟨[.ref a], []⟩) (fun r s' => r = .ok (.ret (.bool true)) ∧ OldK s₁.heap s'.heap ∧ s'.os = s₁.os ∧ AllBare s'.gens) s₁ := by
  have rv := vals_ints hi
  have lenV := hi.length
  have isT : ∀ b : Addr, b ∈ cs.map (·.2) → s₁.heap.get? b = some { cls := .none, data := .fields #[] } := fun b hb => by
    obtain ⟨p, hp, e⟩ := List.mem_map.mp hb
    rw [← e]
    exact hT p hp
  have aT : a ∉ cs.map (·.2) := fun z => by
    have q := isT a z
    rw [ha] at q
    have z' : Data.seq vs.toArray _ = Data.fields #[] := congrArg Obj.data (Option.some.inj q)
    cases z'
  have memT : ∀ p ∈ cs, p.2 ∈ cs.map (·.2) := fun p hp => List.mem_map.mpr ⟨p, hp, rfl⟩
  have core : ∀ H : Hp, (∀ b, b ∈ cs.map (·.2) → H b = some (TabX b)) → (∀ b, H b = none ∨ b ∈ cs.map (·.2) ∨ ∃ o xs, H b = some (.frz o (.lst xs))) → SqE K H a (ns.map V.int) → HOk P w H s₁.heap → (∀ b, H b ≠ none → b = a ∨ b ∈ cs.map (·.2)) → (H a ≠ none → K.lookup a = none) →
      codeAny (model P w) callerA (.call (.ref fa) ⟨[.ref a], []⟩) (fun r s' => r = .ok (.ret (.bool true)) ∧ OldK s₁.heap s'.heap ∧ s'.os = s₁.os ∧ AllBare s'.gens) s₁ := by
    intro H hH hO hS hok hA hK
    have base_of : ∀ {b : Addr} {o : Obj}, s₁.heap.get? b = some o → H b = none → (hidT s₁.heap H).get? b = some o := fun e n => hidT_get e n
    have noD : ∀ {b : Addr} {o : Obj}, s₁.heap.get? b = some o → (∀ vs n, o.data ≠ .seq vs n) → o.data ≠ .fields #[] → H b = none := fun {b o} e h1 h2 => by
      cases q : H b with
      | none => rfl
      | some u =>
        rcases hA b (by rw [q]; simp) with e' | e'
        · rw [e', ha] at e
          cases e
          exact (h1 _ _ rfl).elim
        · rw [isT b e'] at e
          cases e
          exact (h2 rfl).elim
    have noA : ∀ {b : Addr} {o : Obj} {es : Array DictEntry} {ep : Nat}, s₁.heap.get? b = some o → o.data = .dict es ep → H b = none := fun {b o es ep} e d => by
      refine noD e (fun vs n z => ?_) fun z => ?_
      · rw [d] at z
        cases z
      · rw [d] at z
        cases z
    have nsK : ∀ {b : Addr} {m : Str → Option Value}, s₁.heap.Ns b m → (hidT s₁.heap H).Ns b m := fun {b m} ⟨o, es, ep, e, d, r⟩ => ⟨o, es, ep, base_of e (noA e d), d, r⟩
    have hKb : K.In (hidT s₁.heap H) := fun b o e => base_of (KX b o e) (by
      cases q : H b with
      | none => rfl
      | some u =>
        rcases hA b (by rw [q]; simp) with e' | e'
        · rw [e'] at e q
          rw [hK (by rw [q]; simp)] at e
          cases e
        · obtain ⟨p, hp, ep⟩ := List.mem_map.mp e'
          rw [← ep, nT p hp] at e
          cases e)
    have hM : L2.Mod K mg (hidT s₁.heap H) := ⟨hKb, nsK hns, ⟨mb, nsK hb, hbb⟩, let ⟨mc, h1, h2⟩ := hlim; ⟨mc, nsK h1, h2⟩⟩
    have TB : ∀ p ∈ cs, GxR.TabB (hidT s₁.heap H) mg p.1 p.2 := fun p hp => by
      have hTp := hT p hp
      refine ⟨?_, ?_, fun z => ?_⟩
      · obtain ⟨o, us, file, tf, flags, tg, inF, text, tt, e1, r1, r2, r3, r4, r5, r6, r7, r8, hne⟩ := C p hp
        refine ⟨o, us, file, tf, flags, tg, inF, text, tt, base_of e1 (noD e1 (fun vs n z => ?_) fun z => ?_), r1, r2, r3, r4, r5, r6, r7, r8, hne⟩
        · rw [r2] at z
          cases z
        · rw [r2] at z
          cases z
          simp at r3
      · obtain ⟨bm, ob, b1, b2, b3, b4, b5, b6⟩ := hbm
        have nG : bm ≠ mainGlobals := fun q => by
          obtain ⟨o, es, ep, e, hd, _⟩ := hns
          rw [q, e] at b3
          cases b3
          rw [hd] at b6
          cases b6
        have nP : bm ≠ p.2 := fun q => by
          rw [q, hTp] at b3
          cases b3
          cases b6
        refine ⟨bm, ob, b1, b2, nG, nP, base_of b3 (noD b3 (fun vs n z => ?_) fun z => ?_), b4, b5, b6⟩
        · rw [b6] at z
          cases z
        · rw [b6] at z
          cases z
      · obtain ⟨o, es, ep, e, hd, _⟩ := hns
        rw [z, hTp] at e
        cases e
        cases hd
    have e0 : Env0 P w K mg (hidT s₁.heap H) callerA [] s₁ H := ⟨rfl, hM, fun b o e => of_hidT e, Nat.le_of_eq (hidT_size _ _), trivial, fun b hb => absurd (show b ∈ ([] : List Addr) from hb) (by simp), hok, .of_eq hg⟩
    refine codeAny_mono (F _ hKb (nsK hns) TB s₁ H [.ref a] [.ref a] _ _ e0 (hbind s₁ (.ref a)) (.cons rfl .nil) (hsp H (fun p hp => hH _ (memT p hp)) hS)) fun r s' h => ?_
    cases r with
    | error e => exact (show False from h).elim
    | ok fl =>
      cases fl with
      | next => exact False.elim h
      | brk => exact False.elim h
      | cont => exact False.elim h
      | ret u =>
        obtain ⟨v, H', os, bare, un, hok', r', q, sm⟩ := h
        subst q
        obtain rfl : u = Value.bool true := r'
        have key : ∀ b o, b ∉ cs.map (·.2) → s₁.heap.get? b = some o → s'.heap.get? b = some o := fun b o nb e => by
          cases q : H b with
          | none => exact un.keep b o e q (by intro z; exact absurd (show b ∈ ([] : List Addr) from z) (by simp)) (by simp)
          | some u =>
            rcases hO b with z | z | ⟨ob, xs, z⟩
            · rw [q] at z; cases z
            · exact absurd z nb
            · have z2 := un.frzs b ob _ z
              obtain ⟨e1, _⟩ := hok b _ z
              obtain ⟨e2, _⟩ := hok' b _ z2
              rw [e] at e1; cases e1
              exact e2
        have grown : ∀ p ∈ cs, ∃ more : Array Value, s'.heap.get? p.2 = some { cls := .none, data := .fields more } := fun p hp => by
          obtain ⟨⟨more, z, _⟩, _⟩ := hok' p.2 _ (sm _ _ (hH _ (memT p hp)))
          exact ⟨_, z⟩
        refine ⟨rfl, ⟨fun b o e => ?_, fun b o e => ?_⟩, os, bare⟩
        · by_cases hb : b ∈ cs.map (·.2)
          · obtain ⟨p, hp, ep⟩ := List.mem_map.mp hb
            obtain ⟨more, hm⟩ := grown p hp
            rw [← ep] at e ⊢
            rw [hT p hp] at e
            cases e
            exact .inr (.inl ⟨((C p hp).tab (hT p hp)).isCodeTable, rfl, #[], more, rfl, by rw [Array.empty_append]; exact hm⟩)
          · exact .inl (key b o hb e)
        · by_cases hb : b ∈ cs.map (·.2)
          · obtain ⟨p, hp, ep⟩ := List.mem_map.mp hb
            obtain ⟨more, hm⟩ := grown p hp
            rw [← ep]
            exact ⟨_, hm⟩
          · exact ⟨o, key b o hb e⟩
  cases hk : K.lookup a with
  | some o =>
    have e := KX a o hk
    rw [ha] at e
    cases e
    refine core (fun b => if b ∈ cs.map (·.2) then some (TabX b) else none) (fun b hb => if_pos hb) (fun b => ?_) (.inr ⟨vs, hk, by rw [lenV]; exact hl, rv⟩) (fun b u z => ?_) (fun b z => ?_) fun z => absurd (show (if a ∈ cs.map (·.2) then some (TabX a) else none) = none from if_neg aT) z
    · by_cases hb : b ∈ cs.map (·.2)
      · exact .inr (.inl hb)
      · exact .inl (if_neg hb)
    · by_cases hb : b ∈ cs.map (·.2)
      · have z' := (if_pos hb).symm.trans z
        cases z'
        exact tabx_ok (isT b hb) True.intro
      · have z' := (if_neg hb).symm.trans z
        cases z'
    · by_cases hb : b ∈ cs.map (·.2)
      · exact .inr hb
      · exact absurd (if_neg hb) z
  | none =>
    refine core (fun b => if b = a then some (.frz { cls := .type "list", data := .seq vs.toArray } (.lst (ns.map V.int))) else if b ∈ cs.map (·.2) then some (TabX b) else none) (fun b hb => (if_neg (show ¬ b = a from fun z => aT (by rw [← z]; exact hb))).trans (if_pos hb)) (fun b => ?_)
      (.inl (.inr ⟨{ cls := .type "list", data := .seq vs.toArray }, if_pos rfl⟩)) (fun b u z => ?_) (fun b z => ?_) fun _ => hk
    · by_cases hb : b = a
      · exact .inr (.inr ⟨_, _, if_pos hb⟩)
      · by_cases hb2 : b ∈ cs.map (·.2)
        · exact .inr (.inl hb2)
        · exact .inl ((if_neg hb).trans (if_neg hb2))
    · by_cases hb : b = a
      · have z' := (if_pos hb).symm.trans z
        cases z'
        rw [hb]
        exact ⟨ha, by rw [List.length_map]; exact hl, vs, _, rv, ha⟩
      · have z1 := (if_neg hb).symm.trans z
        by_cases hb2 : b ∈ cs.map (·.2)
        · have z' := (if_pos hb2).symm.trans z1
          cases z'
          exact tabx_ok (isT b hb2) True.intro
        · have z' := (if_neg hb2).symm.trans z1
          cases z'
    · by_cases hb : b = a
      · exact .inl hb
      · by_cases hb2 : b ∈ cs.map (·.2)
        · exact .inr hb2
        · exact absurd ((if_neg hb).trans (if_neg hb2)) z
/-- what is known of the law's promise: cs, the defs that hold generator expressions and their code objects -/
def LawAtX (l : PySem.W.OpenLaw) (w : World) (K : PySem.W.Frag) (n : Nat) (x : Str) (mg : Str → Option Value) (fa : Addr) (defs : List Str) : Prop :=
  ∃ (fd : FuncData) (cs : List (Str × Value)) (sp : Sp), (∀ p ∈ cs, p.1 ∈ defs ∧ ∃ (f : Addr) (oc : Value) (od : Option Addr) (fdx : FuncData) (osl : Array (Option Value)), mg p.1 = some (.ref f) ∧ K.lookup f = some ⟨oc, od, .func fdx, osl⟩ ∧ fdx.code = p.2 ∧ tabOkB K p.2 = true) ∧ (∀ (s : Shared) (u : Value), BindsTo s fd ⟨[u], []⟩ [(x, u)]) ∧
    (∀ (H : Hp) (a : Addr) (ns : List Int), ns.length ≤ n → (∀ p ∈ cs, H (tabOf K p.2) = some (TabX (tabOf K p.2))) → SqE K H a (ns.map V.int) → sp [.ref a] H (fun v H' => v = .bl true ∧ Same H H') fun _ _ _ => False) ∧
    ∀ base : Heap, K.In base → base.Ns mainGlobals mg → (∀ p ∈ cs, GxR.TabB base mg (codeOf p.2) (tabOf K p.2)) → RunOk l.prog w K mg base fa fd x sp
theorem walk_ofX {l : PySem.W.OpenLaw} {n : Nat} {q : Program} {loose : List Str} {XP : (Str → Option Value) → Heap → Prop} {YP : World → Heap → Prop} {d : DefRec} {K : Params → PySem.W.Frag} {x : Str} {defs : List Str}
    (hn : l.most = some n) (hn2 : n ≤ sizeLine) (hdf : d.params.defaults = []) (hrec : (defs.all fun y => (recsOf q).any fun e => e.name == y) = true) (hY : ∀ (w : World) (h : Heap), YP w h → (K w.params).In h)
    (F : ∀ (w : World) (mg : Str → Option Value) (fa : Addr) (h : Heap), (K w.params).In h → h.Ns mainGlobals mg → mg d.name = some (.ref fa) → LawAtX l w (K w.params) n x mg fa defs) :
    PySem.W.WalkO q loose XP YP l.row.toRowW d [] (fun f vs => PySem.call f vs) := by
  refine Att.attach_callB hn hdf fun w s₀ s₁ mg mb fa o pm cd doc a vs ns G Y ho hd hcd hmg hobj hints hlen hbits hg => ?_
  have KX := hY w _ Y
  obtain ⟨fd, cs, sp, hcs, hb, hsp, hF⟩ := F w mg fa _ KX G.T.g hmg
  have facts : ∀ p ∈ cs, s₁.heap.get? (tabOf (K w.params) p.2) = some { cls := .none, data := .fields #[] } ∧ (K w.params).lookup (tabOf (K w.params) p.2) = none ∧ PySem.W.CodeHd s₁.heap (codeOf p.2) (tabOf (K w.params) p.2) := fun p hp => by
    obtain ⟨hm, f, oc, od, fdx, osl, g1, g2, g3, g4⟩ := hcs p hp
    obtain ⟨e, dd, us, sl, t1, t2, t3, t4⟩ := tab_inv g4
    obtain ⟨dL, hdm, hn1⟩ := List.any_eq_true.mp (List.all_eq_true.mp hrec _ hm)
    have hn2 : dL.name = p.1 := beq_iff_eq.mp hn1
    obtain ⟨a', o', fd', c', P', h1, h2, h3, h4, h5, h6⟩ := G.T.tab dL hdm
    rw [hn2, g1] at h1
    cases h1
    rw [KX _ _ g2] at h2
    cases h2
    cases h3
    rw [g3, t1] at h4
    cases h4
    obtain ⟨⟨ob, vc, e1, e2, e3, e4⟩, hP⟩ := id h6
    rw [KX _ _ t2] at e1
    cases e1
    cases e3
    rw [t3] at e4
    cases e4
    exact ⟨hP, t4, .of h5 h6⟩
  refine law_callX (cs := cs.map fun p => (codeOf p.2, tabOf (K w.params) p.2)) KX G.T.g G.T.b G.T.builtins G.T.nolimit hg ?_ ?_ ?_ G.T.bmain hobj hints (Nat.le_trans hlen hn2) (fun base h1 h2 h3 => hF base h1 h2 fun p hp => h3 _ (List.mem_map.mpr ⟨p, hp, rfl⟩)) hb fun H hH hS => hsp H a ns hlen (fun p hp => hH _ (List.mem_map.mpr ⟨p, hp, rfl⟩)) hS
  · intro p hp
    obtain ⟨q, hq, rfl⟩ := List.mem_map.mp hp
    exact (facts q hq).1
  · intro p hp
    obtain ⟨q, hq, rfl⟩ := List.mem_map.mp hp
    exact (facts q hq).2.1
  · intro p hp
    obtain ⟨q, hq, rfl⟩ := List.mem_map.mp hp
    exact (facts q hq).2.2
theorem RunOk.of {P : Program} {w : World} {K : PySem.W.Frag} {mg : Str → Option Value} {base : Heap} {k : Nat} {fa : Addr} {fd : FuncData} {x : Str} {sp : Sp} (hr : Room k callerA) (F : FnOk P w K mg base CX0 k fa fd [x] sp) : RunOk P w K mg base fa fd x sp :=
  fun z H ws vs Q E e b r h => F.run callerA [] z H ⟨ws, []⟩ ws vs Q E hr e b r h
end Ct

/-! a def that raises and holds generator expressions -/
namespace Ct
open PySem PySem.Spec PyProof.Rows L2
theorem okXC {P : Program} {w : World} {K : PySem.W.Frag} {mg : Str → Option Value} {base : Heap} {x qual : Str} {st : Stmt} {f : Addr} {fd : FuncData} {N ps : List Str} {k : Nat} {sp : Sp} (F : Fun K x qual st f fd) (S : FnScope N ps (defScope st)) (len : ∀ vs H Q E, sp vs H Q E → vs.length = ps.length)
    (body : ∀ (A : Around) (outer : List Env) (s : Shared) (H : Hp) (vs : List V) (Q : VK) (E : XK), Room k (A.deeper (envOfC qual (defScope st) s.heap.objs.size f fd.code)) → sp vs H Q E →
      ∃ t, PSs (cxOf (L2.CX P w) P w K mg base N qual (defScope st) f fd.code A outer s H E) (defBody st) t ∧ t { nx := fun _ H' => Q .non H', rt := Q } (start N vs) H) : FnOk P w K mg base (L2.CX P w) (k + 1) f fd ps sp := by
  obtain ⟨oc, od, kV, doc, pm, an, cdv, ct, osl, rfl, lk, hcd⟩ := F.ex
  exact fn_of lk hcd S len body
end Ct

/-! a list of draws: a number, how often it was drawn from, a truth; it is written -/
namespace Ct
open PySem PySem.Spec PyProof.Rows L2
def DrO (a : Addr) (c : Nat) : HO := .ext fun h => ∃ (n : Int) (b : Bool) (its : List Value) (m : Nat), Vals [.int n, .int (c : Int), .bl b] its ∧ h.get? a = some { cls := .type "list", data := .seq its.toArray m }
theorem drO_ok {P : Program} {w : World} {H : Hp} {h : Heap} {a : Addr} {c : Nat} {n : Int} {b : Bool} {its : List Value} {m : Nat} (r : Vals [.int n, .int (c : Int), .bl b] its) (e : h.get? a = some { cls := .type "list", data := .seq its.toArray m }) : ObjOk P w H h a (DrO a c) :=
  ⟨⟨n, b, its, m, r, e⟩, ⟨_, e⟩, fun _ _ ⟨n, b, its, m, r, e⟩ keep => ⟨n, b, its, m, r, keep _ e⟩⟩
section
variable {X : Cx}
theorem dr_get {pins : List (Addr × Obj)} {σ : L2.St} {H : Hp} {s : Shared} {p : Addr} {c : Nat} (I : Inv X pins σ H s) (h : H p = some (DrO p c)) : ∃ (n : Int) (b : Bool) (its : List Value) (m : Nat), Vals [.int n, .int (c : Int), .bl b] its ∧ s.heap.get? p = some { cls := .type "list", data := .seq its.toArray m } :=
  (show ObjOk X.prog X.w H s.heap p (DrO p c) from I.hok p _ h).1
def rIxDr : R2 := fun x y H Q => ∃ (p : Addr) (i : Int) (c : Nat), x = .ref p ∧ y = .int i ∧ H p = some (DrO p c) ∧ (i = 0 ∧ (∀ n : Int, Q (.int n) H) ∨ i = 1 ∧ Q (.int (c : Int)) H ∨ i = 2 ∧ ∀ b, Q (.bl b) H)
theorem ix_dr : IxR X rIxDr := by
  intro value slice pins s σ H x y v u Q I rx ry h hs
  obtain ⟨p, i, c, rfl, rfl, hp, q⟩ := h
  cases rx
  obtain ⟨t, rfl⟩ := ry
  obtain ⟨n, b, its, m, r, e⟩ := dr_get I hp
  have pl : PlainL s.heap p its.toArray := ⟨_, m, e, rfl, rfl, rfl⟩
  have hl := r.length
  have hn := line63
  rcases q with ⟨rfl, q⟩ | ⟨rfl, q⟩ | ⟨rfl, q⟩
  · obtain ⟨w, ew, rw'⟩ := r.get (i := 0) (x := .int n) rfl
    exact item_listR pl.isList (by decide) (by omega) (by simpa using ew) ⟨.int n, H, I, rw', q n⟩ hs
  · obtain ⟨w, ew, rw'⟩ := r.get (i := 1) (x := .int (c : Int)) rfl
    exact item_listR pl.isList (by decide) (by omega) (by simpa using ew) ⟨.int (c : Int), H, I, rw', q⟩ hs
  · obtain ⟨w, ew, rw'⟩ := r.get (i := 2) (x := .bl b) rfl
    exact item_listR pl.isList (by decide) (by omega) (by simpa using ew) ⟨.bl b, H, I, rw', q b⟩ hs
def rSetDr : V → V → V → Hp → (Hp → Prop) → Prop := fun o i v H Q => ∃ (p : Addr) (k : Int) (c : Nat), o = .ref p ∧ i = .int k ∧ H p = some (DrO p c) ∧ (k = 0 ∧ (∃ n : Int, v = .int n) ∧ Q (upd H p (DrO p c)) ∨ k = 1 ∧ ∃ c' : Nat, v = .int (c' : Int) ∧ Q (upd H p (DrO p c')))
theorem dr_write {pins : List (Addr × Obj)} {σ : L2.St} {H : Hp} {s : Shared} {p : Addr} {c c' : Nat} {its its' : List Value} {m m' : Nat} {f : Obj → Obj} {n : Int} {b : Bool} (I : Inv X pins σ H s) (h : H p = some (DrO p c))
    (ho : s.heap.get? p = some { cls := .type "list", data := .seq its.toArray m }) (hf : f { cls := .type "list", data := .seq its.toArray m } = { cls := .type "list", data := .seq its'.toArray m' }) (r : Vals [.int n, .int (c' : Int), .bl b] its') (t : Nat) :
    Inv X pins σ (upd H p (DrO p c')) { s with heap := s.heap.update p f, toks := t } := by
  have e : (s.heap.update p f).get? p = some { cls := .type "list", data := .seq its'.toArray m' } := by
    rw [Heap.get?_update_self f ho (by rw [hf] <;> rfl), hf]
  exact I.write (x := p) (e := p) (by rw [h]; trivial) (.inl rfl) (fun b u hb q => (Heap.get?_update_other _ _ (Ne.symm hb)).trans q) ⟨_, e⟩ (drO_ok r e)
theorem set_dr : PSet X rSetDr := by
  intro pins s σ H o i v ov iv u Q I ro ri rv h
  obtain ⟨p, k, c, rfl, rfl, hp, q⟩ := h
  cases ro
  obtain ⟨t, rfl⟩ := ri
  obtain ⟨n, b, its, m, r, e⟩ := dr_get I hp
  have hl := r.length
  have hn := line63
  rcases q with ⟨rfl, ⟨n', rfl⟩, q⟩ | ⟨rfl, c', rfl, q⟩
  · have I' := dr_write I hp e (mapSeq_set its m 0 u) (r.set rv 0) s.toks
    exact PySem.W.ki_setAt e (by decide) (by omega) (by rw [List.size_toArray, ← hl]; show (0 : Int) < ((3 : Nat) : Int); decide) ⟨_, I', q⟩
  · have I' := dr_write I hp e (mapSeq_set its m 1 u) (r.set rv 1) s.toks
    exact PySem.W.ki_setAt e (by decide) (by omega) (by rw [List.size_toArray, ← hl]; show (1 : Int) < ((3 : Nat) : Int); decide) ⟨_, I', q⟩
def tLstDr (t : TA) : TE := fun σ H Q => t σ H fun xs H1 => ∃ (n : Int) (c : Nat) (b : Bool), xs = [.int n, .int (c : Int), .bl b] ∧ ∀ p, H1 p = none → Q (.ref p) (upd H1 p (DrO p c))
theorem pe_lstDr {es : List Expr} {t : TA} {pos : Pos} (h : PA X es t) : PE X (.List es pos) (tLstDr t) := by
  refine ⟨fun pins s σ H Q I hq => ?_⟩
  refine wpAny_List_spliced (thn (h.run pos pins s σ H _ I hq) fun us s1 ⟨xs, H1, I1, r, n, c, b, ex, q⟩ => ?_)
  subst ex
  refine ⟨by rw [← r.length]; show 3 ≤ sizeLine; decide, ?_⟩
  have hf : H1 s1.heap.objs.size = none := I1.hok.fresh (Nat.le_refl _)
  exact ⟨.ref s1.heap.objs.size, upd H1 s1.heap.objs.size (DrO _ c), I1.laid (t' := s1.toks) (fun b u e => Heap.get?_push_of_some _ e) (Nat.le_refl _) (drO_ok r (Heap.get?_push_size _ rfl)), rfl, q _ hf⟩
end
section
variable {H : Hp} {σ : L2.St} {Q : VK}
theorem w_lstDr {t : TA} (h : t σ H fun xs H1 => ∃ (n : Int) (c : Nat) (b : Bool), xs = [.int n, .int (c : Int), .bl b] ∧ ∀ p, H1 p = none → Q (.ref p) (upd H1 p (DrO p c))) : tLstDr t σ H Q := h
theorem w_dr0 {p : Addr} {c : Nat} (h : H p = some (DrO p c)) (q : ∀ n : Int, Q (.int n) H) : rIxDr (.ref p) (.int 0) H Q := ⟨p, 0, c, rfl, rfl, h, .inl ⟨rfl, q⟩⟩
theorem w_dr1 {p : Addr} {c : Nat} (h : H p = some (DrO p c)) (q : Q (.int (c : Int)) H) : rIxDr (.ref p) (.int 1) H Q := ⟨p, 1, c, rfl, rfl, h, .inr (.inl ⟨rfl, q⟩)⟩
theorem w_dr2 {p : Addr} {c : Nat} (h : H p = some (DrO p c)) (q : ∀ b, Q (.bl b) H) : rIxDr (.ref p) (.int 2) H Q := ⟨p, 2, c, rfl, rfl, h, .inr (.inr ⟨rfl, q⟩)⟩
end
/-- the draws at D were drawn from, c times by now; all else that was tracked stays -/
def Dr (D : Addr) (c : Nat) (H H' : Hp) : Prop := But D H H' ∧ H' D = some (DrO D c)
theorem Dr.refl {D : Addr} {c : Nat} {H : Hp} (h : H D = some (DrO D c)) : Dr D c H H := ⟨But.refl, h⟩
theorem Dr.next {D : Addr} {c : Nat} {H H' : Hp} (h : Dr D c H H') (c' : Nat) : Dr D c' H (upd H' D (DrO D c')) := ⟨h.1.trans but_upd, upd_same⟩
theorem Dr.same {D : Addr} {c : Nat} {H H' H2 : Hp} (h : Dr D c H H') (s : Same H' H2) : Dr D c H H2 := ⟨h.1.trans (but_same s), s _ _ h.2⟩
theorem Dr.trans {D : Addr} {c c' : Nat} {H H' H2 : Hp} (h : Dr D c H H') (g : Dr D c' H' H2) : Dr D c' H H2 := ⟨h.1.trans g.1, g.2⟩
theorem Dr.ext {D : Addr} {c : Nat} {H H' : Hp} (h : Dr D c H H') : Ext H' D := ⟨_, h.2⟩
theorem drO_ext {D : Addr} {c : Nat} {H : Hp} (h : H D = some (DrO D c)) : Ext H D := ⟨_, h⟩
theorem Dr.free {D : Addr} {c : Nat} {H H' : Hp} (h : Dr D c H H') {a : Addr} (n : H' a = none) : H a = none := by
  cases e : H a with
  | none => rfl
  | some o =>
    by_cases z : a = D
    · rw [z, h.2] at n
      cases n
    · rw [h.1 a o z e] at n
      cases n
/-- a list made in between is not the draws -/
theorem Dr.at {D l : Addr} {c c' : Nat} {H H' : Hp} {o : HO} (h : Dr D c H H') (hD : H D = some (DrO D c')) (hl : H l = some o) (ne : ∀ f, o ≠ .ext f := by intro f z; cases z) : H' l = some o :=
  h.1 l o (fun z => by rw [z, hD] at hl; exact ne _ (Option.some.inj hl).symm) hl
/-- a list made since is written -/
theorem Dr.put {D l : Addr} {c : Nat} {H H' : Hp} {o o' : HO} (h : Dr D c H H') (n : H l = none) (hl : H' l = some o) (ne : ∀ f, o ≠ .ext f := by intro f z; cases z) : Dr D c H (upd H' l o') := by
  have lD : l ≠ D := fun z => by rw [z, h.2] at hl; exact ne _ (Option.some.inj hl).symm
  refine ⟨fun a u na ha => ?_, by rw [upd_ne lD.symm]; exact h.2⟩
  rw [upd_ne (fun z => by rw [z, n] at ha; cases ha)]
  exact h.1 a u na ha
theorem rep_flat (w : V) : ∀ k : Nat, (List.replicate k [w]).flatten = List.replicate k w
  | 0 => rfl
  | k + 1 => by
    rw [List.replicate_succ, List.flatten_cons, rep_flat w k, List.replicate_succ]
    rfl
theorem cut_toB (xs : List V) (k : Nat) : cutV xs none (some (k : Int)) = xs.take k := by
  unfold cutV
  rw [HT.sIx_none, HT.sIx_nat, List.drop_zero, Nat.sub_zero]
  by_cases h : k ≤ xs.length
  · rw [Nat.min_eq_left h]
  · rw [Nat.min_eq_right (by omega), List.take_length, List.take_of_length_le (by omega)]
/-- a show: a way, and what was shown -/
def sh2D (s : Int × Int) : PyData := .tuple [.int s.1, .int s.2]
def Sh2Ok (s : Int × Int) : Prop := Sign s.1 ∧ (s.2 = 0 ∨ Sign s.2)
theorem sh2_inv {K : PySem.W.Frag} {H : Hp} {v : V} {s : Int × Int} (h : Dp K H v (sh2D s)) : ∃ a, v = .ref a ∧ SqT K H a [.int s.1, .int s.2] := by
  obtain ⟨a, vs, rfl, h1, h2⟩ := tup_inv h
  cases dpAll_ints_inv [s.1, s.2] h2
  exact ⟨a, rfl, h1⟩
theorem sh2_dp {K : PySem.W.Frag} {H : Hp} {a : Addr} {s : Int × Int} (h : SqT K H a [.int s.1, .int s.2]) : Dp K H (.ref a) (sh2D s) := .tup h (.cons (.int _) (.cons (.int _) .nil))
theorem sh2_upd {K : PySem.W.Frag} {H : Hp} {l : Addr} {ws : List V} {o : HO} (hl : H l = some (.lst ws)) {v : V} {s : Int × Int} (h : Dp K H v (sh2D s)) : Dp K (upd H l o) v (sh2D s) := by
  obtain ⟨g, rfl, hg⟩ := sh2_inv h
  exact sh2_dp (sqT_upd hg hl)
theorem sh2s_upd {K : PySem.W.Frag} {H : Hp} {l : Addr} {ws : List V} {o : HO} (hl : H l = some (.lst ws)) : ∀ {vs : List V} {ss : List (Int × Int)}, DpAll K H vs (ss.map sh2D) → DpAll K (upd H l o) vs (ss.map sh2D)
  | _, [], .nil => .nil
  | _, s :: ss, .cons h t => .cons (sh2_upd hl h) (sh2s_upd hl t)
theorem lay_sh2s (ss : List (Int × Int)) : (PyData.list (ss.map sh2D)).canLay0 = true ∧ (PyData.list (ss.map sh2D)).depth ≤ 2 := lay_lst fun d hd => by
  obtain ⟨w, _, rfl⟩ := List.mem_map.mp hd
  exact lay_tup (n := 0) (lay_ints [w.1, w.2] 0)
theorem Dr.step {D : Addr} {c : Nat} {H : Hp} (h : H D = some (DrO D c)) (c' : Nat) : Dr D c' H (upd H D (DrO D c')) := (Dr.refl h).next c'
theorem Dr.all {K : PySem.W.Frag} {D : Addr} {c c' : Nat} {H H' : Hp} (d : Dr D c' H H') (h : H D = some (DrO D c)) {vs : List V} {ds : List PyData} (x : DpAll K H vs ds) : DpAll K H' vs ds := dpAll_but (drO_ext h) d.1 x
/-- a pass: what came, at which tooth, what was shown -/
abbrev Pass := Int × Int × Int
def passD (s : Pass) : PyData := .tuple [.int s.1, .int s.2.1, .int s.2.2]
theorem pass_inv {K : PySem.W.Frag} {H : Hp} {v : V} {s : Pass} (h : Dp K H v (passD s)) : ∃ a, v = .ref a ∧ SqT K H a [.int s.1, .int s.2.1, .int s.2.2] := by
  obtain ⟨a, vs, rfl, h1, h2⟩ := tup_inv h
  cases dpAll_ints_inv [s.1, s.2.1, s.2.2] h2
  exact ⟨a, rfl, h1⟩
def unlk (p q : Pass) : Bool := !decide (p.1 = 0) && (!decide (q.1 = 0) && (decide (p.2.2 = 0) != decide (q.2.2 = 0)))
/-- two passes at the same tooth that are unlike -/
def Hit (ps : List Pass) (t : Int) (j k : Nat) : Prop := ∃ p q : Pass, ps[j]? = some p ∧ ps[k]? = some q ∧ p.2.1 % t = q.2.1 % t ∧ unlk p q = true
def NoHit (ps : List Pass) (t : Int) (n : Nat) : Prop := ∀ j k, j < k → k < n → ¬ Hit ps t j k
theorem unlk_came {p q : Pass} (h : unlk p q = true) : p.1 ≠ 0 ∧ q.1 ≠ 0 ∧ (decide (p.2.2 = 0) ≠ decide (q.2.2 = 0)) := by
  unfold unlk at h
  simp only [Bool.and_eq_true, Bool.not_eq_true', decide_eq_false_iff_not, bne_iff_ne, ne_eq] at h
  exact ⟨h.1, h.2.1, h.2.2⟩
theorem unlk_of {p q : Pass} (h1 : p.1 ≠ 0) (h2 : q.1 ≠ 0) (h : unlk p q = false) : decide (p.2.2 = 0) = decide (q.2.2 = 0) := by
  unfold unlk at h
  rw [decide_eq_false h1, decide_eq_false h2] at h
  simpa using h
theorem unlk_self (p : Pass) : unlk p p = false := by
  unfold unlk
  simp
/-- what is kept of the first n passes: the first one at each tooth -/
structure Kept (ps : List Pass) (t : Int) (n : Nat) (kvs : List (Key × V)) : Prop where
  is : ∀ r v, valV kvs (Sum.inl r) = some v → ∃ (j : Nat) (p : Pass), v = .int (j : Int) ∧ j < n ∧ ps[j]? = some p ∧ p.1 ≠ 0 ∧ p.2.1 % t = r ∧ ∀ i q, i < j → ps[i]? = some q → q.1 ≠ 0 → q.2.1 % t ≠ r
  no : ∀ r, valV kvs (Sum.inl r) = none → ∀ i q, i < n → ps[i]? = some q → q.1 ≠ 0 → q.2.1 % t ≠ r
theorem Kept.skip {ps : List Pass} {t : Int} {n : Nat} {kvs : List (Key × V)} (h : Kept ps t n kvs) {q : Pass} (hq : ps[n]? = some q) (z : q.1 = 0) : Kept ps t (n + 1) kvs := by
  refine ⟨fun r v e => ?_, fun r e i p hi hp hn => ?_⟩
  · obtain ⟨j, p, h1, h2, h3⟩ := h.is r v e
    exact ⟨j, p, h1, by omega, h3⟩
  · by_cases c : i < n
    · exact h.no r e i p c hp hn
    · have : i = n := by omega
      subst this
      cases Option.some.inj (hq.symm.trans hp)
      exact absurd z hn
theorem Kept.there {ps : List Pass} {t : Int} {n : Nat} {kvs : List (Key × V)} (h : Kept ps t n kvs) {q : Pass} (hq : ps[n]? = some q) {v : V} (e : valV kvs (Sum.inl (q.2.1 % t)) = some v) : Kept ps t (n + 1) kvs := by
  refine ⟨fun r v e => ?_, fun r e' i p hi hp hn => ?_⟩
  · obtain ⟨j, p, h1, h2, h3⟩ := h.is r v e
    exact ⟨j, p, h1, by omega, h3⟩
  · by_cases c : i < n
    · exact h.no r e' i p c hp hn
    · have : i = n := by omega
      subst this
      cases Option.some.inj (hq.symm.trans hp)
      intro z
      rw [z, e'] at e
      cases e
theorem Kept.new {ps : List Pass} {t : Int} {n : Nat} {kvs : List (Key × V)} (h : Kept ps t n kvs) {q : Pass} (hq : ps[n]? = some q) (hn : q.1 ≠ 0) (e : valV kvs (Sum.inl (q.2.1 % t)) = none) : Kept ps t (n + 1) (putK kvs (Sum.inl (q.2.1 % t)) (.int (n : Int))) := by
  refine ⟨fun r v e2 => ?_, fun r e2 i p hi hp hne => ?_⟩
  · rw [valV_put] at e2
    by_cases c : (Sum.inl r : Key) = Sum.inl (q.2.1 % t)
    · have c' : r = q.2.1 % t := Sum.inl.inj c
      subst c'
      rw [if_pos rfl] at e2
      cases Option.some.inj e2
      exact ⟨n, q, rfl, Nat.lt_succ_self n, hq, hn, rfl, fun i p hi hp hne => h.no _ e i p hi hp hne⟩
    · rw [if_neg c] at e2
      obtain ⟨j, p, h1, h2, h3⟩ := h.is r v e2
      exact ⟨j, p, h1, by omega, h3⟩
  · rw [valV_put] at e2
    by_cases c : (Sum.inl r : Key) = Sum.inl (q.2.1 % t)
    · rw [if_pos c] at e2
      cases e2
    · rw [if_neg c] at e2
      by_cases cc : i < n
      · exact h.no r e2 i p cc hp hne
      · have : i = n := by omega
        subst this
        cases Option.some.inj (hq.symm.trans hp)
        exact fun z => c (by rw [z])
theorem NoHit.more {ps : List Pass} {t : Int} {n : Nat} (h : NoHit ps t n) (g : ∀ j, j < n → ¬ Hit ps t j n) : NoHit ps t (n + 1) := fun j k jk kn => by
  by_cases c : k < n
  · exact h j k jk c
  · have : k = n := by omega
    subst this
    exact g j jk
theorem fb_enumL {K : PySem.W.Frag} {H : Hp} {σ : L2.St} {D : Ends} {a : Addr} (xs : List V) {g : TG} {tb : TS} (Pv : Nat → L2.St → Hp → Prop) (h0 : Pv 0 σ H) (hl : ∀ i σ H, i ≤ xs.length → Pv i σ H → SqL K H a xs)
    (hs : ∀ i v T σ H, xs[i]? = some v → Pv i σ H → H T = none → g (.ref T) σ (upd H T (.tup [.int (i : Nat), v])) fun σ2 H2 => tb { D with nx := Pv (i + 1), ct := Pv (i + 1), bk := D.nx } σ2 H2) (hd : ∀ σ H, Pv xs.length σ H → D.nx σ H) : FB (Ite K a) g tb D σ H :=
  for_it (walk_enum (xs := xs)) Pv h0 hl (fun i x σ H H' _ p y => by
    obtain ⟨T, u, v, rfl, hT, rfl, e1, e2⟩ := y
    cases Option.some.inj e1
    exact hs i v T σ H e2 p hT) hd
theorem w_ninT {K : PySem.W.Frag} {H : Hp} {Q : VK} {p : Addr} {x : Int} {ns : List Int} (h : SqT K H p (ns.map V.int)) (q : Q (.bl (!decide (x ∈ ns))) H) : rIn K true (.int x) (.ref p) H Q := by
  refine ⟨p, ns.map V.int, rfl, .inr h, rfl, ?_, ?_⟩
  · rw [List.all_map]
    exact List.all_eq_true.mpr fun _ _ => rfl
  · rw [if_pos rfl]
    rw [show inV (.int x) (ns.map V.int) = decide (x ∈ ns) from by
      unfold inV
      rw [List.any_map]
      by_cases e : x ∈ ns
      · rw [decide_eq_true e, List.any_eq_true]
        exact ⟨x, e, by show (x == x) = true; exact beq_self_eq_true x⟩
      · rw [decide_eq_false e, List.any_eq_false]
        intro y hy
        show ¬ (y == x) = true
        intro z
        exact e (eq_of_beq z ▸ hy)]
    exact q
section
variable {K : PySem.W.Frag} {H : Hp} {σ : L2.St} {D : Ends} {Q : VK} {R : It → Hp → Prop}
def IZL (K : PySem.W.Frag) (vs : List V) (H : Hp) (R : It → Hp → Prop) : Prop := iZip K (fun _ H Q => Q vs H) [] H R
theorem w_izip {ta : TA} (h : ta σ H fun vs H1 => IZL K vs H1 R) : iZip K ta σ H R := h
theorem w_IZL {a b : Addr} {xs ys : List V} (h1 : SqL K H a xs) (h2 : SqL K H b ys) (q : R (Itz K a b) H) : IZL K [.ref a, .ref b] H R := ⟨a, b, xs, ys, rfl, h1, h2, q⟩
theorem fb_zipL {a b : Addr} (xs ys : List V) (hl : xs.length = ys.length) {g : TG} {tb : TS} (Pv : Nat → L2.St → Hp → Prop) (h0 : Pv 0 σ H) (hq : ∀ i σ H, i ≤ xs.length → Pv i σ H → SqL K H a xs ∧ SqL K H b ys)
    (hs : ∀ i x y T σ H, xs[i]? = some x → ys[i]? = some y → Pv i σ H → H T = none → g (.ref T) σ (upd H T (.tup [x, y])) fun σ2 H2 => tb { D with nx := Pv (i + 1), ct := Pv (i + 1), bk := D.nx } σ2 H2) (hd : ∀ σ H, Pv xs.length σ H → D.nx σ H) : FB (Itz K a b) g tb D σ H :=
  for_it (walk_zip (xs := xs) (ys := ys) (n := xs.length) (by omega)) Pv h0 hq (fun i x σ H H' _ p y => by
    obtain ⟨T, u, v, rfl, hT, rfl, e1, e2⟩ := y
    exact hs i u v T σ H e1 e2 p hT) hd
end
/-- the passes of the first n shows -/
def passN (cs : List Int) (ss : List (Int × Int)) : Nat → List Pass
  | 0 => []
  | n + 1 => passN cs ss n ++ (match cs[n]?, ss[n]? with | some c, some s => [(c, (if c = 1 then (cs.take n).sum + 1 else (cs.take n).sum), s.2)] | _, _ => [])
theorem pass_upd {K : PySem.W.Frag} {H : Hp} {l : Addr} {ws : List V} {o : HO} (hl : H l = some (.lst ws)) {v : V} {s : Pass} (h : Dp K H v (passD s)) : Dp K (upd H l o) v (passD s) := by
  obtain ⟨g, rfl, hg⟩ := pass_inv h
  exact .tup (sqT_upd hg hl) (.cons (.int _) (.cons (.int _) (.cons (.int _) .nil)))
theorem passes_upd {K : PySem.W.Frag} {H : Hp} {l : Addr} {ws : List V} {o : HO} (hl : H l = some (.lst ws)) : ∀ {vs : List V} {ss : List Pass}, DpAll K H vs (ss.map passD) → DpAll K (upd H l o) vs (ss.map passD)
  | _, [], .nil => .nil
  | _, s :: ss, .cons h t => .cons (pass_upd hl h) (passes_upd hl t)
end Ct

/-! more displays of data, exactly: tuples cut and put together -/
namespace Ct
open PySem PySem.Spec PyProof.Rows L2
section
variable {K : PySem.W.Frag} {H0 : Hp} {σ : L2.St}
theorem gvT_tupV {i : Nat} {a : Addr} {vs : List V} {ds : List PyData} {r : List V → Hp → VK → Prop} (e : σ[i]? = some (some (.ref a))) (h : H0 a = some (.lst vs)) (hd : DpAll K H0 vs ds)
    (er : r = fun xs H Q => ∃ p ys, xs = [.ref p] ∧ ((SqL K H p ys ∧ ∀ l, H l = none → Q (.ref l) (upd H l (.tup ys))) ∨ (SqT K H p ys ∧ Q (.ref p) H))) : GvT K H0 σ (tCB r (tCons (tVar i) tNil)) ds := fun H Q s q => by
  rw [er]
  exact ⟨_, e, a, vs, rfl, .inl ⟨.of (s _ _ h), fun p np => q p vs _ (same_upd np) (.of upd_same) (dpAll_same (s.trans (same_upd np)) hd)⟩⟩
theorem gvL_lstV {i : Nat} {t : Addr} {vs : List V} {ds : List PyData} {r : List V → Hp → VK → Prop} (e : σ[i]? = some (some (.ref t))) (h : SqT K H0 t vs) (hd : DpAll K H0 vs ds)
    (er : r = fun xs H Q => ∃ p ys, xs = [.ref p] ∧ (SqL K H p ys ∨ SqT K H p ys) ∧ ∀ l, H l = none → Q (.ref l) (upd H l (.lst ys))) : GvL K H0 σ (tCB r (tCons (tVar i) tNil)) ds := fun H Q s q => by
  rw [er]
  exact ⟨_, e, t, vs, rfl, .inr (Same.tup s h), fun p np => q p vs _ (same_upd np) upd_same (dpAll_same (s.trans (same_upd np)) hd)⟩
theorem gvT_cat {ta tb : TE} {ds es : List PyData} (ha : GvT K H0 σ ta ds) (hb : GvT K H0 σ tb es) (l : ds.length + es.length ≤ 1000) : GvT K H0 σ (tOp (rCatA K) ta tb) (ds ++ es) := fun H Q s q =>
  ha H _ s fun a xs H1 s1 h1 d1 => hb H1 _ (s.trans s1) fun b ys H2 s2 h2 d2 =>
    w_catA (Same.tup s2 h1) h2 (by rw [dpAll_len d1, dpAll_len d2]; exact l) fun u H' s3 hu => q u _ H' ((s1.trans s2).trans s3) hu (dpAll_same s3 (dpAll_app (dpAll_same s2 d1) d2))
def GvO (H0 : Hp) (σ : L2.St) (t : TO) (o : Option Int) : Prop := ∀ (H : Hp) (Q : Option Int → Hp → Prop), Same H0 H → Q o H → t σ H Q
theorem gvo_no : GvO H0 σ tNoPart none := fun _ _ _ q => q
theorem gvo_var {j : Nat} {k : Int} (e : σ[j]? = some (some (.int k))) : GvO H0 σ (tPart (tVar j)) (some k) := fun H Q _ q => ⟨_, e, k, rfl, q⟩
theorem gvo_c {k : Int} : GvO H0 σ (tPart (tC (.int k))) (some k) := fun H Q _ q => ⟨k, rfl, q⟩
theorem gvo_add {j : Nat} {k m : Int} {g : Int → Int → V} (e : σ[j]? = some (some (.int k))) (eg : g k m = .int (k + m)) : GvO H0 σ (tPart (tOp (rI0 g) (tVar j) (tC (.int m)))) (some (k + m)) := fun H Q _ q => ⟨_, e, ⟨k, m, rfl, rfl, by rw [eg]; exact ⟨k + m, rfl, q⟩⟩⟩
theorem gvT_sl {te : TE} {tl th : TO} {lo hi : Option Int} {ds : List PyData} (h : GvT K H0 σ te ds) (hl : GvO H0 σ tl lo) (hh : GvO H0 σ th hi) : GvT K H0 σ (tSl (rSlA K) te tl th) (cutD ds lo hi) := fun H Q s q =>
  h H _ s fun a xs H1 s1 h1 d1 => hl H1 _ (s.trans s1) (hh H1 _ (s.trans s1) (by
    have d2 : DpAll K H1 (cutV xs lo hi) (cutD ds lo hi) := by
      unfold cutV cutD
      rw [dpAll_len d1]
      exact dpAll_take _ (dpAll_drop _ d1)
    refine ⟨a, xs, rfl, h1, fun w => ?_, fun _ p np => q p _ _ (s1.trans (same_upd np)) (.of upd_same) (dpAll_same (same_upd np) d2)⟩
    refine q a xs H1 s1 h1 ?_
    have : cutV xs lo hi = xs := by
      unfold cutV
      rw [w.1, w.2, List.drop_zero, Nat.sub_zero, List.take_length]
    rw [this] at d2
    exact d2))
theorem cutD_upto {ds : List PyData} {k : Nat} (h : k ≤ ds.length) : cutD ds none (some (k : Int)) = ds.take k := by
  unfold cutD
  rw [HT.sIx_none, HT.sIx_nat, List.drop_zero, Nat.min_eq_left h, Nat.sub_zero]
theorem cutD_past {ds : List PyData} {k : Nat} (h : k ≤ ds.length) : cutD ds (some (k : Int)) none = ds.drop k := by
  unfold cutD
  rw [HT.sIx_none, HT.sIx_nat, Nat.min_eq_left h, List.take_of_length_le (by rw [List.length_drop]; omega)]
/-- t[:k] + (x,) + t[k + 1:] -/
theorem gvT_mid {i j : Nat} {t : Addr} {vs : List V} {ds : List PyData} {d : PyData} {k : Nat} {tx : TE} {g : Int → Int → V} (e : σ[i]? = some (some (.ref t))) (h : SqT K H0 t vs) (hd : DpAll K H0 vs ds) (e2 : σ[j]? = some (some (.int (k : Int)))) (kl : k < ds.length) (dl : ds.length ≤ 900) (eg : g (k : Int) 1 = .int ((k : Int) + 1)) (hx : Gv K H0 σ tx d) :
    GvT K H0 σ (tOp (rCatA K) (tOp (rCatA K) (tSl (rSlA K) (tVar i) tNoPart (tPart (tVar j))) (tTup (tCons tx tNil))) (tSl (rSlA K) (tVar i) (tPart (tOp (rI0 g) (tVar j) (tC (.int 1)))) tNoPart)) (ds.take k ++ [d] ++ ds.drop (k + 1)) := by
  have a := gvT_sl (gvT_var e h hd) gvo_no (gvo_var e2)
  have b := gvT_sl (gvT_var e h hd) (gvo_add e2 eg) gvo_no
  rw [cutD_upto (by omega)] at a
  rw [show ((k : Int) + 1) = ((k + 1 : Nat) : Int) from rfl, cutD_past (by omega)] at b
  refine gvT_cat (gvT_cat a (gvT_tup (gv_cons hx gv_nil) (show 1 ≤ 1000 by decide)) ?_) b ?_
  · rw [List.length_take]
    show min k ds.length + 1 ≤ 1000
    omega
  · rw [List.length_append, List.length_take, List.length_drop]
    show min k ds.length + 1 + (ds.length - (k + 1)) ≤ 1000
    omega
end
theorem st_in : ∀ {ps : List Part} {es : List PyData}, stOk ps es = true → ∀ d ∈ es, ∃ p ∈ ps, ∃ x : Int, d = .int x ∧ 0 ≤ x ∧ x < p.places
  | [], [], _, _, hd => nomatch hd
  | p :: ps, .int x :: es, h, d, hd => by
    rw [stOk, Bool.and_eq_true, Bool.and_eq_true] at h
    rcases List.mem_cons.mp hd with e | hd
    · exact ⟨p, List.mem_cons_self, x, e, of_decide_eq_true h.1.1, of_decide_eq_true h.1.2⟩
    · obtain ⟨q, hq, r⟩ := st_in h.2 d hd
      exact ⟨q, List.mem_cons_of_mem _ hq, r⟩
/-- no stand, for a thing in it -/
theorem no_st {ps : List Part} {es : List PyData} {d : PyData} (hd : d ∈ es) (no : ∀ p ∈ ps, ∀ x : Int, d = .int x → ¬ (0 ≤ x ∧ x < p.places)) : isSt ps (.tuple es) = false := by
  cases c : isSt ps (.tuple es) with
  | false => rfl
  | true =>
    have c : (es.length == ps.length && stOk ps es) = true := c
    rw [Bool.and_eq_true] at c
    obtain ⟨p, hp, x, e, r⟩ := st_in c.2 d hd
    exact absurd r (no p hp x e)
theorem no_len {ps : List Part} {es : List PyData} (h : es.length ≠ ps.length) : isSt ps (.tuple es) = false := by
  show (es.length == ps.length && stOk ps es) = false
  rw [beq_false_of_ne h]
  rfl
theorem no_part {ds : List PyData} {d : PyData} (hd : d ∈ ds) (no : isP d = false) : isT (.list ds) = false := by
  show (!ds.isEmpty && ds.all isP) = false
  rw [show ds.all isP = false from List.all_eq_false.mpr ⟨d, hd, by rw [no]; exact Bool.false_ne_true⟩, Bool.and_false]
end Ct
namespace Ct
open PySem PySem.Spec PyProof.Rows L2
theorem gvT_tail {K : PySem.W.Frag} {H0 : Hp} {σ : L2.St} {i : Nat} {t : Addr} {vs : List V} {ds : List PyData} (e : σ[i]? = some (some (.ref t))) (h : SqT K H0 t vs) (hd : DpAll K H0 vs ds) (l : 1 ≤ ds.length) : GvT K H0 σ (tSl (rSlA K) (tVar i) (tPart (tC (.int 1))) tNoPart) (ds.drop 1) := by
  have z := gvT_sl (gvT_var e h hd) (gvo_c (k := 1)) gvo_no
  rw [show (1 : Int) = ((1 : Nat) : Int) from rfl, cutD_past l] at z
  exact z
theorem FineA.take {ds : List PyData} {n m : Nat} (h : FineA ds n m) (k : Nat) : FineA (ds.take k) n m := by
  have := h.cut 0 k
  rw [List.drop_zero] at this
  exact this
theorem FineA.drop {ds : List PyData} {n m : Nat} (h : FineA ds n m) (k : Nat) : FineA (ds.drop k) n m := by
  have := h.cut k (ds.drop k).length
  rw [List.take_length] at this
  exact this
theorem FineA.mid {ds : List PyData} {d : PyData} {n m m' : Nat} (h : FineA ds n m) (g : Fine d n m') (k : Nat) : FineA (ds.take k ++ [d] ++ ds.drop (k + 1)) n (m + (m' + 1) + m) := FineA.app (FineA.app (h.take k) (.one g)) (h.drop _)
theorem mid_mem {ds : List PyData} {d : PyData} {k : Nat} : d ∈ ds.take k ++ [d] ++ ds.drop (k + 1) := List.mem_append_left _ (List.mem_append_right _ List.mem_cons_self)
end Ct
/-! list + list, of lists that are known by their data alone -/
namespace Ct
open PySem PySem.Spec PyProof.Rows L2
def rCatS (K : PySem.W.Frag) : R2 := fun x y H Q => ∃ l b xs zs, x = .ref l ∧ y = .ref b ∧ SqL K H l xs ∧ SqL K H b zs ∧ xs.length + zs.length ≤ sizeLine ∧ ∀ p, H p = none → Q (.ref p) (upd H p (.lst (xs ++ zs)))
theorem op_catS {X : Cx} : OpR X (binaryOp .Add) (rCatS X.K) := by
  rintro pins s σ H x y v u Q I rx ry ⟨l, b, xs, zs, rfl, rfl, hl, hb, fits, q⟩
  cases rx
  cases ry
  obtain ⟨its, r, ⟨⟨c1, dd, t1, sl⟩, n, e1, k1, _, f1⟩, _⟩ := I.list hl
  obtain ⟨its2, r2, ⟨⟨c2, dd2, t2, sl2⟩, n2, e2, k2, _, f2⟩, _⟩ := I.list hb
  simp only at k1 f1 k2 f2
  subst k1 f1 k2 f2
  have l1 := r.length
  have l2 := r2.length
  refine concat_meets ⟨_, e1, rfl⟩ ⟨_, e2, rfl⟩ noFill_list_add seq_list_add PySem.F.slot_list_add PySem.F.entry_list_add (PySem.F.args_list_add_2 _ _) (list_addW l b its.toArray its2.toArray n n2 dd dd2 sl sl2 (by rw [List.size_toArray, List.size_toArray]; omega)) ⟨e1, e2, ?_⟩
  rw [show its.toArray ++ its2.toArray = (its ++ its2).toArray by simp]
  exact ⟨.ref _, _, I.lnew (t' := s.toks) (r.append r2) (by rw [List.length_append]; omega), rfl, q _ I.fresh⟩
theorem w_catS {K : PySem.W.Frag} {H : Hp} {Q : VK} {l b : Addr} {xs zs : List V} (hl : SqL K H l xs) (hb : SqL K H b zs) (f : xs.length + zs.length ≤ 1000) (q : ∀ p, H p = none → Q (.ref p) (upd H p (.lst (xs ++ zs)))) : rCatS K (.ref l) (.ref b) H Q := ⟨l, b, xs, zs, rfl, rfl, hl, hb, Nat.le_of_lt (small1000 f), q⟩
end Ct
namespace Ct
open PySem PySem.Spec PyProof.Rows L2
/-- isinstance of an error that was kept, or of None -/
def rIsXn (K : PySem.W.Frag) : List V → Hp → VK → Prop := fun xs H Q => rIsX K xs H Q ∨ rIsi K xs H Q
theorem call_isXn {X : Cx} : CallR X (.builtin "isinstance") (rIsXn X.K) := fun pins s σ H xs us Q J r h => h.elim (call_isX pins s σ H xs us Q J r) (call_isi pins s σ H xs us Q J r)
end Ct
namespace Ct
open PySem PySem.Spec PyProof.Rows L2
theorem stOk_of : ∀ {ps : List Part} {xs : List Int}, StandL ps xs → stOk ps (xs.map PyData.int) = true
  | [], [], _ => rfl
  | p :: ps, x :: xs, ⟨_, h1, h2, h3⟩ => by
    rw [List.map_cons, stOk, stOk_of h3, decide_eq_true h1, decide_eq_true h2]
    rfl
theorem isSt_of {ps : List Part} {xs : List Int} (hok : ∀ p ∈ ps, p.ok) (h : StandOk ps xs) : isSt ps (.tuple (xs.map PyData.int)) = true := by
  show ((xs.map PyData.int).length == ps.length && stOk ps (xs.map PyData.int)) = true
  rw [stOk_of (standL_of hok h), List.length_map, h.1, beq_self_eq_true]
  rfl
theorem dp_dr {K : PySem.W.Frag} {H H' : Hp} {v : V} {d : PyData} {c c' : Nat} {D : Addr} (h : Dp K H v d) (r : Dr D c' H H') (hD : H D = some (DrO D c)) : Dp K H' v d := by
  cases r.all hD (.cons h .nil) with
  | cons g _ => exact g
theorem fineA_sh2 : ∀ {ss : List (Int × Int)}, (∀ s ∈ ss, Sh2Ok s) → FineA (ss.map sh2D) 1 (3 * ss.length)
  | [], _ => .nil
  | s :: r, h => by
    have hs := h s List.mem_cons_self
    have t := fineA_sh2 (ss := r) fun y hy => h y (List.mem_cons_of_mem _ hy)
    have b1 : s.1.natAbs < 2 ^ 200 := by rcases hs.1 with e | e <;> rw [e] <;> decide
    have b2 : s.2.natAbs < 2 ^ 200 := by rcases hs.2 with e | e | e <;> rw [e] <;> decide
    have one : Fine (sh2D s) 1 2 := (FineA.app (ds := [.int s.1]) (.one (m := 0) (fine_int b1)) (.one (n := 0) (m := 0) (fine_int b2))).tup.mono (Nat.le_refl _) (by decide)
    have z := FineA.app (FineA.one one) t
    exact z.mono (Nat.le_refl _) (by rw [List.length_cons]; omega)
/-- [n] or nothing -/
def dL (b : Bool) (n : Int) : List V := if b = true then [.int n] else []
theorem rep_dL (b : Bool) (n : Int) : (List.replicate (Int.toNat (if b = true then 1 else 0)) [V.int n]).flatten = dL b n := by cases b <;> rfl
end Ct

/-! defs that are handed in or picked out of a list, and dicts of the program's own top -/
namespace Ct
open PySem PySem.Spec PyProof.Rows L2
section
variable {X : Cx} {k i : Nat} {R : Addr → Sp → Prop} {x : Str} {p pos : Pos} {e fe : Expr} {es : List Expr} {t : TA} {tf : TE}
/-- the def that stands in a place, one of those that R tells of -/
def tCallR (i : Nat) (R : Addr → Sp → Prop) (t : TA) : TE := fun σ H Q => ∃ f sp, σ[i]? = some (some (.ref f)) ∧ R f sp ∧ t σ H fun vs H1 => sp vs H1 Q L2.E0
theorem nil_app {t : TA} {sp : Sp} {σ : L2.St} {H : Hp} {Q : VK} {E : XK} (h : t σ H fun vs H1 => sp vs H1 Q E) : t σ H fun vs H1 => sp (vs ++ []) H1 Q E := by
  have z : (fun (vs : List V) (H1 : Hp) => sp (vs ++ []) H1 Q E) = fun vs H1 => sp vs H1 Q E := funext fun vs => funext fun H1 => by rw [List.append_nil]
  rw [z]
  exact h
theorem pe_callR (hR : ∀ f sp, R f sp → L2.Held X.prog X.w X.K X.mg X.base k f sp) (hr : Room k X.A) (hN : X.N[i]? = some x) (hv : Vis X.env.scope x) (ha : PA X (e :: es) t) (d1 : (x == ("__debug__" : Str)) = false := by decide) (d2 : (x == ("__classdict__" : Str)) = false := by decide) (h1 : starEach (e :: es) X.env = (false, eval e X.env) :: starEach es X.env := by rfl) (h2 : (backTo pos (starEach es X.env)).any (·.1) = false := by rfl) : PE X (.Call (.Name x p) (e :: es) [] pos) (tCallR i R t) := by
  constructor
  intro pins s σ H Q I q
  obtain ⟨f, sp, at_, r, q⟩ := q
  obtain ⟨fd, ps, F, kp, b⟩ := (hR f sp r).ex
  exact (pe_callL (E := L2.E0) F hr hN hv kp b .nil pass0 ha d1 d2 h1 h2).run pins s σ H Q I ⟨at_, nil_app q⟩
/-- the def that an expression gives -/
def tCallE (R : Addr → Sp → Prop) (tf : TE) (t : TA) : TE := fun σ H Q => tf σ H fun y H1 => ∃ f sp, y = .ref f ∧ R f sp ∧ t σ H1 fun vs H2 => sp vs H2 Q L2.E0
theorem pe_callE (hR : ∀ f sp, R f sp → L2.Held X.prog X.w X.K X.mg X.base k f sp) (hr : Room k X.A) (hf : PE X fe tf) (ha : PA X (e :: es) t) (h0 : eval (.Call fe (e :: es) [] pos) X.env = (do callWith pos (← eval fe X.env) [] (backTo pos (starEach (e :: es) X.env)) (backToKw pos (keywordEach [] X.env))) := by rfl) (h1 : starEach (e :: es) X.env = (false, eval e X.env) :: starEach es X.env := by rfl) (h2 : (backTo pos (starEach es X.env)).any (·.1) = false := by rfl) : PE X (.Call fe (e :: es) [] pos) (tCallE R tf t) := by
  constructor
  intro pins s σ H Q I q
  refine Call_ (thn (hf.run pins s σ H _ I q) ?_) h0
  rintro u s1 ⟨y, H1, I1, ry, f, sp, rfl, r, q⟩
  cases (show u = Value.ref f from ry)
  obtain ⟨fd, ps, F, kp, b⟩ := (hR f sp r).ex
  refine PySem.W.callWith_K (h₀ := X.base) I1.ok.mod.kin kp (thn (ha.run pos pins s1 σ _ _ I1 q) ?_) h1 h2
  rintro us s2 ⟨vs, H2, I2, r2, q2⟩
  exact ⟨I2.kIn, run_fn F hr b .nil pass0 I2 r2 (by rw [List.append_nil]; exact q2)⟩
end
/-- held: one def, by its promise -/
theorem held_at {P : Program} {w : World} {K : PySem.W.Frag} {mg : Str → Option Value} {base : Heap} {k j : Nat} {f : Addr} {fd : FuncData} {ps : List Str} {sp : Sp} (G : FnOk P w K mg base CX0 j f fd ps sp) (h : j ≤ k) (kp : PySem.W.keepIn K (.ref f) = true) (b : Binds K fd ps []) : L2.Held P w K mg base k f sp := ⟨fd, ps, G.mono h, kp, b⟩
theorem held_nil {P : Program} {w : World} {K : PySem.W.Frag} {mg : Str → Option Value} {base : Heap} {k : Nat} : ∀ f sp, (fun (_ : Addr) (_ : Sp) => False) f sp → L2.Held P w K mg base k f sp := fun _ _ h => h.elim
theorem held_cons {P : Program} {w : World} {K : PySem.W.Frag} {mg : Str → Option Value} {base : Heap} {k : Nat} {f0 : Addr} {sp0 : Sp} {R : Addr → Sp → Prop} (h : L2.Held P w K mg base k f0 sp0) (r : ∀ f sp, R f sp → L2.Held P w K mg base k f sp) : ∀ f sp, (fun (f : Addr) (sp : Sp) => (f = f0 ∧ sp = sp0) ∨ R f sp) f sp → L2.Held P w K mg base k f sp := fun f sp z => by
  rcases z with ⟨rfl, rfl⟩ | z
  · exact h
  · exact r f sp z
/-! a dict of the program's own top -/
def KDict (P : Program) (w : World) (K : PySem.W.Frag) (d : Addr) (kvs : List (Key × V)) : Prop := (d == sysModules) = false ∧ ∀ h, K.In h → ∃ vs, KV kvs vs ∧ h.DictOf (mixKind P w) d vs
inductive KdP : List DictEntry → World → List (Key × V) → List (Key × Value) → Prop
  | nil {w : World} : KdP [] w [] []
  | cons {w : World} {x : Str} {t : Tok} {v : V} {u : Value} {es : List DictEntry} {kvs : List (Key × V)} {vs : List (Key × Value)} (r : RelV v u) (h : KdP es w kvs vs) : KdP (⟨hashStr w x, .str x t, u⟩ :: es) w ((Sum.inr x, v) :: kvs) ((Sum.inr x, u) :: vs)
theorem kd_nil {w : World} : KdP [] w [] [] := .nil
theorem kd_cons {w : World} (x : Str) (t : Tok) {v : V} {u : Value} {es : List DictEntry} {kvs : List (Key × V)} {vs : List (Key × Value)} (r : RelV v u) (h : KdP es w kvs vs) : KdP (⟨hashStr w x, .str x t, u⟩ :: es) w ((Sum.inr x, v) :: kvs) ((Sum.inr x, u) :: vs) := .cons r h
theorem kd_all {P : Program} {w : World} : ∀ {es : List DictEntry} {kvs : List (Key × V)} {vs : List (Key × Value)}, KdP es w kvs vs → KV kvs vs ∧ Pairs (mixKind P w) es vs ∧ (∀ e ∈ es, ∃ k, (mixKind P w).is k e.key = true ∧ e.hash = (mixKind P w).hash k) ∧ kvs.map (·.1) = vs.map (·.1)
  | _, _, _, .nil => ⟨.nil, .nil, (fun e h => by cases h), rfl⟩
  | _, _, _, .cons (x := x) (t := t) r h => by
    obtain ⟨a, b, c, d⟩ := kd_all (P := P) h
    refine ⟨.cons ⟨rfl, r⟩ a, .cons (keyIs_str x t) rfl b, fun e he => ?_, by rw [List.map_cons, List.map_cons, d]⟩
    rcases List.mem_cons.mp he with rfl | he
    · exact ⟨Sum.inr x, keyIs_str x t, rfl⟩
    · exact c e he
theorem kdict_mk {P : Program} {w : World} {K : PySem.W.Frag} {d : Addr} {es : Array DictEntry} {ep : Nat} {kvs : List (Key × V)} {vs : List (Key × Value)} (t : K.lookup d = some ⟨.type "dict", none, .dict es ep, #[]⟩) (sys : (d == sysModules) = false) (h : KdP es.toList w kvs vs) (nd : (kvs.map (·.1)).Nodup) : KDict P w K d kvs := by
  obtain ⟨a, b, c, e⟩ := kd_all (P := P) h
  exact ⟨sys, fun hp X => ⟨vs, a, _, es, ep, X _ _ t, ⟨rfl, rfl, rfl⟩, rfl, (fun x hx => c x (Array.mem_def.mp hx)), b, by rw [← e]; exact nd⟩⟩
section
variable {X : Cx} {o i : Expr} {td ty : TE} {pos : Pos} {d : Addr} {kvs : List (Key × V)}
def tKNotIn (d : Addr) (kvs : List (Key × V)) (ty td : TE) : TE := fun σ H Q => ty σ H fun y H1 => td σ H1 fun x H2 => x = .ref d ∧ ∃ k, y = kV k ∧ Q (.bl (!(valV kvs k).isSome)) H2
def tKGet (d : Addr) (kvs : List (Key × V)) (td ty : TE) : TE := fun σ H Q => td σ H fun x H1 => ty σ H1 fun y H2 => x = .ref d ∧ ∃ k v, y = kV k ∧ valV kvs k = some v ∧ Q v H2
theorem pc_knotin (D : KDict X.prog X.w X.K d kvs) (hi : PE X i ty) (ho : PE X o td) : PC X .NotIn i o (tKNotIn d kvs ty td) := by
  constructor
  intro pins s σ H Q I q
  refine thn (hi.run pins s σ H _ I q) ?_
  rintro iv s1 ⟨y, H1, I1, ry, q1⟩
  refine thn (ho.run pins s1 σ H1 _ I1 q1) ?_
  rintro u s2 ⟨x, H2, I2, rx, rfl, k, rfl, q2⟩
  cases (show u = Value.ref d from rx)
  obtain ⟨vs, rel, dd⟩ := D.2 _ I2.kIn
  refine wpAny_notIn_of (kV_is ry) D.1 dd.mapOf ?_
  rw [← (rel.val k).isSome_eq]
  exact ⟨.bl _, H2, I2.tok _, rfl, q2⟩
theorem pe_kget (D : KDict X.prog X.w X.K d kvs) (ho : PE X o td) (hi : PE X i ty) (ns : NoSl i) : PE X (.Subscript o i pos) (tKGet d kvs td ty) := by
  constructor
  intro pins s σ H Q I q
  refine subD_of PySem.F.slot_dict_getitem.lookup ns (thn (ho.run pins s σ H _ I q) ?_)
  rintro u s1 ⟨x, H1, I1, rx, q1⟩
  refine thn (hi.run pins s1 σ H1 _ I1 q1) ?_
  rintro iv s2 ⟨y, H2, I2, ry, rfl, k, v, rfl, hv, q2⟩
  cases (show u = Value.ref d from rx)
  obtain ⟨vs, rel, dd⟩ := D.2 _ I2.kIn
  obtain ⟨z, hz, rz⟩ := RelO.some_of (v := v) (o := valueAt vs k) (by rw [← hv]; exact rel.val k)
  exact ⟨dd.typeIs, wpAny_getItem_of (kV_is ry) dd.mapOf hz ⟨v, H2, I2.tok _, rz, q2⟩⟩
end
section
variable {d : Addr} {kvs : List (Key × V)} {σ : L2.St} {H : Hp} {Q : VK} {ty td tf : TE} {i : Nat} {R : Addr → Sp → Prop} {t : TA}
theorem w_knotin (h : ty σ H fun y H1 => td σ H1 fun x H2 => x = .ref d ∧ ∃ k, y = kV k ∧ Q (.bl (!(valV kvs k).isSome)) H2) : tKNotIn d kvs ty td σ H Q := h
theorem w_kget (h : td σ H fun x H1 => ty σ H1 fun y H2 => x = .ref d ∧ ∃ k v, y = kV k ∧ valV kvs k = some v ∧ Q v H2) : tKGet d kvs td ty σ H Q := h
theorem w_callR {f : Addr} {sp : Sp} (at_ : σ[i]? = some (some (.ref f))) (r : R f sp) (h : t σ H fun vs H1 => sp vs H1 Q L2.E0) : tCallR i R t σ H Q := ⟨f, sp, at_, r, h⟩
theorem w_callE (h : tf σ H fun y H1 => ∃ f sp, y = .ref f ∧ R f sp ∧ t σ H1 fun vs H2 => sp vs H2 Q L2.E0) : tCallE R tf t σ H Q := h
end
end Ct

/-! texts: their rules, and walking them -/
namespace Ct
open PySem PySem.Spec PyProof.Rows L2
abbrev tx (l : List Nat) : Str := SX.S l
theorem tx_len (l : List Nat) : (tx l).length = l.length := SX.S_len l
theorem tx_cat (a b : List Nat) : tx a ++ tx b = tx (a ++ b) := SX.S_cat a b
theorem tx_of (s : String) : Str.ofString s = tx (s.toList.map Char.toNat) := TL.ext_tl (TL.tl_ofString s)
theorem tx_dec (a b : List Nat) : decide (V.str (tx a) = V.str (tx b)) = decide (a = b) := by
  by_cases e : a = b
  · rw [e, decide_eq_true rfl, decide_eq_true rfl]
  · rw [decide_eq_false e, decide_eq_false fun z => e (SX.S_inj (V.str.inj z))]
abbrev nL (n : Nat) : List Nat := TL.numL n
theorem tx_num (n : Nat) : (Str.ofString (toString ((n : Nat) : Int)) : Str) = tx (nL n) := SX.num_S n
section
variable {X : Cx}
def rAddS : R2 := fun x y H Q => ∃ i j, x = .str i ∧ y = .str j ∧ i.length + j.length ≤ sizeLine ∧ Q (.str (i ++ j)) H
theorem op_addS : OpR X (binaryOp .Add) rAddS := op_add_str
/-- a text so many times, none or once -/
def rMulS : R2 := fun x y H Q => ∃ (a : Str) (i : Int), x = .str a ∧ y = .int i ∧ (i = 0 ∨ i = 1) ∧ Q (.str (if i = 1 then a else Str.empty)) H
theorem op_mulS : OpR X (binaryOp .Mult) rMulS := by
  intro pins s σ H x y v u Q I rx ry h
  obtain ⟨a, i, rfl, rfl, c, q⟩ := h
  obtain ⟨t, rfl⟩ := rx
  obtain ⟨t', rfl⟩ := ry
  rcases c with rfl | rfl
  · exact SB.mul ⟨by decide, fun z => absurd (by decide) z, fun z => absurd (by decide) z⟩ fun t' k => ⟨.str Str.empty, H, I.tok _, ⟨_, rfl⟩, q⟩
  · exact SB.mul ⟨by decide, (fun _ z => nomatch z), (fun _ z => nomatch z)⟩ fun t' k => ⟨.str a, H, I.tok _, ⟨_, rfl⟩, q⟩
def rInSg (no : Bool) : R2 := fun x y H Q => ∃ (c : Nat) (z : Str), x = .str ⟨#[c]⟩ ∧ y = .str z ∧ Q (.bl (if no = true then !decide (c ∈ z.cps.toList) else decide (c ∈ z.cps.toList))) H
theorem op_inSg : OpR X (compareOp .In) (rInSg false) := op_in_sign
theorem op_notInSg : OpR X (compareOp .NotIn) (rInSg true) := op_notIn_sign
def rStrI : List V → Hp → VK → Prop := fun xs H Q => ∃ i, xs = [.int i] ∧ i.natAbs.log2 < 1920 ∧ Q (.str (toString i)) H
theorem call_strI : CallR X (.type "str") rStrI := call_str_int
def rIntS : List V → Hp → VK → Prop := fun xs H Q => ∃ a n, xs = [.str a] ∧ PySem.intText? a = some n ∧ a.length ≤ 640 ∧ Q (.int n) H
theorem call_intS : CallR X (.type "int") rIntS := call_int_str
def rLenX : List V → Hp → VK → Prop := fun xs H Q => ∃ a : Str, xs = [.str a] ∧ a.length ≤ sizeLine ∧ Q (.int a.length) H
theorem call_lenX : CallR X (.builtin "len") rLenX := call_len_str
end
section
variable {H : Hp} {Q : VK} {σ : L2.St}
theorem small6 {n : Nat} (h : n ≤ 15000000) : n ≤ sizeLine := Nat.le_trans h (by decide)
theorem w_addS {a b : List Nat} (l : a.length + b.length ≤ 15000000) (q : Q (.str (tx (a ++ b))) H) : rAddS (.str (tx a)) (.str (tx b)) H Q := ⟨_, _, rfl, rfl, by rw [tx_len, tx_len]; exact small6 l, by rw [tx_cat]; exact q⟩
theorem w_eqX {a b : List Nat} (q : Q (.bl (decide (a = b))) H) : rEq (.str (tx a)) (.str (tx b)) H Q := ⟨rfl, by rw [tx_dec]; exact q⟩
theorem w_neX {a b : List Nat} (q : Q (.bl (!decide (a = b))) H) : rNe (.str (tx a)) (.str (tx b)) H Q := ⟨rfl, by rw [tx_dec]; exact q⟩
theorem w_eqXs {a b : List Nat} {s : String} (e : s.toList.map Char.toNat = b) (q : Q (.bl (decide (a = b))) H) : rEq (.str (tx a)) (.str (Str.ofString s)) H Q := by rw [tx_of, e]; exact w_eqX q
theorem w_neXs {a b : List Nat} {s : String} (e : s.toList.map Char.toNat = b) (q : Q (.bl (!decide (a = b))) H) : rNe (.str (tx a)) (.str (Str.ofString s)) H Q := by rw [tx_of, e]; exact w_neX q
theorem log40 {n : Nat} (h : n < 10 ^ 45) : (n : Int).natAbs.log2 < 1920 := by
  rw [Int.natAbs_natCast]
  by_cases z : n = 0
  · rw [z]; decide
  · exact Nat.lt_of_le_of_lt (Nat.le_of_lt_succ ((Nat.log2_lt z).mpr (Nat.lt_of_lt_of_le h (by decide : 10 ^ 45 ≤ 2 ^ 151)))) (by decide)
theorem w_strI {n : Nat} (h : n < 10 ^ 45) (q : Q (.str (tx (nL n))) H) : rStrI [.int (n : Int)] H Q := ⟨_, rfl, log40 h, by rw [show (toString (n : Int) : Str) = tx (nL n) from tx_num n]; exact q⟩
theorem w_fmt {te : TE} (h : te σ H fun x H1 => (∃ y : Str, x = .str y ∧ y.length ≤ sizeLine ∧ Q (.str y) H1) ∨ ∃ i : Int, x = .int i ∧ i.natAbs.log2 < 1920 ∧ Q (.str (toString i)) H1) : tFmt te σ H Q := h
theorem w_fmtS {a : List Nat} (l : a.length ≤ 15000000) (q : Q (.str (tx a)) H) : (∃ y : Str, V.str (tx a) = .str y ∧ y.length ≤ sizeLine ∧ Q (.str y) H) ∨ ∃ i : Int, V.str (tx a) = .int i ∧ i.natAbs.log2 < 1920 ∧ Q (.str (toString i)) H := .inl ⟨_, rfl, by rw [tx_len]; exact small6 l, q⟩
theorem w_fmtI {n : Nat} (h : n < 10 ^ 45) (q : Q (.str (tx (nL n))) H) : (∃ y : Str, V.int (n : Int) = .str y ∧ y.length ≤ sizeLine ∧ Q (.str y) H) ∨ ∃ i : Int, V.int (n : Int) = .int i ∧ i.natAbs.log2 < 1920 ∧ Q (.str (toString i)) H := .inr ⟨_, rfl, log40 h, by rw [show (toString (n : Int) : Str) = tx (nL n) from tx_num n]; exact q⟩
/-! the parts of an f-string -/
def tJ (ts : List TE) (acc : List Nat) (σ : L2.St) (H : Hp) (Q : Str → Hp → Prop) : Prop := tJs ts (tx acc) σ H Q
variable {QT : Str → Hp → Prop}
theorem w_js {ts : List TE} (h : tJ ts [] σ H fun out H1 => Q (.str out) H1) : tJs ts Str.empty σ H fun out H1 => Q (.str out) H1 := h
theorem w_jnil {acc : List Nat} (q : QT (tx acc) H) : tJ [] acc σ H QT := q
def JQ (ts : List TE) (acc : List Nat) (σ : L2.St) (QT : Str → Hp → Prop) : VK := fun x H1 => ∃ y : Str, x = .str y ∧ (tx acc ++ y).length ≤ sizeLine ∧ tJs ts (tx acc ++ y) σ H1 QT
theorem w_jcons {t : TE} {ts : List TE} {acc : List Nat} (h : t σ H (JQ ts acc σ QT)) : tJ (t :: ts) acc σ H QT := h
theorem w_jq {ts : List TE} {acc a : List Nat} (l : acc.length + a.length ≤ 15000000) (h : tJ ts (acc ++ a) σ H QT) : JQ ts acc σ QT (.str (tx a)) H := ⟨_, rfl, by rw [tx_cat, tx_len, List.length_append]; exact small6 l, by rw [tx_cat]; exact h⟩
theorem w_jqs {ts : List TE} {acc a : List Nat} {s : String} (e : s.toList.map Char.toNat = a) (l : acc.length + a.length ≤ 15000000) (h : tJ ts (acc ++ a) σ H QT) : JQ ts acc σ QT (.str (Str.ofString s)) H := by rw [tx_of, e]; exact w_jq l h
/-! splitting, parting, joining -/
theorem w_tm0 {r : V → List V → Hp → VK → Prop} {to : TE} (h : to σ H fun x H1 => (∃ a, x = .str a) ∧ r x [] H1 Q) : tM0 r to σ H Q := h
theorem w_tm1 {r : V → List V → Hp → VK → Prop} {to te : TE} (h : to σ H fun x H1 => (∃ a, x = .str a) ∧ te σ H1 fun y H2 => r x [y] H2 Q) : tM1 r to te σ H Q := h
theorem w_istr {te : TE} {R : It → Hp → Prop} (h : te σ H fun v H1 => ∃ x, v = .str x ∧ R (Its x) H1) : iStr te σ H R := h
theorem tru_txt {K : PySem.W.Frag} {a : List Nat} {k : Bool} (l : a.length ≤ 15000000) (e : ((a.length : Int) != 0) = k) : TruV K (.str (tx a)) H k := ⟨by rw [tx_len]; exact small6 l, by rw [tx_len]; exact e.symm⟩
theorem cut_tx (a : List Nat) (lo hi : Option Int) : cutS (tx a) lo hi = tx ((a.drop (HT.sIx a.length 0 lo)).take (HT.sIx a.length a.length hi - HT.sIx a.length 0 lo)) := by
  unfold cutS
  rw [tx_len]
theorem cut_fromX (a : List Nat) (n : Nat) (h : n ≤ a.length) : cutS (tx a) (some (n : Int)) none = tx (a.drop n) := by
  rw [cut_tx, HT.sIx_none, HT.sIx_nat, Nat.min_eq_left h, List.take_of_length_le (by rw [List.length_drop]; exact Nat.le_refl _)]
theorem cut_toX (a : List Nat) (n : Nat) : cutS (tx a) none (some (n : Int)) = tx (a.take n) := by
  rw [cut_tx, HT.sIx_none, HT.sIx_nat, List.drop_zero, Nat.sub_zero]
  by_cases c : n ≤ a.length
  · rw [Nat.min_eq_left c]
  · rw [Nat.min_eq_right (by omega), List.take_of_length_le (Nat.le_refl _), List.take_of_length_le (by omega)]
theorem cut_twoX (a : List Nat) (n m : Nat) (h : n ≤ a.length) (hm : n + m ≤ a.length) : cutS (tx a) (some (n : Int)) (some ((n + m : Nat) : Int)) = tx ((a.drop n).take m) := by
  rw [cut_tx, HT.sIx_nat, HT.sIx_nat, Nat.min_eq_left h, Nat.min_eq_left hm, show n + m - n = m by omega]
end
end Ct

/-! what is written of deeds, pushes, what was shown, and shows -/
namespace Ct
open PySem PySem.Spec PyProof.Rows L2
def wayT (w : Int) : List Nat := if w = 1 then [43] else [45]
def shT (s : Int) : List Nat := if s = 1 then [61, 49] else if s = 0 then [61, 48] else [61, 45, 49]
def noneT : List Nat := [110, 111, 110, 101]
def listT (ts : List (List Nat)) : List Nat := if ts = [] then noneT else TL.joinL [32] ts
def ShT (s : Int) : Prop := s = 1 ∨ s = 0 ∨ s = -1
def M40 : Nat := 10 ^ 40
def ElT : Nat → PyData → List Nat → Prop
  | 0, d, t => ∃ (i k : Nat) (w : Int), i < M40 ∧ k < M40 ∧ Sign w ∧ d = .tuple [.int i, .int w, .int k] ∧ t = nL i ++ wayT w ++ nL k
  | 1, d, t => ∃ (i : Nat) (w : Int), i < M40 ∧ Sign w ∧ d = .tuple [.int i, .int w] ∧ t = nL i ++ wayT w
  | 2, d, t => ∃ (i : Nat) (w s : Int), i < M40 ∧ Sign w ∧ ShT s ∧ d = .tuple [.int i, .int w, .int s] ∧ t = nL i ++ wayT w ++ shT s
  | _, d, t => ∃ (w s : Int), Sign w ∧ ShT s ∧ d = .tuple [.int w, .int s] ∧ t = wayT w ++ shT s
theorem nL_len {n : Nat} (h : n < M40) : (nL n).length ≤ 40 := TL.numL_len (by decide) h
theorem nL_pos (n : Nat) : 1 ≤ (nL n).length := by
  cases e : nL n with
  | nil => exact absurd e (TL.numL_ne n)
  | cons => exact Nat.succ_le_succ (Nat.zero_le _)
theorem nL_dig {n c : Nat} (h : c ∈ nL n) : 48 ≤ c ∧ c ≤ 57 := by
  have := TL.numL_free (n := n) (s := c)
  by_cases z : c < 48 ∨ 57 < c
  · exact absurd h (this z)
  · omega
theorem wayT_len (w : Int) : (wayT w).length = 1 := by unfold wayT; split <;> rfl
theorem shT_len (s : Int) : (shT s).length ≤ 3 := by unfold shT; split; decide; split <;> decide
theorem wayT_mem {w : Int} {c : Nat} (h : c ∈ wayT w) : c = 43 ∨ c = 45 := by
  unfold wayT at h
  split at h
  · exact .inl (List.mem_singleton.mp h)
  · exact .inr (List.mem_singleton.mp h)
theorem shT_mem {s : Int} {c : Nat} (h : c ∈ shT s) : 45 ≤ c ∧ c ≤ 61 := by
  unfold shT at h
  split at h
  · simp at h; omega
  · split at h
    · simp at h; omega
    · simp at h; omega
theorem elT_free : ∀ {k : Nat} {d : PyData} {t : List Nat}, ElT k d t → ∀ c ∈ t, 43 ≤ c ∧ c ≤ 61
  | 0, _, _, ⟨i, n, w, _, _, _, _, e⟩, c, hc => by
    subst e
    rcases List.mem_append.mp hc with hc | hc
    · rcases List.mem_append.mp hc with hc | hc
      · have := nL_dig hc; omega
      · have := wayT_mem hc; omega
    · have := nL_dig hc; omega
  | 1, _, _, ⟨i, w, _, _, _, e⟩, c, hc => by
    subst e
    rcases List.mem_append.mp hc with hc | hc
    · have := nL_dig hc; omega
    · have := wayT_mem hc; omega
  | 2, _, _, ⟨i, w, s, _, _, _, _, e⟩, c, hc => by
    subst e
    rcases List.mem_append.mp hc with hc | hc
    · rcases List.mem_append.mp hc with hc | hc
      · have := nL_dig hc; omega
      · have := wayT_mem hc; omega
    · have := shT_mem hc; omega
  | n + 3, _, _, h, c, hc => by
    obtain ⟨w, s, _, _, _, e⟩ := (show ∃ (w s : Int), Sign w ∧ ShT s ∧ _ = PyData.tuple [.int w, .int s] ∧ _ = wayT w ++ shT s from h)
    subst e
    rcases List.mem_append.mp hc with hc | hc
    · have := wayT_mem hc; omega
    · have := shT_mem hc; omega
theorem elT_len : ∀ {k : Nat} {d : PyData} {t : List Nat}, ElT k d t → 1 ≤ t.length ∧ t.length ≤ 90
  | 0, _, _, ⟨i, n, w, h1, h2, _, _, e⟩ => by
    subst e
    have := nL_len h1; have := nL_len h2; have := nL_pos i; have := wayT_len w
    rw [List.length_append, List.length_append]; omega
  | 1, _, _, ⟨i, w, h1, _, _, e⟩ => by
    subst e
    have := nL_len h1; have := nL_pos i; have := wayT_len w
    rw [List.length_append]; omega
  | 2, _, _, ⟨i, w, s, h1, _, _, _, e⟩ => by
    subst e
    have := nL_len h1; have := nL_pos i; have := wayT_len w; have := shT_len s
    rw [List.length_append, List.length_append]; omega
  | n + 3, _, _, h => by
    obtain ⟨w, s, _, _, _, e⟩ := (show ∃ (w s : Int), Sign w ∧ ShT s ∧ _ = PyData.tuple [.int w, .int s] ∧ _ = wayT w ++ shT s from h)
    subst e
    have := wayT_len w; have := shT_len s
    rw [List.length_append]; omega
abbrev ElsT (k : Nat) : List PyData → List (List Nat) → Prop := Paired (ElT k)
theorem paired_getT {α β : Type} {R : α → β → Prop} : ∀ {l : List α} {m : List β} {i : Nat} {a : α}, Paired R l m → l[i]? = some a → ∃ b, m[i]? = some b ∧ R a b
  | _, _, _, _, .nil, e => by simp at e
  | _, _, 0, _, .cons h _, e => by
    cases Option.some.inj e
    exact ⟨_, rfl, h⟩
  | _, _, i + 1, _, .cons _ t, e => paired_getT (i := i) t e
theorem paired_memT {α β : Type} {R : α → β → Prop} : ∀ {l : List α} {m : List β} {b : β}, Paired R l m → b ∈ m → ∃ a, R a b
  | _, _, _, .nil, h => by cases h
  | _, _, _, .cons h t, e => by
    rcases List.mem_cons.mp e with rfl | e
    · exact ⟨_, h⟩
    · exact paired_memT t e
theorem elsT_free {k : Nat} {ds : List PyData} {ts : List (List Nat)} (h : ElsT k ds ts) : ∀ t ∈ ts, 32 ∉ t := fun t ht z => by
  obtain ⟨d, hd⟩ := paired_memT h ht
  have := elT_free hd 32 z
  omega
theorem joinT_len {m : Nat} : ∀ {ts : List (List Nat)}, (∀ t ∈ ts, t.length ≤ m) → (TL.joinL [32] ts).length ≤ (m + 1) * ts.length
  | [], _ => Nat.zero_le _
  | [t], h => by
    have := h t List.mem_cons_self
    show t.length ≤ (m + 1) * 1
    omega
  | t :: u :: r, h => by
    have h1 := h t List.mem_cons_self
    have ih := joinT_len (ts := u :: r) fun x hx => h x (List.mem_cons_of_mem _ hx)
    show (t ++ ([32] ++ TL.joinL [32] (u :: r))).length ≤ (m + 1) * ((u :: r).length + 1)
    rw [List.length_append, List.length_append, Nat.mul_succ]
    show t.length + (1 + _) ≤ _
    omega
theorem listT_len {m : Nat} {ts : List (List Nat)} (h : ∀ t ∈ ts, t.length ≤ m) : (listT ts).length ≤ (m + 1) * ts.length + 4 := by
  unfold listT
  split
  · exact Nat.le_add_left _ _
  · exact Nat.le_trans (joinT_len h) (Nat.le_add_right _ _)
theorem elsT_len {k : Nat} {ds : List PyData} {ts : List (List Nat)} (h : ElsT k ds ts) : ∀ t ∈ ts, t.length ≤ 90 := fun t ht => by
  obtain ⟨d, hd⟩ := paired_memT h ht
  exact (elT_len hd).2
theorem join_none {ts : List (List Nat)} (ne : ts ≠ []) (h : ∀ t ∈ ts, 1 ≤ t.length ∧ ∀ c ∈ t, c ≤ 61) : TL.joinL [32] ts ≠ noneT := fun e => by
  cases ts with
  | nil => exact ne rfl
  | cons t r =>
    obtain ⟨h1, h2⟩ := h t List.mem_cons_self
    cases t with
    | nil => cases h1
    | cons c q =>
      have hc := h2 c List.mem_cons_self
      have : (TL.joinL [32] ((c :: q) :: r)).head? = some c := by cases r <;> rfl
      rw [e] at this
      cases (Option.some.inj this)
      omega
theorem elsT_none {k : Nat} {ds : List PyData} {ts : List (List Nat)} (h : ElsT k ds ts) (ne : ts ≠ []) : listT ts ≠ noneT := by
  unfold listT
  rw [if_neg ne]
  refine join_none ne fun t ht => ?_
  obtain ⟨d, hd⟩ := paired_memT h ht
  exact ⟨(elT_len hd).1, fun c hc => (elT_free hd c hc).2⟩
theorem splitT {ts : List (List Nat)} (ne : ts ≠ []) (h : ∀ t ∈ ts, 32 ∉ t) : Txt.split (tx (TL.joinL [32] ts)) (Str.ofString " ") = ts.map tx := by
  rw [tx_of, show (" ".toList.map Char.toNat) = [32] by decide, SX.split_S (by decide) (by decide), SX.spl_join ne h]
theorem joinT (s : String) {sep : List Nat} (e : s.toList.map Char.toNat = sep) (ts : List (List Nat)) : Txt.join (Str.ofString s) (ts.map tx) = tx (TL.joinL sep ts) := by
  rw [tx_of, e, SX.join_S]
/-- a number from one on begins with no nought -/
theorem nL_head : ∀ n : Nat, 1 ≤ n → (nL n).head? ≠ some 48 := fun n => by
  induction n using Nat.strongRecOn with
  | _ n ih =>
    intro h e
    by_cases c : n < 10
    · rw [show nL n = [48 + n] from TL.numL_lt c] at e
      have := Option.some.inj e
      omega
    · have st : nL n = nL (n / 10) ++ [48 + n % 10] := TL.numL_step (by omega)
      rw [st] at e
      have := ih (n / 10) (by omega) (by omega)
      cases z : nL (n / 10) with
      | nil => exact TL.numL_ne _ z
      | cons a r =>
        rw [z] at e this
        exact this e
theorem nL_zero {n : Nat} (h : (nL n).head? = some 48) : (nL n).length = 1 := by
  by_cases z : n = 0
  · rw [z]; decide
  · exact absurd h (nL_head n (by omega))
theorem figs : (Str.ofString "0123456789").cps.toList = [48, 49, 50, 51, 52, 53, 54, 55, 56, 57] := by decide +kernel
theorem in_figs (c : Nat) : decide (c ∈ (Str.ofString "0123456789").cps.toList) = decide (48 ≤ c ∧ c ≤ 57) := by
  rw [figs]
  refine decide_eq_decide.mpr ⟨fun h => ?_, fun h => ?_⟩
  · simp at h; omega
  · simp; omega
theorem int_nL {n : Nat} (h : n < M40) : PySem.intText? (tx (nL n)) = some (n : Int) := by
  rw [← tx_num]
  exact TL.int_num (Nat.le_trans (nL_len h) (by decide))
theorem dpi_inv {K : PySem.W.Frag} {H : Hp} {v : V} {is : List Int} (h : Dp K H v (.tuple (is.map PyData.int))) : ∃ p, v = .ref p ∧ SqT K H p (is.map V.int) := by
  obtain ⟨a, xs, rfl, hs, ht⟩ := tup_inv h
  exact ⟨a, rfl, by rw [← dpAll_ints_inv is ht]; exact hs⟩
theorem shT_say {s : Int} (h : ShT s) : ∃ t : Str, (toString s : Str) = t ∧ t = tx ((shT s).drop 1) := by
  refine ⟨_, rfl, ?_⟩
  rcases h with rfl | rfl | rfl
  · exact (tx_of "1").trans (by decide)
  · exact (tx_of "0").trans (by decide)
  · exact (tx_of "-1").trans (by decide)
theorem w_fmtSh {H : Hp} {Q : VK} {s : Int} (h : ShT s) (q : Q (.str (tx ((shT s).drop 1))) H) : (∃ y : Str, V.int s = .str y ∧ y.length ≤ sizeLine ∧ Q (.str y) H) ∨ ∃ i : Int, V.int s = .int i ∧ i.natAbs.log2 < 1920 ∧ Q (.str (toString i)) H := by
  obtain ⟨t, e1, e2⟩ := shT_say h
  refine .inr ⟨_, rfl, ?_, by rw [show (toString s : Str) = _ from e1, e2]; exact q⟩
  rcases h with rfl | rfl | rfl <;> decide
theorem shT_cons (s : Int) : shT s = 61 :: (shT s).drop 1 := by unfold shT; split; rfl; split <;> rfl
theorem sumT_len {m : Nat} : ∀ {ts : List (List Nat)}, (∀ t ∈ ts, t.length ≤ m) → ((ts.map tx).map (·.length)).sum ≤ m * ts.length
  | [], _ => Nat.zero_le _
  | t :: r, h => by
    have h1 := h t List.mem_cons_self
    have ih := sumT_len (ts := r) fun x hx => h x (List.mem_cons_of_mem _ hx)
    show (tx t).length + ((r.map tx).map (·.length)).sum ≤ m * (r.length + 1)
    rw [tx_len, Nat.mul_succ]
    omega
theorem fitT {ts : List (List Nat)} {s : Str} (h : ∀ t ∈ ts, t.length ≤ 2000) (l : ts.length ≤ 2000) (hs : s.length ≤ 1) : ((ts.map tx).map (·.length)).sum + (ts.map tx).length * s.length ≤ 16777216 := by
  have a := sumT_len h
  have b : 2000 * ts.length ≤ 2000 * 2000 := Nat.mul_le_mul_left _ l
  have c : (ts.map tx).length * s.length ≤ 2000 * 1 := by rw [List.length_map]; exact Nat.mul_le_mul l hs
  omega
theorem atX {c : Nat} {l : List Nat} {i : Nat} (h : l[i]? = some c) : atI (tx l).cps.toList (i : Int) = some c := atI_nat (j := i) h
mutual
/-- data without lists -/
inductive TDT : PyData → Prop
  | int (i : Int) : TDT (.int i)
  | str (x : Str) : TDT (.str x)
  | tup {ds : List PyData} : TDTs ds → TDT (.tuple ds)
inductive TDTs : List PyData → Prop
  | nil : TDTs []
  | cons {d : PyData} {ds : List PyData} : TDT d → TDTs ds → TDTs (d :: ds)
end
theorem tdT_ints : ∀ is : List Int, TDTs (is.map PyData.int)
  | [] => .nil
  | i :: r => .cons (.int i) (tdT_ints r)
theorem tdT_of : ∀ {ds : List PyData}, (∀ d ∈ ds, TDT d) → TDTs ds
  | [], _ => .nil
  | d :: r, h => .cons (h d List.mem_cons_self) (tdT_of fun x hx => h x (List.mem_cons_of_mem _ hx))
mutual
theorem dp_updT {K : PySem.W.Frag} {H : Hp} {l : Addr} {vs ws : List V} (hl : H l = some (.lst vs)) : ∀ {d : PyData}, TDT d → ∀ {v : V}, Dp K H v d → Dp K (upd H l (.lst ws)) v d
  | _, .int _, _, h => by cases h; exact .int _
  | _, .str _, _, h => by cases h; exact .str _
  | _, .tup ts, _, h => by
    obtain ⟨c, xs, rfl, hs, ha⟩ := tup_inv h
    exact .tup (sqT_upd hs hl) (dpAll_updT hl ts ha)
theorem dpAll_updT {K : PySem.W.Frag} {H : Hp} {l : Addr} {vs ws : List V} (hl : H l = some (.lst vs)) : ∀ {ds : List PyData}, TDTs ds → ∀ {xs : List V}, DpAll K H xs ds → DpAll K (upd H l (.lst ws)) xs ds
  | _, .nil, _, h => by cases h; exact .nil
  | _, .cons d ds, _, h => by
    cases h with
    | cons h1 h2 => exact .cons (dp_updT hl d h1) (dpAll_updT hl ds h2)
end
theorem elT_tdT : ∀ {k : Nat} {d : PyData} {t : List Nat}, ElT k d t → TDT d
  | 0, _, _, ⟨i, n, w, _, _, _, e, _⟩ => by subst e; exact .tup (tdT_ints [(i : Int), w, (n : Int)])
  | 1, _, _, ⟨i, w, _, _, e, _⟩ => by subst e; exact .tup (tdT_ints [(i : Int), w])
  | 2, _, _, ⟨i, w, s, _, _, _, e, _⟩ => by subst e; exact .tup (tdT_ints [(i : Int), w, s])
  | n + 3, _, _, h => by
    obtain ⟨w, s, _, _, e, _⟩ := (show ∃ (w s : Int), Sign w ∧ ShT s ∧ _ = PyData.tuple [.int w, .int s] ∧ _ = wayT w ++ shT s from h)
    subst e
    exact .tup (tdT_ints [w, s])
theorem elsT_tdT {k : Nat} {ds : List PyData} {ts : List (List Nat)} (h : ElsT k ds ts) : ∀ d ∈ ds, TDT d := fun d hd => by
  obtain ⟨i, hi⟩ := List.getElem?_of_mem hd
  obtain ⟨t, _, el⟩ := paired_getT h hi
  exact elT_tdT el
theorem splT {ts : List (List Nat)} (e : ts ≠ []) (h : ∀ t ∈ ts, 32 ∉ t) : Txt.split (tx (listT ts)) (Str.ofString " ") = ts.map tx := by
  unfold listT
  rw [if_neg e]
  exact splitT e h
theorem ok_tx {l : List Nat} (h : ∀ c ∈ l, c < 1000) : (PyData.str (tx l)).canLay0 = true ∧ (PyData.str (tx l)).depth ≤ 0 := by
  refine ⟨?_, Nat.le_refl _⟩
  show (tx l).cps.all (· < 0x110000) = true
  rw [Array.all_eq_true_iff_forall_mem]
  intro c hc
  have : c ∈ l := by simpa using hc
  exact decide_eq_true (Nat.lt_trans (h c this) (by decide))
theorem dpAll_strs {K : PySem.W.Frag} {H : Hp} : ∀ ss : List Str, DpAll K H (ss.map V.str) (ss.map PyData.str)
  | [] => .nil
  | s :: r => .cons (.str s) (dpAll_strs r)
theorem lay_txs {ts : List (List Nat)} (h : ∀ t ∈ ts, ∀ c ∈ t, c < 1000) : (PyData.list ((ts.map tx).map PyData.str)).canLay0 = true ∧ (PyData.list ((ts.map tx).map PyData.str)).depth ≤ 1 := lay_lst fun d hd => by
  obtain ⟨s, hs, rfl⟩ := List.mem_map.mp hd
  obtain ⟨t, ht, rfl⟩ := List.mem_map.mp hs
  exact ok_tx (h t ht)
/-- a list of texts against the empty one -/
theorem w_emptyS {K : PySem.W.Frag} {H : Hp} {Q : VK} {a b : Addr} {ts : List (List Nat)} (ha : SqL K H a ((ts.map tx).map V.str)) (hb : H b = some (.lst [])) (h : ∀ t ∈ ts, ∀ c ∈ t, c < 1000) (q : Q (.bl ts.isEmpty) H) : rEqD K (.ref a) (.ref b) H Q := by
  refine ⟨_, .list [], .lst ha (dpAll_strs _), .lst (.of hb) .nil, shaped_of (lay_txs h) (by decide), by decide, ?_⟩
  have : PyData.eqv (.list ((ts.map tx).map PyData.str)) (.list []) = ts.isEmpty := by
    cases ts with
    | nil => rfl
    | cons t r => rfl
  rw [this]
  exact q
theorem w_strSh {H : Hp} {Q : VK} {s : Int} (h : ShT s) (q : Q (.str (tx ((shT s).drop 1))) H) : rStrI [.int s] H Q := by
  obtain ⟨t, e1, e2⟩ := shT_say h
  refine ⟨_, rfl, ?_, by rw [show (toString s : Str) = _ from e1, e2]; exact q⟩
  rcases h with rfl | rfl | rfl <;> decide
/-- the sign of a way, picked out of a text -/
theorem w_waySg {H : Hp} {Q : VK} {w : Int} (hw : Sign w) (q : Q (.str (tx (wayT w))) H) : rIxS (.str (Str.ofString "+-")) (.int (if decide (w < 0) = true then 1 else 0)) H Q := by
  have e : Str.ofString "+-" = tx [43, 45] := tx_of "+-"
  have sz : (Str.ofString "+-").length ≤ sizeLine := by rw [e, tx_len]; decide
  rcases hw with rfl | rfl
  · exact ⟨_, _, 43, rfl, rfl, sz, by rw [e]; rfl, q⟩
  · exact ⟨_, _, 45, rfl, rfl, sz, by rw [e]; rfl, q⟩
theorem w_slTd {K : PySem.W.Frag} {H : Hp} {Q : VK} {g : Addr} {xs : List V} {n : Nat} (h : SqT K H g xs) (hn : n ≤ xs.length) (q : ∀ p H', Same H H' → SqT K H' p (xs.drop n) → Q (.ref p) H') : rSlA K (.ref g) (some (n : Int)) none H Q := by
  have cut : cutV xs (some (n : Int)) none = xs.drop n := by
    unfold cutV
    rw [HT.sIx_none, HT.sIx_nat, Nat.min_eq_left hn]
    exact List.take_of_length_le (by rw [List.length_drop]; exact Nat.le_refl _)
  refine ⟨g, _, rfl, h, fun whole => ?_, fun _ p np => ?_⟩
  · refine q g H (Same.refl H) ?_
    rw [← cut, show cutV xs (some (n : Int)) none = xs by unfold cutV; rw [whole.1, whole.2, List.drop_zero, Nat.sub_zero, List.take_length]]
    exact h
  · exact q p _ (same_upd np) (.of (by rw [upd_same, cut]))
theorem w_slTu {K : PySem.W.Frag} {H : Hp} {Q : VK} {g : Addr} {xs : List V} {n : Nat} (h : SqT K H g xs) (hn : n ≤ xs.length) (q : ∀ p H', Same H H' → SqT K H' p (xs.take n) → Q (.ref p) H') : rSlA K (.ref g) none (some (n : Int)) H Q := by
  have cut : cutV xs none (some (n : Int)) = xs.take n := by
    unfold cutV
    rw [HT.sIx_none, HT.sIx_nat, Nat.min_eq_left hn, List.drop_zero, Nat.sub_zero]
  refine ⟨g, _, rfl, h, fun whole => ?_, fun _ p np => ?_⟩
  · refine q g H (Same.refl H) ?_
    rw [← cut, show cutV xs none (some (n : Int)) = xs by unfold cutV; rw [whole.1, whole.2, List.drop_zero, Nat.sub_zero, List.take_length]]
    exact h
  · exact q p _ (same_upd np) (.of (by rw [upd_same, cut]))
theorem joinE (ts : List (List Nat)) : Txt.join (Str.ofString "") (ts.map tx) = tx ts.flatten := by
  rw [tx_of, show ("".toList.map Char.toNat) = [] from rfl, SX.join_S]
  congr 1
  induction ts with
  | nil => rfl
  | cons t r ih =>
    cases r with
    | nil => show t = t ++ []; rw [List.append_nil]
    | cons u s =>
      show t ++ ([] ++ TL.joinL [] (u :: s)) = t ++ (u :: s).flatten
      rw [List.nil_append, ih]
theorem flat_oneT : ∀ {rs : List Nat}, rs.length ≤ 1 → (∀ r ∈ rs, r < M40) → (rs.map nL).flatten.length ≤ 40
  | [], _, _ => Nat.zero_le _
  | [r], _, h => by
    have := nL_len (h r List.mem_cons_self)
    show ((nL r) ++ []).length ≤ 40
    rw [List.append_nil]
    exact this
  | _ :: _ :: _, h, _ => absurd h (by simp)
theorem allT_true : ∀ n : Nat, (List.replicate n true).all id = true
  | 0 => rfl
  | n + 1 => by rw [List.replicate_succ, List.all_cons, allT_true n]; rfl
theorem elT_ints : ∀ {k : Nat} {d : PyData} {t : List Nat}, ElT k d t → ∃ is : List Int, d = .tuple (is.map PyData.int) ∧ is.length ≤ 3
  | 0, _, _, ⟨i, n, w, _, _, _, e, _⟩ => ⟨[(i : Int), w, (n : Int)], e, Nat.le_refl 3⟩
  | 1, _, _, ⟨i, w, _, _, e, _⟩ => ⟨[(i : Int), w], e, (show 2 ≤ 3 by decide)⟩
  | 2, _, _, ⟨i, w, s, _, _, _, e, _⟩ => ⟨[(i : Int), w, s], e, Nat.le_refl 3⟩
  | n + 3, _, _, h => by
    obtain ⟨w, s, _, _, e, _⟩ := (show ∃ (w s : Int), Sign w ∧ ShT s ∧ _ = PyData.tuple [.int w, .int s] ∧ _ = wayT w ++ shT s from h)
    exact ⟨[w, s], e, (show 2 ≤ 3 by decide)⟩
theorem elsT_lay {k : Nat} {ds : List PyData} {ts : List (List Nat)} (h : ElsT k ds ts) : (PyData.list ds).canLay0 = true ∧ (PyData.list ds).depth ≤ 2 := lay_lst (n := 1) fun d hd => by
  obtain ⟨i, hi⟩ := List.getElem?_of_mem hd
  obtain ⟨t, _, el⟩ := paired_getT h hi
  obtain ⟨is, rfl, _⟩ := elT_ints el
  exact lay_tup (lay_ints is 0)
/-! lists of such things, handed about -/
def LsT (K : PySem.W.Frag) (H : Hp) (i : Nat) (a : Addr) (d : List PyData) (t : List (List Nat)) : Prop := ∃ xs, H a = some (.lst xs) ∧ DpAll K H xs d ∧ ElsT i d t ∧ t.length ≤ 1000
theorem LsT.same {K : PySem.W.Frag} {H H' : Hp} {i : Nat} {a : Addr} {d : List PyData} {t : List (List Nat)} (h : LsT K H i a d t) (s : Same H H') : LsT K H' i a d t := by
  obtain ⟨xs, h1, h2, h3, h4⟩ := h
  exact ⟨xs, s _ _ h1, dpAll_same s h2, h3, h4⟩
theorem LsT.put {K : PySem.W.Frag} {H : Hp} {i : Nat} {a S : Addr} {d : List PyData} {t : List (List Nat)} {vs ws : List V} (h : LsT K H i a d t) (n : a ≠ S) (hS : H S = some (.lst vs)) : LsT K (upd H S (.lst ws)) i a d t := by
  obtain ⟨xs, h1, h2, h3, h4⟩ := h
  exact ⟨xs, by rw [upd_ne n]; exact h1, dpAll_updT hS (tdT_of (elsT_tdT h3)) h2, h3, h4⟩
structure FourT (K : PySem.W.Frag) (H : Hp) (q S : Addr) (d : Nat → List PyData) (t : Nat → List (List Nat)) : Prop where
  ne : q ≠ S
  at_ : ∃ as : Nat → Addr, H q = some (.lst [.ref (as 0), .ref (as 1), .ref (as 2), .ref (as 3)]) ∧ ∀ i, i < 4 → as i ≠ S ∧ LsT K H i (as i) (d i) (t i)
theorem FourT.same {K : PySem.W.Frag} {H H' : Hp} {q S : Addr} {d : Nat → List PyData} {t : Nat → List (List Nat)} (h : FourT K H q S d t) (s : Same H H') : FourT K H' q S d t := by
  obtain ⟨n, as, h1, h2⟩ := h
  exact ⟨n, as, s _ _ h1, fun i hi => ⟨(h2 i hi).1, (h2 i hi).2.same s⟩⟩
theorem FourT.put {K : PySem.W.Frag} {H : Hp} {q S : Addr} {d : Nat → List PyData} {t : Nat → List (List Nat)} {vs ws : List V} (h : FourT K H q S d t) (hS : H S = some (.lst vs)) : FourT K (upd H S (.lst ws)) q S d t := by
  obtain ⟨n, as, h1, h2⟩ := h
  exact ⟨n, as, by rw [upd_ne n]; exact h1, fun i hi => ⟨(h2 i hi).1, (h2 i hi).2.put (h2 i hi).1 hS⟩⟩
theorem FourT.pick {K : PySem.W.Frag} {H : Hp} {q S : Addr} {d : Nat → List PyData} {t : Nat → List (List Nat)} (h : FourT K H q S d t) {i : Nat} (hi : i < 4) : ∃ xs a, H q = some (.lst xs) ∧ atI xs (i : Int) = some (.ref a) ∧ LsT K H i a (d i) (t i) := by
  obtain ⟨n, as, h1, h2⟩ := h
  have : i = 0 ∨ i = 1 ∨ i = 2 ∨ i = 3 := by omega
  rcases this with rfl | rfl | rfl | rfl
  · exact ⟨_, as 0, h1, rfl, (h2 0 hi).2⟩
  · exact ⟨_, as 1, h1, rfl, (h2 1 hi).2⟩
  · exact ⟨_, as 2, h1, rfl, (h2 2 hi).2⟩
  · exact ⟨_, as 3, h1, rfl, (h2 3 hi).2⟩
theorem FourT.dp {K : PySem.W.Frag} {H : Hp} {q S : Addr} {d : Nat → List PyData} {t : Nat → List (List Nat)} (h : FourT K H q S d t) : Dp K H (.ref q) (.list [.list (d 0), .list (d 1), .list (d 2), .list (d 3)]) := by
  obtain ⟨n, as, h1, h2⟩ := h
  have one : ∀ i, i < 4 → Dp K H (.ref (as i)) (.list (d i)) := fun i hi => by
    obtain ⟨_, xs, e1, e2, _⟩ := h2 i hi
    exact .lst (.of e1) e2
  exact .lst (.of h1) (.cons (one 0 (by decide)) (.cons (one 1 (by decide)) (.cons (one 2 (by decide)) (.cons (one 3 (by decide)) .nil))))
theorem dpAll_takeT {K : PySem.W.Frag} {H : Hp} : ∀ (n : Nat) {vs : List V} {ds : List PyData}, DpAll K H vs ds → DpAll K H (vs.take n) (ds.take n)
  | 0, _, _, _ => .nil
  | n + 1, _, _, .nil => .nil
  | n + 1, _, _, .cons h t => .cons h (dpAll_takeT n t)
theorem paired_takeT {α β : Type} {R : α → β → Prop} : ∀ (n : Nat) {l : List α} {m : List β}, Paired R l m → Paired R (l.take n) (m.take n)
  | 0, _, _, _ => .nil
  | n + 1, _, _, .nil => .nil
  | n + 1, _, _, .cons h t => .cons h (paired_takeT n t)
theorem paired_appT {α β : Type} {R : α → β → Prop} : ∀ {l : List α} {m : List β} {l' : List α} {m' : List β}, Paired R l m → Paired R l' m' → Paired R (l ++ l') (m ++ m')
  | _, _, _, _, .nil, h => h
  | _, _, _, _, .cons h t, g => .cons h (paired_appT t g)
theorem dpAll_repT {K : PySem.W.Frag} {H : Hp} {vs : List V} {ds : List PyData} (h : DpAll K H vs ds) : ∀ n : Nat, DpAll K H (List.replicate n vs).flatten (List.replicate n ds).flatten
  | 0 => .nil
  | n + 1 => by
    rw [List.replicate_succ, List.replicate_succ, List.flatten_cons, List.flatten_cons]
    exact dpAll_app h (dpAll_repT h n)
theorem paired_repT {α β : Type} {R : α → β → Prop} {l : List α} {m : List β} (h : Paired R l m) : ∀ n : Nat, Paired R (List.replicate n l).flatten (List.replicate n m).flatten
  | 0 => .nil
  | n + 1 => by
    rw [List.replicate_succ, List.replicate_succ, List.flatten_cons, List.flatten_cons]
    exact paired_appT h (paired_repT h n)
/-- so many times over, and cut off -/
theorem LsT.over {K : PySem.W.Frag} {H : Hp} {i n k : Nat} {b : Addr} {xs : List V} {d : List PyData} {t : List (List Nat)} (hk : k ≤ 1000) (dx : DpAll K H xs d) (els : ElsT i d t) (hb : H b = some (.lst ((List.replicate n xs).flatten.take k))) : LsT K H i b ((List.replicate n d).flatten.take k) ((List.replicate n t).flatten.take k) :=
  ⟨_, hb, dpAll_takeT k (dpAll_repT dx n), paired_takeT k (paired_repT els n), by rw [List.length_take]; omega⟩
end Ct

/-! a tuple told n times, n from 0 on -/
namespace Ct
open PySem PySem.Spec PyProof.Rows L2
theorem tuple_mul1 (l : Addr) (items : Array Value) (n : Nat) (dd : Option Addr) (sl : Array (Option Value)) (u : Tok) :
    Meets (Builtin.«tuple.__mul__» ⟨[.ref l, .int 1 u], []⟩) (fun _ R s => s.heap.get? l = some { cls := .type "tuple", dict := dd, data := .seq items n, slots := sl } ∧
      R (.ok (.ret (Value.ref l))) s) :=
  .of_wp fun prog w A R s h => by
    obtain ⟨hp, g, d, tk, os⟩ := s
    obtain ⟨hl, h⟩ := h
    have f1 := AutoSeq1.idx_int
    have c1 : (items.isEmpty || ((1 : Int) == 1)) = true := by simp
    wp_walk using wpAny_loadPart' hl
    exact ⟨_, rfl, h⟩
theorem tuple_mul0 (l : Addr) (items : Array Value) (n : Nat) (dd : Option Addr) (sl : Array (Option Value)) (u : Tok) (c1 : items.isEmpty = false) :
    Meets (Builtin.«tuple.__mul__» ⟨[.ref l, .int 0 u], []⟩) (fun _ R s => s.heap.get? l = some { cls := .type "tuple", dict := dd, data := .seq items n, slots := sl } ∧
      R (.ok (.ret (Value.ref s.heap.objs.size))) { s with heap := s.heap.push { cls := Value.type "tuple", data := Data.seq #[] }, toks := s.toks }) :=
  .of_wp fun prog w A R s h => by
    obtain ⟨hp, g, d, tk, os⟩ := s
    obtain ⟨hl, h⟩ := h
    have f1 := AutoSeq1.idx_int
    wp_walk using wpAny_loadPart' hl
    exact ⟨_, rfl, h⟩
def rRepZ (K : PySem.W.Frag) : R2 := fun x y H Q => ∃ l k xs, x = .ref l ∧ y = .int k ∧ SqT K H l xs ∧ xs ≠ [] ∧ 0 ≤ k ∧ k ≤ 1000 ∧ xs.length ≤ 1000 ∧ ∀ p H', Same H H' → SqT K H' p (List.replicate k.toNat xs).flatten → Q (.ref p) H'
variable {X : Cx}
theorem op_repZ : OpR X (binaryOp .Mult) (rRepZ X.K) := by
  intro pins s σ H x y v u Q I rx ry h
  obtain ⟨l, k, xs, rfl, rfl, hT, hne, h1, h2, hz, q⟩ := h
  by_cases c : 2 ≤ k
  · exact op_repT pins s σ H _ _ v u Q I rx ry ⟨l, k, xs, rfl, rfl, hT, hne, c, h2, hz, fun p hp => q p _ (same_upd hp) (.of upd_same)⟩
  cases rx
  obtain ⟨t, rfl⟩ := ry
  obtain ⟨its, r, ⟨⟨cls, dd, data, sl⟩, ho, hc, n, hd⟩, hs⟩ := I.tuple hT
  simp only at hc hd
  subst hc hd
  have hle : its.length = xs.length := r.length.symm
  have hn : its ≠ [] := fun e => hne (by
    rw [e] at hle
    exact List.eq_nil_of_length_eq_zero hle.symm)
  have hi : its.toArray.isEmpty = false := by
    cases its with
    | nil => exact absurd rfl hn
    | cons a b => rfl
  have k01 : k = 0 ∨ k = 1 := by omega
  rcases k01 with rfl | rfl
  · refine wpAny_binaryOp_repeat_ref (T := "tuple") (U := "int") (by decide) ⟨_, ho, rfl⟩ (fun s' => typeIs_int s' 0 t) noFill_tuple_mul F.fills_int_mul F.slot_int_rmul repeat_tuple F.slot_int_index.lookup
      (call_meets F.slot_int_rmul (typeIs_int s 0 t) F.entry_int_rmul (F.args_int_rmul_2 _ _) (int_rmul_tuple 0 t l its.toArray n dd sl)
        ⟨ho, rfl, ⟨_, ho, rfl⟩, call_meets F.slot_tuple_mul ⟨_, ho, rfl⟩ F.entry_tuple_mul (F.args_tuple_mul_2 _ _) (tuple_mul0 l its.toArray n dd sl t hi) ⟨ho, ?_⟩⟩)
    refine ⟨.ref s.heap.objs.size, _, I.laid (t' := s.toks) (o := .tup []) (fun b ob q => Heap.get?_push_of_some _ q) (Nat.le_refl _) ?_, rfl, q _ _ (same_upd (I.hok.fresh (Nat.le_refl _))) (.of upd_same)⟩
    exact ⟨Nat.zero_le _, _, .nil, IsTup.new _ _⟩
  · refine wpAny_binaryOp_repeat_ref (T := "tuple") (U := "int") (by decide) ⟨_, ho, rfl⟩ (fun s' => typeIs_int s' 1 t) noFill_tuple_mul F.fills_int_mul F.slot_int_rmul repeat_tuple F.slot_int_index.lookup
      (call_meets F.slot_int_rmul (typeIs_int s 1 t) F.entry_int_rmul (F.args_int_rmul_2 _ _) (int_rmul_tuple 1 t l its.toArray n dd sl)
        ⟨ho, rfl, ⟨_, ho, rfl⟩, call_meets F.slot_tuple_mul ⟨_, ho, rfl⟩ F.entry_tuple_mul (F.args_tuple_mul_2 _ _) (tuple_mul1 l its.toArray n dd sl t) ⟨ho, ?_⟩⟩)
    exact ⟨.ref l, H, I, rfl, q _ _ (fun _ _ z => z) (by rw [show (List.replicate (Int.toNat 1) xs).flatten = xs by simp]; exact hT)⟩
theorem w_repZ {K : PySem.W.Frag} {H : Hp} {l : Addr} {k : Int} {xs : List V} {Q : VK} (hT : SqT K H l xs) (hne : xs ≠ []) (h0 : 0 ≤ k) (h2 : k ≤ 1000) (hz : xs.length ≤ 1000) (q : ∀ p H', Same H H' → SqT K H' p (List.replicate k.toNat xs).flatten → Q (.ref p) H') : rRepZ K (.ref l) (.int k) H Q :=
  ⟨l, k, xs, rfl, rfl, hT, hne, h0, h2, hz, q⟩
end Ct

/-! trains and stands as texts -/
namespace Ct
open PySem PySem.Spec PyProof.Rows L2
def jN (s : Nat) (ns : List Nat) : List Nat := TL.joinL [s] (ns.map nL)
/-- a part of moderate size, and its text -/
def PartS (p : Part) (t : List Nat) : Prop := p.ok ∧
  ((∃ (z : Nat) (ns : List Nat), p = .wheel (z : Int) (ns.map fun n : Nat => (n : Int)) ∧ z < M40 ∧ (∀ n ∈ ns, n < M40) ∧ ns.length ≤ 30 ∧ t = 119 :: (nL z ++ 58 :: jN 44 ns)) ∨
   (p = .click ∧ t = [99]) ∨ (p = .rocker ∧ t = [114]) ∨ ∃ k : Nat, p = .spring (k : Int) ∧ k < M40 ∧ t = 115 :: nL k)
abbrev TrainT : List Part → List (List Nat) → Prop := Paired PartS
theorem joinG_len {m s : Nat} : ∀ {ts : List (List Nat)}, (∀ t ∈ ts, t.length ≤ m) → (TL.joinL [s] ts).length ≤ (m + 1) * ts.length
  | [], _ => Nat.zero_le _
  | [t], h => by
    have := h t List.mem_cons_self
    show t.length ≤ (m + 1) * 1
    omega
  | t :: u :: r, h => by
    have h1 := h t List.mem_cons_self
    have ih := joinG_len (s := s) (ts := u :: r) fun x hx => h x (List.mem_cons_of_mem _ hx)
    show (t ++ ([s] ++ TL.joinL [s] (u :: r))).length ≤ (m + 1) * ((u :: r).length + 1)
    rw [List.length_append, List.length_append, Nat.mul_succ]
    show t.length + (1 + _) ≤ _
    omega
theorem mem_joinG {s c : Nat} : ∀ {ts : List (List Nat)}, c ∈ TL.joinL [s] ts → c = s ∨ ∃ t ∈ ts, c ∈ t
  | [], h => by cases h
  | [t], h => .inr ⟨t, List.mem_cons_self, h⟩
  | t :: u :: r, h => by
    rcases List.mem_append.mp (show c ∈ t ++ ([s] ++ TL.joinL [s] (u :: r)) from h) with h | h
    · exact .inr ⟨t, List.mem_cons_self, h⟩
    · rcases List.mem_append.mp h with h | h
      · exact .inl (List.mem_singleton.mp h)
      · rcases mem_joinG h with h | ⟨x, hx, hc⟩
        · exact .inl h
        · exact .inr ⟨x, List.mem_cons_of_mem _ hx, hc⟩
theorem jN_len {s : Nat} {ns : List Nat} (h : ∀ n ∈ ns, n < M40) : (jN s ns).length ≤ 41 * ns.length := by
  have := joinG_len (m := 40) (s := s) (ts := ns.map nL) fun t ht => by
    obtain ⟨n, hn, rfl⟩ := List.mem_map.mp ht
    exact nL_len (h n hn)
  rw [List.length_map] at this
  exact this
theorem jN_mem {s c : Nat} {ns : List Nat} (h : c ∈ jN s ns) : c = s ∨ 48 ≤ c ∧ c ≤ 57 := by
  rcases mem_joinG h with h | ⟨t, ht, hc⟩
  · exact .inl h
  · obtain ⟨n, _, rfl⟩ := List.mem_map.mp ht
    exact .inr (nL_dig hc)
theorem splitG {s : Nat} {c : String} (e : c.toList.map Char.toNat = [s]) (hs : s < 256) {ts : List (List Nat)} (ne : ts ≠ []) (h : ∀ t ∈ ts, s ∉ t) : Txt.split (tx (TL.joinL [s] ts)) (Str.ofString c) = ts.map tx := by
  rw [tx_of, e, SX.split_S (List.cons_ne_nil _ _) (by rw [List.all_cons, decide_eq_true hs]; rfl), SX.spl_join ne h]
theorem splitN {s : Nat} {c : String} (e : c.toList.map Char.toNat = [s]) (hs : s < 48) {ns : List Nat} (ne : ns ≠ []) : Txt.split (tx (jN s ns)) (Str.ofString c) = (ns.map nL).map tx :=
  splitG e (by omega) (fun z => ne (List.map_eq_nil_iff.mp z)) fun t ht z => by
    obtain ⟨n, _, rfl⟩ := List.mem_map.mp ht
    have := nL_dig z
    omega
theorem partC {z : Nat} {r : List Nat} : Txt.partition (tx (nL z ++ 58 :: r)) (Str.ofString ":") = (tx (nL z), tx [58], tx r) := by
  rw [tx_of, show ":".toList.map Char.toNat = [58] from rfl]
  exact SX.partition_some (List.cons_ne_nil _ _) (SX.par_head r fun h => by have := nL_dig h; omega)
theorem startT (c : Nat) (r : List Nat) (s : String) {d : Nat} (e : s.toList.map Char.toNat = [d]) : Txt.startswith (tx (c :: r)) (Str.ofString s) = decide (c = d) := by
  rw [tx_of, e]
  unfold Txt.startswith
  rw [StrLaws.subAt_eq, tx_len, tx_len]
  have : decide (0 + [d].length ≤ (c :: r).length) = true := decide_eq_true (by show 1 ≤ r.length + 1; omega)
  rw [this, Bool.true_and]
  show ([c] == [d]) = decide (c = d)
  by_cases z : c = d
  · rw [z, decide_eq_true rfl]
    exact beq_self_eq_true [d]
  · rw [decide_eq_false z]
    exact beq_eq_false_iff_ne.mpr fun h => z (List.cons.inj h).1
theorem partS_len {p : Part} {t : List Nat} (h : PartS p t) : 1 ≤ t.length ∧ t.length ≤ 1300 := by
  rcases h.2 with ⟨z, ns, _, hz, hn, nl, rfl⟩ | ⟨_, rfl⟩ | ⟨_, rfl⟩ | ⟨k, _, hk, rfl⟩
  · have a := nL_len hz
    have b := jN_len (s := 44) hn
    have : (119 :: (nL z ++ 58 :: jN 44 ns)).length = (nL z).length + ((jN 44 ns).length + 1) + 1 := by rw [List.length_cons, List.length_append, List.length_cons]
    omega
  · decide
  · decide
  · have := nL_len hk
    rw [List.length_cons]
    omega
theorem partS_free {p : Part} {t : List Nat} (h : PartS p t) : ∀ c ∈ t, 44 ≤ c ∧ c ≤ 119 := fun c hc => by
  rcases h.2 with ⟨z, ns, _, hz, hn, nl, rfl⟩ | ⟨_, rfl⟩ | ⟨_, rfl⟩ | ⟨k, _, hk, rfl⟩
  · rcases List.mem_cons.mp hc with rfl | hc
    · omega
    rcases List.mem_append.mp hc with hc | hc
    · have := nL_dig hc; omega
    rcases List.mem_cons.mp hc with rfl | hc
    · omega
    · have := jN_mem hc; omega
  · rw [List.mem_singleton.mp hc]; omega
  · rw [List.mem_singleton.mp hc]; omega
  · rcases List.mem_cons.mp hc with rfl | hc
    · omega
    · have := nL_dig hc; omega
theorem trainT_fact {ps : List Part} {ts : List (List Nat)} (h : TrainT ps ts) : ∀ t ∈ ts, 1 ≤ t.length ∧ t.length ≤ 1300 ∧ ∀ c ∈ t, 44 ≤ c ∧ c ≤ 119 := fun t ht => by
  obtain ⟨p, hp⟩ := paired_memT h ht
  exact ⟨(partS_len hp).1, (partS_len hp).2, partS_free hp⟩
theorem trainT_ok {ps : List Part} {ts : List (List Nat)} (h : TrainT ps ts) : ∀ p ∈ ps, p.ok := fun p hp => by
  obtain ⟨i, hi⟩ := List.getElem?_of_mem hp
  obtain ⟨t, _, hs⟩ := paired_getT h hi
  exact hs.1
/-- what a part's data is made of -/
theorem partS_tdT {p : Part} {t : List Nat} (h : PartS p t) : TDT p.data := by
  rcases h.2 with ⟨z, ns, rfl, _⟩ | ⟨rfl, _⟩ | ⟨rfl, _⟩ | ⟨k, rfl, _⟩
  · exact .tup (.cons (.str _) (.cons (.int _) (.cons (.tup (tdT_ints _)) .nil)))
  · exact .tup (.cons (.str _) .nil)
  · exact .tup (.cons (.str _) .nil)
  · exact .tup (.cons (.str _) (.cons (.int _) .nil))
theorem trainT_tdT {ps : List Part} {ts : List (List Nat)} (h : TrainT ps ts) : TDTs (ps.map Part.data) := tdT_of fun d hd => by
  obtain ⟨p, hp, rfl⟩ := List.mem_map.mp hd
  obtain ⟨i, hi⟩ := List.getElem?_of_mem hp
  obtain ⟨t, _, hs⟩ := paired_getT h hi
  exact partS_tdT hs
theorem m40_lt : M40 < 2 ^ 200 := by decide
theorem map_toInt (ns : List Nat) : (ns.map fun n : Nat => (n : Int)).map V.int = ns.map fun n : Nat => V.int (n : Int) := by rw [List.map_map]; rfl
theorem map_toIntD (ns : List Nat) : (ns.map fun n : Nat => (n : Int)).map PyData.int = ns.map fun n : Nat => PyData.int (n : Int) := by rw [List.map_map]; rfl
theorem fitN {s : Str} {ns : List Nat} (h : ∀ n ∈ ns, n < M40) (l : ns.length ≤ 2000) (hs : s.length ≤ 1) : (((ns.map nL).map tx).map (·.length)).sum + ((ns.map nL).map tx).length * s.length ≤ 16777216 :=
  fitT (fun t ht => by
    obtain ⟨n, hn, rfl⟩ := List.mem_map.mp ht
    exact Nat.le_trans (nL_len (h n hn)) (by decide)) (by rw [List.length_map]; exact l) hs
theorem take_succN {α β : Type} (f : α → β) {l : List α} {i : Nat} {a : α} (h : l[i]? = some a) : (l.take (i + 1)).map f = (l.take i).map f ++ [f a] := by
  rw [List.take_add_one, h, List.map_append]
  rfl
theorem map_getN {α β : Type} {f : α → β} {l : List α} {i : Nat} {x : β} (h : (l.map f)[i]? = some x) : ∃ a, l[i]? = some a ∧ x = f a := by
  rw [List.getElem?_map] at h
  cases z : l[i]? with
  | none => rw [z] at h; cases h
  | some a =>
    rw [z] at h
    exact ⟨a, rfl, (Option.some.inj h).symm⟩
theorem jN_pos {s : Nat} : ∀ {ns : List Nat}, ns ≠ [] → 1 ≤ (jN s ns).length
  | [], h => absurd rfl h
  | [n], _ => nL_pos n
  | n :: m :: r, _ => by
    show 1 ≤ (nL n ++ ([s] ++ TL.joinL [s] ((m :: r).map nL))).length
    rw [List.length_append]
    have := nL_pos n
    omega
/-- walking what is a list or a tuple -/
def iAny (K : PySem.W.Frag) (tl : TE) : TI := fun σ H R => iList K tl σ H R ∨ iTup K tl σ H R
theorem pi_any {X : Cx} {tg l : Expr} {tl : TE} (hl : PE X l tl) : PI X tg l (iAny X.K tl) :=
  ⟨fun pins s σ H R I h => h.elim ((pi_list hl).run pins s σ H R I) ((pi_tup hl).run pins s σ H R I)⟩
theorem w_isiLT {K : PySem.W.Frag} {H : Hp} {Q : VK} {x : V} {p : Addr} {n : String} {b1 b2 b : Bool} (ty : TyX K H x (.type n)) (hT : H p = some (.tup [.ty "list", .ty "tuple"])) (k1 : PySem.W.kitOne K (.type n) (.type "list") = some b1) (k2 : PySem.W.kitOne K (.type n) (.type "tuple") = some b2) (e : (b1 || b2) = b) (q : Q (.bl b) H) : rIsiT K [x, .ref p] H Q := by
  subst e
  exact
  ⟨x, p, _, .type n, [.type "list", .type "tuple"], b1 || b2, rfl, hT, .cons (.ty _) (.cons (.ty _) .nil), ty, kitAny_cons k1 (fun e => by
    subst e
    exact kitAny_cons k2 (fun e2 => by subst e2; rfl) fun e2 => by subst e2; rfl) (fun e => by subst e; rfl), q⟩
theorem all_rep : ∀ (n : Nat), (List.replicate n true).all id = true := allT_true
theorem w_anyL {K : PySem.W.Frag} {tl : TE} {σ : L2.St} {H : Hp} {R : It → Hp → Prop} (h : tl σ H fun v H1 => IL K v H1 R) : iAny K tl σ H R := .inl h
theorem w_anyT {K : PySem.W.Frag} {tl : TE} {σ : L2.St} {H : Hp} {R : It → Hp → Prop} (h : tl σ H fun v H1 => IT K v H1 R) : iAny K tl σ H R := .inr h
/-- data made of numbers, texts, lists and tuples, so deep at most -/
inductive PlainD : Nat → PyData → Prop
  | int (n : Nat) (i : Int) : PlainD (n + 1) (.int i)
  | str (n : Nat) (x : Str) : PlainD (n + 1) (.str x)
  | lst {n : Nat} {ds : List PyData} : (∀ d ∈ ds, PlainD n d) → ds.length ≤ 1000 → PlainD (n + 1) (.list ds)
  | tup {n : Nat} {ds : List PyData} : (∀ d ∈ ds, PlainD n d) → ds.length ≤ 1000 → PlainD (n + 1) (.tuple ds)
theorem plain_ints {n : Nat} {is : List Int} (l : is.length ≤ 1000) : PlainD (n + 2) (.tuple (is.map PyData.int)) := .tup (fun d hd => by
  obtain ⟨i, _, rfl⟩ := List.mem_map.mp hd
  exact .int n i) (by rw [List.length_map]; exact l)
theorem plain_part {p : Part} {t : List Nat} (h : PartS p t) : PlainD 4 p.data := by
  have c3 : ∀ {x y z : PyData}, PlainD 3 x → PlainD 3 y → PlainD 3 z → PlainD 4 (.tuple [x, y, z]) := fun a b c => .tup (fun d hd => by
    rcases List.mem_cons.mp hd with rfl | hd
    · exact a
    rcases List.mem_cons.mp hd with rfl | hd
    · exact b
    rw [List.mem_singleton.mp hd]
    exact c) (show 3 ≤ 1000 by decide)
  have c2 : ∀ {x y : PyData}, PlainD 3 x → PlainD 3 y → PlainD 4 (.tuple [x, y]) := fun a b => .tup (fun d hd => by
    rcases List.mem_cons.mp hd with rfl | hd
    · exact a
    rw [List.mem_singleton.mp hd]
    exact b) (show 2 ≤ 1000 by decide)
  have c1 : ∀ {x : PyData}, PlainD 3 x → PlainD 4 (.tuple [x]) := fun a => .tup (fun d hd => by
    rw [List.mem_singleton.mp hd]
    exact a) (show 1 ≤ 1000 by decide)
  rcases h.2 with ⟨z, ns, rfl, _, _, nl, _⟩ | ⟨rfl, _⟩ | ⟨rfl, _⟩ | ⟨k, rfl, _⟩
  · exact c3 (.str _ _) (.int _ _) (plain_ints (by rw [List.length_map]; omega))
  · exact c1 (.str _ _)
  · exact c1 (.str _ _)
  · exact c2 (.str _ _) (.int _ _)
theorem plain_train {ps : List Part} {ts : List (List Nat)} (h : TrainT ps ts) (l : ps.length ≤ 1000) : PlainD 5 (.list (ps.map Part.data)) := .lst (fun d hd => by
  obtain ⟨p, hp, rfl⟩ := List.mem_map.mp hd
  obtain ⟨i, hi⟩ := List.getElem?_of_mem hp
  obtain ⟨t, _, hs⟩ := paired_getT h hi
  exact plain_part hs) (by rw [List.length_map]; exact l)
theorem trainT_low {ps : List Part} {ts : List (List Nat)} (h : TrainT ps ts) : ∀ c ∈ TL.joinL [32] ts, c < 1000 := fun c hc => by
  rcases mem_joinG hc with rfl | ⟨t, ht, hc⟩
  · decide
  · have := (trainT_fact h t ht).2.2 c hc
    omega
theorem jN_low {s : Nat} {ns : List Nat} (hs : s < 48) : ∀ c ∈ jN s ns, c < 1000 := fun c hc => by
  have := jN_mem hc
  omega
theorem lay_two {a b : List Nat} (ha : ∀ c ∈ a, c < 1000) (hb : ∀ c ∈ b, c < 1000) : (PyData.list [.str (tx a), .str (tx b)]).canLay0 = true ∧ (PyData.list [.str (tx a), .str (tx b)]).depth ≤ 1 := lay_lst fun d hd => by
  rcases List.mem_cons.mp hd with rfl | hd
  · exact ok_tx ha
  · rw [List.mem_singleton.mp hd]
    exact ok_tx hb
theorem w_eqSameT {K : PySem.W.Frag} {H : Hp} {Q : VK} {x y : V} (d : PyData) {n : Nat} (hx : Dp K H x d) (hy : Dp K H y d) (h : d.canLay0 = true ∧ d.depth ≤ n) (e : n ≤ 64) (q : Q (.bl true) H) : rEqD K x y H Q :=
  ⟨d, d, hx, hy, shaped_of h e, shaped_of h e, by rw [SeqAt.eqv_refl d h.1]; exact q⟩
end Ct

/-! str of any data -/
namespace Ct
open PySem PySem.Spec PyProof.Rows L2
def saidV : PyData → Str
  | .none => "None"
  | .bool b => if b then "True" else "False"
  | .int i => toString i
  | .str x => x
  | d => d.shown
def rStrV (K : PySem.W.Frag) : List V → Hp → VK → Prop := fun xs H Q => ∃ (x : V) (d : PyData), xs = [x] ∧ Dp K H x d ∧ Fine d 40 600 ∧ Q (.str (saidV d)) H
theorem call_strV {X : Cx} (gd : X.A.guards = some []) (hu : X.A.units + 64 < cLine) : CallR X (.type "str") (rStrV X.K) := by
  rintro pins s σ H xs us Q J r ⟨x, d, rfl, hd, fine, q⟩
  cases hd with
  | non =>
    obtain ⟨u, rfl, r1⟩ := vals1 r
    cases r1
    exact PySem.P.str_of_none ⟨.str _, H, J.tok _, ⟨_, rfl⟩, q⟩
  | bl b =>
    obtain ⟨u, rfl, r1⟩ := vals1 r
    cases r1
    exact PySem.P.str_of_bool ⟨.str _, H, J.tok _, ⟨_, rfl⟩, q⟩
  | int i =>
    refine call_str_int pins s σ H _ us Q J r ⟨i, rfl, ?_, q⟩
    have h : i.natAbs < 2 ^ 200 := of_decide_eq_true fine.ok
    by_cases z : i.natAbs = 0
    · rw [z]; decide
    · exact Nat.lt_of_lt_of_le ((Nat.log2_lt z).mpr h) (by decide)
  | str x =>
    obtain ⟨u, rfl, t, rfl⟩ := vals1 r
    exact PySem.P.str_of_str ⟨.str _, H, J, ⟨_, rfl⟩, q⟩
  | lst hs ht => exact call_strD gd hu pins s σ H _ us Q J r ⟨_, _, rfl, .lst hs ht, fine, q⟩
  | tup hs ht => exact call_strD gd hu pins s σ H _ us Q J r ⟨_, _, rfl, .tup hs ht, fine, q⟩
/-- max of a tuple of numbers -/
def rMaxN (K : PySem.W.Frag) : List V → Hp → VK → Prop := fun xs H Q => ∃ (a : Addr) (n : Int) (ns : List Int), xs = [.ref a] ∧ SqT K H a ((n :: ns).map V.int) ∧ Q (.int (ns.foldl max n)) H
theorem reads_ints {X : Cx} {pins : List (Addr × Obj)} {σ : L2.St} {H : Hp} {s : Shared} (I : Inv X pins σ H s) : ∀ {ns : List Int} {us : List Value}, Vals (ns.map V.int) us → ∃ as, ReadsAll s.heap us (ns.map PyData.int) as
  | [], _, .nil => ⟨_, .nil⟩
  | n :: ns, _, .cons r t => by
    obtain ⟨as, h⟩ := reads_ints I t
    obtain ⟨bs, g⟩ := Dp.reads I (.int n) (.int n) _ (.int n) r
    exact ⟨_, .cons g h⟩
theorem alike_ints (ns : List Int) : PySem.W.AlikeAll (ns.map PyData.int) := by
  refine ⟨fun x hx y hy => ?_, fun x hx e => ?_⟩
  · obtain ⟨a, _, rfl⟩ := List.mem_map.mp hx
    obtain ⟨b, _, rfl⟩ := List.mem_map.mp hy
    simp only [PySem.W.alike]
  · obtain ⟨a, _, rfl⟩ := List.mem_map.mp hx
    cases e
theorem cr_maxN {X : Cx} (hc : X.calm = true) (hu : X.A.units + 64 < cLine) : CallR X (.builtin "max") (rMaxN X.K) := by
  rintro pins s σ H xs us Q I r ⟨a, n, ns, rfl, hs, q⟩
  obtain ⟨its, rv, hl, _⟩ := I.tuple hs
  rw [Vals.ref1 r]
  obtain ⟨as, rds⟩ := reads_ints (ns := n :: ns) I rv
  refine PySem.W.max_tuple_data (I.ok.hd hc) hl (x := .int n) (xs := ns.map .int) rds (alike_ints (n :: ns)) (by
    rw [show PyData.depthAll (PyData.int n :: ns.map PyData.int) = 0 from depth_ints (n :: ns)]
    omega) fun i v h' tk bs hi rd hk => ?_
  rw [PySem.W.maxD_ints] at rd
  cases rd
  exact ⟨.int _, H, I.kept hk, ⟨_, rfl⟩, q⟩
theorem foldl_maxN : ∀ (ns : List Int) (n : Int), n ≤ ns.foldl max n ∧ (∀ m ∈ ns, m ≤ ns.foldl max n) ∧ (ns.foldl max n = n ∨ ns.foldl max n ∈ ns)
  | [], n => ⟨Int.le_refl _, (fun _ h => nomatch h), .inl rfl⟩
  | m :: r, n => by
    obtain ⟨h1, h2, h3⟩ := foldl_maxN r (max n m)
    show n ≤ r.foldl max (max n m) ∧ (∀ x ∈ m :: r, x ≤ r.foldl max (max n m)) ∧ (r.foldl max (max n m) = n ∨ r.foldl max (max n m) ∈ m :: r)
    refine ⟨by omega, fun x hx => ?_, ?_⟩
    · rcases List.mem_cons.mp hx with rfl | hx
      · omega
      · exact h2 x hx
    · rcases h3 with h3 | h3
      · rw [h3]
        by_cases c : n ≤ m
        · exact .inr (by rw [show max n m = m by omega]; exact List.mem_cons_self)
        · exact .inl (by omega)
      · exact .inr (List.mem_cons_of_mem _ h3)
theorem fine_wheelN {z : Int} {ms : List Int} {k : Nat} (h1 : 1 ≤ z) (h2 : z < 2 ^ 200) (rs : Rise z ms) (l : ms.length ≤ k) : Fine (Part.wheel z ms).data 2 (k + 9) := by
  have f := fine_ints (n := k) (fun m hm => by have := rs.2 m hm; omega) l
  refine ⟨?_, ?_, ?_⟩
  · rw [Part.data, okN, okAll, okAll, okAll, okAll, f.ok, show okN (.int z) = true from decide_eq_true (by omega), show okN (.str "wheel") = true from by decide +kernel]
    rfl
  · rw [Part.data, PyData.depth, PyData.depthAll, PyData.depthAll, PyData.depthAll, PyData.depthAll]
    have := f.dep
    have e1 : (PyData.str "wheel").depth = 0 := rfl
    have e2 : (PyData.int z).depth = 0 := rfl
    omega
  · rw [Part.data, bulkN, bulkAll, bulkAll, bulkAll, bulkAll]
    have := f.few
    have e1 : bulkN (.str "wheel") = 5 := by decide +kernel
    have e2 : bulkN (.int z) = 0 := by rw [bulkN]
    omega
/-- marks that rise -/
theorem rise_nat {z : Nat} {ns : List Nat} (h : ns.Pairwise (· < ·)) (b : ∀ n ∈ ns, n < z) : Rise (z : Int) (ns.map fun n : Nat => (n : Int)) := by
  refine ⟨?_, fun m hm => ?_⟩
  · rw [List.pairwise_map]
    exact h.imp fun x => by omega
  · obtain ⟨n, hn, rfl⟩ := List.mem_map.mp hm
    have := b n hn
    omega
theorem int200 {k : Nat} (h : k < M40) : (k : Int) < 2 ^ 200 := Int.ofNat_lt.mpr (Nat.lt_trans h m40_lt)
theorem wheelS {z : Nat} {ns : List Nat} (h : ns.Pairwise (· < ·)) (b : ∀ n ∈ ns, n < z) (z0 : 1 ≤ z) (hz : z < M40) (l : ns.length ≤ 30) : PartS (.wheel (z : Int) (ns.map fun n : Nat => (n : Int))) (119 :: (nL z ++ 58 :: jN 44 ns)) :=
  ⟨⟨by omega, int200 hz, rise_nat h b, by rw [List.length_map]; omega⟩, .inl ⟨z, ns, rfl, hz, fun n hn => Nat.lt_trans (b n hn) hz, l, rfl⟩⟩
theorem springS {k : Nat} (k0 : 1 ≤ k) (hk : k < M40) : PartS (.spring (k : Int)) (115 :: nL k) :=
  ⟨⟨by omega, int200 hk⟩, .inr (.inr (.inr ⟨k, rfl, hk, rfl⟩))⟩
theorem clickS : PartS .click [99] := ⟨trivial, .inr (.inl ⟨rfl, rfl⟩)⟩
theorem rockerS : PartS .rocker [114] := ⟨trivial, .inr (.inr (.inl ⟨rfl, rfl⟩))⟩
def M38 : Nat := 10 ^ 38
theorem m3840 : 100 * M38 = M40 := by decide
theorem dpAll_copies {K : PySem.W.Frag} {H : Hp} {v : V} {p : Part} (h : Dp K H v p.data) : ∀ n : Nat, DpAll K H (List.replicate n v) ((List.replicate n p).map Part.data)
  | 0 => .nil
  | n + 1 => .cons h (dpAll_copies h n)
theorem trainT_copies {p : Part} {t : List Nat} (h : PartS p t) : ∀ n : Nat, TrainT (List.replicate n p) (List.replicate n t)
  | 0 => .nil
  | n + 1 => .cons h (trainT_copies h n)
theorem fineA_copies {p : Part} {m : Nat} (h : Fine p.data 2 m) : ∀ n : Nat, FineA ((List.replicate n p).map Part.data) 2 (n * (m + 1))
  | 0 => .nil
  | n + 1 => by
    have f := FineA.app (FineA.one h) (fineA_copies h n)
    exact f.mono (Nat.le_refl _) (by rw [Nat.succ_mul]; omega)
/-- a train and a stand beside it, both as texts too -/
structure PairT (K : PySem.W.Frag) (H : Hp) (t a p : Addr) (ps : List Part) (ts : List (List Nat)) (ns : List Nat) : Prop where
  ht : H t = some (.tup [.ref a, .ref p])
  ha : ∃ ws, H a = some (.lst ws) ∧ DpAll K H ws (ps.map Part.data)
  hp : H p = some (.tup (ns.map fun n : Nat => V.int (n : Int)))
  tr : TrainT ps ts
  ne : ps ≠ []
  pl : ps.length ≤ 8
  fine : FineA (ps.map Part.data) 2 165
  nn : ns ≠ []
  hn : ∀ n ∈ ns, n < M40
  nl : ns.length ≤ 30
section
variable {K : PySem.W.Frag} {H H' : Hp} {t a p : Addr} {ps : List Part} {ts : List (List Nat)} {ns : List Nat}
theorem PairT.same (h : PairT K H t a p ps ts ns) (s : Same H H') : PairT K H' t a p ps ts ns := by
  obtain ⟨h1, ⟨ws, h2, h3⟩, h4, b, c, d, e, f, g, i⟩ := h
  exact ⟨s _ _ h1, ⟨ws, s _ _ h2, dpAll_same s h3⟩, s _ _ h4, b, c, d, e, f, g, i⟩
theorem PairT.dr {D : Addr} {c c' : Nat} (h : PairT K H t a p ps ts ns) (s : Dr D c' H H') (hD : H D = some (DrO D c)) : PairT K H' t a p ps ts ns := by
  obtain ⟨h1, ⟨ws, h2, h3⟩, h4, b, c, d, e, f, g, i⟩ := h
  exact ⟨s.at hD h1, ⟨ws, s.at hD h2, s.all hD h3⟩, s.at hD h4, b, c, d, e, f, g, i⟩
/-- another list is written -/
theorem PairT.put {l : Addr} {xs ys : List V} (h : PairT K H t a p ps ts ns) (hl : H l = some (.lst xs)) (n : a ≠ l) : PairT K (upd H l (.lst ys)) t a p ps ts ns := by
  obtain ⟨h1, ⟨ws, h2, h3⟩, h4, b, c, d, e, f, g, i⟩ := h
  have no : ∀ {z : Addr} {zs : List V}, H z = some (.tup zs) → z ≠ l := fun hz y => by
    rw [y, hl] at hz
    cases hz
  exact ⟨by rw [upd_ne (no h1)]; exact h1, ⟨ws, by rw [upd_ne n]; exact h2, dpAll_updT hl (trainT_tdT b) h3⟩, by rw [upd_ne (no h4)]; exact h4, b, c, d, e, f, g, i⟩
theorem PairT.fin (h : PairT K H t a p ps ts ns) : Fine (.list (ps.map Part.data)) 30 600 := h.fine.lst.mono (by decide) (by decide)
end
end Ct

/-! all, any over the signs of a text -/
namespace Ct
open PySem PySem.Spec PyProof.Rows L2
theorem gb_str {P : Addr} {st : Bool} (l : List Nat) {g : TG} {te : TE} {vs : List Nat} {σ : L2.St} {H : Hp} {Q : VK} (Pv : Nat → Hp → Prop) (hT : H P = some (TabX P)) (h0 : Pv 0 H)
    (hs : ∀ i c H1, l[i]? = some c → Pv i H1 → g (.str (tx [c])) (wipe σ vs) H1 fun σ3 H3 => wipe σ3 vs = wipe σ vs ∧ te σ3 H3 fun y H4 => ∃ b, y = .bl b ∧ if b = st then Q (.bl st) H4 else Pv (i + 1) H4) (hd : ∀ H1, Pv l.length H1 → Q (.bl (!st)) H1) : GB P st (Its (tx l)) g te vs σ H Q := by
  have n : (tx l).cps.size = l.length := tx_len l
  refine gb_it (walk_str (z := tx l)) Pv hT h0 (fun _ _ _ _ => trivial) (fun i x H1 H2 hi p y => ?_) (fun H1 p => hd H1 (by rw [← n]; exact p))
  obtain ⟨rfl, c, hc, rfl⟩ := y
  exact hs i c _ (by rw [← List.getElem?_toArray]; exact hc) p
end Ct

/-! such lists where draws are kept -/
namespace Ct
open PySem PySem.Spec PyProof.Rows L2
theorem Dr.over {H H' H2 : Hp} {D : Addr} {c : Nat} (g : Dr D c H' H2) (s : Same H H') (n : H D = none) : Same H H2 := fun b o e => g.1 b o (fun z => by rw [z, n] at e; cases e) (s b o e)
theorem LsT.dr {K : PySem.W.Frag} {H H' : Hp} {i c c' : Nat} {a D : Addr} {d : List PyData} {t : List (List Nat)} (h : LsT K H i a d t) (g : Dr D c' H H') (hD : H D = some (DrO D c)) : LsT K H' i a d t := by
  obtain ⟨xs, h1, h2, h3, h4⟩ := h
  exact ⟨xs, g.at hD h1, g.all hD h2, h3, h4⟩
theorem FourT.dr {K : PySem.W.Frag} {H H' : Hp} {q S D : Addr} {c c' : Nat} {d : Nat → List PyData} {t : Nat → List (List Nat)} (h : FourT K H q S d t) (g : Dr D c' H H') (hD : H D = some (DrO D c)) : FourT K H' q S d t := by
  obtain ⟨n, as, h1, h2⟩ := h
  exact ⟨n, as, g.at hD h1, fun i hi => ⟨(h2 i hi).1, (h2 i hi).2.dr g hD⟩⟩
end Ct

local macro_rules | `(tactic| walk_at "ct") => `(tactic| repeat (first
  | with_reducible refine Ct.w_seq ?_ | with_reducible refine Ct.w_gen ?_ | with_reducible refine Ct.w_asg ?_ | with_reducible refine Ct.w_ret ?_ | with_reducible refine Ct.w_ifS ?_ | with_reducible refine Ct.w_drop ?_ | with_reducible refine Ct.w_next ?_
  | with_reducible refine Ct.w_op ?_ | with_reducible refine Ct.w_c ?_ | with_reducible refine Ct.w_chain ?_ | with_reducible refine Ct.w_un ?_ | with_reducible refine Ct.w_test ?_ | with_reducible refine Ct.w_B ?_ | with_reducible refine Ct.w_and ?_ | with_reducible refine Ct.w_or ?_ | with_reducible refine Ct.w_not ?_ | with_reducible refine Ct.w_if ?_
  | with_reducible refine Ct.w_andV ?_ | with_reducible refine Ct.w_orV ?_ | with_reducible refine Ct.w_notV ?_
  | with_reducible refine Ct.w_nil ?_ | with_reducible refine Ct.w_cons ?_ | with_reducible refine Ct.w_cb ?_ | with_reducible refine Ct.w_call ?_ | with_reducible refine Ct.w_tup ?_ | with_reducible refine Ct.w_lst ?_ | with_reducible refine Ct.w_bm ?_
  | with_reducible refine Ct.w_knotin ?_ | with_reducible refine Ct.w_kget ?_ | with_reducible refine Ct.w_callE ?_ | with_reducible refine Ct.w_fmt ?_ | with_reducible refine Ct.w_js ?_ | with_reducible refine Ct.w_jnil ?_ | with_reducible refine Ct.w_jcons ?_ | with_reducible refine Ct.w_tm0 ?_ | with_reducible refine Ct.w_tm1 ?_ | with_reducible refine Ct.w_istr ?_ | with_reducible refine Ct.w_lock ?_
  | with_reducible refine Ct.w_for ?_ | with_reducible refine Ct.w_rng1 ?_ | with_reducible refine Ct.w_rng2 ?_ | with_reducible refine Ct.w_ilist ?_ | with_reducible refine Ct.w_itup ?_ | with_reducible refine Ct.w_im ?_ | with_reducible refine Ct.w_enum ?_ | with_reducible refine Ct.w_irev ?_ | with_reducible refine Ct.w_dcT ?_ | with_reducible refine Ct.w_bm0 ?_ | with_reducible refine Ct.w_dnewT ?_ | with_reducible refine Ct.w_dnotin ?_ | with_reducible refine Ct.w_dget ?_ | with_reducible refine Ct.w_dput ?_ | with_reducible refine Ct.w_lc ?_ | with_reducible refine Ct.w_lc2 ?_ | with_reducible refine Ct.w_star ?_ | with_reducible refine Ct.w_revL ?_ | with_reducible refine Ct.w_yes ?_
  | with_reducible refine Ct.w_gcons ?_ | with_reducible refine Ct.w_gnil ?_ | with_reducible refine Ct.w_gsub ?_ | with_reducible refine Ct.w_sl ?_ | with_reducible refine Ct.w_nopart ?_ | with_reducible refine Ct.w_part ?_
  | with_reducible refine Ct.w_rI0 ?_ | with_reducible refine Ct.w_rU ?_ | with_reducible refine Ct.w_rEqI ?_ | with_reducible refine Ct.w_rNeI ?_ | with_reducible refine Ct.w_ipI ?_ | with_reducible refine Ct.w_bl ?_ | with_reducible refine Ct.w_in ?_ | with_reducible refine Ct.w_break ?_ | with_reducible refine Ct.w_cont ?_ | with_reducible refine Ct.w_nT ?_ | with_reducible refine Ct.w_nF ?_ | with_reducible refine L2.iteT ?_ | with_reducible refine L2.iteF ?_
  | ((with_reducible refine Ct.w_rEqS (b := true) ?ceq ?_); (case ceq => decide +kernel)) | ((with_reducible refine Ct.w_rEqS (b := false) ?ceq ?_); (case ceq => decide +kernel))
  | with_reducible refine Ct.w_var rfl ?_
  | ((with_reducible refine' Ct.w_ixT ?cas ?cix ?_); (case cas => assumption); (case cix => first | exact Ct.at0 | exact Ct.at1 | exact Ct.at2 | exact rfl))
  | ((with_reducible refine' Ct.w_name ?cnm ?_); (case cnm => simp only [L2.wipe, List.map, List.set_cons_zero, List.set_cons_succ]; exact rfl)) ))
local macro_rules | `(tactic| walk_at "cq") => `(tactic| repeat (first
  | with_reducible refine Ct.w_gen ?_ | with_reducible refine Ct.w_asg ?_ | with_reducible refine Ct.w_ret ?_ | with_reducible refine Ct.w_ifS ?_ | with_reducible refine Ct.w_drop ?_ | with_reducible refine Ct.w_next ?_
  | with_reducible refine Ct.w_op ?_ | with_reducible refine Ct.w_c ?_ | with_reducible refine Ct.w_chain ?_ | with_reducible refine Ct.w_un ?_ | with_reducible refine Ct.w_test ?_ | with_reducible refine Ct.w_B ?_ | with_reducible refine Ct.w_and ?_ | with_reducible refine Ct.w_or ?_ | with_reducible refine Ct.w_not ?_ | with_reducible refine Ct.w_if ?_
  | with_reducible refine Ct.w_andV ?_ | with_reducible refine Ct.w_orV ?_ | with_reducible refine Ct.w_notV ?_
  | with_reducible refine Ct.w_nil ?_ | with_reducible refine Ct.w_cons ?_ | with_reducible refine Ct.w_cb ?_ | with_reducible refine Ct.w_call ?_ | with_reducible refine Ct.w_tup ?_ | with_reducible refine Ct.w_lst ?_ | with_reducible refine Ct.w_bm ?_
  | with_reducible refine Ct.w_knotin ?_ | with_reducible refine Ct.w_kget ?_ | with_reducible refine Ct.w_callE ?_ | with_reducible refine Ct.w_fmt ?_ | with_reducible refine Ct.w_js ?_ | with_reducible refine Ct.w_jnil ?_ | with_reducible refine Ct.w_jcons ?_ | with_reducible refine Ct.w_tm0 ?_ | with_reducible refine Ct.w_tm1 ?_ | with_reducible refine Ct.w_istr ?_ | with_reducible refine Ct.w_lock ?_
  | with_reducible refine Ct.w_for ?_ | with_reducible refine Ct.w_rng1 ?_ | with_reducible refine Ct.w_rng2 ?_ | with_reducible refine Ct.w_ilist ?_ | with_reducible refine Ct.w_itup ?_ | with_reducible refine Ct.w_im ?_ | with_reducible refine Ct.w_enum ?_ | with_reducible refine Ct.w_irev ?_ | with_reducible refine Ct.w_dcT ?_ | with_reducible refine Ct.w_bm0 ?_ | with_reducible refine Ct.w_dnewT ?_ | with_reducible refine Ct.w_dnotin ?_ | with_reducible refine Ct.w_dget ?_ | with_reducible refine Ct.w_dput ?_ | with_reducible refine Ct.w_lc ?_ | with_reducible refine Ct.w_lc2 ?_ | with_reducible refine Ct.w_star ?_ | with_reducible refine Ct.w_revL ?_ | with_reducible refine Ct.w_yes ?_
  | with_reducible refine Ct.w_gcons ?_ | with_reducible refine Ct.w_gnil ?_ | with_reducible refine Ct.w_gsub ?_ | with_reducible refine Ct.w_sl ?_ | with_reducible refine Ct.w_nopart ?_ | with_reducible refine Ct.w_part ?_
  | with_reducible refine Ct.w_rI0 ?_ | with_reducible refine Ct.w_rU ?_ | with_reducible refine Ct.w_rEqI ?_ | with_reducible refine Ct.w_rNeI ?_ | with_reducible refine Ct.w_ipI ?_ | with_reducible refine Ct.w_bl ?_ | with_reducible refine Ct.w_in ?_ | with_reducible refine Ct.w_break ?_ | with_reducible refine Ct.w_cont ?_ | with_reducible refine Ct.w_nT ?_ | with_reducible refine Ct.w_nF ?_ | with_reducible refine L2.iteT ?_ | with_reducible refine L2.iteF ?_
  | ((with_reducible refine Ct.w_rEqS (b := true) ?ceq ?_); (case ceq => decide +kernel)) | ((with_reducible refine Ct.w_rEqS (b := false) ?ceq ?_); (case ceq => decide +kernel))
  | with_reducible refine Ct.w_var rfl ?_
  | ((with_reducible refine' Ct.w_ixT ?cas ?cix ?_); (case cas => assumption); (case cix => first | exact Ct.at0 | exact Ct.at1 | exact Ct.at2 | exact rfl))
  | ((with_reducible refine' Ct.w_name ?cnm ?_); (case cnm => simp only [L2.wipe, List.map, List.set_cons_zero, List.set_cons_succ]; exact rfl)) ))

local macro_rules | `(tactic| walk_at "gv") => `(tactic| repeat (first
  | with_reducible exact Ct.gv_nil | with_reducible refine Ct.gv_cons ?_ ?_ | with_reducible exact Ct.gv_int | with_reducible exact Ct.gv_str | with_reducible exact Ct.gv_bl | with_reducible exact Ct.gv_non
  | with_reducible refine Ct.GvT.gv (Ct.gvT_tup ?_) | with_reducible refine Ct.GvL.gv (Ct.gvL_lst ?_) | with_reducible refine Ct.gvL_lst ?_ | with_reducible refine Ct.gvT_tup ?_ | exact Ct.gv_rI0 rfl | exact Ct.gv_var rfl (.int _) | exact Ct.gv_rI0V rfl rfl | exact Ct.gv_pow ⟨by decide, by decide⟩ rfl))

local macro_rules | `(tactic| walk_at "sf") => `(tactic| (first
  | assumption
  | ((refine L2.Same.trans (by assumption) ?_); (walk_at "sf"))))
local macro_rules | `(tactic| walk_at "sb") => `(tactic| (first
  | assumption
  | ((refine L2.Same.trans ?_ (by assumption)); (walk_at "sb"))))
local macro_rules | `(tactic| walk_at "sm") => `(tactic| (first
  | assumption
  | exact L2.Same.refl _
  | (walk_at "sf")
  | (walk_at "sb")))
local macro_rules | `(tactic| walk_at "mv") => `(tactic| (first
  | assumption
  | ((with_reducible refine Ct.mv_get ?_ (by assumption)); (walk_at "sm"))
  | (with_reducible refine L2.SqL.of (by assumption))
  | (with_reducible refine L2.SqT.of (by assumption))
  | ((with_reducible refine Ct.mv_lst ?_ (by assumption)); (walk_at "sm"))
  | ((with_reducible refine Ct.mv_tup ?_ (by assumption)); (walk_at "sm"))
  | ((with_reducible refine Ct.mv_sql ?_ (by assumption)); (walk_at "sm"))
  | ((with_reducible refine Ct.mv_sqt ?_ (by assumption)); (walk_at "sm"))
  | ((with_reducible refine Ct.mv_dp ?_ (by assumption)); (walk_at "sm"))
  | ((with_reducible refine Ct.mv_dpa ?_ (by assumption)); (walk_at "sm"))
  | ((with_reducible refine Ct.mv_train ?_ (by assumption)); (walk_at "sm"))
  | ((with_reducible refine Ct.mv_free ?_ (by assumption)); (walk_at "sm"))
  | ((with_reducible refine Ct.TrS.same (by assumption) ?_); (walk_at "sm"))
  | (refine L2.SqL.of (by assumption))
  | (refine L2.SqT.of (by assumption))
  | ((refine Ct.mv_lst ?_ (by assumption)); (walk_at "sm"))
  | ((refine Ct.mv_tup ?_ (by assumption)); (walk_at "sm"))
  | ((refine Ct.mv_sql ?_ (by assumption)); (walk_at "sm"))
  | ((refine Ct.mv_sqt ?_ (by assumption)); (walk_at "sm"))
  | (walk_at "sm")))

namespace My
open PySem PySem.Spec PyProof.Rows L2 Ct
def topS (i : Nat) : Stmt := PySem.Challenge.pw_clicktrain_k71_trains_and_stands_as_text.main.body.getD i (.Pass ⟨0, 0, 0, 0⟩)
section
variable {P : Program} {w : World} {K : PySem.W.Frag} {mg : Str → Option Value} {base : Heap}
abbrev S_is_whole : Stmt := topS 9
theorem sc_is_whole : FnScope ["thing"] ["thing"] (defScope S_is_whole) := ⟨rfl, rfl, rfl, by decide +kernel, rfl, by decide +kernel, by decide +kernel⟩
def sp_is_whole (K : PySem.W.Frag) : Sp := fun vs H Q _ => ∃ (v : V) (d : PyData), vs = [v] ∧ Dp K H v d ∧ Q (.bl (isW d)) H
theorem ok_is_whole {f : Addr} {fd : FuncData} (F : Fun K "is_whole" "is_whole" S_is_whole f fd) (m_isinstance : mg "isinstance" = none) (m_int : mg "int" = none) (m_bool : mg "bool" = none) :
    FnOk P w K mg base CX0 1 f fd ["thing"] (sp_is_whole K) := by
  refine F.ok sc_is_whole (fun vs H Q E h => ?_) (fun cdv A outer s H vs Q E hr h => ?_)
  ·
    obtain ⟨v, d, rfl, _⟩ := h
    rfl
  ·
    obtain ⟨v, d, rfl, hd, q⟩ := h
    refine ⟨_, (pss_one (ps_ret (pe_and (pe_callB (r := rIsi K) call_isi (by rfl) m_isinstance (by decide +kernel) (pa_cons (pv 0) (pa_cons (pe_bltn (v := .ty "int") (u := .type "int") (by rfl) m_int (by decide +kernel) rfl) pa_nil))) (pe_one (pe_not (pe_callB (r := rIsi K) call_isi (by rfl) m_isinstance (by decide +kernel) (pa_cons (pv 0) (pa_cons (pe_bltn (v := .ty "bool") (u := .type "bool") (by rfl) m_bool (by decide +kernel) rfl) pa_nil)))))))), ?_⟩
    refine w_st (σ' := [some v]) rfl ?_
    walk_at "ct"
    cases hd with
    | non =>
      refine w_isi (b := false) (.base .non) (kit_ty (by decide +kernel)) ?_
      walk_at "ct"
      exact q
    | bl b =>
      refine w_isi (b := true) (.base (.bl b)) (kit_ty (by decide +kernel)) ?_
      walk_at "ct"
      refine w_isi (b := true) (.base (.bl b)) (kit_ty (by decide +kernel)) ?_
      walk_at "ct"
      exact q
    | int i =>
      refine w_isi (b := true) (.base (.int i)) (kit_ty (by decide +kernel)) ?_
      walk_at "ct"
      refine w_isi (b := false) (.base (.int i)) (kit_ty (by decide +kernel)) ?_
      walk_at "ct"
      exact q
    | str x =>
      refine w_isi (b := false) (.base (.str x)) (kit_ty (by decide +kernel)) ?_
      walk_at "ct"
      exact q
    | lst hs ht =>
      refine w_isi (b := false) (tyx_L hs) (kit_ty (by decide +kernel)) ?_
      walk_at "ct"
      exact q
    | tup hs ht =>
      refine w_isi (b := false) (tyx_T hs) (kit_ty (by decide +kernel)) ?_
      walk_at "ct"
      exact q
abbrev S_are_marks : Stmt := topS 10
theorem sc_are_marks : FnScope ["thing", "teeth", "last", "mark"] ["thing", "teeth"] (defScope S_are_marks) := ⟨rfl, rfl, rfl, by decide +kernel, rfl, by decide +kernel, by decide +kernel⟩
def sp_are_marks (K : PySem.W.Frag) : Sp := fun vs H Q _ => ∃ (v : V) (d : PyData) (z : Int), vs = [v, .int z] ∧ Dp K H v d ∧ Q (.bl (areM d z)) H
theorem ok_are_marks {f : Addr} {fd : FuncData} {f_is_whole : Addr} {fd_is_whole : FuncData} (F : Fun K "are_marks" "are_marks" S_are_marks f fd)
    (F_is_whole : Fun K "is_whole" "is_whole" S_is_whole f_is_whole fd_is_whole) (b_is_whole : Binds K fd_is_whole ["thing"] []) (g_is_whole : mg "is_whole" = some (.ref f_is_whole)) (G_is_whole : FnOk P w K mg base CX0 1 f_is_whole fd_is_whole ["thing"] (sp_is_whole K)) (m_isinstance : mg "isinstance" = none) (m_tuple : mg "tuple" = none) :
    FnOk P w K mg base CX0 2 f fd ["thing", "teeth"] (sp_are_marks K) := by
  refine F.ok sc_are_marks (fun vs H Q E h => ?_) (fun cdv A outer s H vs Q E hr h => ?_)
  ·
    obtain ⟨v, d, z, rfl, _⟩ := h
    rfl
  ·
    obtain ⟨v, d, z, rfl, hd, q⟩ := h
    refine ⟨_, (pss_cons (ps_if (pt_not (pt_val (pe_callB (r := rIsi K) call_isi (by rfl) m_isinstance (by decide +kernel) (pa_cons (pv 0) (pa_cons (pe_bltn (v := .ty "tuple") (u := .type "tuple") (by rfl) m_tuple (by decide +kernel) rfl) pa_nil))))) (pss_one (ps_ret pe_bl)) pss_nil)
      (pss_cons (ps_set (i := 2) sc_are_marks.nd rfl (.inl rfl) (pe_un un_neg pe_int))
      (pss_cons (ps_for PassesOwn.never rfl (pi_tup (pv 0)) (pg_name (i := 3) sc_are_marks.nd rfl (.inl rfl))
      (pss_cons (ps_if (PW.pt (pw_or (pt_not (pt_val (pe_call G_is_whole (hr.mono (by decide)) (by rfl) g_is_whole F_is_whole.kp b_is_whole .nil pass0 (pa_cons (pv 3) pa_nil)))) (pw_or (pt_cmpR op_le (pv 3) (pv 2) (nomark _)) (pw_or1 (pt_cmpR op_ge (pv 3) (pv 1) (nomark _)))))) (pss_one (ps_ret pe_bl)) pss_nil)
      (pss_one (ps_set (i := 2) sc_are_marks.nd rfl (.inl rfl) (pv 3)))))
      (pss_one (ps_ret pe_bl))))), ?_⟩
    refine w_st (σ' := [some v, some (.int z), none, none]) rfl ?_
    walk_at "ct"
    cases hd with
    | non =>
      refine w_isi (b := false) (.base .non) (kit_ty (by decide +kernel)) ?_
      walk_at "ct"
      exact q
    | bl b =>
      refine w_isi (b := false) (.base (.bl b)) (kit_ty (by decide +kernel)) ?_
      walk_at "ct"
      exact q
    | int i =>
      refine w_isi (b := false) (.base (.int i)) (kit_ty (by decide +kernel)) ?_
      walk_at "ct"
      exact q
    | str x =>
      refine w_isi (b := false) (.base (.str x)) (kit_ty (by decide +kernel)) ?_
      walk_at "ct"
      exact q
    | lst hs ht =>
      refine w_isi (b := false) (tyx_L hs) (kit_ty (by decide +kernel)) ?_
      walk_at "ct"
      exact q
    | @tup a xs ds hs ht =>
      refine w_isi (b := true) (tyx_T hs) (kit_ty (by decide +kernel)) ?_
      walk_at "ct"
      refine w_IT hs ?_
      have hxl := dpAll_len ht
      refine fb_tup xs (fun n σ H' => ∃ (last : Int) (y : Option V), σ = [some (.ref a), some (.int z), some (.int last), y] ∧ H' = H ∧ risesD (-1) z ds = risesD last z (ds.drop n)) ⟨-1, none, rfl, rfl, rfl⟩ ?_ ?_ ?_
      · rintro n σ H' hn ⟨last, y, rfl, rfl, _⟩
        exact hs
      · rintro n x σ H' hx ⟨last, y, rfl, rfl, hr⟩
        have hn : n < xs.length := (List.getElem?_eq_some_iff.mp hx).1
        obtain ⟨e, he⟩ : ∃ e, ds[n]? = some e := ⟨_, List.getElem?_eq_getElem (by omega)⟩
        obtain ⟨x', hx', hde⟩ := dpAll_get ht he
        cases Option.some.inj (hx.symm.trans hx')
        have hdr : ds.drop n = e :: ds.drop (n + 1) := by
          rw [List.drop_eq_getElem_cons (by omega)]
          congr 1
          rw [List.getElem?_eq_getElem (by omega)] at he
          exact Option.some.inj he
        rw [hdr] at hr
        have hq : risesD last z (e :: ds.drop (n + 1)) = false → Q (.bl false) H' := fun z => by
          rw [z] at hr
          rw [show areM (.tuple ds) _ = risesD (-1) _ ds from rfl, hr] at q
          exact q
        walk_at "ct"
        refine ⟨x, e, rfl, hde, ?_⟩
        cases hde with
        | int m =>
          refine w_bl (w_nT ?_)
          walk_at "ct"
          refine w_ite (fun e1 => ?_) (fun e1 => ?_)
          · walk_at "ct"
            exact hq (if_pos (.inl e1))
          · walk_at "ct"
            refine w_ite (fun e2 => ?_) (fun e2 => ?_)
            · walk_at "ct"
              exact hq (if_pos (.inr e2))
            · walk_at "ct"
              exact ⟨m, _, rfl, rfl, hr.trans (if_neg (by omega))⟩
        | non =>
          refine w_bl (w_nF ?_)
          walk_at "ct"
          exact hq rfl
        | bl b =>
          refine w_bl (w_nF ?_)
          walk_at "ct"
          exact hq rfl
        | str s =>
          refine w_bl (w_nF ?_)
          walk_at "ct"
          exact hq rfl
        | lst h1 h2 =>
          refine w_bl (w_nF ?_)
          walk_at "ct"
          exact hq rfl
        | tup h1 h2 =>
          refine w_bl (w_nF ?_)
          walk_at "ct"
          exact hq rfl
      · rintro σ H' ⟨last, y, rfl, rfl, hr⟩
        walk_at "ct"
        rw [show areM (.tuple ds) z = risesD (-1) z ds from rfl, hr, List.drop_of_length_le (by omega)] at q
        exact q
abbrev S_is_part : Stmt := topS 11
theorem sc_is_part : FnScope ["thing"] ["thing"] (defScope S_is_part) := ⟨rfl, rfl, rfl, by decide +kernel, rfl, by decide +kernel, by decide +kernel⟩
def sp_is_part (K : PySem.W.Frag) : Sp := fun vs H Q _ => ∃ (v : V) (d : PyData) (n : Nat), vs = [v] ∧ Dp K H v d ∧ d.canLay0 = true ∧ d.depth ≤ n ∧ n ≤ 60 ∧ ∀ H', Same H H' → Q (.bl (isP d)) H'
theorem ok_is_part {f : Addr} {fd : FuncData} {f_is_whole : Addr} {fd_is_whole : FuncData} {f_are_marks : Addr} {fd_are_marks : FuncData} (F : Fun K "is_part" "is_part" S_is_part f fd)
    (F_is_whole : Fun K "is_whole" "is_whole" S_is_whole f_is_whole fd_is_whole) (b_is_whole : Binds K fd_is_whole ["thing"] []) (g_is_whole : mg "is_whole" = some (.ref f_is_whole)) (G_is_whole : FnOk P w K mg base CX0 1 f_is_whole fd_is_whole ["thing"] (sp_is_whole K))
    (F_are_marks : Fun K "are_marks" "are_marks" S_are_marks f_are_marks fd_are_marks) (b_are_marks : Binds K fd_are_marks ["thing", "teeth"] []) (g_are_marks : mg "are_marks" = some (.ref f_are_marks)) (G_are_marks : FnOk P w K mg base CX0 2 f_are_marks fd_are_marks ["thing", "teeth"] (sp_are_marks K)) (m_isinstance : mg "isinstance" = none) (m_tuple : mg "tuple" = none) (m_len : mg "len" = none) :
    FnOk P w K mg base CX0 3 f fd ["thing"] (sp_is_part K) := by
  refine F.ok sc_is_part (fun vs H Q E h => ?_) (fun cdv A outer s H vs Q E hr h => ?_)
  ·
    obtain ⟨v, d, n, rfl, _⟩ := h
    rfl
  ·
    obtain ⟨v, d, n, rfl, hd, lay, dep, n60, q⟩ := h
    refine ⟨_, (pss_cons (ps_if (PW.pt (pw_or (pt_not (pt_val (pe_callB (r := rIsi K) call_isi (by rfl) m_isinstance (by decide +kernel) (pa_cons (pv 0) (pa_cons (pe_bltn (v := .ty "tuple") (u := .type "tuple") (by rfl) m_tuple (by decide +kernel) rfl) pa_nil))))) (pw_or1 (pt_cmpR op_eq (pe_callB call_len_seq (by rfl) m_len (by decide +kernel) (pa_cons (pv 0) pa_nil)) pe_int (nomark _))))) (pss_one (ps_ret pe_bl)) pss_nil)
      (pss_cons (ps_if (pt_cmpR (r := rEqD K) (op_eqD hr.units) (pe_ix (r := rIxT K) ix_tup (pv 0) pe_int (fun _ _ => rfl)) pe_str (nomark _)) (pss_one (ps_ret (pe_and (pe_cmpR op_eq (pe_callB call_len_seq (by rfl) m_len (by decide +kernel) (pa_cons (pv 0) pa_nil)) pe_int (nomark _)) (pe_and (pe_call G_is_whole (hr.mono (by decide)) (by rfl) g_is_whole F_is_whole.kp b_is_whole .nil pass0 (pa_cons (pe_ix (r := rIxT K) ix_tup (pv 0) pe_int (fun _ _ => rfl)) pa_nil)) (pe_and (pe_cmpR op_ge (pe_ix (r := rIxT K) ix_tup (pv 0) pe_int (fun _ _ => rfl)) pe_int (nomark _)) (pe_one (pe_call G_are_marks (hr.mono (by decide)) (by rfl) g_are_marks F_are_marks.kp b_are_marks .nil pass0 (pa_cons (pe_ix (r := rIxT K) ix_tup (pv 0) pe_int (fun _ _ => rfl)) (pa_cons (pe_ix (r := rIxT K) ix_tup (pv 0) pe_int (fun _ _ => rfl)) pa_nil))))))))) pss_nil)
      (pss_cons (ps_if (pt_cmpR (r := rEqD K) (op_eqD hr.units) (pe_ix (r := rIxT K) ix_tup (pv 0) pe_int (fun _ _ => rfl)) pe_str (nomark _)) (pss_one (ps_ret (pe_and (pe_cmpR op_eq (pe_callB call_len_seq (by rfl) m_len (by decide +kernel) (pa_cons (pv 0) pa_nil)) pe_int (nomark _)) (pe_and (pe_call G_is_whole (hr.mono (by decide)) (by rfl) g_is_whole F_is_whole.kp b_is_whole .nil pass0 (pa_cons (pe_ix (r := rIxT K) ix_tup (pv 0) pe_int (fun _ _ => rfl)) pa_nil)) (pe_one (pe_cmpR op_ge (pe_ix (r := rIxT K) ix_tup (pv 0) pe_int (fun _ _ => rfl)) pe_int (nomark _))))))) pss_nil)
      (pss_one (ps_ret (pe_or (pe_cmpR (r := rEqD K) (op_eqD hr.units) (pv 0) (pe_tup (pa_cons pe_str pa_nil)) (nomark _)) (pe_one (pe_cmpR (r := rEqD K) (op_eqD hr.units) (pv 0) (pe_tup (pa_cons pe_str pa_nil)) (nomark _))))))))), ?_⟩
    refine w_st (σ' := [some v]) rfl ?_
    walk_at "ct"
    cases hd with
    | non =>
      refine w_isi (b := false) (.base .non) (kit_ty (by decide +kernel)) ?_
      walk_at "ct"
      exact q H (Same.refl H)
    | bl b =>
      refine w_isi (b := false) (.base (.bl b)) (kit_ty (by decide +kernel)) ?_
      walk_at "ct"
      exact q H (Same.refl H)
    | int i =>
      refine w_isi (b := false) (.base (.int i)) (kit_ty (by decide +kernel)) ?_
      walk_at "ct"
      exact q H (Same.refl H)
    | str x =>
      refine w_isi (b := false) (.base (.str x)) (kit_ty (by decide +kernel)) ?_
      walk_at "ct"
      exact q H (Same.refl H)
    | lst hs ht =>
      refine w_isi (b := false) (tyx_L hs) (kit_ty (by decide +kernel)) ?_
      walk_at "ct"
      exact q H (Same.refl H)
    | @tup a xs ds hs ht =>
      refine w_isi (b := true) (tyx_T hs) (kit_ty (by decide +kernel)) ?_
      walk_at "ct"
      refine ⟨a, xs, rfl, .inr hs, ?_⟩
      walk_at "ct"
      cases ht with
      | nil =>
        refine w_ite (fun e => ?_) (fun e => absurd rfl e)
        walk_at "ct"
        exact q H (Same.refl H)
      | @cons v0 vs0 d0 ds0 h0 t0 =>
        have hw : SeqAt.shaped (.str "wheel") = true := by decide +kernel
        have hsp : SeqAt.shaped (.str "spring") = true := by decide +kernel
        rw [PyData.canLay0, PyData.canLayAll0, Bool.and_eq_true] at lay
        rw [PyData.depth, PyData.depthAll] at dep
        have sh0 : SeqAt.shaped d0 = true := shaped_of (n := n) ⟨lay.1, by omega⟩ (by omega)
        have hwhole : ∀ H', Same H H' → Dp K H' (.ref a) (.tuple (d0 :: ds0)) := fun H' s => .tup (Same.tup s hs) (.cons (dp_same s h0) (dpAll_same s t0))
        have shw : SeqAt.shaped (.tuple (d0 :: ds0)) = true := shaped_of (n := n) ⟨by rw [PyData.canLay0, PyData.canLayAll0, lay.1, lay.2]; rfl, by rw [PyData.depth, PyData.depthAll]; omega⟩ (by omega)
        refine w_ite (fun e => absurd e (by rw [List.length_cons]; omega)) (fun e => ?_)
        walk_at "ct"
        refine ⟨d0, .str "wheel", h0, .str _, sh0, hw, ?_⟩
        walk_at "ct"
        by_cases e1 : PyData.eqv d0 (.str "wheel") = true
        · rw [if_pos e1]
          have hq : ∀ b : Bool, b = isP (.tuple (d0 :: ds0)) → Q (.bl b) H := fun b hb => by
            rw [hb]
            exact q H (Same.refl H)
          have hP : isP (.tuple (d0 :: ds0)) = wheelT ds0 := by
            simp only [isP, if_pos e1]
          walk_at "ct"
          refine ⟨a, _, rfl, .inr hs, ?_⟩
          walk_at "ct"
          have l0 := dpAll_len t0
          cases t0 with
          | nil =>
            refine w_ite (fun e => absurd e (by show ¬ ((1 : Nat) : Int) = 3; decide)) (fun e => ?_)
            exact hq _ hP.symm
          | @cons v1 vs1 d1 ds1 h1 t1 =>
            cases t1 with
            | nil =>
              refine w_ite (fun e => absurd e (by show ¬ ((2 : Nat) : Int) = 3; decide)) (fun e => ?_)
              exact hq _ (by rw [hP]; cases d1 <;> rfl)
            | @cons v2 vs2 d2 ds2 h2 t2 =>
              cases t2 with
              | nil =>
                refine w_ite (fun e => ?_) (fun e => absurd rfl e)
                walk_at "ct"
                refine ⟨v1, d1, rfl, h1, ?_⟩
                cases h1 with
                | int z =>
                  refine w_bl ?_
                  refine iteT ?_
                  walk_at "ct"
                  refine w_ite (fun e => ?_) (fun e => ?_)
                  · walk_at "ct"
                    refine ⟨v2, d2, z, rfl, h2, ?_⟩
                    exact hq _ (by rw [hP]; show _ = (decide (1 ≤ z) && areM d2 z); rw [decide_eq_true e]; rfl)
                  · exact hq _ (by rw [hP]; show _ = (decide (1 ≤ z) && areM d2 z); rw [decide_eq_false e]; rfl)
                | non => exact w_bl (iteF (hq _ hP.symm))
                | bl b => exact w_bl (iteF (hq _ hP.symm))
                | str s => exact w_bl (iteF (hq _ hP.symm))
                | lst g1 g2 => exact w_bl (iteF (hq _ hP.symm))
                | tup g1 g2 => exact w_bl (iteF (hq _ hP.symm))
              | @cons v3 vs3 d3 ds3 h3 t3 =>
                refine w_ite (fun e => absurd e (by rw [List.length_cons, List.length_cons, List.length_cons, List.length_cons]; omega)) (fun e => ?_)
                exact hq _ (by rw [hP]; cases d1 <;> rfl)
        · rw [if_neg e1]
          walk_at "ct"
          refine ⟨d0, .str "spring", h0, .str _, sh0, hsp, ?_⟩
          walk_at "ct"
          by_cases e2 : PyData.eqv d0 (.str "spring") = true
          · rw [if_pos e2]
            have hq : ∀ b : Bool, b = isP (.tuple (d0 :: ds0)) → Q (.bl b) H := fun b hb => by
              rw [hb]
              exact q H (Same.refl H)
            have hP : isP (.tuple (d0 :: ds0)) = springT ds0 := by
              simp only [isP, if_neg e1, if_pos e2]
            walk_at "ct"
            refine ⟨a, _, rfl, .inr hs, ?_⟩
            walk_at "ct"
            cases t0 with
            | nil =>
              refine w_ite (fun e => absurd e (by show ¬ ((1 : Nat) : Int) = 2; decide)) (fun e => ?_)
              exact hq _ hP.symm
            | @cons v1 vs1 d1 ds1 h1 t1 =>
              cases t1 with
              | nil =>
                refine w_ite (fun e => ?_) (fun e => absurd rfl e)
                walk_at "ct"
                refine ⟨v1, d1, rfl, h1, ?_⟩
                cases h1 with
                | int z =>
                  refine w_bl ?_
                  refine iteT ?_
                  walk_at "ct"
                  exact hq _ hP.symm
                | non => exact w_bl (iteF (hq _ hP.symm))
                | bl b => exact w_bl (iteF (hq _ hP.symm))
                | str s => exact w_bl (iteF (hq _ hP.symm))
                | lst g1 g2 => exact w_bl (iteF (hq _ hP.symm))
                | tup g1 g2 => exact w_bl (iteF (hq _ hP.symm))
              | @cons v2 vs2 d2 ds2 h2 t2 =>
                refine w_ite (fun e => absurd e (by rw [List.length_cons, List.length_cons, List.length_cons]; omega)) (fun e => ?_)
                exact hq _ (by rw [hP]; cases d1 <;> rfl)
          · rw [if_neg e2]
            have hP : isP (.tuple (d0 :: ds0)) = (PyData.eqv (.tuple (d0 :: ds0)) (.tuple [.str "click"]) || PyData.eqv (.tuple (d0 :: ds0)) (.tuple [.str "rocker"])) := by
              simp only [isP, if_neg e1, if_neg e2]
            rw [hP] at q
            walk_at "ct"
            refine ⟨len2 rfl, fun p np => ?_⟩
            have s1 : Same H (upd H p (.tup [.str "click"])) := same_upd np
            refine ⟨.tuple (d0 :: ds0), .tuple [.str "click"], hwhole _ s1, .tup (.of upd_same) (.cons (.str _) .nil), shw, by decide +kernel, ?_⟩
            walk_at "ct"
            by_cases e3 : PyData.eqv (.tuple (d0 :: ds0)) (.tuple [.str "click"]) = true
            · rw [if_pos e3]
              rw [e3] at q
              exact q _ s1
            · rw [if_neg e3]
              rw [Bool.not_eq_true] at e3
              rw [e3] at q
              walk_at "ct"
              refine ⟨len2 rfl, fun p2 np2 => ?_⟩
              have s2 := same_new (o := .tup [.str "rocker"]) s1 (s1.free np2)
              refine ⟨.tuple (d0 :: ds0), .tuple [.str "rocker"], hwhole _ s2, .tup (.of upd_same) (.cons (.str _) .nil), shw, by decide +kernel, ?_⟩
              exact q _ s2
abbrev S_check_train : Stmt := topS 12
theorem sc_check_train : FnScope ["train", "part"] ["train"] (defScope S_check_train) := ⟨rfl, rfl, rfl, by decide +kernel, rfl, by decide +kernel, by decide +kernel⟩
def sp_check_train (K : PySem.W.Frag) (c_NoTrain : Addr) : Sp := fun vs H Q E => ∃ (v : V) (d : PyData), vs = [v] ∧ Dp K H v d ∧ Fine d 30 600 ∧ (isT d = true → ∀ H', Same H H' → Q .non H') ∧ (isT d = false → ∀ H', Same H H' → E (.ref c_NoTrain) none H')
theorem ok_check_train {f : Addr} {fd : FuncData} {f_is_part : Addr} {fd_is_part : FuncData} {c_NoTrain : Addr} (F : Fun K "check_train" "check_train" S_check_train f fd)
    (F_is_part : Fun K "is_part" "is_part" S_is_part f_is_part fd_is_part) (b_is_part : Binds K fd_is_part ["thing"] []) (g_is_part : mg "is_part" = some (.ref f_is_part)) (G_is_part : FnOk P w K mg base CX0 3 f_is_part fd_is_part ["thing"] (sp_is_part K)) (m_isinstance : mg "isinstance" = none) (m_list : mg "list" = none) (m_len : mg "len" = none)
    (g_NoTrain : mg "NoTrain" = some (.ref c_NoTrain)) (E_NoTrain : ErrC K mg "NoTrain" c_NoTrain) :
    FnOk P w K mg base (L2.CX P w) 4 f fd ["train"] (sp_check_train K c_NoTrain) := by
  refine F.okX sc_check_train (fun vs H Q E h => ?_) (fun cdv A outer s H vs Q E hr h => ?_)
  ·
    obtain ⟨v, d, rfl, _⟩ := h
    rfl
  ·
    obtain ⟨v, d, rfl, hd, fine, qT, qF⟩ := h
    refine ⟨_, (pss_cons (ps_if (PW.pt (pw_or (pt_not (pt_val (pe_callB (r := rIsi K) call_isi (by rfl) m_isinstance (by decide +kernel) (pa_cons (pv 0) (pa_cons (pe_bltn (v := .ty "list") (u := .type "list") (by rfl) m_list (by decide +kernel) rfl) pa_nil))))) (pw_or1 (pt_cmpR op_eq (pe_callB call_len_seq (by rfl) m_len (by decide +kernel) (pa_cons (pv 0) pa_nil)) pe_int (nomark _))))) (pss_one (ps_raiseC (C := c_NoTrain) rfl (takes_of rfl rfl rfl rfl) E_NoTrain (by rfl))) pss_nil)
      (pss_one (ps_for (passes_of rfl) rfl (pi_list (pv 0)) (pg_name (i := 1) sc_check_train.nd rfl (.inl rfl))
      (pss_one (ps_if (pt_not (pt_val (pe_call G_is_part (hr.mono (by decide)) (by rfl) g_is_part F_is_part.kp b_is_part .nil pass0 (pa_cons (pv 1) pa_nil)))) (pss_one (ps_raiseC (C := c_NoTrain) rfl (takes_of rfl rfl rfl rfl) E_NoTrain (by rfl))) pss_nil))))), ?_⟩
    refine w_st (σ' := [some v, none]) rfl ?_
    walk_at "ct"
    cases hd with
    | non =>
      refine w_isi (b := false) (.base .non) (kit_ty (by decide +kernel)) ?_
      walk_at "ct"
      exact qF rfl H (Same.refl H)
    | bl b =>
      refine w_isi (b := false) (.base (.bl b)) (kit_ty (by decide +kernel)) ?_
      walk_at "ct"
      exact qF rfl H (Same.refl H)
    | int i =>
      refine w_isi (b := false) (.base (.int i)) (kit_ty (by decide +kernel)) ?_
      walk_at "ct"
      exact qF rfl H (Same.refl H)
    | str x =>
      refine w_isi (b := false) (.base (.str x)) (kit_ty (by decide +kernel)) ?_
      walk_at "ct"
      exact qF rfl H (Same.refl H)
    | tup hs ht =>
      refine w_isi (b := false) (tyx_T hs) (kit_ty (by decide +kernel)) ?_
      walk_at "ct"
      exact qF rfl H (Same.refl H)
    | @lst a vs ds hv hds =>
      refine w_isi (b := true) (tyx_L hv) (kit_ty (by decide +kernel)) ?_
      walk_at "ct"
      refine ⟨a, vs, rfl, .inl hv, ?_⟩
      walk_at "ct"
      have hl := dpAll_len hds
      refine w_ite (fun e => ?_) (fun e => ?_)
      · walk_at "ct"
        have e0 : ds = [] := List.length_eq_zero_iff.mp (by omega)
        exact qF (by rw [e0]; rfl) H (Same.refl H)
      · walk_at "ct"
        have ne : ds.isEmpty = false := by
          cases ds with
          | nil => exact absurd (by rw [hl]; rfl) e
          | cons _ _ => rfl
        refine w_IL hv ?_
        refine fb_list vs (fun n σ H' => ∃ y, σ = [some (.ref a), y] ∧ Same H H' ∧ (ds.take n).all isP = true) ⟨none, rfl, Same.refl H, rfl⟩ ?_ ?_ ?_
        · rintro n σ H' hn ⟨y, rfl, sm, _⟩
          exact sm.seq hv
        · rintro n v σ H' hx ⟨y, rfl, sm, all⟩
          have hn : n < vs.length := (List.getElem?_eq_some_iff.mp hx).1
          obtain ⟨p, hp⟩ : ∃ p, ds[n]? = some p := ⟨_, List.getElem?_eq_getElem (by omega)⟩
          obtain ⟨v', hv1, hd1⟩ := dpAll_get hds hp
          cases Option.some.inj (hx.symm.trans hv1)
          have pm : p ∈ ds := List.mem_of_getElem? hp
          have dp : p.depth ≤ 30 := Nat.le_trans (depth_mem p pm) (by have := fine.dep; rw [PyData.depth] at this; omega)
          walk_at "ct"
          refine ⟨v, p, 30, rfl, dp_same sm hd1, (okN_facts p (okAll_mem fine.ok p pm)).1, dp, by decide, fun H1 s1 => ?_⟩
          cases c : isP p with
          | true =>
            walk_at "ct"
            refine ⟨_, rfl, sm.trans s1, ?_⟩
            rw [List.take_succ, hp, List.all_append, all]
            simp [c]
          | false =>
            walk_at "ct"
            refine qF ?_ H1 (sm.trans s1)
            rw [isT, ne, Bool.not_false, Bool.true_and]
            exact List.all_eq_false.mpr ⟨p, pm, by rw [c]; exact Bool.false_ne_true⟩
        · rintro σ H' ⟨y, rfl, sm, all⟩
          refine qT ?_ H' sm
          rw [List.take_of_length_le (by omega)] at all
          rw [isT, ne, all]
          rfl
abbrev S_show_list : Stmt := topS 16
theorem sc_show_list : FnScope ["things", "show_one", "thing"] ["things", "show_one"] (defScope S_show_list) := ⟨rfl, rfl, rfl, by decide +kernel, rfl, by decide +kernel, by decide +kernel⟩
def sp_show_list (K : PySem.W.Frag) (R : Addr → Sp → Prop) : Sp := fun vs H Q _ => ∃ (a f : Addr) (sp : Sp) (xs : List V) (ts : List (List Nat)), vs = [.ref a, .ref f] ∧ R f sp ∧ SqL K H a xs ∧ xs.length = ts.length ∧ (∀ (i : Nat) (x : V) (t : List Nat), xs[i]? = some x → ts[i]? = some t → ∀ (H1 : Hp) (Q1 : VK), Same H H1 → (∀ H2, Same H1 H2 → Q1 (.str (tx t)) H2) → sp [x] H1 Q1 L2.E0) ∧ (∀ t ∈ ts, t.length ≤ 2000) ∧ ts.length ≤ 2000 ∧ ∀ H', Same H H' → Q (.str (tx (listT ts))) H'
theorem ok_show_list {f : Addr} {fd : FuncData} {R : Addr → Sp → Prop} (F : Fun K "show_list" "show_list" S_show_list f fd)
    (HR : ∀ f sp, R f sp → L2.Held P w K mg base 12 f sp) :
    FnOk P w K mg base CX0 13 f fd ["things", "show_one"] (sp_show_list K R) := by
  refine F.ok sc_show_list (fun vs H Q E h => ?_) (fun cdv A outer s H vs Q E hr h => ?_)
  ·
    obtain ⟨a, f, sp, xs, ts, rfl, _⟩ := h
    rfl
  ·
    obtain ⟨a, f, sp, xs, ts, rfl, r, hxs, len, one, l1, l2, q⟩ := h
    refine ⟨_, (pss_cons (ps_if (pt_not (pt_truth (pv 0) (by intro _; rfl))) (pss_one (ps_ret pe_str)) pss_nil)
      (pss_one (ps_ret (pe_join pe_str (pe_lc (own := [("thing", 2)]) (g := gName 2)  rfl sc_show_list.nd  (pi_list (pv 0)) (blkOk_by (own := [("thing", 2)]) (N := ["things", "show_one", "thing"]) (sc := defScope S_show_list) (by decide +kernel)) (fun _ _ _ _ _ => pg_name (i := 2) sc_show_list.nd rfl (Or.inl rfl)) (fun _ _ _ _ _ => pts_nil) (fun _ _ _ _ _ => (pe_callR (i := 1) (R := R) HR (hr.mono (by decide)) (by rfl) (by first | exact Or.inl rfl | exact Or.inr (Or.inl rfl) | exact Or.inr (Or.inr rfl)) (pa_cons (pv 2) pa_nil)))))))), ?_⟩
    refine w_st (σ' := [some (.ref a), some (.ref f), none]) rfl ?_
    walk_at "ct"
    refine ⟨!xs.isEmpty, .inl ⟨xs, hxs, rfl⟩, ?_⟩
    cases ts with
    | nil =>
      cases xs with
      | cons x r => cases len
      | nil =>
        refine L2.iteT ?_
        walk_at "ct"
        rw [tx_of]
        exact q H (Same.refl H)
    | cons t0 tr =>
      cases xs with
      | nil => cases len
      | cons x0 xr =>
        refine L2.iteF ?_
        walk_at "ct"
        refine ⟨⟨_, rfl⟩, ?_⟩
        walk_at "ct"
        refine w_IL hxs ?_
        refine lb_list (x0 :: xr) (fun D i J => Same H J ∧ J D = some (.lst ((((t0 :: tr).take i).map tx).map V.str))) (fun D nD => ⟨same_upd nD, upd_same⟩) (fun D nD i J _ h => h.1.seq hxs) ?_ ?_
        · rintro D nD i x J hx ⟨sJ, hD⟩
          have hi : i < (x0 :: xr).length := (List.getElem?_eq_some_iff.mp hx).1
          obtain ⟨t, ht⟩ : ∃ t, (t0 :: tr)[i]? = some t := ⟨_, List.getElem?_eq_getElem (by omega)⟩
          walk_at "ct"
          refine ⟨rfl, ?_⟩
          walk_at "ct"
          refine w_callR (f := f) rfl r ?_
          walk_at "ct"
          refine one i x t hx ht _ _ sJ fun J2 s2 => ?_
          refine ⟨_, s2 _ _ hD, by rw [List.length_map, List.length_map, List.length_take]; exact Nat.lt_of_le_of_lt (show _ ≤ 2000 by omega) (by decide), same_new (sJ.trans s2) nD, ?_⟩
          rw [upd_same, List.take_add_one, ht, List.map_append, List.map_append]
          rfl
        rintro D nD J ⟨sJ, hD⟩
        rw [len, List.take_of_length_le (Nat.le_refl _)] at hD
        refine ⟨_, D, _, rfl, rfl, .inl (.of hD), ?_, ?_⟩
        · exact fitT l1 l2 (by decide)
        · rw [joinT " " (sep := [32]) (by decide)]
          have := q J sJ
          unfold listT at this
          rw [if_neg (fun z => nomatch z)] at this
          exact this
abbrev S_show_part : Stmt := topS 17
theorem sc_show_part : FnScope ["part", "marks", "mark"] ["part"] (defScope S_show_part) := ⟨rfl, rfl, rfl, by decide +kernel, rfl, by decide +kernel, by decide +kernel⟩
def sp_show_part (K : PySem.W.Frag) : Sp := fun vs H Q _ => ∃ (v : V) (p : Part) (t : List Nat), vs = [v] ∧ Dp K H v p.data ∧ PartS p t ∧ ∀ H', Same H H' → Q (.str (tx t)) H'
theorem ok_show_part {f : Addr} {fd : FuncData} (F : Fun K "show_part" "show_part" S_show_part f fd) (m_str : mg "str" = none) :
    FnOk P w K mg base CX0 1 f fd ["part"] (sp_show_part K) := by
  refine F.ok sc_show_part (fun vs H Q E h => ?_) (fun cdv A outer s H vs Q E hr h => ?_)
  ·
    obtain ⟨v, p, t, rfl, _⟩ := h
    rfl
  ·
    obtain ⟨v, p, t, rfl, hv, hp, q⟩ := h
    refine ⟨_, (pss_cons (ps_if (pt_cmpR op_eq (pe_ix (r := rIxT K) ix_tup (pv 0) pe_int (fun _ _ => rfl)) pe_str (nomark _)) (pss_cons (ps_set (i := 1) sc_show_part.nd rfl (.inl rfl) (pe_join pe_str (pe_lc (own := [("mark", 2)]) (g := gName 2)  rfl sc_show_part.nd  (pi_tup (pe_ix (r := rIxT K) ix_tup (pv 0) pe_int (fun _ _ => rfl))) (blkOk_by (own := [("mark", 2)]) (N := ["part", "marks", "mark"]) (sc := defScope S_show_part) (by decide +kernel)) (fun _ _ _ _ _ => pg_name (i := 2) sc_show_part.nd rfl (Or.inl rfl)) (fun _ _ _ _ _ => pts_nil) (fun _ _ _ _ _ => (pe_callTy (r := rStrI) call_strI (by rfl) m_str (by decide +kernel) (pa_cons (pv 2) pa_nil))))))
      (pss_one (ps_ret (pe_joined (.cons pe_str (.cons (pe_fmt (pe_ix (r := rIxT K) ix_tup (pv 0) pe_int (fun _ _ => rfl))) (.cons pe_str (.cons (pe_fmt (pv 1)) .nil)))))))) pss_nil)
      (pss_cons (ps_if (pt_cmpR op_eq (pe_ix (r := rIxT K) ix_tup (pv 0) pe_int (fun _ _ => rfl)) pe_str (nomark _)) (pss_one (ps_ret (pe_joined (.cons pe_str (.cons (pe_fmt (pe_ix (r := rIxT K) ix_tup (pv 0) pe_int (fun _ _ => rfl))) .nil))))) pss_nil)
      (pss_one (ps_ret (pe_ifExp (pt_cmpR op_eq (pe_ix (r := rIxT K) ix_tup (pv 0) pe_int (fun _ _ => rfl)) pe_str (nomark _)) pe_str pe_str))))), ?_⟩
    refine w_st (σ' := [some v, none, none]) rfl ?_
    rcases hp.2 with ⟨z, ns, rfl, hz, hn, nl, rfl⟩ | ⟨rfl, rfl⟩ | ⟨rfl, rfl⟩ | ⟨k, rfl, hk, rfl⟩
    · obtain ⟨a, b, rfl, hs, hb⟩ := wheel_inv hv
      have hb : SqT K H b (ns.map fun n : Nat => V.int (n : Int)) := by rw [← map_toInt]; exact hb
      walk_at "ct"
      refine ⟨⟨_, rfl⟩, ?_⟩
      walk_at "ct"
      refine w_IT hb ?_
      refine lb_tup (ns.map fun n : Nat => V.int (n : Int)) (fun D i J => Same H J ∧ J D = some (.lst ((ns.take i).map fun n : Nat => V.str (tx (nL n))))) (fun D nD => ⟨same_upd nD, upd_same⟩) (fun D nD i J _ h => Same.tup h.1 hb) ?_ ?_
      · rintro D nD i x J hx ⟨sJ, hD⟩
        obtain ⟨n, hi, rfl⟩ := map_getN hx
        walk_at "ct"
        refine ⟨rfl, ?_⟩
        walk_at "ct"
        refine w_strI (Nat.lt_trans (hn n (List.mem_of_getElem? hi)) (by decide)) ?_
        refine ⟨_, hD, by rw [List.length_map, List.length_take]; exact Nat.lt_of_le_of_lt (show _ ≤ 2000 by omega) (by decide), same_new sJ nD, ?_⟩
        rw [upd_same, take_succN _ hi]
      rintro D nD J ⟨sJ, hD⟩
      rw [List.length_map, List.take_length] at hD
      have hD2 : J D = some (.lst (((ns.map nL).map tx).map V.str)) := by rw [hD, List.map_map, List.map_map]; rfl
      refine ⟨_, D, _, rfl, rfl, .inl (.of hD2), fitN hn (by omega) (by decide), ?_⟩
      rw [joinT "," (sep := [44]) (by decide)]

      have l1 := nL_len hz
      have l2 := jN_len (s := 44) hn
      refine w_jqs (s := "w") (a := [119]) (by decide) (by show 0 + 1 ≤ _; omega) ?_
      have hs := Same.tup sJ hs
      walk_at "ct"
      refine w_fmtI (Nat.lt_trans hz (by decide)) ?_
      refine w_jq (by rw [List.nil_append]; show 1 + _ ≤ _; omega) ?_
      walk_at "ct"
      refine w_jqs (s := ":") (a := [58]) (by decide) (by rw [List.nil_append, List.length_append]; show 1 + _ + 1 ≤ _; omega) ?_
      walk_at "ct"
      refine w_fmtS (a := jN 44 ns) (by omega) ?_
      refine w_jq (by rw [List.nil_append, List.length_append, List.length_append]; show 1 + _ + 1 + _ ≤ _; omega) ?_
      walk_at "ct"
      have e : [] ++ [119] ++ nL z ++ [58] ++ jN 44 ns = 119 :: (nL z ++ 58 :: jN 44 ns) := by rw [List.nil_append, List.append_assoc, List.append_assoc]; rfl
      rw [e]
      exact q J sJ
    · obtain ⟨a, rfl, hs⟩ := click_inv hv
      walk_at "ct"
      exact q H (Same.refl H)
    · obtain ⟨a, rfl, hs⟩ := rocker_inv hv
      walk_at "ct"
      exact q H (Same.refl H)
    · obtain ⟨a, rfl, hs⟩ := spring_inv hv
      have l1 := nL_len hk
      walk_at "ct"
      refine w_jqs (s := "s") (a := [115]) (by decide) (by show 0 + 1 ≤ _; omega) ?_
      walk_at "ct"
      refine w_fmtI (Nat.lt_trans hk (by decide)) ?_
      refine w_jq (by rw [List.nil_append]; show 1 + _ ≤ _; omega) ?_
      walk_at "ct"
      exact q H (Same.refl H)
abbrev S_show_train : Stmt := topS 18
theorem sc_show_train : FnScope ["train"] ["train"] (defScope S_show_train) := ⟨rfl, rfl, rfl, by decide +kernel, rfl, by decide +kernel, by decide +kernel⟩
def sp_show_train (K : PySem.W.Frag) (c_NoTrain : Addr) : Sp := fun vs H Q E => ∃ (v : V) (d : PyData), vs = [v] ∧ Dp K H v d ∧ Fine d 30 600 ∧ ((isT d = false ∧ ∀ H', Same H H' → E (.ref c_NoTrain) none H') ∨ ∃ (ps : List Part) (ts : List (List Nat)), d = .list (ps.map Part.data) ∧ TrainT ps ts ∧ ps ≠ [] ∧ ps.length ≤ 8 ∧ ∀ H', Same H H' → Q (.str (tx (TL.joinL [32] ts))) H')
theorem ok_show_train {f : Addr} {fd : FuncData} {f_show_list : Addr} {fd_show_list : FuncData} {f_show_part : Addr} {fd_show_part : FuncData} {f_check_train : Addr} {fd_check_train : FuncData} {c_NoTrain : Addr} (F : Fun K "show_train" "show_train" S_show_train f fd)
    (F_show_list : Fun K "show_list" "show_list" S_show_list f_show_list fd_show_list) (b_show_list : Binds K fd_show_list ["things", "show_one"] []) (g_show_list : mg "show_list" = some (.ref f_show_list)) (G_show_list : ∀ R, (∀ f sp, R f sp → L2.Held P w K mg base 12 f sp) → FnOk P w K mg base CX0 13 f_show_list fd_show_list ["things", "show_one"] (sp_show_list K R))
    (F_show_part : Fun K "show_part" "show_part" S_show_part f_show_part fd_show_part) (b_show_part : Binds K fd_show_part ["part"] []) (g_show_part : mg "show_part" = some (.ref f_show_part)) (G_show_part : FnOk P w K mg base CX0 1 f_show_part fd_show_part ["part"] (sp_show_part K))
    (F_check_train : Fun K "check_train" "check_train" S_check_train f_check_train fd_check_train) (b_check_train : Binds K fd_check_train ["train"] []) (g_check_train : mg "check_train" = some (.ref f_check_train)) (G_check_train : FnOk P w K mg base (L2.CX P w) 4 f_check_train fd_check_train ["train"] (sp_check_train K c_NoTrain)) :
    FnOk P w K mg base (L2.CX P w) 14 f fd ["train"] (sp_show_train K c_NoTrain) := by
  refine F.okX sc_show_train (fun vs H Q E h => ?_) (fun cdv A outer s H vs Q E hr h => ?_)
  ·
    obtain ⟨v, d, rfl, _⟩ := h
    rfl
  ·
    obtain ⟨v, d, rfl, hd, fine, h⟩ := h
    refine ⟨_, (pss_cons (ps_expr (pe_call (E := E) G_check_train (hr.mono (by decide)) (by rfl) g_check_train F_check_train.kp b_check_train .nil (passes_call (takes_of rfl rfl rfl rfl) fun _ _ _ _ h => h) (pa_cons (pv 0) pa_nil)))
      (pss_one (ps_ret (pe_call (G_show_list (fun (f : Addr) (sp : Sp) => (f = f_show_part ∧ sp = (sp_show_part K)) ∨ (fun (_ : Addr) (_ : Sp) => False) f sp) (held_cons (held_at (k := 12) G_show_part (by decide) F_show_part.kp b_show_part) held_nil)) (hr.mono (by decide)) (by rfl) g_show_list F_show_list.kp b_show_list .nil pass0 (pa_cons (pv 0) (pa_cons (pe_glob (v := .ref f_show_part) (by rfl) g_show_part rfl) pa_nil)))))), ?_⟩
    refine w_st (σ' := [some v]) rfl ?_
    walk_at "ct"
    rcases h with ⟨c, q⟩ | ⟨ps, ts, rfl, tr, ne, pl, q⟩
    · exact ⟨v, d, rfl, hd, fine, fun z => absurd c (by rw [z]; exact fun y => nomatch y), fun _ => q⟩
    have len : ps.length = ts.length := Paired.length tr
    have ne2 : ts ≠ [] := fun z => ne (List.eq_nil_of_length_eq_zero (by rw [len, z]; rfl))
    refine ⟨v, _, rfl, hd, fine, fun _ H1 s1 => ?_, fun z => absurd (isT_of (trainT_ok tr) (by cases ps with | nil => exact absurd rfl ne | cons => exact Nat.succ_le_succ (Nat.zero_le _))) (by rw [z]; exact Bool.false_ne_true)⟩
    obtain ⟨a, vs, rfl, hv, hds⟩ := lst_inv hd
    clear fine
    walk_at "ct"
    refine ⟨a, f_show_part, _, vs, ts, rfl, .inl ⟨rfl, rfl⟩, s1.seq hv, by rw [dpAll_len hds, List.length_map, len], fun i x t hx ht H2 Q2 s2 q2 => ?_, fun t ht => Nat.le_trans (trainT_fact tr t ht).2.1 (by decide), by omega, fun H2 s2 => ?_⟩
    · have hi := (List.getElem?_eq_some_iff.mp hx).1
      obtain ⟨p, hp⟩ : ∃ p, ps[i]? = some p := ⟨_, List.getElem?_eq_getElem (by rw [dpAll_len hds, List.length_map] at hi; exact hi)⟩
      obtain ⟨x', hx', dx⟩ := TrainAt.at (a := a) hds hp
      cases Option.some.inj (hx.symm.trans hx')
      obtain ⟨t', ht', hs⟩ := paired_getT tr hp
      cases Option.some.inj (ht.symm.trans ht')
      exact ⟨x, p, t, rfl, dp_same (s1.trans s2) dx, hs, fun H3 s3 => q2 H3 s3⟩
    have := q H2 (s1.trans s2)
    unfold listT
    rw [if_neg ne2]
    exact this
abbrev S_show_stand : Stmt := topS 19
theorem sc_show_stand : FnScope ["stand", "place"] ["stand"] (defScope S_show_stand) := ⟨rfl, rfl, rfl, by decide +kernel, rfl, by decide +kernel, by decide +kernel⟩
def sp_show_stand (K : PySem.W.Frag) : Sp := fun vs H Q _ => ∃ (a : Addr) (ns : List Nat), vs = [.ref a] ∧ SqT K H a (ns.map fun n : Nat => V.int (n : Int)) ∧ (∀ n ∈ ns, n < M40) ∧ ns.length ≤ 30 ∧ ∀ H', Same H H' → Q (.str (tx (jN 47 ns))) H'
theorem ok_show_stand {f : Addr} {fd : FuncData} (F : Fun K "show_stand" "show_stand" S_show_stand f fd) (m_str : mg "str" = none) :
    FnOk P w K mg base CX0 1 f fd ["stand"] (sp_show_stand K) := by
  refine F.ok sc_show_stand (fun vs H Q E h => ?_) (fun cdv A outer s H vs Q E hr h => ?_)
  ·
    obtain ⟨a, ns, rfl, _⟩ := h
    rfl
  ·
    obtain ⟨a, ns, rfl, hs, hn, nl, q⟩ := h
    refine ⟨_, (pss_one (ps_ret (pe_join pe_str (pe_lc (own := [("place", 1)]) (g := gName 1)  rfl sc_show_stand.nd  (pi_tup (pv 0)) (blkOk_by (own := [("place", 1)]) (N := ["stand", "place"]) (sc := defScope S_show_stand) (by decide +kernel)) (fun _ _ _ _ _ => pg_name (i := 1) sc_show_stand.nd rfl (Or.inl rfl)) (fun _ _ _ _ _ => pts_nil) (fun _ _ _ _ _ => (pe_callTy (r := rStrI) call_strI (by rfl) m_str (by decide +kernel) (pa_cons (pv 1) pa_nil))))))), ?_⟩
    refine w_st (σ' := [some (.ref a), none]) rfl ?_
    walk_at "ct"
    refine ⟨⟨_, rfl⟩, ?_⟩
    walk_at "ct"
    refine w_IT hs ?_
    refine lb_tup (ns.map fun n : Nat => V.int (n : Int)) (fun D i J => Same H J ∧ J D = some (.lst ((ns.take i).map fun n : Nat => V.str (tx (nL n))))) (fun D nD => ⟨same_upd nD, upd_same⟩) (fun D nD i J _ h => Same.tup h.1 hs) ?_ ?_
    · rintro D nD i x J hx ⟨sJ, hD⟩
      obtain ⟨n, hi, rfl⟩ := map_getN hx
      walk_at "ct"
      refine ⟨rfl, ?_⟩
      walk_at "ct"
      refine w_strI (Nat.lt_trans (hn n (List.mem_of_getElem? hi)) (by decide)) ?_
      refine ⟨_, hD, by rw [List.length_map, List.length_take]; exact Nat.lt_of_le_of_lt (show _ ≤ 2000 by omega) (by decide), same_new sJ nD, ?_⟩
      rw [upd_same, take_succN _ hi]
    rintro D nD J ⟨sJ, hD⟩
    rw [List.length_map, List.take_length] at hD
    have hD2 : J D = some (.lst (((ns.map nL).map tx).map V.str)) := by rw [hD, List.map_map, List.map_map]; rfl
    refine ⟨_, D, _, rfl, rfl, .inl (.of hD2), fitN hn (by omega) (by decide), ?_⟩
    rw [joinT "/" (sep := [47]) (by decide)]
    exact q J sJ
abbrev S_read_number : Stmt := topS 20
theorem sc_read_number : FnScope ["text", "sign"] ["text"] (defScope S_read_number) := ⟨rfl, rfl, rfl, by decide +kernel, rfl, by decide +kernel, by decide +kernel⟩
def sp_read_number (K : PySem.W.Frag) (T : List Addr) : Sp := fun vs H Q _ => ∃ n : Nat, vs = [.str (tx (nL n))] ∧ n < M40 ∧ Tb T H ∧ ∀ H', Same H H' → Q (.int (n : Int)) H'
theorem ok_read_number {f : Addr} {fd : FuncData} {tk_FIGURES : Tok} {tk_MOST_FIGURES : Tok} {T : List Addr} {cT PT : Addr} (F : Fun K "read_number" "read_number" S_read_number f fd) (m_any : mg "any" = none) (m_int : mg "int" = none) (m_len : mg "len" = none) (g_FIGURES : mg "FIGURES" = some (.str "0123456789" tk_FIGURES)) (g_MOST_FIGURES : mg "MOST_FIGURES" = some (.int 40 tk_MOST_FIGURES))
    (TB_read_number : GxR.TabB base mg cT PT) (HC_read_number : fd.code = .ref cT) (tm : PT ∈ T) :
    FnOk P w K mg base CX0 2 f fd ["text"] (sp_read_number K T) := by
  refine okC F sc_read_number (fun vs H Q E h => ?_) (fun A outer s H vs Q E hr h => ?_)
  ·
    obtain ⟨n, rfl, _⟩ := h
    rfl
  ·
    obtain ⟨n, rfl, hn, hTb, q⟩ := h
    refine ⟨_, (pss_cons (ps_if (PW.pt (pw_or (pt_cmpR op_eq (pe_callB (r := rLenX) call_lenX (by rfl) m_len (by decide +kernel) (pa_cons (pv 0) pa_nil)) pe_int (nomark _)) (pw_or (pt_cmpR op_gt (pe_callB (r := rLenX) call_lenX (by rfl) m_len (by decide +kernel) (pa_cons (pv 0) pa_nil)) (pe_glob (v := .int 40) (by rfl) g_MOST_FIGURES ⟨_, rfl⟩) (nomark _)) (pw_or1 (PW.pt (pw_and (pt_cmpR op_eq (pe_ix (r := rIxS) ix_str (pv 0) pe_int (fun _ _ => rfl)) pe_str (nomark _)) (pw_and1 (pt_cmpR op_gt (pe_callB (r := rLenX) call_lenX (by rfl) m_len (by decide +kernel) (pa_cons (pv 0) pa_nil)) pe_int (nomark _))))))))) (pss_one ps_never) pss_nil)
      (pss_cons (ps_if (pt_val (pe_anyX (own := [("sign", 1)]) (g := (gName 1)) hr (by rfl) m_any rfl sc_read_number.nd TB_read_number HC_read_number (pi_str (pv 0)) (blkOk_by (own := [("sign", 1)]) (N := ["text", "sign"]) (sc := defScope S_read_number) (by decide +kernel)) (by decide +kernel) rfl (by decide +kernel) (fun _ _ _ _ _ _ _ _ => (pg_name (i := 1) sc_read_number.nd rfl (Or.inl rfl))) (fun _ _ _ _ _ _ _ _ hr => (pe_cmpR (r := rInSg true) op_notInSg (pv 1) (pe_glob (v := .str "0123456789") (by rfl) g_FIGURES ⟨_, rfl⟩) (by rfl))))) (pss_one ps_never) pss_nil)
      (pss_one (ps_ret (pe_callTy (r := rIntS) call_intS (by rfl) m_int (by decide +kernel) (pa_cons (pv 0) pa_nil)))))), ?_⟩
    refine w_st (σ' := [some (.str (tx (nL n))), none]) rfl ?_
    have l1 := nL_len hn
    have l0 := nL_pos n
    have sz : (tx (nL n)).length ≤ sizeLine := by rw [tx_len]; exact small6 (by omega)
    obtain ⟨c, r, e⟩ : ∃ c r, nL n = c :: r := by
      cases z : nL n with
      | nil => exact absurd z (TL.numL_ne n)
      | cons c r => exact ⟨c, r, rfl⟩
    walk_at "cq"
    with_reducible refine w_join (fun σ G => σ = [some (.str (tx (nL n))), none] ∧ H = G) ?_ ?_
    · rintro σ G ⟨rfl, rfl⟩
      walk_at "ct"
      refine ⟨_, rfl, ?_⟩
      refine gb_str (nL n) (fun i G => Same H G) (hTb _ tm) (Same.refl _) ?_ ?_
      · rintro i d G hd sG
        have dig := nL_dig (List.mem_of_getElem? hd)
        walk_at "ct"
        refine ⟨rfl, ?_⟩
        walk_at "ct"
        refine ⟨d, _, rfl, rfl, ?_⟩
        rw [if_pos rfl, in_figs, decide_eq_true dig]
        walk_at "ct"
        exact sG
      intro G sG
      walk_at "ct"
      exact ⟨_, n, rfl, int_nL hn, by rw [tx_len]; omega, q G sG⟩
    intro N hN
    walk_at "ct"
    refine ⟨tx (nL n), rfl, sz, ?_⟩
    rw [tx_len]
    walk_at "ct"
    refine w_ite (fun z => absurd z (by omega)) (fun _ => ?_)
    walk_at "ct"
    refine ⟨tx (nL n), rfl, sz, ?_⟩
    rw [tx_len]
    walk_at "ct"
    refine w_ite (fun z => absurd z (by omega)) (fun _ => ?_)
    walk_at "ct"
    refine ⟨_, _, c, rfl, rfl, sz, atX (i := 0) (by rw [e]; rfl), ?_⟩
    walk_at "ct"
    refine w_eqXs (s := "0") (a := [c]) (b := [48]) (by decide) ?_
    walk_at "ct"
    by_cases z : [c] = [48]
    · rw [decide_eq_true z]
      walk_at "ct"
      refine ⟨tx (nL n), rfl, sz, ?_⟩
      have one : (nL n).length = 1 := nL_zero (by rw [e, (List.cons.inj z).1]; rfl)
      rw [tx_len, one]
      walk_at "ct"
      refine L2.iteF ?_
      walk_at "ct"
      exact hN _ _ ⟨rfl, rfl⟩
    · rw [decide_eq_false z]
      walk_at "ct"
      exact hN _ _ ⟨rfl, rfl⟩
abbrev S_read_numbers : Stmt := topS 21
theorem sc_read_numbers : FnScope ["text", "between", "word"] ["text", "between"] (defScope S_read_numbers) := ⟨rfl, rfl, rfl, by decide +kernel, rfl, by decide +kernel, by decide +kernel⟩
def sp_read_numbers (K : PySem.W.Frag) (T : List Addr) : Sp := fun vs H Q _ => ∃ (ns : List Nat) (s : Nat) (b : String), vs = [.str (tx (jN s ns)), .str (Str.ofString b)] ∧ b.toList.map Char.toNat = [s] ∧ s < 48 ∧ ns ≠ [] ∧ (∀ n ∈ ns, n < M40) ∧ ns.length ≤ 30 ∧ Tb T H ∧ ∀ l H', Same H H' → H l = none → H' l = some (.lst (ns.map fun n : Nat => V.int (n : Int))) → Q (.ref l) H'
theorem ok_read_numbers {f : Addr} {fd : FuncData} {f_read_number : Addr} {fd_read_number : FuncData} {T : List Addr} (F : Fun K "read_numbers" "read_numbers" S_read_numbers f fd)
    (F_read_number : Fun K "read_number" "read_number" S_read_number f_read_number fd_read_number) (b_read_number : Binds K fd_read_number ["text"] []) (g_read_number : mg "read_number" = some (.ref f_read_number)) (G_read_number : FnOk P w K mg base CX0 2 f_read_number fd_read_number ["text"] (sp_read_number K T)) :
    FnOk P w K mg base CX0 3 f fd ["text", "between"] (sp_read_numbers K T) := by
  refine F.ok sc_read_numbers (fun vs H Q E h => ?_) (fun cdv A outer s H vs Q E hr h => ?_)
  ·
    obtain ⟨ns, s, b, rfl, _⟩ := h
    rfl
  ·
    obtain ⟨ns, s, b, rfl, eb, sb, ne, hn, nl, hTb, q⟩ := h
    refine ⟨_, (pss_one (ps_ret (pe_lc (own := [("word", 2)]) (g := gName 2)  rfl sc_read_numbers.nd  (pi_list (pe_split (pv 0) (pv 1))) (blkOk_by (own := [("word", 2)]) (N := ["text", "between", "word"]) (sc := defScope S_read_numbers) (by decide +kernel)) (fun _ _ _ _ _ => pg_name (i := 2) sc_read_numbers.nd rfl (Or.inl rfl)) (fun _ _ _ _ _ => pts_nil) (fun _ _ _ _ _ => (pe_call G_read_number (hr.mono (by decide)) (by rfl) g_read_number F_read_number.kp b_read_number .nil pass0 (pa_cons (pv 2) pa_nil)))))), ?_⟩
    refine w_st (σ' := [some (.str (tx (jN s ns))), some (.str (Str.ofString b)), none]) rfl ?_
    have ll := jN_len (s := s) hn
    walk_at "ct"
    refine ⟨⟨_, rfl⟩, ?_⟩
    walk_at "ct"
    refine ⟨_, _, rfl, rfl, by rw [tx_of, eb]; rfl, by rw [tx_len]; exact small6 (by omega), fun p n_p => ?_⟩
    rw [splitN eb sb ne]
    generalize h_G : upd _ p _ = G
    obtain ⟨s_G, e_p⟩ := Ct.upd_new h_G n_p
    clear h_G
    walk_at "ct"
    refine w_IL (.of e_p) ?_
    refine lb_list (((ns.map nL).map tx).map V.str) (fun D i J => Same G J ∧ J D = some (.lst ((ns.take i).map fun n : Nat => V.int (n : Int)))) (fun D nD => ⟨same_upd nD, upd_same⟩) (fun D nD i J _ h => .of (h.1 _ _ e_p)) ?_ ?_
    · rintro D nD i x J hx ⟨sJ, hD⟩
      rw [List.map_map, List.map_map] at hx
      obtain ⟨n, hi, rfl⟩ := map_getN hx
      show gName _ (V.str (tx (nL n))) _ _ _
      walk_at "ct"
      refine ⟨rfl, ?_⟩
      walk_at "ct"
      refine ⟨n, rfl, hn n (List.mem_of_getElem? hi), hTb.same (s_G.trans sJ), fun J2 s2 => ?_⟩
      refine ⟨_, s2 _ _ hD, by rw [List.length_map, List.length_take]; exact Nat.lt_of_le_of_lt (show _ ≤ 2000 by omega) (by decide), same_new (sJ.trans s2) nD, ?_⟩
      rw [upd_same, take_succN _ hi]
    rintro D nD J ⟨sJ, hD⟩
    rw [List.length_map, List.length_map, List.length_map, List.take_length] at hD
    exact q D J (s_G.trans sJ) (s_G.free nD) hD
abbrev S_read_wheel : Stmt := topS 22
theorem sc_read_wheel : FnScope ["text", "teeth", "colon", "marks"] ["text"] (defScope S_read_wheel) := ⟨rfl, rfl, rfl, by decide +kernel, rfl, by decide +kernel, by decide +kernel⟩
def sp_read_wheel (K : PySem.W.Frag) (T : List Addr) : Sp := fun vs H Q _ => ∃ (z : Nat) (ns : List Nat), vs = [.str (tx (119 :: (nL z ++ 58 :: jN 44 ns)))] ∧ z < M40 ∧ (∀ n ∈ ns, n < M40) ∧ ns.length ≤ 30 ∧ Tb T H ∧ ∀ v H', Same H H' → Dp K H' v (Part.wheel (z : Int) (ns.map fun n : Nat => (n : Int))).data → Q v H'
theorem ok_read_wheel {f : Addr} {fd : FuncData} {f_read_numbers : Addr} {fd_read_numbers : FuncData} {f_read_number : Addr} {fd_read_number : FuncData} {T : List Addr} (F : Fun K "read_wheel" "read_wheel" S_read_wheel f fd)
    (F_read_numbers : Fun K "read_numbers" "read_numbers" S_read_numbers f_read_numbers fd_read_numbers) (b_read_numbers : Binds K fd_read_numbers ["text", "between"] []) (g_read_numbers : mg "read_numbers" = some (.ref f_read_numbers)) (G_read_numbers : FnOk P w K mg base CX0 3 f_read_numbers fd_read_numbers ["text", "between"] (sp_read_numbers K T))
    (F_read_number : Fun K "read_number" "read_number" S_read_number f_read_number fd_read_number) (b_read_number : Binds K fd_read_number ["text"] []) (g_read_number : mg "read_number" = some (.ref f_read_number)) (G_read_number : FnOk P w K mg base CX0 2 f_read_number fd_read_number ["text"] (sp_read_number K T)) (m_tuple : mg "tuple" = none) :
    FnOk P w K mg base CX0 4 f fd ["text"] (sp_read_wheel K T) := by
  refine F.ok sc_read_wheel (fun vs H Q E h => ?_) (fun cdv A outer s H vs Q E hr h => ?_)
  ·
    obtain ⟨z, ns, rfl, _⟩ := h
    rfl
  ·
    obtain ⟨z, ns, rfl, hz, hn, nl, hTb, q⟩ := h
    refine ⟨_, (pss_cons (ps_asg (pe_partition (pe_slice (r := rSlS) sl_str (pv 0) (po_some pe_int) po_none) pe_str) (pg_tup rfl (pgs_cons (pg_name (i := 1) sc_read_wheel.nd rfl (.inl rfl)) (pgs_cons (pg_name (i := 2) sc_read_wheel.nd rfl (.inl rfl)) (pgs_cons (pg_name (i := 3) sc_read_wheel.nd rfl (.inl rfl)) pgs_nil)))))
      (pss_cons (ps_if (pt_cmpR op_eq (pv 2) pe_str (nomark _)) (pss_one ps_never) pss_nil)
      (pss_one (ps_ret (pe_tup (pa_cons pe_str (pa_cons (pe_call G_read_number (hr.mono (by decide)) (by rfl) g_read_number F_read_number.kp b_read_number .nil pass0 (pa_cons (pv 1) pa_nil)) (pa_cons (pe_ifExp (pt_truth (pv 3) (by intro _; rfl)) (pe_callTy call_tuple_of (by rfl) m_tuple (by decide +kernel) (pa_cons (pe_call G_read_numbers (hr.mono (by decide)) (by rfl) g_read_numbers F_read_numbers.kp b_read_numbers .nil pass0 (pa_cons (pv 3) (pa_cons pe_str pa_nil))) pa_nil)) (pe_tup pa_nil)) pa_nil)))))))), ?_⟩
    obtain ⟨l, hl⟩ : ∃ l, nL z ++ 58 :: jN 44 ns = l := ⟨_, rfl⟩
    rw [hl]
    refine w_st (σ' := [some (.str (tx (119 :: l))), none, none, none]) rfl ?_
    have l1 := nL_len hz
    have l2 := jN_len (s := 44) hn
    have l3 : l.length = (nL z).length + ((jN 44 ns).length + 1) := by rw [← hl, List.length_append, List.length_cons]
    walk_at "ct"
    refine ⟨_, rfl, by rw [tx_len, List.length_cons]; exact small6 (by omega), ?_⟩
    rw [show (some (1 : Int)) = some (((1 : Nat)) : Int) from rfl, cut_fromX _ _ (by rw [List.length_cons]; omega)]
    show (∃ a, V.str (tx l) = V.str a) ∧ _
    refine ⟨⟨_, rfl⟩, ?_⟩
    walk_at "ct"
    refine ⟨_, _, rfl, rfl, by decide, by rw [tx_len, List.drop_succ_cons, List.drop_zero]; exact small6 (by omega), fun p n_p => ?_⟩
    rw [List.drop_succ_cons, List.drop_zero, ← hl, partC]
    generalize h_G : upd _ p _ = G
    obtain ⟨s_G, e_p⟩ := Ct.upd_new h_G n_p
    clear h_G
    refine w_gtup (.of e_p) rfl ?_
    walk_at "ct"
    refine ⟨z, rfl, hz, hTb.same s_G, fun H1 s1 => ?_⟩
    walk_at "ct"
    by_cases e : ns = []
    · subst e
      refine ⟨false, tru_txt (a := []) (by decide) (by decide), ?_⟩
      refine L2.iteF ?_
      walk_at "ct"
      refine ⟨len2 rfl, fun b n_b => ?_⟩
      generalize h_G2 : upd _ b _ = G2
      obtain ⟨s_G2, e_b⟩ := Ct.upd_new h_G2 n_b
      clear h_G2
      walk_at "ct"
      refine ⟨len2 rfl, fun p2 n_p2 => ?_⟩
      generalize h_G3 : upd _ p2 _ = G3
      obtain ⟨s_G3, e_p2⟩ := Ct.upd_new h_G3 n_p2
      clear h_G3
      exact q (.ref p2) G3 (((s_G.trans s1).trans s_G2).trans s_G3) (wheel_dp (.of e_p2) (.of (s_G3 _ _ e_b)))
    have lp := jN_pos (s := 44) e
    refine ⟨true, tru_txt (by omega) (by
      rw [bne_iff_ne]
      omega), ?_⟩
    refine L2.iteT ?_
    walk_at "ct"
    refine ⟨ns, 44, ",", rfl, rfl, by decide, e, hn, nl, hTb.same (s_G.trans s1), fun l2 H2 s2 n_l2 h_l2 => ?_⟩
    walk_at "ct"
    refine ⟨l2, _, rfl, .inl ⟨.of h_l2, fun b n_b => ?_⟩⟩
    generalize h_G2 : upd _ b _ = G2
    obtain ⟨s_G2, e_b⟩ := Ct.upd_new h_G2 n_b
    clear h_G2
    walk_at "ct"
    refine ⟨len2 rfl, fun p2 n_p2 => ?_⟩
    generalize h_G3 : upd _ p2 _ = G3
    obtain ⟨s_G3, e_p2⟩ := Ct.upd_new h_G3 n_p2
    clear h_G3
    exact q (.ref p2) G3 ((((s_G.trans s1).trans s2).trans s_G2).trans s_G3) (wheel_dp (.of e_p2) (.of (by rw [s_G3 _ _ e_b, map_toInt])))
abbrev S_read_part : Stmt := topS 23
theorem sc_read_part : FnScope ["text"] ["text"] (defScope S_read_part) := ⟨rfl, rfl, rfl, by decide +kernel, rfl, by decide +kernel, by decide +kernel⟩
def sp_read_part (K : PySem.W.Frag) (T : List Addr) : Sp := fun vs H Q _ => ∃ (p : Part) (t : List Nat), vs = [.str (tx t)] ∧ PartS p t ∧ Tb T H ∧ ∀ v H', Same H H' → Dp K H' v p.data → Q v H'
theorem ok_read_part {f : Addr} {fd : FuncData} {f_read_number : Addr} {fd_read_number : FuncData} {f_read_wheel : Addr} {fd_read_wheel : FuncData} {T : List Addr} (F : Fun K "read_part" "read_part" S_read_part f fd)
    (F_read_number : Fun K "read_number" "read_number" S_read_number f_read_number fd_read_number) (b_read_number : Binds K fd_read_number ["text"] []) (g_read_number : mg "read_number" = some (.ref f_read_number)) (G_read_number : FnOk P w K mg base CX0 2 f_read_number fd_read_number ["text"] (sp_read_number K T))
    (F_read_wheel : Fun K "read_wheel" "read_wheel" S_read_wheel f_read_wheel fd_read_wheel) (b_read_wheel : Binds K fd_read_wheel ["text"] []) (g_read_wheel : mg "read_wheel" = some (.ref f_read_wheel)) (G_read_wheel : FnOk P w K mg base CX0 4 f_read_wheel fd_read_wheel ["text"] (sp_read_wheel K T)) :
    FnOk P w K mg base CX0 5 f fd ["text"] (sp_read_part K T) := by
  refine F.ok sc_read_part (fun vs H Q E h => ?_) (fun cdv A outer s H vs Q E hr h => ?_)
  ·
    obtain ⟨p, t, rfl, _⟩ := h
    rfl
  ·
    obtain ⟨p, t, rfl, hp, hTb, q⟩ := h
    refine ⟨_, (pss_cons (ps_if (pt_cmpR op_eq (pv 0) pe_str (nomark _)) (pss_one (ps_ret (pe_tup (pa_cons pe_str pa_nil)))) pss_nil)
      (pss_cons (ps_if (pt_cmpR op_eq (pv 0) pe_str (nomark _)) (pss_one (ps_ret (pe_tup (pa_cons pe_str pa_nil)))) pss_nil)
      (pss_cons (ps_if (pt_val (pe_m1 PySem.F.slot_str_startswith PySem.F.type_str_startswith mt_startswith (pv 0) pe_str)) (pss_one (ps_ret (pe_call G_read_wheel (hr.mono (by decide)) (by rfl) g_read_wheel F_read_wheel.kp b_read_wheel .nil pass0 (pa_cons (pv 0) pa_nil)))) pss_nil)
      (pss_cons (ps_if (pt_val (pe_m1 PySem.F.slot_str_startswith PySem.F.type_str_startswith mt_startswith (pv 0) pe_str)) (pss_one (ps_ret (pe_tup (pa_cons pe_str (pa_cons (pe_call G_read_number (hr.mono (by decide)) (by rfl) g_read_number F_read_number.kp b_read_number .nil pass0 (pa_cons (pe_slice (r := rSlS) sl_str (pv 0) (po_some pe_int) po_none) pa_nil)) pa_nil))))) pss_nil)
      (pss_one ps_never))))), ?_⟩
    refine w_st (σ' := [some (.str (tx t))]) rfl ?_
    rcases hp.2 with ⟨z, ns, rfl, hz, hn, nl, rfl⟩ | ⟨rfl, rfl⟩ | ⟨rfl, rfl⟩ | ⟨k, rfl, hk, rfl⟩
    · obtain ⟨r, er⟩ : ∃ r, nL z ++ 58 :: jN 44 ns = r := ⟨_, rfl⟩
      rw [er]
      walk_at "ct"
      refine w_eqXs (s := "c") (b := [99]) (by decide) ?_
      rw [decide_eq_false fun y => absurd (List.cons.inj y).1 (by decide)]
      walk_at "ct"
      refine w_eqXs (s := "r") (b := [114]) (by decide) ?_
      rw [decide_eq_false fun y => absurd (List.cons.inj y).1 (by decide)]
      walk_at "ct"
      refine ⟨⟨_, rfl⟩, ?_⟩
      walk_at "ct"
      refine ⟨_, _, rfl, rfl, ?_⟩
      rw [startT 119 r "w" (d := 119) (by decide), decide_eq_true rfl]
      walk_at "ct"
      exact ⟨z, ns, by rw [er]; rfl, hz, hn, nl, hTb, q⟩
    · walk_at "ct"
      refine ⟨len2 rfl, fun p n_p => ?_⟩
      generalize h_G : upd _ p _ = G
      obtain ⟨s_G, e_p⟩ := Ct.upd_new h_G n_p
      clear h_G
      exact q (.ref p) G s_G (click_dp (.of e_p))
    · walk_at "ct"
      refine ⟨len2 rfl, fun p n_p => ?_⟩
      generalize h_G : upd _ p _ = G
      obtain ⟨s_G, e_p⟩ := Ct.upd_new h_G n_p
      clear h_G
      exact q (.ref p) G s_G (rocker_dp (.of e_p))
    · have l1 := nL_len hk
      walk_at "ct"
      refine w_eqXs (s := "c") (b := [99]) (by decide) ?_
      rw [decide_eq_false fun y => absurd (List.cons.inj y).1 (by decide)]
      walk_at "ct"
      refine w_eqXs (s := "r") (b := [114]) (by decide) ?_
      rw [decide_eq_false fun y => absurd (List.cons.inj y).1 (by decide)]
      walk_at "ct"
      refine ⟨⟨_, rfl⟩, ?_⟩
      walk_at "ct"
      refine ⟨_, _, rfl, rfl, ?_⟩
      rw [startT 115 (nL k) "w" (d := 119) (by decide), decide_eq_false (by decide)]
      walk_at "ct"
      refine ⟨⟨_, rfl⟩, ?_⟩
      walk_at "ct"
      refine ⟨_, _, rfl, rfl, ?_⟩
      rw [startT 115 (nL k) "s" (d := 115) (by decide), decide_eq_true rfl]
      walk_at "ct"
      refine ⟨_, rfl, by rw [tx_len, List.length_cons]; exact small6 (by omega), ?_⟩
      rw [show (some (1 : Int)) = some (((1 : Nat)) : Int) from rfl, cut_fromX _ _ (by rw [List.length_cons]; omega), List.drop_succ_cons, List.drop_zero]
      walk_at "ct"
      refine ⟨k, rfl, hk, hTb, fun H1 s1 => ?_⟩
      walk_at "ct"
      refine ⟨len2 rfl, fun p n_p => ?_⟩
      generalize h_G : upd _ p _ = G
      obtain ⟨s_G, e_p⟩ := Ct.upd_new h_G n_p
      clear h_G
      exact q (.ref p) G (s1.trans s_G) (spring_dp (.of e_p))
abbrev S_read_train : Stmt := topS 24
theorem sc_read_train : FnScope ["text", "train", "word"] ["text"] (defScope S_read_train) := ⟨rfl, rfl, rfl, by decide +kernel, rfl, by decide +kernel, by decide +kernel⟩
def sp_read_train (K : PySem.W.Frag) (T : List Addr) : Sp := fun vs H Q _ => ∃ (ps : List Part) (ts : List (List Nat)), vs = [.str (tx (TL.joinL [32] ts))] ∧ TrainT ps ts ∧ ps ≠ [] ∧ ps.length ≤ 8 ∧ Fine (.list (ps.map Part.data)) 30 600 ∧ Tb T H ∧ ∀ l xs H', Same H H' → H l = none → H' l = some (.lst xs) → DpAll K H' xs (ps.map Part.data) → Q (.ref l) H'
theorem ok_read_train {f : Addr} {fd : FuncData} {f_check_train : Addr} {fd_check_train : FuncData} {f_read_part : Addr} {fd_read_part : FuncData} {c_NoTrain : Addr} {T : List Addr} (F : Fun K "read_train" "read_train" S_read_train f fd)
    (F_check_train : Fun K "check_train" "check_train" S_check_train f_check_train fd_check_train) (b_check_train : Binds K fd_check_train ["train"] []) (g_check_train : mg "check_train" = some (.ref f_check_train)) (G_check_train : FnOk P w K mg base (L2.CX P w) 4 f_check_train fd_check_train ["train"] (sp_check_train K c_NoTrain))
    (F_read_part : Fun K "read_part" "read_part" S_read_part f_read_part fd_read_part) (b_read_part : Binds K fd_read_part ["text"] []) (g_read_part : mg "read_part" = some (.ref f_read_part)) (G_read_part : FnOk P w K mg base CX0 5 f_read_part fd_read_part ["text"] (sp_read_part K T)) :
    FnOk P w K mg base CX0 6 f fd ["text"] (sp_read_train K T) := by
  refine F.ok sc_read_train (fun vs H Q E h => ?_) (fun cdv A outer s H vs Q E hr h => ?_)
  ·
    obtain ⟨ps, ts, rfl, _⟩ := h
    rfl
  ·
    obtain ⟨ps, ts, rfl, tr, ne, pl, fine, hTb, q⟩ := h
    refine ⟨_, (pss_cons (ps_setLc (i := 1) (own := [("word", 2)]) (g := gName 2)  rfl sc_read_train.nd rfl rfl (sw_true rfl rfl rfl (by decide +kernel)) (pi_list (pe_split (pv 0) pe_str)) (blkOk_by (own := [("word", 2)]) (N := ["text", "train", "word"]) (sc := defScope S_read_train) (by decide +kernel)) (fun _ _ _ _ _ => pg_name (i := 2) sc_read_train.nd rfl (Or.inl rfl)) (fun _ _ _ _ _ => pts_nil) (fun _ _ _ _ _ => (pe_call G_read_part (hr.mono (by decide)) (by rfl) g_read_part F_read_part.kp b_read_part .nil pass0 (pa_cons (pv 2) pa_nil))))
      (pss_cons (ps_expr (pe_call (E := E0) G_check_train (hr.mono (by decide)) (by rfl) g_check_train F_check_train.kp b_check_train .nil passE0 (pa_cons (pv 1) pa_nil)))
      (pss_one (ps_ret (pv 1))))), ?_⟩
    refine w_st (σ' := [some (.str (tx (TL.joinL [32] ts))), none, none]) rfl ?_
    have len : ps.length = ts.length := Paired.length tr
    have ne2 : ts ≠ [] := fun z => ne (List.eq_nil_of_length_eq_zero (by rw [len, z]; rfl))
    have ll := joinG_len (m := 1300) (s := 32) (ts := ts) fun t ht => (trainT_fact tr t ht).2.1
    have hmul : (1300 + 1) * ts.length ≤ (1300 + 1) * 8 := Nat.mul_le_mul_left _ (by omega)
    walk_at "ct"
    refine ⟨⟨_, rfl⟩, ?_⟩
    walk_at "ct"
    refine ⟨_, _, rfl, rfl, by decide, by rw [tx_len]; exact small6 (by omega), fun p n_p => ?_⟩
    rw [splitG (s := 32) (by decide) (by decide) ne2 fun t ht z => by have := (trainT_fact tr t ht).2.2 32 z; omega]
    generalize h_G : upd _ p _ = G
    obtain ⟨s_G, e_p⟩ := Ct.upd_new h_G n_p
    clear h_G
    walk_at "ct"
    refine w_IL (.of e_p) ?_
    refine lb_list ((ts.map tx).map V.str) (fun D i J => ∃ xs, Same G J ∧ J D = some (.lst xs) ∧ xs.length = i ∧ DpAll K J xs ((ps.take i).map Part.data)) (fun D nD => ⟨[], same_upd nD, upd_same, rfl, .nil⟩) (fun D nD i J _ h => by obtain ⟨xs, sJ, _⟩ := h; exact .of (sJ _ _ e_p)) ?_ ?_
    · rintro D nD i x J hx ⟨xs, sJ, hD, xl, dxs⟩
      rw [List.map_map] at hx
      obtain ⟨t, ht, rfl⟩ := map_getN hx
      have hi := (List.getElem?_eq_some_iff.mp ht).1
      obtain ⟨pt, hpt⟩ : ∃ pt, ps[i]? = some pt := ⟨_, List.getElem?_eq_getElem (by omega)⟩
      obtain ⟨t', ht', hs⟩ := paired_getT tr hpt
      cases Option.some.inj (ht.symm.trans ht')
      show gName _ (V.str (tx t)) _ _ _
      walk_at "ct"
      refine ⟨rfl, ?_⟩
      walk_at "ct"
      refine ⟨pt, t, rfl, hs, hTb.same (s_G.trans sJ), fun v J2 s2 dv => ?_⟩
      have hD2 := s2 _ _ hD
      refine ⟨xs, hD2, Nat.lt_of_le_of_lt (show xs.length ≤ 2000 by omega) (by decide), xs ++ [v], same_new (sJ.trans s2) nD, upd_same, by rw [List.length_append, xl]; rfl, ?_⟩
      rw [take_succN _ hpt]
      have td : TDTs ((ps.take i).map Part.data ++ [pt.data]) := tdT_of fun z hz => by
        rcases List.mem_append.mp hz with hz | hz
        · obtain ⟨y, hy, rfl⟩ := List.mem_map.mp hz
          obtain ⟨j, hj⟩ := List.getElem?_of_mem (List.mem_of_mem_take hy)
          obtain ⟨_, _, hh⟩ := paired_getT tr hj
          exact partS_tdT hh
        · rw [List.mem_singleton.mp hz]; exact partS_tdT hs
      exact dpAll_updT hD2 td (dpAll_app (dpAll_same s2 dxs) (.cons dv .nil))
    rintro D nD J ⟨xs, sJ, hD, xl, dxs⟩
    rw [List.length_map, List.length_map, ← len, List.take_length] at dxs
    walk_at "ct"
    refine ⟨.ref D, _, rfl, .lst (.of hD) dxs, fine, fun _ H1 s1 => ?_, fun z => absurd (isT_of (trainT_ok tr) (by cases ps with | nil => exact absurd rfl ne | cons => exact Nat.succ_le_succ (Nat.zero_le _))) (by rw [z]; exact Bool.false_ne_true)⟩
    walk_at "ct"
    exact q D xs H1 ((s_G.trans sJ).trans s1) (s_G.free nD) (s1 _ _ hD) (dpAll_same s1 dxs)
abbrev S_read_stand : Stmt := topS 25
theorem sc_read_stand : FnScope ["text"] ["text"] (defScope S_read_stand) := ⟨rfl, rfl, rfl, by decide +kernel, rfl, by decide +kernel, by decide +kernel⟩
def sp_read_stand (K : PySem.W.Frag) (T : List Addr) : Sp := fun vs H Q _ => ∃ ns : List Nat, vs = [.str (tx (jN 47 ns))] ∧ ns ≠ [] ∧ (∀ n ∈ ns, n < M40) ∧ ns.length ≤ 30 ∧ Tb T H ∧ ∀ p H', Same H H' → SqT K H' p (ns.map fun n : Nat => V.int (n : Int)) → Q (.ref p) H'
theorem ok_read_stand {f : Addr} {fd : FuncData} {f_read_numbers : Addr} {fd_read_numbers : FuncData} {T : List Addr} (F : Fun K "read_stand" "read_stand" S_read_stand f fd)
    (F_read_numbers : Fun K "read_numbers" "read_numbers" S_read_numbers f_read_numbers fd_read_numbers) (b_read_numbers : Binds K fd_read_numbers ["text", "between"] []) (g_read_numbers : mg "read_numbers" = some (.ref f_read_numbers)) (G_read_numbers : FnOk P w K mg base CX0 3 f_read_numbers fd_read_numbers ["text", "between"] (sp_read_numbers K T)) (m_tuple : mg "tuple" = none) :
    FnOk P w K mg base CX0 4 f fd ["text"] (sp_read_stand K T) := by
  refine F.ok sc_read_stand (fun vs H Q E h => ?_) (fun cdv A outer s H vs Q E hr h => ?_)
  ·
    obtain ⟨ns, rfl, _⟩ := h
    rfl
  ·
    obtain ⟨ns, rfl, ne, hn, nl, hTb, q⟩ := h
    refine ⟨_, (pss_one (ps_ret (pe_callTy call_tuple_of (by rfl) m_tuple (by decide +kernel) (pa_cons (pe_call G_read_numbers (hr.mono (by decide)) (by rfl) g_read_numbers F_read_numbers.kp b_read_numbers .nil pass0 (pa_cons (pv 0) (pa_cons pe_str pa_nil))) pa_nil)))), ?_⟩
    refine w_st (σ' := [some (.str (tx (jN 47 ns)))]) rfl ?_
    walk_at "ct"
    refine ⟨ns, 47, "/", rfl, rfl, by decide, ne, hn, nl, hTb, fun l H1 s1 nl1 hl => ?_⟩
    walk_at "ct"
    refine ⟨l, _, rfl, .inl ⟨.of hl, fun p n_p => ?_⟩⟩
    generalize h_G : upd _ p _ = G
    obtain ⟨s_G, e_p⟩ := Ct.upd_new h_G n_p
    clear h_G
    exact q p G (s1.trans s_G) (.of e_p)
abbrev S__law_draws : Stmt := topS 27
theorem sc__law_draws : FnScope ["_law_cell"] ["_law_cell"] (defScope S__law_draws) := ⟨rfl, rfl, rfl, by decide +kernel, rfl, by decide +kernel, by decide +kernel⟩
def sp__law_draws (K : PySem.W.Frag) : Sp := fun vs H Q _ => ∃ c : Int, vs = [.int c] ∧ ∀ D H', Same H H' → H D = none → H' D = some (DrO D 0) → Q (.ref D) H'
theorem ok__law_draws {f : Addr} {fd : FuncData} (F : Fun K "_law_draws" "_law_draws" S__law_draws f fd) :
    FnOk P w K mg base CX0 1 f fd ["_law_cell"] (sp__law_draws K) := by
  refine F.ok sc__law_draws (fun vs H Q E h => ?_) (fun cdv A outer s H vs Q E hr h => ?_)
  ·
    obtain ⟨c, rfl, _⟩ := h
    rfl
  ·
    obtain ⟨c, rfl, q⟩ := h
    refine ⟨_, (pss_cons (ps_if (pt_cmpR op_lt (pv 0) (pe_op op_powB pe_int pe_int) (nomark _)) (pss_one (ps_ret (pe_lstDr (pa_cons (pv 0) (pa_cons pe_int (pa_cons pe_bl pa_nil)))))) pss_nil)
      (pss_one (ps_ret (pe_lstDr (pa_cons (pe_op op_mod (pv 0) (pe_op op_powB (pe_op op_powB (pe_op op_powB pe_int pe_int) pe_int) pe_int)) (pa_cons pe_int (pa_cons pe_bl pa_nil))))))), ?_⟩
    refine w_st (σ' := [some (.int c)]) rfl ?_
    walk_at "ct"
    refine w_rIv (.int 1000000000000000000) ⟨by decide, by decide⟩ rfl ?_
    walk_at "ct"
    refine w_ite (fun e => ?_) (fun e => ?_)
    · walk_at "ct"
      refine w_lstDr ?_
      walk_at "ct"
      exact ⟨c, 0, false, rfl, fun p np => q p _ (same_upd np) np upd_same⟩
    · walk_at "ct"
      refine w_lstDr ?_
      walk_at "ct"
      refine w_rI ⟨by decide, by decide +kernel⟩ ?_
      walk_at "ct"
      refine w_rI ⟨by decide, by decide +kernel⟩ ?_
      walk_at "ct"
      refine w_rI ⟨by decide, by decide +kernel⟩ ?_
      refine w_mod (Int.pow_pos (Int.pow_pos (Int.pow_pos (by decide)))) fun r _ _ => ?_
      walk_at "ct"
      exact ⟨r, 0, true, rfl, fun p np => q p _ (same_upd np) np upd_same⟩
abbrev S__law_next : Stmt := topS 28
theorem sc__law_next : FnScope ["_law_draws_here", "_law_k", "_law_number_here"] ["_law_draws_here"] (defScope S__law_next) := ⟨rfl, rfl, rfl, by decide +kernel, rfl, by decide +kernel, by decide +kernel⟩
def sp__law_next (K : PySem.W.Frag) : Sp := fun vs H Q _ => ∃ (D : Addr) (c : Nat), vs = [.ref D] ∧ H D = some (DrO D c) ∧ c < 1000000 ∧ ∀ n : Int, 0 ≤ n → n < 2147483648 → Q (.int n) (upd H D (DrO D (c + 1)))
theorem ok__law_next {f : Addr} {fd : FuncData} (F : Fun K "_law_next" "_law_next" S__law_next f fd) :
    FnOk P w K mg base CX0 1 f fd ["_law_draws_here"] (sp__law_next K) := by
  refine F.ok sc__law_next (fun vs H Q E h => ?_) (fun cdv A outer s H vs Q E hr h => ?_)
  ·
    obtain ⟨D, c, rfl, _⟩ := h
    rfl
  ·
    obtain ⟨D, c, rfl, hD, hc, q⟩ := h
    refine ⟨_, (pss_cons (ps_asg (pe_op op_add (pe_ix (r := rIxDr) ix_dr (pv 0) pe_int (fun _ _ => rfl)) pe_int) (pg_sub (pv 0) pe_int set_dr))
      (pss_cons (ps_set (i := 1) sc__law_next.nd rfl (.inl rfl) (pe_ix (r := rIxDr) ix_dr (pv 0) pe_int (fun _ _ => rfl)))
      (pss_cons (ps_if (pt_val (pe_ix (r := rIxDr) ix_dr (pv 0) pe_int (fun _ _ => rfl))) (pss_cons (ps_set (i := 2) sc__law_next.nd rfl (.inl rfl) (pe_op op_mod (pe_ix (r := rIxDr) ix_dr (pv 0) pe_int (fun _ _ => rfl)) (pe_op op_powB pe_int pe_int)))
      (pss_cons (ps_asg (pe_op op_fdivW (pe_ix (r := rIxDr) ix_dr (pv 0) pe_int (fun _ _ => rfl)) (pe_op op_powB pe_int pe_int)) (pg_sub (pv 0) pe_int set_dr))
      (pss_one (ps_ret (pv 2))))) pss_nil)
      (pss_cons (ps_set (i := 2) sc__law_next.nd rfl (.inl rfl) (pe_op op_mod (pe_op op_mulW (pe_op op_add (pe_op op_add (pe_op op_mod (pe_ix (r := rIxDr) ix_dr (pv 0) pe_int (fun _ _ => rfl)) pe_int) (pe_op op_mulW (pe_op op_mulW (pv 1) (pv 1)) pe_int)) (pv 1)) pe_int) pe_int))
      (pss_cons (ps_set (i := 2) sc__law_next.nd rfl (.inl rfl) (pe_op op_mod (pe_op op_mulW (pv 2) (pv 2)) pe_int))
      (pss_one (ps_ret (pe_op op_fdivW (pe_op op_mod (pe_op op_mulW (pv 2) (pe_op op_add (pv 2) pe_int)) pe_int) pe_int)))))))), ?_⟩
    refine w_st (σ' := [some (.ref D), none, none]) rfl ?_
    walk_at "ct"
    refine w_dr1 hD ?_
    walk_at "ct"
    refine ⟨D, 1, c, rfl, rfl, hD, .inr ⟨rfl, c + 1, by rw [show ((c + 1 : Nat) : Int) = (c : Int) + 1 by omega], ?_⟩⟩
    have h1 : (upd H D (DrO D (c + 1))) D = some (DrO D (c + 1)) := upd_same
    have e2 : upd (upd H D (DrO D (c + 1))) D (DrO D (c + 1)) = upd H D (DrO D (c + 1)) := by
      funext a
      by_cases z : a = D
      · rw [z, upd_same, upd_same]
      · rw [upd_ne z]
    generalize upd H D (DrO D (c + 1)) = H1 at *
    walk_at "ct"
    refine w_dr1 h1 ?_
    walk_at "ct"
    refine w_dr2 h1 fun b => ?_
    obtain ⟨k, hk⟩ : ∃ k : Int, ((c + 1 : Nat) : Int) = k := ⟨_, rfl⟩
    have k0 : 0 ≤ k := by omega
    have k1 : k ≤ 1000000 := by omega
    rw [hk]
    cases b with
    | true =>
      walk_at "ct"
      refine w_dr0 h1 fun n => ?_
      walk_at "ct"
      refine w_rIv (.int 1000000) ⟨by decide, by decide⟩ rfl ?_
      refine w_mod (by decide) fun r r0 r1 => ?_
      walk_at "ct"
      refine w_dr0 h1 fun n2 => ?_
      walk_at "ct"
      refine w_rIv (.int 1000000) ⟨by decide, by decide⟩ rfl ?_
      refine w_div (div_ok (by decide) (by decide)) fun r' => ?_
      walk_at "ct"
      refine ⟨D, 0, c + 1, rfl, rfl, h1, .inl ⟨rfl, ⟨_, rfl⟩, ?_⟩⟩
      rw [e2]
      walk_at "ct"
      exact q r r0 (by omega)
    | false =>
      walk_at "ct"
      refine w_dr0 h1 fun n => ?_
      walk_at "ct"
      refine w_mod (by decide) fun r0 a0 a1 => ?_
      walk_at "ct"
      have kk : 0 ≤ k * k ∧ k * k ≤ 1000000 * 1000000 := ⟨Int.mul_nonneg k0 k0, Int.mul_le_mul k1 k1 k0 (by decide)⟩
      refine w_rI (mul_ok (by omega) (by omega) (by omega) (by omega)) ?_
      walk_at "ct"
      refine w_rI (mul_ok (by omega) (by omega) (by omega) (by omega)) ?_
      walk_at "ct"
      refine w_rI (mul_ok (by omega) (by omega) (by omega) (by omega)) ?_
      walk_at "ct"
      refine w_mod (by decide) fun r1 b0 b1 => ?_
      walk_at "ct"
      refine w_rI (mul_ok (by omega) (by omega) (by omega) (by omega)) ?_
      walk_at "ct"
      refine w_mod (by decide) fun r2 c0 c1 => ?_
      walk_at "ct"
      refine w_rI (mul_ok (by omega) (by omega) (by omega) (by omega)) ?_
      walk_at "ct"
      refine w_mod (by decide) fun r3 d0 d1 => ?_
      walk_at "ct"
      refine w_rI (div_ok (by decide) (by decide)) ?_
      exact q _ (by omega) (by omega)
abbrev S__law_whole : Stmt := topS 29
theorem sc__law_whole : FnScope ["_law_found"] ["_law_found"] (defScope S__law_whole) := ⟨rfl, rfl, rfl, by decide +kernel, rfl, by decide +kernel, by decide +kernel⟩
def sp__law_whole (K : PySem.W.Frag) : Sp := fun vs H Q _ => ∃ (v : V) (d : PyData), vs = [v] ∧ Dp K H v d ∧ Q (.bl (isW d)) H
theorem ok__law_whole {f : Addr} {fd : FuncData} (F : Fun K "_law_whole" "_law_whole" S__law_whole f fd) (m_isinstance : mg "isinstance" = none) (m_int : mg "int" = none) (m_bool : mg "bool" = none) :
    FnOk P w K mg base CX0 1 f fd ["_law_found"] (sp__law_whole K) := by
  refine F.ok sc__law_whole (fun vs H Q E h => ?_) (fun cdv A outer s H vs Q E hr h => ?_)
  ·
    obtain ⟨v, d, rfl, _⟩ := h
    rfl
  ·
    obtain ⟨v, d, rfl, hd, q⟩ := h
    refine ⟨_, (pss_one (ps_ret (pe_and (pe_callB (r := rIsi K) call_isi (by rfl) m_isinstance (by decide +kernel) (pa_cons (pv 0) (pa_cons (pe_bltn (v := .ty "int") (u := .type "int") (by rfl) m_int (by decide +kernel) rfl) pa_nil))) (pe_one (pe_not (pe_callB (r := rIsi K) call_isi (by rfl) m_isinstance (by decide +kernel) (pa_cons (pv 0) (pa_cons (pe_bltn (v := .ty "bool") (u := .type "bool") (by rfl) m_bool (by decide +kernel) rfl) pa_nil)))))))), ?_⟩
    refine w_st (σ' := [some v]) rfl ?_
    walk_at "ct"
    cases hd with
    | non =>
      refine w_isi (b := false) (.base .non) (kit_ty (by decide +kernel)) ?_
      walk_at "ct"
      exact q
    | bl b =>
      refine w_isi (b := true) (.base (.bl b)) (kit_ty (by decide +kernel)) ?_
      walk_at "ct"
      refine w_isi (b := true) (.base (.bl b)) (kit_ty (by decide +kernel)) ?_
      walk_at "ct"
      exact q
    | int i =>
      refine w_isi (b := true) (.base (.int i)) (kit_ty (by decide +kernel)) ?_
      walk_at "ct"
      refine w_isi (b := false) (.base (.int i)) (kit_ty (by decide +kernel)) ?_
      walk_at "ct"
      exact q
    | str x =>
      refine w_isi (b := false) (.base (.str x)) (kit_ty (by decide +kernel)) ?_
      walk_at "ct"
      exact q
    | lst hs ht =>
      refine w_isi (b := false) (tyx_L hs) (kit_ty (by decide +kernel)) ?_
      walk_at "ct"
      exact q
    | tup hs ht =>
      refine w_isi (b := false) (tyx_T hs) (kit_ty (by decide +kernel)) ?_
      walk_at "ct"
      exact q
abbrev S__law_number : Stmt := topS 30
theorem sc__law_number : FnScope ["_law_draws_here", "_law_wide", "_law_number_here", "_law_turn"] ["_law_draws_here"] (defScope S__law_number) := ⟨rfl, rfl, rfl, by decide +kernel, rfl, by decide +kernel, by decide +kernel⟩
def sp__law_number (K : PySem.W.Frag) : Sp := fun vs H Q _ => ∃ (D : Addr) (c : Nat), vs = [.ref D] ∧ H D = some (DrO D c) ∧ c ≤ 900000 ∧ ∀ (n c' : Nat) H', Dr D c' H H' → c' ≤ c + 9 → n < M40 → Q (.int (n : Int)) H'
theorem ok__law_number {f : Addr} {fd : FuncData} {f__law_next : Addr} {fd__law_next : FuncData} (F : Fun K "_law_number" "_law_number" S__law_number f fd)
    (F__law_next : Fun K "_law_next" "_law_next" S__law_next f__law_next fd__law_next) (b__law_next : Binds K fd__law_next ["_law_draws_here"] []) (g__law_next : mg "_law_next" = some (.ref f__law_next)) (G__law_next : FnOk P w K mg base CX0 1 f__law_next fd__law_next ["_law_draws_here"] (sp__law_next K)) (m_range : mg "range" = none) :
    FnOk P w K mg base CX0 2 f fd ["_law_draws_here"] (sp__law_number K) := by
  refine F.ok sc__law_number (fun vs H Q E h => ?_) (fun cdv A outer s H vs Q E hr h => ?_)
  ·
    obtain ⟨D, c, rfl, _⟩ := h
    rfl
  ·
    obtain ⟨D, c, rfl, hD, hc, q⟩ := h
    refine ⟨_, (pss_cons (ps_set (i := 1) sc__law_number.nd rfl (.inl rfl) (pe_op op_mod (pe_call G__law_next (hr.mono (by decide)) (by rfl) g__law_next F__law_next.kp b__law_next .nil pass0 (pa_cons (pv 0) pa_nil)) pe_int))
      (pss_cons (ps_set (i := 2) sc__law_number.nd rfl (.inl rfl) (pe_op op_mod (pe_call G__law_next (hr.mono (by decide)) (by rfl) g__law_next F__law_next.kp b__law_next .nil pass0 (pa_cons (pv 0) pa_nil)) (pe_ix (r := rIxL K) ix_list (pe_lst (pa_cons pe_int (pa_cons pe_int (pa_cons pe_int (pa_cons (pe_op op_powB pe_int pe_int) pa_nil))))) (pv 1) (fun _ _ => rfl))))
      (pss_cons (ps_if (pt_cmpR op_eq (pe_op op_mod (pe_call G__law_next (hr.mono (by decide)) (by rfl) g__law_next F__law_next.kp b__law_next .nil pass0 (pa_cons (pv 0) pa_nil)) pe_int) pe_int (nomark _)) (pss_cons (ps_for PassesOwn.never rfl (pi_range1 (by rfl) m_range (pa_cons pe_int pa_nil)) (pg_name (i := 3) sc__law_number.nd rfl (.inl rfl))
      (pss_one (ps_set (i := 2) sc__law_number.nd rfl (.inl rfl) (pe_op op_add (pe_op op_mulW (pv 2) (pe_op op_powB pe_int pe_int)) (pe_op op_mod (pe_call G__law_next (hr.mono (by decide)) (by rfl) g__law_next F__law_next.kp b__law_next .nil pass0 (pa_cons (pv 0) pa_nil)) (pe_op op_powB pe_int pe_int))))))
      (pss_one (ps_set (i := 2) sc__law_number.nd rfl (.inl rfl) (pe_op op_mod (pv 2) (pe_op op_powB pe_int pe_int))))) pss_nil)
      (pss_one (ps_ret (pv 2)))))), ?_⟩
    refine w_st (σ' := [some (.ref D), none, none, none]) rfl ?_
    have d0 := Dr.refl hD
    walk_at "ct"
    refine ⟨D, c, rfl, hD, by omega, fun n1 _ _ => ?_⟩
    have d1 := d0.next (c + 1)
    generalize upd H D _ = H1 at *
    walk_at "ct"
    refine w_mod (by decide) fun wd wd0 wd1 => ?_
    walk_at "ct"
    refine ⟨D, c + 1, rfl, d1.2, by omega, fun n2 _ _ => ?_⟩
    have d2 := d1.next (c + 2)
    generalize upd H1 D _ = H2 at *
    walk_at "ct"
    refine w_rIv (.int 1000000) ⟨by decide, by decide⟩ rfl ?_
    walk_at "ct"
    refine ⟨len2 rfl, fun g n_g => ?_⟩
    generalize h_H3 : upd _ g _ = H3
    obtain ⟨s_H3, e_g⟩ := Ct.upd_new h_H3 n_g
    clear h_H3
    have d3 := d2.same s_H3
    walk_at "ct"
    obtain ⟨top, htop, t0, t1⟩ : ∃ top : Int, atI [V.int 3, .int 30, .int 1000, .int 1000000] wd = some (.int top) ∧ 1 ≤ top ∧ top ≤ 1000000 := by
      have : wd = 0 ∨ wd = 1 ∨ wd = 2 ∨ wd = 3 := by omega
      rcases this with rfl | rfl | rfl | rfl
      · exact ⟨3, at0, by decide, by decide⟩
      · exact ⟨30, at1, by decide, by decide⟩
      · exact ⟨1000, at2, by decide, by decide⟩
      · exact ⟨1000000, rfl, by decide, by decide⟩
    refine w_ixL (.of e_g) htop ?_
    refine w_mod (by omega) fun n n0 n9 => ?_
    walk_at "ct"
    refine ⟨D, c + 2, rfl, d3.2, by omega, fun n3 _ _ => ?_⟩
    have d4 := d3.next (c + 3)
    generalize upd H3 D _ = H4 at *
    walk_at "ct"
    refine w_mod (by decide) fun r8 _ _ => ?_
    walk_at "ct"
    refine w_ite (fun e => ?_) (fun e => ?_)
    · walk_at "ct"
      refine w_RG1 (by decide) (by decide) ?_
      refine fb_range (fun i σ G => ∃ (k : Nat) (y : Option V), σ = [some (.ref D), some (.int wd), some (.int (k : Int)), y] ∧ Dr D (c + 3 + i) H G ∧ k < 1000000 * 1000000 ^ i) ⟨n.toNat, _, by rw [Int.toNat_of_nonneg n0], d4, by show n.toNat < 1000000 * 1; omega⟩ ?_ ?_
      · rintro i σ G hi ⟨k, y, rfl, dG, kb⟩
        have hi6 : i < 6 := hi
        have pw : 1000000 * 1000000 ^ i ≤ 1000000 * 1000000 ^ 5 := Nat.mul_le_mul_left _ (Nat.pow_le_pow_right (by decide) (by omega))
        have pv : 1000000 * 1000000 ^ 5 = 10 ^ 36 := by decide
        obtain ⟨B, hB⟩ : ∃ B, 1000000 * 1000000 ^ i = B := ⟨_, rfl⟩
        rw [hB] at kb pw
        have kz : (k : Int) < 2 ^ 200 := by
          have : k < 10 ^ 36 := by omega
          have : (10 : Nat) ^ 36 ≤ 2 ^ 200 := by decide
          have h2 : k < 2 ^ 200 := by omega
          exact_mod_cast h2
        walk_at "ct"
        refine w_rIv (.int 1000000) ⟨by decide, by decide⟩ rfl ?_
        walk_at "ct"
        refine w_rI (mul_ok (by omega) (by omega) (by decide) (by decide)) ?_
        walk_at "ct"
        refine ⟨D, c + 3 + i, rfl, dG.2, by omega, fun n4 _ _ => ?_⟩
        have dG2 := dG.next (c + 3 + i + 1)
        walk_at "ct"
        refine w_rIv (.int 1000000) ⟨by decide, by decide⟩ rfl ?_
        refine w_mod (by decide) fun r r0 r1 => ?_
        walk_at "ct"
        refine ⟨k * 1000000 + r.toNat, _, by rw [show ((k * 1000000 + r.toNat : Nat) : Int) = (k : Int) * 1000000 + r by omega], dG2, ?_⟩
        rw [Nat.pow_succ, ← Nat.mul_assoc, hB]
        omega
      rintro σ G ⟨k, y, rfl, dG, kb⟩
      walk_at "ct"
      refine w_rIv (.int (10 ^ 40)) ⟨by decide, by decide⟩ rfl ?_
      refine w_rIv (.int ((k % M40 : Nat) : Int)) (show (0 : Int) < 10 ^ 40 by decide) (by rw [Int.natCast_emod]; rfl) ?_
      walk_at "ct"
      exact q _ _ G dG (by show c + 3 + 6 ≤ _; omega) (Nat.mod_lt _ (by decide))
    · walk_at "ct"
      rw [show n = ((n.toNat : Nat) : Int) by omega]
      refine q _ _ H4 d4 (by omega) (Nat.lt_of_lt_of_le (show n.toNat < 1000000 by omega) (by decide))
abbrev S__law_rising : Stmt := topS 31
theorem sc__law_rising : FnScope ["_law_draws_here", "_law_many", "_law_found", "_law_here", "_law_k"] ["_law_draws_here", "_law_many"] (defScope S__law_rising) := ⟨rfl, rfl, rfl, by decide +kernel, rfl, by decide +kernel, by decide +kernel⟩
def sp__law_rising (K : PySem.W.Frag) : Sp := fun vs H Q _ => ∃ (D : Addr) (c m : Nat), vs = [.ref D, .int (m : Int)] ∧ H D = some (DrO D c) ∧ c ≤ 850000 ∧ 1 ≤ m ∧ m ≤ 31 ∧ ∀ (p : Addr) (ns : List Nat) c' H', Dr D c' H H' → c' ≤ c + 300 → H' p = some (.tup (ns.map fun n : Nat => V.int (n : Int))) → ns.Pairwise (· < ·) → (∀ n ∈ ns, n < 31 * M38) → ns.length < m → Q (.ref p) H'
theorem ok__law_rising {f : Addr} {fd : FuncData} {f__law_next : Addr} {fd__law_next : FuncData} {f__law_number : Addr} {fd__law_number : FuncData} (F : Fun K "_law_rising" "_law_rising" S__law_rising f fd)
    (F__law_next : Fun K "_law_next" "_law_next" S__law_next f__law_next fd__law_next) (b__law_next : Binds K fd__law_next ["_law_draws_here"] []) (g__law_next : mg "_law_next" = some (.ref f__law_next)) (G__law_next : FnOk P w K mg base CX0 1 f__law_next fd__law_next ["_law_draws_here"] (sp__law_next K))
    (F__law_number : Fun K "_law_number" "_law_number" S__law_number f__law_number fd__law_number) (b__law_number : Binds K fd__law_number ["_law_draws_here"] []) (g__law_number : mg "_law_number" = some (.ref f__law_number)) (G__law_number : FnOk P w K mg base CX0 2 f__law_number fd__law_number ["_law_draws_here"] (sp__law_number K)) (m_range : mg "range" = none) (m_tuple : mg "tuple" = none) :
    FnOk P w K mg base CX0 3 f fd ["_law_draws_here", "_law_many"] (sp__law_rising K) := by
  refine F.ok sc__law_rising (fun vs H Q E h => ?_) (fun cdv A outer s H vs Q E hr h => ?_)
  ·
    obtain ⟨D, c, m, rfl, _⟩ := h
    rfl
  ·
    obtain ⟨D, c, m, rfl, hD, hc, m0, m1, q⟩ := h
    refine ⟨_, (pss_cons (ps_set (i := 2) sc__law_rising.nd rfl (.inl rfl) (pe_lst pa_nil))
      (pss_cons (ps_set (i := 3) sc__law_rising.nd rfl (.inl rfl) (pe_op op_sub pe_int pe_int))
      (pss_cons (ps_for PassesOwn.never rfl (pi_range1 (by rfl) m_range (pa_cons (pe_op op_mod (pe_call G__law_next (hr.mono (by decide)) (by rfl) g__law_next F__law_next.kp b__law_next .nil pass0 (pa_cons (pv 0) pa_nil)) (pv 1)) pa_nil)) (pg_name (i := 4) sc__law_rising.nd rfl (.inl rfl))
      (pss_cons (ps_set (i := 3) sc__law_rising.nd rfl (.inl rfl) (pe_op op_add (pe_op op_add (pv 3) pe_int) (pe_op op_mod (pe_call G__law_number (hr.mono (by decide)) (by rfl) g__law_number F__law_number.kp b__law_number .nil pass0 (pa_cons (pv 0) pa_nil)) (pe_op op_powB pe_int pe_int))))
      (pss_one (ps_expr (pe_bm PySem.F.plainAttrs_list PySem.F.slot_list_append PySem.F.type_list_append mt_append (pv 2) (pa_cons (pv 3) pa_nil))))))
      (pss_one (ps_ret (pe_callTy call_tuple_of (by rfl) m_tuple (by decide +kernel) (pa_cons (pv 2) pa_nil))))))), ?_⟩
    refine w_st (σ' := [some (.ref D), some (.int (m : Int)), none, none, none]) rfl ?_
    walk_at "ct"
    refine ⟨len2 rfl, fun l n_l => ?_⟩
    generalize h_H1 : upd _ l _ = H1
    obtain ⟨s_H1, e_l⟩ := Ct.upd_new h_H1 n_l
    clear h_H1
    have d1 := (Dr.refl hD).same s_H1
    walk_at "ct"
    refine ⟨D, c, rfl, d1.2, by omega, fun n1 _ _ => ?_⟩
    have hl2 := (Dr.step d1.2 (c + 1)).at d1.2 e_l
    have d2 := d1.trans (Dr.step d1.2 (c + 1))
    generalize upd H1 D _ = H2 at *
    walk_at "ct"
    refine w_mod (by omega) fun r r0 r1 => ?_
    walk_at "ct"
    refine w_RG1 (by omega) (by omega) ?_
    refine fb_range (fun i σ G => ∃ (h : Int) (y : Option V) (ns : List Nat) (c' : Nat), σ = [some (.ref D), some (.int (m : Int)), some (.ref l), some (.int h), y] ∧ Dr D c' H G ∧ c' ≤ c + 1 + 9 * i ∧ G l = some (.lst (ns.map fun n : Nat => V.int (n : Int))) ∧ -1 ≤ h ∧ h < (i * M38 : Nat) ∧ (∀ n ∈ ns, (n : Int) ≤ h) ∧ ns.Pairwise (· < ·) ∧ ns.length = i) ⟨-1, none, [], c + 1, rfl, d2, by omega, hl2, by decide, by omega, (fun _ z => nomatch z), .nil, rfl⟩ ?_ ?_
    · rintro i σ G hi ⟨h, y, ns, c', rfl, dG, cb, hl, h0, h1, hb, pw, nl⟩
      have hS := Nat.succ_mul i M38
      have hS2 : i * M38 ≤ 30 * M38 := Nat.mul_le_mul_right _ (by omega)
      obtain ⟨S, eS⟩ : ∃ S, i * M38 = S := ⟨_, rfl⟩
      rw [eS] at h1 hS hS2
      have big : 31 * M38 < 2 ^ 199 := by decide
      have b38 : ((10 : Int) ^ 38) = ((M38 : Nat) : Int) := by decide
      have m40 := m3840
      walk_at "ct"
      refine ⟨D, c', rfl, dG.2, by omega, fun n c2 G2 e2 ce nb => ?_⟩
      have hl2 := e2.at dG.2 hl
      have dG2 := dG.trans e2
      walk_at "ct"
      refine w_rIv (.int (10 ^ 38)) ⟨by decide, by decide⟩ rfl ?_
      rw [b38]
      refine w_rIv (.int ((n % M38 : Nat) : Int)) (show (0 : Int) < ((M38 : Nat) : Int) by decide) (by rw [Int.natCast_emod]) ?_
      have rb : n % M38 < M38 := Nat.mod_lt _ (by decide)
      obtain ⟨x, hx⟩ : ∃ x, n % M38 = x := ⟨_, rfl⟩
      rw [hx] at rb ⊢
      walk_at "ct"
      refine ⟨ty_list hl2, ?_⟩
      walk_at "ct"
      refine w_append hl2 (by rw [List.length_map]; exact small1000 (by omega)) ?_
      obtain ⟨k, hk⟩ : ∃ k : Nat, h + 1 + (x : Int) = (k : Int) := ⟨(h + 1 + (x : Int)).toNat, by omega⟩
      rw [hk]
      refine ⟨(k : Int), _, ns ++ [k], c2, rfl, dG2.put n_l hl2, by omega, by rw [upd_same, List.map_append]; rfl, by omega, ?_, fun z hz => ?_, List.pairwise_append.mpr ⟨pw, List.pairwise_singleton _ _, fun a ha b hb2 => ?_⟩, by rw [List.length_append, nl]; rfl⟩
      · rw [show (i + 1) * M38 = S + M38 from hS]
        omega
      · rcases List.mem_append.mp hz with hz | hz
        · have := hb z hz
          omega
        · rw [List.mem_singleton.mp hz]
          exact Int.le_refl _
      · rw [List.mem_singleton.mp hb2]
        have := hb a ha
        omega
    · rintro σ G ⟨h, y, ns, c', rfl, dG, cb, hl, h0, h1, hb, pw, nl⟩
      walk_at "ct"
      refine ⟨l, _, rfl, .inl ⟨.of hl, fun p n_p => ?_⟩⟩
      generalize h_G3 : upd _ p _ = G3
      obtain ⟨s_G3, e_p⟩ := Ct.upd_new h_G3 n_p
      clear h_G3
      have hS2 : r.toNat * M38 ≤ 30 * M38 := Nat.mul_le_mul_right _ (by omega)
      refine q p ns c' G3 (dG.same s_G3) (by omega) e_p pw (fun n hn => ?_) (by omega)
      have := hb n hn
      have b : 30 * M38 < 31 * M38 := by decide
      omega
abbrev S__law_part : Stmt := topS 32
theorem sc__law_part : FnScope ["_law_draws_here", "_law_most", "_law_way", "_law_marks"] ["_law_draws_here", "_law_most"] (defScope S__law_part) := ⟨rfl, rfl, rfl, by decide +kernel, rfl, by decide +kernel, by decide +kernel⟩
def sp__law_part (K : PySem.W.Frag) : Sp := fun vs H Q _ => ∃ (D : Addr) (c m : Nat), vs = [.ref D, .int (m : Int)] ∧ H D = some (DrO D c) ∧ c ≤ 800000 ∧ 6 ≤ m ∧ m ≤ 31 ∧ ∀ (v : V) (p : Part) (t : List Nat) c' H', Dr D c' H H' → c' ≤ c + 400 → Dp K H' v p.data → PartS p t → Fine p.data 2 (m + 10) → Q v H'
theorem ok__law_part {f : Addr} {fd : FuncData} {f__law_number : Addr} {fd__law_number : FuncData} {f__law_next : Addr} {fd__law_next : FuncData} {f__law_rising : Addr} {fd__law_rising : FuncData} (F : Fun K "_law_part" "_law_part" S__law_part f fd)
    (F__law_number : Fun K "_law_number" "_law_number" S__law_number f__law_number fd__law_number) (b__law_number : Binds K fd__law_number ["_law_draws_here"] []) (g__law_number : mg "_law_number" = some (.ref f__law_number)) (G__law_number : FnOk P w K mg base CX0 2 f__law_number fd__law_number ["_law_draws_here"] (sp__law_number K))
    (F__law_next : Fun K "_law_next" "_law_next" S__law_next f__law_next fd__law_next) (b__law_next : Binds K fd__law_next ["_law_draws_here"] []) (g__law_next : mg "_law_next" = some (.ref f__law_next)) (G__law_next : FnOk P w K mg base CX0 1 f__law_next fd__law_next ["_law_draws_here"] (sp__law_next K))
    (F__law_rising : Fun K "_law_rising" "_law_rising" S__law_rising f__law_rising fd__law_rising) (b__law_rising : Binds K fd__law_rising ["_law_draws_here", "_law_many"] []) (g__law_rising : mg "_law_rising" = some (.ref f__law_rising)) (G__law_rising : FnOk P w K mg base CX0 3 f__law_rising fd__law_rising ["_law_draws_here", "_law_many"] (sp__law_rising K)) (m_max : mg "max" = none) :
    FnOk P w K mg base CX0 4 f fd ["_law_draws_here", "_law_most"] (sp__law_part K) := by
  refine F.ok sc__law_part (fun vs H Q E h => ?_) (fun cdv A outer s H vs Q E hr h => ?_)
  ·
    obtain ⟨D, c, m, rfl, _⟩ := h
    rfl
  ·
    obtain ⟨D, c, m, rfl, hD, hc, m0, m1, q⟩ := h
    refine ⟨_, (pss_cons (ps_set (i := 2) sc__law_part.nd rfl (.inl rfl) (pe_op op_mod (pe_call G__law_next (hr.mono (by decide)) (by rfl) g__law_next F__law_next.kp b__law_next .nil pass0 (pa_cons (pv 0) pa_nil)) pe_int))
      (pss_cons (ps_if (pt_cmpR op_lt (pv 2) pe_int (nomark _)) (pss_cons (ps_set (i := 3) sc__law_part.nd rfl (.inl rfl) (pe_call G__law_rising (hr.mono (by decide)) (by rfl) g__law_rising F__law_rising.kp b__law_rising .nil pass0 (pa_cons (pv 0) (pa_cons (pv 1) pa_nil))))
      (pss_one (ps_ret (pe_tup (pa_cons pe_str (pa_cons (pe_op op_add (pe_op op_add (pe_callB (r := rMaxN K) (cr_maxN rfl hr.units) (by rfl) m_max (by decide +kernel) (pa_cons (pe_op (r := rCatA K) op_catA (pe_tup (pa_cons pe_int pa_nil)) (pv 3)) pa_nil)) pe_int) (pe_op op_mod (pe_call G__law_next (hr.mono (by decide)) (by rfl) g__law_next F__law_next.kp b__law_next .nil pass0 (pa_cons (pv 0) pa_nil)) pe_int)) (pa_cons (pv 3) pa_nil))))))) pss_nil)
      (pss_one (ps_ret (pe_ix (r := rIxL K) ix_list (pe_lst (pa_cons (pe_tup (pa_cons pe_str pa_nil)) (pa_cons (pe_tup (pa_cons pe_str pa_nil)) (pa_cons (pe_tup (pa_cons pe_str (pa_cons (pe_op op_add pe_int (pe_op op_mod (pe_call G__law_number (hr.mono (by decide)) (by rfl) g__law_number F__law_number.kp b__law_number .nil pass0 (pa_cons (pv 0) pa_nil)) (pe_op op_sub (pe_op op_powB pe_int pe_int) pe_int))) pa_nil))) pa_nil)))) (pe_op op_sub (pv 2) pe_int) (fun _ _ => rfl)))))), ?_⟩
    refine w_st (σ' := [some (.ref D), some (.int (m : Int)), none, none]) rfl ?_
    have b38 : 31 * M38 + 10 < M40 := by decide
    walk_at "ct"
    refine ⟨D, c, rfl, hD, by omega, fun n1 _ _ => ?_⟩
    have d2 := (Dr.refl hD).next (c + 1)
    generalize upd H D _ = H2 at *
    walk_at "ct"
    refine w_mod (by decide) fun way w0 w1 => ?_
    walk_at "ct"
    refine w_ite (fun e => ?_) (fun e => ?_)
    · walk_at "ct"
      refine ⟨D, c + 1, m, rfl, d2.2, by omega, by omega, m1, fun p ns c3 H3 e3 c3b hp pw nb nl => ?_⟩
      have d3 := d2.trans e3
      walk_at "ct"
      refine ⟨len2 rfl, fun z0 n_z0 => ?_⟩
      generalize h_H4 : upd _ z0 _ = H4
      obtain ⟨s_H4, e_z0⟩ := Ct.upd_new h_H4 n_z0
      clear h_H4
      have hp4 := s_H4 _ _ hp
      walk_at "ct"
      refine w_catA (.of e_z0) (.of hp4) (by rw [List.length_map]; show 1 + _ ≤ _; omega) fun u H5 s5 hu => ?_
      walk_at "ct"
      have hu2 : SqT K H5 u (((0 : Int) :: ns.map fun n : Nat => (n : Int)).map V.int) := by rw [List.map_cons, map_toInt]; exact hu
      refine ⟨u, 0, _, rfl, hu2, ?_⟩
      obtain ⟨f0, f1, f2⟩ := foldl_maxN (ns.map fun n : Nat => (n : Int)) 0
      obtain ⟨top, htop⟩ : ∃ top, (ns.map fun n : Nat => (n : Int)).foldl max 0 = top := ⟨_, rfl⟩
      rw [htop] at f0 f1 f2 ⊢
      have tb : top < ((31 * M38 : Nat) : Int) := by
        rcases f2 with f2 | f2
        · rw [f2]; decide
        · obtain ⟨n, hn, rfl⟩ := List.mem_map.mp f2
          have := nb n hn
          omega
      have d5 := (d3.same s_H4).same s5
      walk_at "ct"
      refine ⟨D, c3, rfl, d5.2, by omega, fun n2 _ _ => ?_⟩
      have hp6 := (Dr.step d5.2 (c3 + 1)).at d5.2 (s5 _ _ hp4)
      have d6 := d5.trans (Dr.step d5.2 (c3 + 1))
      generalize upd H5 D _ = H6 at *
      walk_at "ct"
      refine w_mod (by decide) fun r3 r30 r31 => ?_
      walk_at "ct"
      refine ⟨len2 rfl, fun v n_v => ?_⟩
      generalize h_G : upd _ v _ = G
      obtain ⟨s_G, e_v⟩ := Ct.upd_new h_G n_v
      clear h_G
      obtain ⟨z, hz⟩ : ∃ z : Nat, top + 1 + r3 = (z : Int) := ⟨(top + 1 + r3).toNat, by omega⟩
      rw [hz] at e_v
      have bz : ∀ n ∈ ns, n < z := fun n hn => by
        have := f1 (n : Int) (List.mem_map.mpr ⟨n, hn, rfl⟩)
        omega
      have ps := wheelS pw bz (by omega) (show z < M40 by omega) (by omega)
      refine q (.ref v) _ _ (c3 + 1) G (d6.same s_G) (by omega) (wheel_dp (.of e_v) (.of (by rw [map_toInt]; exact s_G _ _ hp6))) ps ((fine_wheelN (k := m) (by omega) (int200 (by omega)) (rise_nat pw bz) (by rw [List.length_map]; omega)).mono (Nat.le_refl _) (by omega))
    · walk_at "ct"
      refine ⟨len2 rfl, fun v1 n_v1 => ?_⟩
      generalize h_G1 : upd _ v1 _ = G1
      obtain ⟨s_G1, e_v1⟩ := Ct.upd_new h_G1 n_v1
      clear h_G1
      walk_at "ct"
      refine ⟨len2 rfl, fun v2 n_v2 => ?_⟩
      generalize h_G2 : upd _ v2 _ = G2
      obtain ⟨s_G2, e_v2⟩ := Ct.upd_new h_G2 n_v2
      clear h_G2
      walk_at "ct"
      have d4 := (d2.same s_G1).same s_G2
      refine ⟨D, c + 1, rfl, d4.2, by omega, fun n c5 H5 e5 c5b nb => ?_⟩
      have d5 := d4.trans e5
      have v15 := e5.at d4.2 (s_G2 _ _ e_v1)
      have v25 := e5.at d4.2 e_v2
      walk_at "ct"
      refine w_rIv (.int (10 ^ 40)) ⟨by decide, by decide⟩ rfl ?_
      walk_at "ct"
      rw [show (10 : Int) ^ 40 - 1 = ((M40 - 1 : Nat) : Int) by decide]
      refine w_rIv (.int ((n % (M40 - 1) : Nat) : Int)) (show (0 : Int) < ((M40 - 1 : Nat) : Int) by decide) (by rw [Int.natCast_emod]) ?_
      have rb : n % (M40 - 1) < M40 - 1 := Nat.mod_lt _ (by decide)
      obtain ⟨k, hk⟩ : ∃ k : Nat, 1 + n % (M40 - 1) = k := ⟨_, rfl⟩
      walk_at "ct"
      rw [show (1 : Int) + ((n % (M40 - 1) : Nat) : Int) = (k : Int) by omega]
      refine ⟨len2 rfl, fun v3 n_v3 => ?_⟩
      generalize h_G6 : upd _ v3 _ = G6
      obtain ⟨s_G6, e_v3⟩ := Ct.upd_new h_G6 n_v3
      clear h_G6
      walk_at "ct"
      refine ⟨len2 rfl, fun ls n_ls => ?_⟩
      generalize h_G7 : upd _ ls _ = G7
      obtain ⟨s_G7, e_ls⟩ := Ct.upd_new h_G7 n_ls
      clear h_G7
      walk_at "ct"
      have s67 := s_G6.trans s_G7
      have dd := (d5.same s_G6).same s_G7
      rcases (show way - 3 = 0 ∨ way - 3 = 1 ∨ way - 3 = 2 by omega) with e3 | e3 | e3 <;> rw [e3]
      · refine w_ixL (.of e_ls) (v := .ref v1) rfl ?_
        exact q (.ref v1) .click _ c5 G7 dd (by omega) (click_dp (.of (s67 _ _ v15))) clickS (fine_click.mono (Nat.le_refl _) (by omega))
      · refine w_ixL (.of e_ls) (v := .ref v2) rfl ?_
        exact q (.ref v2) .rocker _ c5 G7 dd (by omega) (rocker_dp (.of (s67 _ _ v25))) rockerS (fine_rocker.mono (Nat.le_refl _) (by omega))
      · refine w_ixL (.of e_ls) (v := .ref v3) rfl ?_
        exact q (.ref v3) (.spring (k : Int)) _ c5 G7 dd (by omega) (spring_dp (.of (s_G7 _ _ e_v3))) (springS (by omega) (by omega)) ((fine_spring (by omega) (int200 (by omega))).mono (Nat.le_refl _) (by omega))
abbrev S__law_train : Stmt := topS 33
theorem sc__law_train : FnScope ["_law_draws_here", "_law_many", "_law_most", "_law_k"] ["_law_draws_here"] (defScope S__law_train) := ⟨rfl, rfl, rfl, by decide +kernel, rfl, by decide +kernel, by decide +kernel⟩
def sp__law_train (K : PySem.W.Frag) : Sp := fun vs H Q _ => ∃ (D : Addr) (c : Nat), vs = [.ref D] ∧ H D = some (DrO D c) ∧ c ≤ 700000 ∧ ∀ (a : Addr) (ws : List V) (ps : List Part) (ts : List (List Nat)) c' H', Dr D c' H H' → c' ≤ c + 4000 → H a = none → H' a = some (.lst ws) → DpAll K H' ws (ps.map Part.data) → TrainT ps ts → ps ≠ [] → ps.length ≤ 8 → FineA (ps.map Part.data) 2 165 → Q (.ref a) H'
theorem ok__law_train {f : Addr} {fd : FuncData} {f__law_part : Addr} {fd__law_part : FuncData} {f__law_next : Addr} {fd__law_next : FuncData} (F : Fun K "_law_train" "_law_train" S__law_train f fd)
    (F__law_part : Fun K "_law_part" "_law_part" S__law_part f__law_part fd__law_part) (b__law_part : Binds K fd__law_part ["_law_draws_here", "_law_most"] []) (g__law_part : mg "_law_part" = some (.ref f__law_part)) (G__law_part : FnOk P w K mg base CX0 4 f__law_part fd__law_part ["_law_draws_here", "_law_most"] (sp__law_part K))
    (F__law_next : Fun K "_law_next" "_law_next" S__law_next f__law_next fd__law_next) (b__law_next : Binds K fd__law_next ["_law_draws_here"] []) (g__law_next : mg "_law_next" = some (.ref f__law_next)) (G__law_next : FnOk P w K mg base CX0 1 f__law_next fd__law_next ["_law_draws_here"] (sp__law_next K)) (m_range : mg "range" = none) (m_int : mg "int" = none) :
    FnOk P w K mg base CX0 5 f fd ["_law_draws_here"] (sp__law_train K) := by
  refine F.ok sc__law_train (fun vs H Q E h => ?_) (fun cdv A outer s H vs Q E hr h => ?_)
  ·
    obtain ⟨D, c, rfl, _⟩ := h
    rfl
  ·
    obtain ⟨D, c, rfl, hD, hc, q⟩ := h
    refine ⟨_, (pss_cons (ps_set (i := 1) sc__law_train.nd rfl (.inl rfl) (pe_op op_add pe_int (pe_op op_mod (pe_call G__law_next (hr.mono (by decide)) (by rfl) g__law_next F__law_next.kp b__law_next .nil pass0 (pa_cons (pv 0) pa_nil)) pe_int)))
      (pss_cons (ps_set (i := 2) sc__law_train.nd rfl (.inr rfl) (pe_ix (r := rIxL K) ix_list (pe_lst (pa_cons pe_int (pa_cons pe_int (pa_cons pe_int (pa_cons pe_int pa_nil))))) (pe_op op_mod (pe_call G__law_next (hr.mono (by decide)) (by rfl) g__law_next F__law_next.kp b__law_next .nil pass0 (pa_cons (pv 0) pa_nil)) pe_int) (fun _ _ => rfl)))
      (pss_one (ps_ret (pe_lc (own := [("_law_k", 3)]) (g := gName 3)  rfl sc__law_train.nd  (pi_range1 (by rfl) m_range (pa_cons (pv 1) pa_nil)) (blkOk_by (own := [("_law_k", 3)]) (N := ["_law_draws_here", "_law_many", "_law_most", "_law_k"]) (sc := defScope S__law_train) (by decide +kernel)) (fun _ _ _ _ _ => pg_name (i := 3) sc__law_train.nd rfl (Or.inl rfl)) (fun _ _ _ _ _ => pts_nil) (fun _ _ _ _ _ => (pe_call G__law_part (hr.mono (by decide)) (by rfl) g__law_part F__law_part.kp b__law_part .nil pass0 (pa_cons (pv 0) (pa_cons (pe_ix (r := rIxL K) ix_list (pe_lst (pa_cons pe_int (pa_cons (pv 2) pa_nil))) (pe_callTy call_int1 (by rfl) m_int (by decide +kernel) (pa_cons (pe_cmpR op_eq (pv 3) pe_int (nomark _)) pa_nil)) (fun _ _ => rfl)) pa_nil))))))))), ?_⟩
    refine w_st (σ' := [some (.ref D), none, none, none]) rfl ?_
    walk_at "ct"
    refine ⟨D, c, rfl, hD, by omega, fun n1 _ _ => ?_⟩
    have d2 := (Dr.refl hD).next (c + 1)
    generalize upd H D _ = H2 at *
    walk_at "ct"
    refine w_mod (by decide) fun r r0 r1 => ?_
    walk_at "ct"
    obtain ⟨N, hN, N1, N8⟩ : ∃ N : Nat, 1 + r = (N : Int) ∧ 1 ≤ N ∧ N ≤ 8 := ⟨(1 + r).toNat, by omega, by omega, by omega⟩
    rw [hN]
    refine ⟨len2 rfl, fun g n_g => ?_⟩
    generalize h_G2 : upd _ g _ = G2
    obtain ⟨s_G2, e_g⟩ := Ct.upd_new h_G2 n_g
    clear h_G2
    walk_at "ct"
    have d3 := d2.same s_G2
    refine ⟨D, c + 1, rfl, d3.2, by omega, fun n2 _ _ => ?_⟩
    have hg3 := (Dr.step d3.2 (c + 2)).at d3.2 e_g
    have d4 := d3.trans (Dr.step d3.2 (c + 2))
    generalize upd G2 D _ = H3 at *
    walk_at "ct"
    refine w_mod (by decide) fun r4 r40 r41 => ?_
    obtain ⟨M, hM, M6, M31⟩ : ∃ M : Nat, atI [V.int 6, .int 6, .int 6, .int 31] r4 = some (.int (M : Int)) ∧ 6 ≤ M ∧ M ≤ 31 := by
      rcases (show r4 = 0 ∨ r4 = 1 ∨ r4 = 2 ∨ r4 = 3 by omega) with rfl | rfl | rfl | rfl
      · exact ⟨6, rfl, by decide, by decide⟩
      · exact ⟨6, rfl, by decide, by decide⟩
      · exact ⟨6, rfl, by decide, by decide⟩
      · exact ⟨31, rfl, by decide, by decide⟩
    refine w_ixL (.of hg3) hM ?_
    walk_at "ct"
    refine w_RG1 (by omega) (by omega) ?_
    rw [show ((N : Int)).toNat = N by omega]
    refine lb_range (fun A i G => ∃ (ws : List V) (ps : List Part) (ts : List (List Nat)) (c' : Nat), Dr D c' H3 G ∧ c' ≤ c + 2 + 400 * i ∧ G A = some (.lst ws) ∧ DpAll K G ws (ps.map Part.data) ∧ TrainT ps ts ∧ ps.length = i ∧ FineA (ps.map Part.data) 2 (17 * i + (if i = 0 then 0 else 25))) (fun A nA => ⟨[], [], [], c + 2, (Dr.refl d4.2).same (same_upd nA), by omega, upd_same, .nil, .nil, rfl, .nil⟩) ?_ ?_
    · rintro A nA i G hi ⟨ws, ps, ts, c', dG, cb, hA, hd, tr, pl, fi⟩
      walk_at "ct"
      refine ⟨rfl, ?_⟩
      walk_at "ct"
      refine ⟨len2 rfl, fun g2 n_g2 => ?_⟩
      generalize h_G4 : upd _ g2 _ = G4
      obtain ⟨s_G4, e_g2⟩ := Ct.upd_new h_G4 n_g2
      clear h_G4
      have d5 := dG.same s_G4
      walk_at "ct"
      refine .inr ⟨_, rfl, ?_⟩
      obtain ⟨L, hL, L6, L31, Le⟩ : ∃ L : Nat, atI [V.int 6, .int (M : Int)] (if decide ((0 : Int) + (i : Int) = 0) = true then 1 else 0) = some (.int (L : Int)) ∧ 6 ≤ L ∧ L ≤ 31 ∧ (i ≠ 0 → L = 6) := by
        by_cases z : i = 0
        · subst z
          exact ⟨M, rfl, M6, M31, fun y => absurd rfl y⟩
        · rw [decide_eq_false (show ¬ (0 : Int) + (i : Int) = 0 by omega)]
          exact ⟨6, rfl, by decide, by decide, fun _ => rfl⟩
      refine w_ixL (.of e_g2) hL ?_
      walk_at "ct"
      refine ⟨D, c', L, rfl, d5.2, by omega, L6, L31, fun v p t c2 G5 e5 c2b hv hp fp => ?_⟩
      have hA5 := e5.at d5.2 (s_G4 _ _ hA)
      have hd5 := e5.all d5.2 (dpAll_same s_G4 hd)
      have d6 := d5.trans e5
      have wl : ws.length = i := by rw [dpAll_len hd, List.length_map, pl]
      refine ⟨ws, hA5, small1000 (by omega), ws ++ [v], ps ++ [p], ts ++ [t], c2, d6.put nA hA5, by omega, upd_same, ?_, paired_appT tr (.cons hp .nil), by rw [List.length_append, pl]; rfl, ?_⟩
      · rw [List.map_append]
        exact dpAll_updT hA5 (tdT_of fun z hz => by
          rcases List.mem_append.mp hz with hz | hz
          · obtain ⟨y, hy, rfl⟩ := List.mem_map.mp hz
            obtain ⟨j, hj⟩ := List.getElem?_of_mem hy
            obtain ⟨_, _, hh⟩ := paired_getT tr hj
            exact partS_tdT hh
          · rw [List.mem_singleton.mp hz]
            exact partS_tdT hp) (dpAll_app hd5 (.cons hv .nil))
      · rw [List.map_append]
        refine (fi.app (FineA.one fp)).mono (Nat.le_refl _) ?_
        rw [if_neg (Nat.succ_ne_zero i)]
        by_cases z : i = 0
        · rw [if_pos z]
          omega
        · rw [if_neg z, Le z]
          omega
    rintro A nA G ⟨ws, ps, ts, c', dG, cb, hA, hd, tr, pl, fi⟩
    exact q A ws ps ts c' G (d4.trans dG) (by omega) (Dr.free d4 nA) hA hd tr (fun z => by rw [z] at pl; simp at pl; omega) (by omega) (fi.mono (Nat.le_refl _) (by split <;> omega))
abbrev S__law_stand : Stmt := topS 34
theorem sc__law_stand : FnScope ["_law_draws_here", "_law_k"] ["_law_draws_here"] (defScope S__law_stand) := ⟨rfl, rfl, rfl, by decide +kernel, rfl, by decide +kernel, by decide +kernel⟩
def sp__law_stand (K : PySem.W.Frag) : Sp := fun vs H Q _ => ∃ (D : Addr) (c : Nat), vs = [.ref D] ∧ H D = some (DrO D c) ∧ c ≤ 800000 ∧ ∀ (p : Addr) (ns : List Nat) c' H', Dr D c' H H' → c' ≤ c + 100 → H' p = some (.tup (ns.map fun n : Nat => V.int (n : Int))) → ns ≠ [] → (∀ n ∈ ns, n < M40) → ns.length ≤ 30 → Q (.ref p) H'
theorem ok__law_stand {f : Addr} {fd : FuncData} {f__law_next : Addr} {fd__law_next : FuncData} {f__law_number : Addr} {fd__law_number : FuncData} (F : Fun K "_law_stand" "_law_stand" S__law_stand f fd)
    (F__law_next : Fun K "_law_next" "_law_next" S__law_next f__law_next fd__law_next) (b__law_next : Binds K fd__law_next ["_law_draws_here"] []) (g__law_next : mg "_law_next" = some (.ref f__law_next)) (G__law_next : FnOk P w K mg base CX0 1 f__law_next fd__law_next ["_law_draws_here"] (sp__law_next K))
    (F__law_number : Fun K "_law_number" "_law_number" S__law_number f__law_number fd__law_number) (b__law_number : Binds K fd__law_number ["_law_draws_here"] []) (g__law_number : mg "_law_number" = some (.ref f__law_number)) (G__law_number : FnOk P w K mg base CX0 2 f__law_number fd__law_number ["_law_draws_here"] (sp__law_number K)) (m_tuple : mg "tuple" = none) (m_range : mg "range" = none) :
    FnOk P w K mg base CX0 3 f fd ["_law_draws_here"] (sp__law_stand K) := by
  refine F.ok sc__law_stand (fun vs H Q E h => ?_) (fun cdv A outer s H vs Q E hr h => ?_)
  ·
    obtain ⟨D, c, rfl, _⟩ := h
    rfl
  ·
    obtain ⟨D, c, rfl, hD, hc, q⟩ := h
    refine ⟨_, (pss_one (ps_ret (pe_callTy call_tuple_of (by rfl) m_tuple (by decide +kernel) (pa_cons (pe_lc (own := [("_law_k", 1)]) (g := gName 1)  rfl sc__law_stand.nd  (pi_range1 (by rfl) m_range (pa_cons (pe_op op_add pe_int (pe_op op_mod (pe_call G__law_next (hr.mono (by decide)) (by rfl) g__law_next F__law_next.kp b__law_next .nil pass0 (pa_cons (pv 0) pa_nil)) pe_int)) pa_nil)) (blkOk_by (own := [("_law_k", 1)]) (N := ["_law_draws_here", "_law_k"]) (sc := defScope S__law_stand) (by decide +kernel)) (fun _ _ _ _ _ => pg_name (i := 1) sc__law_stand.nd rfl (Or.inl rfl)) (fun _ _ _ _ _ => pts_nil) (fun _ _ _ _ _ => (pe_call G__law_number (hr.mono (by decide)) (by rfl) g__law_number F__law_number.kp b__law_number .nil pass0 (pa_cons (pv 0) pa_nil)))) pa_nil)))), ?_⟩
    refine w_st (σ' := [some (.ref D), none]) rfl ?_
    walk_at "ct"
    refine ⟨D, c, rfl, hD, by omega, fun n1 _ _ => ?_⟩
    have d2 := (Dr.refl hD).next (c + 1)
    generalize upd H D _ = H2 at *
    walk_at "ct"
    refine w_mod (by decide) fun r r0 r1 => ?_
    walk_at "ct"
    obtain ⟨N, hN, N1, N6⟩ : ∃ N : Nat, 1 + r = (N : Int) ∧ 1 ≤ N ∧ N ≤ 6 := ⟨(1 + r).toNat, by omega, by omega, by omega⟩
    rw [hN]
    refine w_RG1 (by omega) (by omega) ?_
    rw [show ((N : Int)).toNat = N by omega]
    refine lb_range (fun A i G => ∃ (ns : List Nat) (c' : Nat), Dr D c' H2 G ∧ c' ≤ c + 1 + 9 * i ∧ G A = some (.lst (ns.map fun n : Nat => V.int (n : Int))) ∧ (∀ n ∈ ns, n < M40) ∧ ns.length = i) (fun A nA => ⟨[], c + 1, (Dr.refl d2.2).same (same_upd nA), by omega, upd_same, (fun _ z => nomatch z), rfl⟩) ?_ ?_
    · rintro A nA i G hi ⟨ns, c', dG, cb, hA, hn, nl⟩
      walk_at "ct"
      refine ⟨rfl, ?_⟩
      walk_at "ct"
      refine ⟨D, c', rfl, dG.2, by omega, fun n c2 G2 e2 ce nb => ?_⟩
      have hA2 := e2.at dG.2 hA
      have dG2 := dG.trans e2
      refine ⟨_, hA2, by rw [List.length_map]; exact small1000 (by omega), ns ++ [n], c2, dG2.put nA hA2, by omega, by rw [upd_same, List.map_append]; rfl, fun x hx => ?_, by rw [List.length_append, nl]; rfl⟩
      rcases List.mem_append.mp hx with hx | hx
      · exact hn x hx
      · rw [List.mem_singleton.mp hx]
        exact nb
    rintro A nA G ⟨ns, c', dG, cb, hA, hn, nl⟩
    walk_at "ct"
    refine ⟨A, _, rfl, .inl ⟨.of hA, fun p n_p => ?_⟩⟩
    generalize h_G3 : upd _ p _ = G3
    obtain ⟨s_G3, e_p⟩ := Ct.upd_new h_G3 n_p
    clear h_G3
    exact q p ns c' G3 ((d2.trans dG).same s_G3) (by omega) e_p (fun z => by rw [z] at nl; simp at nl; omega) hn (by omega)
abbrev S__law_part_text : Stmt := topS 35
theorem sc__law_part_text : FnScope ["_law_part_here", "_law_one", "_law_mark"] ["_law_part_here"] (defScope S__law_part_text) := ⟨rfl, rfl, rfl, by decide +kernel, rfl, by decide +kernel, by decide +kernel⟩
def sp__law_part_text (K : PySem.W.Frag) : Sp := fun vs H Q _ => ∃ (v : V) (p : Part) (t : List Nat), vs = [v] ∧ Dp K H v p.data ∧ PartS p t ∧ ∀ H', Same H H' → Q (.str (tx t)) H'
theorem ok__law_part_text {f : Addr} {fd : FuncData} (F : Fun K "_law_part_text" "_law_part_text" S__law_part_text f fd) (m_str : mg "str" = none) :
    FnOk P w K mg base CX0 1 f fd ["_law_part_here"] (sp__law_part_text K) := by
  refine F.ok sc__law_part_text (fun vs H Q E h => ?_) (fun cdv A outer s H vs Q E hr h => ?_)
  ·
    obtain ⟨v, p, t, rfl, _⟩ := h
    rfl
  ·
    obtain ⟨v, p, t, rfl, hv, hp, q⟩ := h
    refine ⟨_, (pss_cons (ps_if (pt_cmpR op_eq (pe_ix (r := rIxT K) ix_tup (pv 0) pe_int (fun _ _ => rfl)) pe_str (nomark _)) (pss_one (ps_ret (pe_op (r := rAddS) op_addS (pe_op (r := rAddS) op_addS (pe_op (r := rAddS) op_addS pe_str (pe_callTy (r := rStrI) call_strI (by rfl) m_str (by decide +kernel) (pa_cons (pe_ix (r := rIxT K) ix_tup (pv 0) pe_int (fun _ _ => rfl)) pa_nil))) pe_str) (pe_join pe_str (pe_lc (own := [("_law_mark", 2)]) (g := gName 2)  rfl sc__law_part_text.nd  (pi_tup (pe_ix (r := rIxT K) ix_tup (pv 0) pe_int (fun _ _ => rfl))) (blkOk_by (own := [("_law_mark", 2)]) (N := ["_law_part_here", "_law_one", "_law_mark"]) (sc := defScope S__law_part_text) (by decide +kernel)) (fun _ _ _ _ _ => pg_name (i := 2) sc__law_part_text.nd rfl (Or.inl rfl)) (fun _ _ _ _ _ => pts_nil) (fun _ _ _ _ _ => (pe_callTy (r := rStrI) call_strI (by rfl) m_str (by decide +kernel) (pa_cons (pv 2) pa_nil)))))))) pss_nil)
      (pss_one (ps_ret (pe_op (r := rAddS) op_addS (pe_ix (r := rIxL K) ix_list (pe_lst (pa_cons pe_str (pa_cons pe_str (pa_cons pe_str pa_nil)))) (pe_bm PySem.F.plainAttrs_list PySem.F.slot_list_index PySem.F.type_list_index (mt_indexD (units65 hr)) (pe_lst (pa_cons pe_str (pa_cons pe_str (pa_cons pe_str pa_nil)))) (pa_cons (pe_ix (r := rIxT K) ix_tup (pv 0) pe_int (fun _ _ => rfl)) pa_nil)) (fun _ _ => rfl)) (pe_join pe_str (pe_lc (own := [("_law_one", 1)]) (g := gName 1)  rfl sc__law_part_text.nd  (pi_tup (pe_slice (r := rSlA K) sl_tupA (pv 0) (po_some pe_int) po_none)) (blkOk_by (own := [("_law_one", 1)]) (N := ["_law_part_here", "_law_one", "_law_mark"]) (sc := defScope S__law_part_text) (by decide +kernel)) (fun _ _ _ _ _ => pg_name (i := 1) sc__law_part_text.nd rfl (Or.inl rfl)) (fun _ _ _ _ _ => pts_nil) (fun _ _ _ _ _ => (pe_callTy (r := rStrI) call_strI (by rfl) m_str (by decide +kernel) (pa_cons (pv 1) pa_nil))))))))), ?_⟩
    refine w_st (σ' := [some v, none, none]) rfl ?_
    rcases hp.2 with ⟨z, ns, rfl, hz, hn, nl, rfl⟩ | ⟨rfl, rfl⟩ | ⟨rfl, rfl⟩ | ⟨k, rfl, hk, rfl⟩
    · obtain ⟨a, b, rfl, hs, hb⟩ := wheel_inv hv
      have hb : SqT K H b (ns.map fun n : Nat => V.int (n : Int)) := by rw [← map_toInt]; exact hb
      have l1 := nL_len hz
      have l2 := jN_len (s := 44) hn
      walk_at "ct"
      refine w_strI (Nat.lt_trans hz (by decide)) ?_
      rw [tx_of "w"]
      refine w_addS (a := [119]) (by show 1 + _ ≤ _; omega) ?_
      walk_at "ct"
      rw [tx_of ":"]
      refine w_addS (b := [58]) (by show ([119] ++ nL z).length + 1 ≤ _; rw [List.length_append]; show 1 + _ + 1 ≤ _; omega) ?_
      walk_at "ct"
      refine ⟨⟨_, rfl⟩, ?_⟩
      walk_at "ct"
      refine w_IT hb ?_
      refine lb_tup (ns.map fun n : Nat => V.int (n : Int)) (fun D i J => Same H J ∧ J D = some (.lst ((ns.take i).map fun n : Nat => V.str (tx (nL n))))) (fun D nD => ⟨same_upd nD, upd_same⟩) (fun D nD i J _ h => Same.tup h.1 hb) ?_ ?_
      · rintro D nD i x J hx ⟨sJ, hD⟩
        obtain ⟨n, hi, rfl⟩ := map_getN hx
        walk_at "ct"
        refine ⟨rfl, ?_⟩
        walk_at "ct"
        refine w_strI (Nat.lt_trans (hn n (List.mem_of_getElem? hi)) (by decide)) ?_
        refine ⟨_, hD, by rw [List.length_map, List.length_take]; exact Nat.lt_of_le_of_lt (show _ ≤ 2000 by omega) (by decide), same_new sJ nD, ?_⟩
        rw [upd_same, take_succN _ hi]
      rintro D nD J ⟨sJ, hD⟩
      rw [List.length_map, List.take_length] at hD
      have hD2 : J D = some (.lst (((ns.map nL).map tx).map V.str)) := by rw [hD, List.map_map, List.map_map]; rfl
      refine ⟨_, D, _, rfl, rfl, .inl (.of hD2), fitN hn (by omega) (by decide), ?_⟩
      rw [joinT "," (sep := [44]) (by decide)]

      refine w_addS (by show ([119] ++ nL z ++ [58]).length + (jN 44 ns).length ≤ _; rw [List.length_append, List.length_append]; show 1 + _ + 1 + _ ≤ _; omega) ?_
      have e : [119] ++ nL z ++ [58] ++ jN 44 ns = 119 :: (nL z ++ 58 :: jN 44 ns) := by rw [List.append_assoc, List.append_assoc]; rfl
      walk_at "ct"
      rw [show [119] ++ nL z ++ [58] ++ TL.joinL [44] (ns.map nL) = _ from e]
      exact q J sJ
    · obtain ⟨a, rfl, hs⟩ := click_inv hv
      walk_at "ct"
      refine ⟨len2 rfl, fun l1 n_l1 => ?_⟩
      generalize h_G1 : upd _ l1 _ = G1
      obtain ⟨s_G1, e_l1⟩ := Ct.upd_new h_G1 n_l1
      clear h_G1
      have hs := Same.tup s_G1 hs
      walk_at "ct"
      refine ⟨len2 rfl, fun l2 n_l2 => ?_⟩
      generalize h_G2 : upd _ l2 _ = G2
      obtain ⟨s_G2, e_l2⟩ := Ct.upd_new h_G2 n_l2
      clear h_G2
      have hs := Same.tup s_G2 hs
      walk_at "ct"
      refine ⟨ty_list e_l2, ?_⟩
      walk_at "ct"
      refine ⟨l2, _, .str "click", [.str "click", .str "rocker", .str "spring"], 0, .str "click", rfl, rfl, .lst (.of e_l2) (.cons (.str _) (.cons (.str _) (.cons (.str _) .nil))), .str _, by decide +kernel, by decide +kernel, rfl, by decide +kernel, fun m z' hm hz => ?_, ?_⟩
      · omega
      refine w_ixL (.of (s_G2 _ _ e_l1)) (v := .str "c") rfl ?_
      walk_at "ct"
      refine ⟨⟨_, rfl⟩, ?_⟩
      walk_at "ct"
      refine w_slTd (n := 1) hs (by exact Nat.succ_le_succ (Nat.zero_le _)) fun g G3 s3 hg => ?_
      walk_at "ct"
      refine w_IT hg ?_
      refine lb_tup [] (fun D i J => Same G3 J ∧ J D = some (.lst [])) (fun D nD => ⟨same_upd nD, upd_same⟩) (fun D nD i J _ h => Same.tup h.1 hg) (fun D nD i x J hx _ => by cases hx) ?_
      rintro D nD J ⟨sJ, hD⟩
      refine ⟨_, D, [], rfl, rfl, .inl (.of hD), by decide, ?_⟩
      walk_at "ct"
      refine w_addS (a := [99]) (b := []) (by decide) ?_
      exact q J (((s_G1.trans s_G2).trans s3).trans sJ)
    · obtain ⟨a, rfl, hs⟩ := rocker_inv hv
      walk_at "ct"
      refine ⟨len2 rfl, fun l1 n_l1 => ?_⟩
      generalize h_G1 : upd _ l1 _ = G1
      obtain ⟨s_G1, e_l1⟩ := Ct.upd_new h_G1 n_l1
      clear h_G1
      have hs := Same.tup s_G1 hs
      walk_at "ct"
      refine ⟨len2 rfl, fun l2 n_l2 => ?_⟩
      generalize h_G2 : upd _ l2 _ = G2
      obtain ⟨s_G2, e_l2⟩ := Ct.upd_new h_G2 n_l2
      clear h_G2
      have hs := Same.tup s_G2 hs
      walk_at "ct"
      refine ⟨ty_list e_l2, ?_⟩
      walk_at "ct"
      refine ⟨l2, _, .str "rocker", [.str "click", .str "rocker", .str "spring"], 1, .str "rocker", rfl, rfl, .lst (.of e_l2) (.cons (.str _) (.cons (.str _) (.cons (.str _) .nil))), .str _, by decide +kernel, by decide +kernel, rfl, by decide +kernel, fun m z' hm hz => ?_, ?_⟩
      · have : m = 0 := by omega
        subst this
        cases Option.some.inj hz
        decide +kernel
      refine w_ixL (.of (s_G2 _ _ e_l1)) (v := .str "r") rfl ?_
      walk_at "ct"
      refine ⟨⟨_, rfl⟩, ?_⟩
      walk_at "ct"
      refine w_slTd (n := 1) hs (by exact Nat.succ_le_succ (Nat.zero_le _)) fun g G3 s3 hg => ?_
      walk_at "ct"
      refine w_IT hg ?_
      refine lb_tup [] (fun D i J => Same G3 J ∧ J D = some (.lst [])) (fun D nD => ⟨same_upd nD, upd_same⟩) (fun D nD i J _ h => Same.tup h.1 hg) (fun D nD i x J hx _ => by cases hx) ?_
      rintro D nD J ⟨sJ, hD⟩
      refine ⟨_, D, [], rfl, rfl, .inl (.of hD), by decide, ?_⟩
      walk_at "ct"
      refine w_addS (a := [114]) (b := []) (by decide) ?_
      exact q J (((s_G1.trans s_G2).trans s3).trans sJ)
    · obtain ⟨a, rfl, hs⟩ := spring_inv hv
      walk_at "ct"
      refine ⟨len2 rfl, fun l1 n_l1 => ?_⟩
      generalize h_G1 : upd _ l1 _ = G1
      obtain ⟨s_G1, e_l1⟩ := Ct.upd_new h_G1 n_l1
      clear h_G1
      have hs := Same.tup s_G1 hs
      walk_at "ct"
      refine ⟨len2 rfl, fun l2 n_l2 => ?_⟩
      generalize h_G2 : upd _ l2 _ = G2
      obtain ⟨s_G2, e_l2⟩ := Ct.upd_new h_G2 n_l2
      clear h_G2
      have hs := Same.tup s_G2 hs
      walk_at "ct"
      refine ⟨ty_list e_l2, ?_⟩
      walk_at "ct"
      refine ⟨l2, _, .str "spring", [.str "click", .str "rocker", .str "spring"], 2, .str "spring", rfl, rfl, .lst (.of e_l2) (.cons (.str _) (.cons (.str _) (.cons (.str _) .nil))), .str _, by decide +kernel, by decide +kernel, rfl, by decide +kernel, fun m z' hm hz => ?_, ?_⟩
      · have : m = 0 ∨ m = 1 := by omega
        rcases this with rfl | rfl
        · cases Option.some.inj hz
          decide +kernel
        · cases Option.some.inj hz
          decide +kernel
      refine w_ixL (.of (s_G2 _ _ e_l1)) (v := .str "s") rfl ?_
      walk_at "ct"
      refine ⟨⟨_, rfl⟩, ?_⟩
      walk_at "ct"
      refine w_slTd (n := 1) hs (by exact Nat.succ_le_succ (Nat.zero_le _)) fun g G3 s3 hg => ?_
      walk_at "ct"
      refine w_IT hg ?_
      have l1 := nL_len hk
      refine lb_tup [.int (k : Int)] (fun D i J => Same G3 J ∧ J D = some (.lst (if i = 0 then [] else [.str (tx (nL k))]))) (fun D nD => ⟨same_upd nD, upd_same⟩) (fun D nD i J _ h => Same.tup h.1 hg) ?_ ?_
      · rintro D nD i x J hx ⟨sJ, hD⟩
        have hi : i < 1 := (List.getElem?_eq_some_iff.mp hx).1
        have : i = 0 := by omega
        subst this
        cases Option.some.inj hx
        walk_at "ct"
        refine ⟨rfl, ?_⟩
        walk_at "ct"
        refine w_strI (Nat.lt_trans hk (by decide)) ?_
        exact ⟨[], hD, by decide, same_new sJ nD, upd_same⟩
      rintro D nD J ⟨sJ, hD⟩
      have hD : J D = some (.lst ([tx (nL k)].map V.str)) := hD
      refine ⟨_, D, [tx (nL k)], rfl, rfl, .inl (.of hD), by show (tx (nL k)).length + 0 + 1 * 0 ≤ _; rw [tx_len]; omega, ?_⟩
      rw [show [tx (nL k)] = [nL k].map tx from rfl, joinE, tx_of "s"]
      refine w_addS (a := [115]) (by show 1 + ([nL k].flatten).length ≤ _; show 1 + (nL k ++ []).length ≤ _; rw [List.append_nil]; omega) ?_
      rw [show [115] ++ [nL k].flatten = 115 :: nL k from (show 115 :: (nL k ++ []) = _ by rw [List.append_nil])]
      exact q J (((s_G1.trans s_G2).trans s3).trans sJ)
abbrev S__law_train_text : Stmt := topS 36
theorem sc__law_train_text : FnScope ["_law_train_here", "_law_part_here"] ["_law_train_here"] (defScope S__law_train_text) := ⟨rfl, rfl, rfl, by decide +kernel, rfl, by decide +kernel, by decide +kernel⟩
def sp__law_train_text (K : PySem.W.Frag) : Sp := fun vs H Q _ => ∃ (a : Addr) (vs1 : List V) (ps : List Part) (ts : List (List Nat)), vs = [.ref a] ∧ SqL K H a vs1 ∧ DpAll K H vs1 (ps.map Part.data) ∧ TrainT ps ts ∧ ps.length ≤ 8 ∧ ∀ H', Same H H' → Q (.str (tx (TL.joinL [32] ts))) H'
theorem ok__law_train_text {f : Addr} {fd : FuncData} {f__law_part_text : Addr} {fd__law_part_text : FuncData} (F : Fun K "_law_train_text" "_law_train_text" S__law_train_text f fd)
    (F__law_part_text : Fun K "_law_part_text" "_law_part_text" S__law_part_text f__law_part_text fd__law_part_text) (b__law_part_text : Binds K fd__law_part_text ["_law_part_here"] []) (g__law_part_text : mg "_law_part_text" = some (.ref f__law_part_text)) (G__law_part_text : FnOk P w K mg base CX0 1 f__law_part_text fd__law_part_text ["_law_part_here"] (sp__law_part_text K)) :
    FnOk P w K mg base CX0 2 f fd ["_law_train_here"] (sp__law_train_text K) := by
  refine F.ok sc__law_train_text (fun vs H Q E h => ?_) (fun cdv A outer s H vs Q E hr h => ?_)
  ·
    obtain ⟨a, vs1, ps, ts, rfl, _⟩ := h
    rfl
  ·
    obtain ⟨a, vs1, ps, ts, rfl, hv, hds, tr, pl, q⟩ := h
    refine ⟨_, (pss_one (ps_ret (pe_join pe_str (pe_lc (own := [("_law_part_here", 1)]) (g := gName 1)  rfl sc__law_train_text.nd  (pi_list (pv 0)) (blkOk_by (own := [("_law_part_here", 1)]) (N := ["_law_train_here", "_law_part_here"]) (sc := defScope S__law_train_text) (by decide +kernel)) (fun _ _ _ _ _ => pg_name (i := 1) sc__law_train_text.nd rfl (Or.inl rfl)) (fun _ _ _ _ _ => pts_nil) (fun _ _ _ _ _ => (pe_call G__law_part_text (hr.mono (by decide)) (by rfl) g__law_part_text F__law_part_text.kp b__law_part_text .nil pass0 (pa_cons (pv 1) pa_nil))))))), ?_⟩
    refine w_st (σ' := [some (.ref a), none]) rfl ?_
    have len : ps.length = ts.length := Paired.length tr
    walk_at "ct"
    refine ⟨⟨_, rfl⟩, ?_⟩
    walk_at "ct"
    refine w_IL hv ?_
    refine lb_list vs1 (fun D i J => Same H J ∧ J D = some (.lst (((ts.take i).map tx).map V.str))) (fun D nD => ⟨same_upd nD, upd_same⟩) (fun D nD i J _ h => Same.seq h.1 hv) ?_ ?_
    · rintro D nD i x J hx ⟨sJ, hD⟩
      have hi := (List.getElem?_eq_some_iff.mp hx).1
      obtain ⟨p, hp⟩ : ∃ p, ps[i]? = some p := ⟨_, List.getElem?_eq_getElem (by rw [dpAll_len hds, List.length_map] at hi; exact hi)⟩
      obtain ⟨x', hx', dx⟩ := TrainAt.at (a := a) hds hp
      cases Option.some.inj (hx.symm.trans hx')
      obtain ⟨t, ht, hs⟩ := paired_getT tr hp
      walk_at "ct"
      refine ⟨rfl, ?_⟩
      walk_at "ct"
      refine ⟨x, p, t, rfl, dp_same sJ dx, hs, fun J2 s2 => ?_⟩
      refine ⟨_, s2 _ _ hD, by rw [List.length_map, List.length_map, List.length_take]; exact Nat.lt_of_le_of_lt (show _ ≤ 2000 by omega) (by decide), same_new (sJ.trans s2) nD, ?_⟩
      rw [upd_same, List.take_add_one, ht, List.map_append, List.map_append]
      rfl
    rintro D nD J ⟨sJ, hD⟩
    rw [show vs1.length = ts.length by rw [dpAll_len hds, List.length_map, len], List.take_length] at hD
    refine ⟨_, D, _, rfl, rfl, .inl (.of hD), fitT (fun t ht => Nat.le_trans (trainT_fact tr t ht).2.1 (by decide)) (by omega) (by decide), ?_⟩
    rw [joinT " " (sep := [32]) (by decide)]
    exact q J sJ
abbrev S__law_stand_text : Stmt := topS 37
theorem sc__law_stand_text : FnScope ["_law_stand_here", "_law_place"] ["_law_stand_here"] (defScope S__law_stand_text) := ⟨rfl, rfl, rfl, by decide +kernel, rfl, by decide +kernel, by decide +kernel⟩
def sp__law_stand_text (K : PySem.W.Frag) : Sp := fun vs H Q _ => ∃ (a : Addr) (ns : List Nat), vs = [.ref a] ∧ SqT K H a (ns.map fun n : Nat => V.int (n : Int)) ∧ (∀ n ∈ ns, n < M40) ∧ ns.length ≤ 30 ∧ ∀ H', Same H H' → Q (.str (tx (jN 47 ns))) H'
theorem ok__law_stand_text {f : Addr} {fd : FuncData} (F : Fun K "_law_stand_text" "_law_stand_text" S__law_stand_text f fd) (m_str : mg "str" = none) :
    FnOk P w K mg base CX0 1 f fd ["_law_stand_here"] (sp__law_stand_text K) := by
  refine F.ok sc__law_stand_text (fun vs H Q E h => ?_) (fun cdv A outer s H vs Q E hr h => ?_)
  ·
    obtain ⟨a, ns, rfl, _⟩ := h
    rfl
  ·
    obtain ⟨a, ns, rfl, hs, hn, nl, q⟩ := h
    refine ⟨_, (pss_one (ps_ret (pe_join pe_str (pe_lc (own := [("_law_place", 1)]) (g := gName 1)  rfl sc__law_stand_text.nd  (pi_tup (pv 0)) (blkOk_by (own := [("_law_place", 1)]) (N := ["_law_stand_here", "_law_place"]) (sc := defScope S__law_stand_text) (by decide +kernel)) (fun _ _ _ _ _ => pg_name (i := 1) sc__law_stand_text.nd rfl (Or.inl rfl)) (fun _ _ _ _ _ => pts_nil) (fun _ _ _ _ _ => (pe_callTy (r := rStrI) call_strI (by rfl) m_str (by decide +kernel) (pa_cons (pv 1) pa_nil))))))), ?_⟩
    refine w_st (σ' := [some (.ref a), none]) rfl ?_
    walk_at "ct"
    refine ⟨⟨_, rfl⟩, ?_⟩
    walk_at "ct"
    refine w_IT hs ?_
    refine lb_tup (ns.map fun n : Nat => V.int (n : Int)) (fun D i J => Same H J ∧ J D = some (.lst ((ns.take i).map fun n : Nat => V.str (tx (nL n))))) (fun D nD => ⟨same_upd nD, upd_same⟩) (fun D nD i J _ h => Same.tup h.1 hs) ?_ ?_
    · rintro D nD i x J hx ⟨sJ, hD⟩
      obtain ⟨n, hi, rfl⟩ := map_getN hx
      walk_at "ct"
      refine ⟨rfl, ?_⟩
      walk_at "ct"
      refine w_strI (Nat.lt_trans (hn n (List.mem_of_getElem? hi)) (by decide)) ?_
      refine ⟨_, hD, by rw [List.length_map, List.length_take]; exact Nat.lt_of_le_of_lt (show _ ≤ 2000 by omega) (by decide), same_new sJ nD, ?_⟩
      rw [upd_same, take_succN _ hi]
    rintro D nD J ⟨sJ, hD⟩
    rw [List.length_map, List.take_length] at hD
    have hD2 : J D = some (.lst (((ns.map nL).map tx).map V.str)) := by rw [hD, List.map_map, List.map_map]; rfl
    refine ⟨_, D, _, rfl, rfl, .inl (.of hD2), fitN hn (by omega) (by decide), ?_⟩
    rw [joinT "/" (sep := [47]) (by decide)]
    exact q J sJ
abbrev S__law_plain : Stmt := topS 38
theorem sc__law_plain : FnScope ["_law_found", "_law_one"] ["_law_found"] (defScope S__law_plain) := ⟨rfl, rfl, rfl, by decide +kernel, rfl, by decide +kernel, by decide +kernel⟩
def sp__law_plain (d : Nat) (K : PySem.W.Frag) : Sp := fun vs H Q _ => ∃ (v : V) (x : PyData), vs = [v] ∧ Dp K H v x ∧ PlainD d x ∧ ∀ H', Same H H' → Q (.bl true) H'
theorem st__law_plain {f : Addr} {fd : FuncData} {f__law_whole : Addr} {fd__law_whole : FuncData} {f__law_plain : Addr} {fd__law_plain : FuncData} {k d : Nat} (hk : 1 ≤ k) (F : Fun K "_law_plain" "_law_plain" S__law_plain f fd)
    (F__law_whole : Fun K "_law_whole" "_law_whole" S__law_whole f__law_whole fd__law_whole) (b__law_whole : Binds K fd__law_whole ["_law_found"] []) (g__law_whole : mg "_law_whole" = some (.ref f__law_whole)) (G__law_whole : FnOk P w K mg base CX0 1 f__law_whole fd__law_whole ["_law_found"] (sp__law_whole K))
    (F__law_plain : Fun K "_law_plain" "_law_plain" S__law_plain f__law_plain fd__law_plain) (b__law_plain : Binds K fd__law_plain ["_law_found"] []) (g__law_plain : mg "_law_plain" = some (.ref f__law_plain)) (G__law_plain : FnOk P w K mg base CX0 k f__law_plain fd__law_plain ["_law_found"] (sp__law_plain d K)) (m_isinstance : mg "isinstance" = none) (m_list : mg "list" = none) (m_tuple : mg "tuple" = none) (m_all : mg "all" = none) (m_str : mg "str" = none) :
    FnOk P w K mg base CX0 (k + 1) f fd ["_law_found"] (sp__law_plain (d + 1) K) := by
  refine F.ok sc__law_plain (fun vs H Q E h => ?_) (fun cdv A outer s H vs Q E hr h => ?_)
  ·
    obtain ⟨v, x, rfl, _⟩ := h
    rfl
  ·
    obtain ⟨v, x, rfl, hv, hp, q⟩ := h
    refine ⟨_, (pss_cons (ps_if (pt_val (pe_callB (r := rIsiT K) call_isiT (by rfl) m_isinstance (by decide +kernel) (pa_cons (pv 0) (pa_cons (pe_tup (pa_cons (pe_bltn (v := .ty "list") (u := .type "list") (by rfl) m_list (by decide +kernel) rfl) (pa_cons (pe_bltn (v := .ty "tuple") (u := .type "tuple") (by rfl) m_tuple (by decide +kernel) rfl) pa_nil))) pa_nil)))) (pss_one (ps_ret (pe_callB (r := rAll K) (cr_all rfl) (by rfl) m_all (by decide +kernel) (pa_cons (pe_lc (own := [("_law_one", 1)]) (g := gName 1)  rfl sc__law_plain.nd  (pi_any (pv 0)) (blkOk_by (own := [("_law_one", 1)]) (N := ["_law_found", "_law_one"]) (sc := defScope S__law_plain) (by decide +kernel)) (fun _ _ _ _ _ => pg_name (i := 1) sc__law_plain.nd rfl (Or.inl rfl)) (fun _ _ _ _ _ => pts_nil) (fun _ _ _ _ _ => (pe_call G__law_plain (hr.mono (by omega)) (by rfl) g__law_plain F__law_plain.kp b__law_plain .nil pass0 (pa_cons (pv 1) pa_nil)))) pa_nil)))) pss_nil)
      (pss_one (ps_ret (pe_or (pe_callB (r := rIsi K) call_isi (by rfl) m_isinstance (by decide +kernel) (pa_cons (pv 0) (pa_cons (pe_bltn (v := .ty "str") (u := .type "str") (by rfl) m_str (by decide +kernel) rfl) pa_nil))) (pe_one (pe_call G__law_whole (hr.mono (by omega)) (by rfl) g__law_whole F__law_whole.kp b__law_whole .nil pass0 (pa_cons (pv 0) pa_nil))))))), ?_⟩
    refine w_st (σ' := [some v, none]) rfl ?_
    walk_at "ct"
    refine ⟨len2 rfl, fun c n_c => ?_⟩
    generalize h_G : upd _ c _ = G
    obtain ⟨s_G, e_c⟩ := Ct.upd_new h_G n_c
    clear h_G
    walk_at "ct"
    cases hp with
    | int n i =>
      cases hv
      refine w_isiLT (b1 := false) (b2 := false) (b := false) (.base (.int i)) e_c (kit_ty (by decide +kernel)) (kit_ty (by decide +kernel)) rfl ?_
      walk_at "ct"
      refine w_isi (b := false) (.base (.int i)) (kit_ty (by decide +kernel)) ?_
      walk_at "ct"
      refine ⟨.int i, .int i, rfl, .int i, ?_⟩
      exact q G s_G
    | str n x =>
      cases hv
      refine w_isiLT (b1 := false) (b2 := false) (b := false) (.base (.str x)) e_c (kit_ty (by decide +kernel)) (kit_ty (by decide +kernel)) rfl ?_
      walk_at "ct"
      refine w_isi (b := true) (.base (.str x)) (kit_ty (by decide +kernel)) ?_
      walk_at "ct"
      exact q G s_G
    | @lst n ds h1 h2 =>
      obtain ⟨a, xs, rfl, hs, hd⟩ := lst_inv hv
      have hs := s_G.seq hs
      have hd := dpAll_same s_G hd
      refine w_isiLT (b1 := true) (b2 := false) (b := true) (tyx_L hs) e_c (kit_ty (by decide +kernel)) (kit_ty (by decide +kernel)) rfl ?_
      walk_at "ct"
      refine w_anyL ?_
      walk_at "ct"
      refine w_IL hs ?_
      refine lb_list xs (fun D i J => Same G J ∧ J D = some (.lst ((List.replicate i true).map V.bl))) (fun D nD => ⟨same_upd nD, upd_same⟩) (fun D nD i J _ h => Same.seq h.1 hs) ?_ ?_
      · rintro D nD i y J hx ⟨sJ, hD⟩
        have hi := (List.getElem?_eq_some_iff.mp hx).1
        obtain ⟨z, hz⟩ : ∃ z, ds[i]? = some z := ⟨_, List.getElem?_eq_getElem (by rw [← dpAll_len hd]; exact hi)⟩
        obtain ⟨y', hy', dy⟩ := dpAll_get hd hz
        cases Option.some.inj (hx.symm.trans hy')
        walk_at "ct"
        refine ⟨rfl, ?_⟩
        walk_at "ct"
        refine ⟨y, z, rfl, dp_same sJ dy, h1 z (List.mem_of_getElem? hz), fun J2 s2 => ?_⟩
        refine ⟨_, s2 _ _ hD, by rw [List.length_map, List.length_replicate]; exact Nat.lt_of_lt_of_le (show i < 1000 by have := dpAll_len hd; omega) (by decide), same_new (sJ.trans s2) nD, ?_⟩
        rw [upd_same, List.replicate_succ', List.map_append]
        rfl
      rintro D nD J ⟨sJ, hD⟩
      walk_at "ct"
      refine ⟨D, _, rfl, .of hD, ?_⟩
      rw [all_rep]
      exact q J (s_G.trans sJ)
    | @tup n ds h1 h2 =>
      obtain ⟨a, xs, rfl, hs, hd⟩ := tup_inv hv
      have hs := Same.tup s_G hs
      have hd := dpAll_same s_G hd
      refine w_isiLT (b1 := false) (b2 := true) (b := true) (tyx_T hs) e_c (kit_ty (by decide +kernel)) (kit_ty (by decide +kernel)) rfl ?_
      walk_at "ct"
      refine w_anyT ?_
      walk_at "ct"
      refine w_IT hs ?_
      refine lb_tup xs (fun D i J => Same G J ∧ J D = some (.lst ((List.replicate i true).map V.bl))) (fun D nD => ⟨same_upd nD, upd_same⟩) (fun D nD i J _ h => Same.tup h.1 hs) ?_ ?_
      · rintro D nD i y J hx ⟨sJ, hD⟩
        have hi := (List.getElem?_eq_some_iff.mp hx).1
        obtain ⟨z, hz⟩ : ∃ z, ds[i]? = some z := ⟨_, List.getElem?_eq_getElem (by rw [← dpAll_len hd]; exact hi)⟩
        obtain ⟨y', hy', dy⟩ := dpAll_get hd hz
        cases Option.some.inj (hx.symm.trans hy')
        walk_at "ct"
        refine ⟨rfl, ?_⟩
        walk_at "ct"
        refine ⟨y, z, rfl, dp_same sJ dy, h1 z (List.mem_of_getElem? hz), fun J2 s2 => ?_⟩
        refine ⟨_, s2 _ _ hD, by rw [List.length_map, List.length_replicate]; exact Nat.lt_of_lt_of_le (show i < 1000 by have := dpAll_len hd; omega) (by decide), same_new (sJ.trans s2) nD, ?_⟩
        rw [upd_same, List.replicate_succ', List.map_append]
        rfl
      rintro D nD J ⟨sJ, hD⟩
      walk_at "ct"
      refine ⟨D, _, rfl, .of hD, ?_⟩
      rw [all_rep]
      exact q J (s_G.trans sJ)
theorem rec__law_plain {f__law_plain : Addr} {fd__law_plain : FuncData} {f__law_whole : Addr} {fd__law_whole : FuncData}
    (F__law_plain : Fun K "_law_plain" "_law_plain" S__law_plain f__law_plain fd__law_plain) (b__law_plain : Binds K fd__law_plain ["_law_found"] []) (g__law_plain : mg "_law_plain" = some (.ref f__law_plain))
    (F__law_whole : Fun K "_law_whole" "_law_whole" S__law_whole f__law_whole fd__law_whole) (b__law_whole : Binds K fd__law_whole ["_law_found"] []) (g__law_whole : mg "_law_whole" = some (.ref f__law_whole)) (G__law_whole : FnOk P w K mg base CX0 1 f__law_whole fd__law_whole ["_law_found"] (sp__law_whole K)) (m_isinstance : mg "isinstance" = none) (m_list : mg "list" = none) (m_tuple : mg "tuple" = none) (m_all : mg "all" = none) (m_str : mg "str" = none) : ∀ d, FnOk P w K mg base CX0 (1 + d) f__law_plain fd__law_plain ["_law_found"] (sp__law_plain d K)
  | 0 => by
    have no : ∀ vs H Q E, ¬ sp__law_plain 0 K vs H Q E := fun vs H Q E h => by
      obtain ⟨v, x, rfl, _, hp, _⟩ := h
      cases hp
    exact ⟨fun vs H Q E h => absurd h (no vs H Q E), fun A outer s H args us vs Q E _ _ _ _ h => absurd h (no vs H Q E)⟩
  | d + 1 => by
    have ih := rec__law_plain F__law_plain b__law_plain g__law_plain F__law_whole b__law_whole g__law_whole G__law_whole m_isinstance m_list m_tuple m_all m_str d
    exact st__law_plain (k := 1 + d) (by omega) F__law_plain F__law_whole b__law_whole g__law_whole G__law_whole F__law_plain b__law_plain g__law_plain ih m_isinstance m_list m_tuple m_all m_str
abbrev S__law_well : Stmt := topS 39
theorem sc__law_well : FnScope ["_law_train_here", "_law_stand_here", "_law_handed", "_law_texts", "_law_found", "_law_told", "_law_place", "_law_one"] ["_law_train_here", "_law_stand_here"] (defScope S__law_well) := ⟨rfl, rfl, rfl, by decide +kernel, rfl, by decide +kernel, by decide +kernel⟩
def sp__law_well (K : PySem.W.Frag) (T : List Addr) : Sp := fun vs H Q _ => ∃ (a b : Addr) (vs1 : List V) (ps : List Part) (ts : List (List Nat)) (ns : List Nat), vs = [.ref a, .ref b] ∧ SqL K H a vs1 ∧ DpAll K H vs1 (ps.map Part.data) ∧ TrainT ps ts ∧ ps ≠ [] ∧ ps.length ≤ 8 ∧ Fine (.list (ps.map Part.data)) 30 600 ∧ SqT K H b (ns.map fun n : Nat => V.int (n : Int)) ∧ ns ≠ [] ∧ (∀ n ∈ ns, n < M40) ∧ ns.length ≤ 30 ∧ Tb T H ∧ ∀ H', Same H H' → Q (.bl true) H'
theorem ok__law_well {f : Addr} {fd : FuncData} {f_read_train : Addr} {fd_read_train : FuncData} {f__law_plain : Addr} {fd__law_plain : FuncData} {f_read_stand : Addr} {fd_read_stand : FuncData} {f_show_stand : Addr} {fd_show_stand : FuncData} {f_show_train : Addr} {fd_show_train : FuncData} {f__law_stand_text : Addr} {fd__law_stand_text : FuncData} {f__law_train_text : Addr} {fd__law_train_text : FuncData} {c_NoTrain : Addr} {T : List Addr} (F : Fun K "_law_well" "_law_well" S__law_well f fd)
    (F_read_train : Fun K "read_train" "read_train" S_read_train f_read_train fd_read_train) (b_read_train : Binds K fd_read_train ["text"] []) (g_read_train : mg "read_train" = some (.ref f_read_train)) (G_read_train : FnOk P w K mg base CX0 6 f_read_train fd_read_train ["text"] (sp_read_train K T))
    (F__law_plain : Fun K "_law_plain" "_law_plain" S__law_plain f__law_plain fd__law_plain) (b__law_plain : Binds K fd__law_plain ["_law_found"] []) (g__law_plain : mg "_law_plain" = some (.ref f__law_plain)) (G__law_plain : FnOk P w K mg base CX0 7 f__law_plain fd__law_plain ["_law_found"] (sp__law_plain 5 K))
    (F_read_stand : Fun K "read_stand" "read_stand" S_read_stand f_read_stand fd_read_stand) (b_read_stand : Binds K fd_read_stand ["text"] []) (g_read_stand : mg "read_stand" = some (.ref f_read_stand)) (G_read_stand : FnOk P w K mg base CX0 4 f_read_stand fd_read_stand ["text"] (sp_read_stand K T))
    (F_show_stand : Fun K "show_stand" "show_stand" S_show_stand f_show_stand fd_show_stand) (b_show_stand : Binds K fd_show_stand ["stand"] []) (g_show_stand : mg "show_stand" = some (.ref f_show_stand)) (G_show_stand : FnOk P w K mg base CX0 1 f_show_stand fd_show_stand ["stand"] (sp_show_stand K))
    (F_show_train : Fun K "show_train" "show_train" S_show_train f_show_train fd_show_train) (b_show_train : Binds K fd_show_train ["train"] []) (g_show_train : mg "show_train" = some (.ref f_show_train)) (G_show_train : FnOk P w K mg base (L2.CX P w) 14 f_show_train fd_show_train ["train"] (sp_show_train K c_NoTrain))
    (F__law_stand_text : Fun K "_law_stand_text" "_law_stand_text" S__law_stand_text f__law_stand_text fd__law_stand_text) (b__law_stand_text : Binds K fd__law_stand_text ["_law_stand_here"] []) (g__law_stand_text : mg "_law_stand_text" = some (.ref f__law_stand_text)) (G__law_stand_text : FnOk P w K mg base CX0 1 f__law_stand_text fd__law_stand_text ["_law_stand_here"] (sp__law_stand_text K))
    (F__law_train_text : Fun K "_law_train_text" "_law_train_text" S__law_train_text f__law_train_text fd__law_train_text) (b__law_train_text : Binds K fd__law_train_text ["_law_train_here"] []) (g__law_train_text : mg "_law_train_text" = some (.ref f__law_train_text)) (G__law_train_text : FnOk P w K mg base CX0 2 f__law_train_text fd__law_train_text ["_law_train_here"] (sp__law_train_text K)) (m_list : mg "list" = none) (m_isinstance : mg "isinstance" = none) (m_tuple : mg "tuple" = none) (m_all : mg "all" = none) (m_str : mg "str" = none) :
    FnOk P w K mg base CX0 15 f fd ["_law_train_here", "_law_stand_here"] (sp__law_well K T) := by
  refine F.ok sc__law_well (fun vs H Q E h => ?_) (fun cdv A outer s H vs Q E hr h => ?_)
  ·
    obtain ⟨a, b, vs1, ps, ts, ns, rfl, _⟩ := h
    rfl
  ·
    obtain ⟨a, b, vs1, ps, ts, ns, rfl, hv, hds, tr, ne, pl, fine, hb, nn, hn, nl, hTb, q⟩ := h
    refine ⟨_, (pss_cons (ps_set (i := 2) sc__law_well.nd rfl (.inl rfl) (pe_callTy call_list_of (by rfl) m_list (by decide +kernel) (pa_cons (pv 0) pa_nil)))
      (pss_cons (ps_set (i := 3) sc__law_well.nd rfl (.inl rfl) (pe_lst (pa_cons (pe_call G__law_train_text (hr.mono (by decide)) (by rfl) g__law_train_text F__law_train_text.kp b__law_train_text .nil pass0 (pa_cons (pv 0) pa_nil)) (pa_cons (pe_call G__law_stand_text (hr.mono (by decide)) (by rfl) g__law_stand_text F__law_stand_text.kp b__law_stand_text .nil pass0 (pa_cons (pv 1) pa_nil)) pa_nil))))
      (pss_cons (ps_set (i := 4) sc__law_well.nd rfl (.inl rfl) (pe_lst (pa_cons (pe_call (E := E0) G_show_train (hr.mono (by decide)) (by rfl) g_show_train F_show_train.kp b_show_train .nil passE0 (pa_cons (pv 2) pa_nil)) (pa_cons (pe_call G_show_stand (hr.mono (by decide)) (by rfl) g_show_stand F_show_stand.kp b_show_stand .nil pass0 (pa_cons (pv 1) pa_nil)) pa_nil))))
      (pss_cons (ps_if (PW.pt (pw_or (pt_cmpR (r := rNeD K) (op_neD hr.units) (pv 4) (pv 3) (nomark _)) (pw_or (pt_not (pt_val (pe_callB (r := rAll K) (cr_all rfl) (by rfl) m_all (by decide +kernel) (pa_cons (pe_lc (own := [("_law_one", 7)]) (g := gName 7)  rfl sc__law_well.nd  (pi_list (pv 4)) (blkOk_by (own := [("_law_one", 7)]) (N := ["_law_train_here", "_law_stand_here", "_law_handed", "_law_texts", "_law_found", "_law_told", "_law_place", "_law_one"]) (sc := defScope S__law_well) (by decide +kernel)) (fun _ _ _ _ _ => pg_name (i := 7) sc__law_well.nd rfl (Or.inl rfl)) (fun _ _ _ _ _ => pts_nil) (fun _ _ _ _ _ => (pe_callB (r := rIsi K) call_isi (by rfl) m_isinstance (by decide +kernel) (pa_cons (pv 7) (pa_cons (pe_bltn (v := .ty "str") (u := .type "str") (by rfl) m_str (by decide +kernel) rfl) pa_nil))))) pa_nil)))) (pw_or1 (pt_cmpR (r := rNeD K) (op_neD hr.units) (pv 2) (pv 0) (nomark _)))))) (pss_one (ps_ret pe_bl)) pss_nil)
      (pss_cons (ps_set (i := 5) sc__law_well.nd rfl (.inl rfl) (pe_call G_read_train (hr.mono (by decide)) (by rfl) g_read_train F_read_train.kp b_read_train .nil pass0 (pa_cons (pe_ix (r := rIxL K) ix_list (pv 3) pe_int (fun _ _ => rfl)) pa_nil)))
      (pss_cons (ps_if (PW.pt (pw_or (pt_not (pt_val (pe_callB (r := rIsi K) call_isi (by rfl) m_isinstance (by decide +kernel) (pa_cons (pv 5) (pa_cons (pe_bltn (v := .ty "list") (u := .type "list") (by rfl) m_list (by decide +kernel) rfl) pa_nil))))) (pw_or (pt_cmpR (r := rNeD K) (op_neD hr.units) (pv 5) (pv 0) (nomark _)) (pw_or1 (pt_not (pt_val (pe_call G__law_plain (hr.mono (by decide)) (by rfl) g__law_plain F__law_plain.kp b__law_plain .nil pass0 (pa_cons (pv 5) pa_nil)))))))) (pss_one (ps_ret pe_bl)) pss_nil)
      (pss_cons (ps_expr (pe_bm PySem.F.plainAttrs_list PySem.F.slot_list_append PySem.F.type_list_append mt_append (pv 5) (pa_cons pe_non pa_nil)))
      (pss_cons (ps_set (i := 6) sc__law_well.nd rfl (.inl rfl) (pe_call G_read_stand (hr.mono (by decide)) (by rfl) g_read_stand F_read_stand.kp b_read_stand .nil pass0 (pa_cons (pe_ix (r := rIxL K) ix_list (pv 3) pe_int (fun _ _ => rfl)) pa_nil)))
      (pss_one (ps_ret (pe_and (pe_callB (r := rIsi K) call_isi (by rfl) m_isinstance (by decide +kernel) (pa_cons (pv 6) (pa_cons (pe_bltn (v := .ty "tuple") (u := .type "tuple") (by rfl) m_tuple (by decide +kernel) rfl) pa_nil))) (pe_and (pe_cmpR (r := rEqD K) (op_eqD hr.units) (pv 6) (pv 1) (nomark _)) (pe_and (pe_call G__law_plain (hr.mono (by decide)) (by rfl) g__law_plain F__law_plain.kp b__law_plain .nil pass0 (pa_cons (pv 6) pa_nil)) (pe_one (pe_cmpR (r := rEqD K) (op_eqD hr.units) (pe_call G_read_train (hr.mono (by decide)) (by rfl) g_read_train F_read_train.kp b_read_train .nil pass0 (pa_cons (pe_ix (r := rIxL K) ix_list (pv 3) pe_int (fun _ _ => rfl)) pa_nil)) (pv 0) (nomark _)))))))))))))))), ?_⟩
    refine w_st (σ' := [some (.ref a), some (.ref b), none, none, none, none, none, none]) rfl ?_
    have len : ps.length = ts.length := Paired.length tr
    have vl : vs1.length = ps.length := by rw [dpAll_len hds, List.length_map]
    walk_at "ct"
    refine ⟨a, vs1, rfl, .inl hv, fun hd n_hd => ?_⟩
    generalize h_G1 : upd _ hd _ = G1
    obtain ⟨s_G1, e_hd⟩ := Ct.upd_new h_G1 n_hd
    clear h_G1
    walk_at "ct"
    refine ⟨a, vs1, ps, ts, rfl, s_G1.seq hv, dpAll_same s_G1 hds, tr, pl, fun G2 s2 => ?_⟩
    walk_at "ct"
    refine ⟨b, ns, rfl, Same.tup (s_G1.trans s2) hb, hn, nl, fun G3 s3 => ?_⟩
    walk_at "ct"
    refine ⟨len2 rfl, fun tx0 n_tx0 => ?_⟩
    generalize h_G4 : upd _ tx0 _ = G4
    obtain ⟨s_G4, e_tx0⟩ := Ct.upd_new h_G4 n_tx0
    clear h_G4
    walk_at "ct"
    have t4 := ((s_G1.trans s2).trans s3).trans s_G4
    have tt4 := (s2.trans s3).trans s_G4
    have e_hd4 := tt4 _ _ e_hd
    have hds4 := dpAll_same t4 hds
    refine ⟨.ref hd, _, rfl, .lst (.of e_hd4) hds4, fine, .inr ⟨ps, ts, rfl, tr, ne, pl, fun G5 s5 => ?_⟩⟩
    walk_at "ct"
    refine ⟨b, ns, rfl, Same.tup (t4.trans s5) hb, hn, nl, fun G6 s6 => ?_⟩
    walk_at "ct"
    refine ⟨len2 rfl, fun fo n_fo => ?_⟩
    generalize h_G7 : upd _ fo _ = G7
    obtain ⟨s_G7, e_fo⟩ := Ct.upd_new h_G7 n_fo
    clear h_G7
    walk_at "ct"
    have l12 := lay_two (trainT_low tr) (jN_low (s := 47) (ns := ns) (by decide))
    have tx7 := ((s5.trans s6).trans s_G7) _ _ e_tx0
    refine w_neSame (.list [.str (tx (TL.joinL [32] ts)), .str (tx (jN 47 ns))]) (.lst (.of e_fo) (.cons (.str _) (.cons (.str _) .nil))) (.lst (.of tx7) (.cons (.str _) (.cons (.str _) .nil))) l12 (by decide) ?_
    walk_at "ct"
    refine w_IL (.of e_fo) ?_
    refine lb_list [.str (tx (TL.joinL [32] ts)), .str (tx (jN 47 ns))] (fun D i J => Same G7 J ∧ J D = some (.lst ((List.replicate i true).map V.bl))) (fun D nD => ⟨same_upd nD, upd_same⟩) (fun D nD i J _ h => .of (h.1 _ _ e_fo)) ?_ ?_
    · rintro D nD i y J hx ⟨sJ, hD⟩
      have hi : i < 2 := (List.getElem?_eq_some_iff.mp hx).1
      obtain ⟨z, rfl⟩ : ∃ z, y = .str z := by
        rcases (show i = 0 ∨ i = 1 by omega) with rfl | rfl
        · exact ⟨_, (Option.some.inj hx).symm⟩
        · exact ⟨_, (Option.some.inj hx).symm⟩
      walk_at "ct"
      refine ⟨rfl, ?_⟩
      walk_at "ct"
      refine w_isi (b := true) (.base (.str z)) (kit_ty (by decide +kernel)) ?_
      refine ⟨_, hD, by rw [List.length_map, List.length_replicate]; exact Nat.lt_of_lt_of_le (show i < 1000 by omega) (by decide), same_new sJ nD, ?_⟩
      rw [upd_same, List.replicate_succ', List.map_append]
      rfl
    rintro D nD G8 ⟨s8, hD⟩
    walk_at "ct"
    refine ⟨D, _, rfl, .of hD, ?_⟩
    rw [all_rep]
    walk_at "ct"
    have t8 := ((t4.trans s5).trans s6).trans (Same.trans s_G7 s8)
    have b8 : Same G4 G8 := (s5.trans s6).trans (Same.trans s_G7 s8)
    have lt : (PyData.list (ps.map Part.data)).canLay0 = true ∧ (PyData.list (ps.map Part.data)).depth ≤ 30 := ⟨fine.lay, fine.dep⟩
    refine w_neSame (.list (ps.map Part.data)) (.lst (.of (b8 _ _ e_hd4)) (dpAll_same t8 hds)) (.lst (t8.seq hv) (dpAll_same t8 hds)) lt (by decide) ?_
    walk_at "ct"
    have tx8 := b8 _ _ e_tx0
    refine w_ixL (.of tx8) (v := .str (tx (TL.joinL [32] ts))) rfl ?_
    walk_at "ct"
    refine ⟨ps, ts, rfl, tr, ne, pl, fine, hTb.same t8, fun l xs G9 s9 n_l e_l dxs => ?_⟩
    walk_at "ct"
    refine w_isi (b := true) (tyx_L (.of e_l)) (kit_ty (by decide +kernel)) ?_
    walk_at "ct"
    have t9 := t8.trans s9
    refine w_neSame (.list (ps.map Part.data)) (.lst (.of e_l) dxs) (.lst (t9.seq hv) (dpAll_same t9 hds)) lt (by decide) ?_
    walk_at "ct"
    refine ⟨.ref l, _, rfl, .lst (.of e_l) dxs, plain_train tr (by omega), fun GA sA => ?_⟩
    walk_at "ct"
    have xl : xs.length = ps.length := by rw [dpAll_len dxs, List.length_map]
    refine ⟨ty_list (sA _ _ e_l), ?_⟩
    walk_at "ct"
    refine w_append (sA _ _ e_l) (small1000 (by omega)) ?_
    have sB : Same G8 (upd GA l (.lst (xs ++ [V.non]))) := same_new (s9.trans sA) n_l
    generalize upd GA l _ = GB at *
    have tB := t8.trans sB
    walk_at "ct"
    refine w_ixL (.of (sB _ _ tx8)) (v := .str (tx (jN 47 ns))) rfl ?_
    walk_at "ct"
    refine ⟨ns, rfl, nn, hn, nl, hTb.same tB, fun p GC sC hp => ?_⟩
    walk_at "ct"
    refine w_isi (b := true) (tyx_T hp) (kit_ty (by decide +kernel)) ?_
    walk_at "ct"
    have tC := tB.trans sC
    have dn : ∀ {J : Hp} {z : Addr}, SqT K J z (ns.map fun n : Nat => V.int (n : Int)) → Dp K J (.ref z) (.tuple ((ns.map fun n : Nat => (n : Int)).map PyData.int)) := fun h => .tup h (by rw [← map_toInt]; exact dpAll_ints _)
    refine w_eqSameT (.tuple ((ns.map fun n : Nat => (n : Int)).map PyData.int)) (dn hp) (dn (Same.tup tC hb)) (lay_tup (lay_ints _ 0)) (by decide) ?_
    walk_at "ct"
    refine ⟨.ref p, _, rfl, dn hp, plain_ints (by rw [List.length_map]; omega), fun GD sD => ?_⟩
    walk_at "ct"
    have tD := tC.trans sD
    refine w_ixL (.of ((sB.trans (sC.trans sD)) _ _ tx8)) (v := .str (tx (TL.joinL [32] ts))) rfl ?_
    walk_at "ct"
    refine ⟨ps, ts, rfl, tr, ne, pl, fine, hTb.same tD, fun l2 xs2 GE sE n_l2 e_l2 dxs2 => ?_⟩
    walk_at "ct"
    have tE := tD.trans sE
    refine w_eqSameT (.list (ps.map Part.data)) (.lst (.of e_l2) dxs2) (.lst (tE.seq hv) (dpAll_same tE hds)) lt (by decide) ?_
    exact q GE tE
abbrev S__law_odd_train : Stmt := topS 40
theorem sc__law_odd_train : FnScope ["_law_draws_here", "_law_train_here", "_law_some", "_law_odd"] ["_law_draws_here", "_law_train_here"] (defScope S__law_odd_train) := ⟨rfl, rfl, rfl, by decide +kernel, rfl, by decide +kernel, by decide +kernel⟩
/-- what, where it is a list with something in it, has in it what is no part -/
def oddB : PyData → Bool
  | .list ds => ds.isEmpty || !ds.all isP
  | _ => true
def sp__law_odd_train (K : PySem.W.Frag) : Sp := fun vs H Q _ => ∃ (D a : Addr) (c : Nat) (ws : List V) (ps : List Part), vs = [.ref D, .ref a] ∧ H D = some (DrO D c) ∧ c ≤ 900000 ∧ H a = some (.lst ws) ∧ DpAll K H ws (ps.map Part.data) ∧ FineA (ps.map Part.data) 2 165 ∧ ps.length ≤ 8 ∧ TDTs (ps.map Part.data) ∧ ∀ v d c' H', Dr D c' H H' → c' ≤ c + 2 → Dp K H' v d → Fine d 30 600 → isT d = false → Q v H'
theorem ok__law_odd_train {f : Addr} {fd : FuncData} {f__law_next : Addr} {fd__law_next : FuncData} (F : Fun K "_law_odd_train" "_law_odd_train" S__law_odd_train f fd)
    (F__law_next : Fun K "_law_next" "_law_next" S__law_next f__law_next fd__law_next) (b__law_next : Binds K fd__law_next ["_law_draws_here"] []) (g__law_next : mg "_law_next" = some (.ref f__law_next)) (G__law_next : FnOk P w K mg base CX0 1 f__law_next fd__law_next ["_law_draws_here"] (sp__law_next K)) (m_tuple : mg "tuple" = none) (m_isinstance : mg "isinstance" = none) (m_list : mg "list" = none) :
    FnOk P w K mg base CX0 2 f fd ["_law_draws_here", "_law_train_here"] (sp__law_odd_train K) := by
  refine F.ok sc__law_odd_train (fun vs H Q E h => ?_) (fun cdv A outer s H vs Q E hr h => ?_)
  ·
    obtain ⟨D, a, c, ws, ps, rfl, _⟩ := h
    rfl
  ·
    obtain ⟨D, a, c, ws, ps, rfl, hD, hc, ha, hd, fps, pl, tok, q⟩ := h
    refine ⟨_, (pss_cons (ps_set (i := 2) sc__law_odd_train.nd rfl (.inl rfl) (pe_lst (pa_cons pe_non (pa_cons (pe_tup pa_nil) (pa_cons (pe_lst pa_nil) (pa_cons (pe_callTy call_tuple_of (by rfl) m_tuple (by decide +kernel) (pa_cons (pv 1) pa_nil)) (pa_cons pe_str (pa_cons (pe_lst (pa_cons pe_non pa_nil)) (pa_cons (pe_lst (pa_cons (pe_tup pa_nil) pa_nil)) (pa_cons (pe_lst (pa_cons (pe_lst (pa_cons pe_str pa_nil)) pa_nil)) (pa_cons (pe_lst (pa_cons (pe_tup (pa_cons pe_str (pa_cons pe_int pa_nil))) pa_nil)) (pa_cons (pe_lst (pa_cons (pe_tup (pa_cons pe_str pa_nil)) pa_nil)) pa_nil))))))))))))
      (pss_cons (ps_set (i := 2) sc__law_odd_train.nd rfl (.inl rfl) (pe_op op_cat (pv 2) (pe_lst (pa_cons (pe_lst (pa_cons (pe_tup (pa_cons pe_str (pa_cons pe_int pa_nil))) pa_nil)) (pa_cons (pe_lst (pa_cons (pe_tup (pa_cons pe_str (pa_cons pe_int (pa_cons (pe_tup pa_nil) pa_nil)))) pa_nil)) (pa_cons (pe_lst (pa_cons (pe_tup (pa_cons pe_str (pa_cons pe_int (pa_cons (pe_lst (pa_cons pe_int pa_nil)) pa_nil)))) pa_nil)) (pa_cons (pe_lst (pa_cons (pe_tup (pa_cons pe_str (pa_cons pe_int (pa_cons (pe_tup (pa_cons pe_int (pa_cons pe_int pa_nil))) pa_nil)))) pa_nil)) pa_nil)))))))
      (pss_cons (ps_set (i := 2) sc__law_odd_train.nd rfl (.inl rfl) (pe_op op_cat (pv 2) (pe_lst (pa_cons (pe_lst (pa_cons (pe_tup (pa_cons pe_str (pa_cons pe_int (pa_cons (pe_tup (pa_cons pe_int (pa_cons pe_int pa_nil))) pa_nil)))) pa_nil)) pa_nil))))
      (pss_cons (ps_set (i := 2) sc__law_odd_train.nd rfl (.inl rfl) (pe_op op_cat (pv 2) (pe_lst (pa_cons (pe_lst (pa_cons (pe_tup (pa_cons pe_str (pa_cons pe_int (pa_cons (pe_tup (pa_cons pe_int pa_nil)) pa_nil)))) pa_nil)) (pa_cons (pe_lst (pa_cons (pe_tup (pa_cons pe_str (pa_cons pe_int (pa_cons (pe_tup (pa_cons (pe_op op_sub pe_int pe_int) pa_nil)) pa_nil)))) pa_nil)) (pa_cons (pe_lst (pa_cons (pe_tup (pa_cons pe_str (pa_cons pe_bl (pa_cons (pe_tup pa_nil) pa_nil)))) pa_nil)) (pa_cons (pe_lst (pa_cons (pe_tup (pa_cons pe_str (pa_cons pe_int (pa_cons (pe_tup (pa_cons pe_non pa_nil)) pa_nil)))) pa_nil)) pa_nil)))))))
      (pss_cons (ps_set (i := 2) sc__law_odd_train.nd rfl (.inl rfl) (pe_op op_cat (pv 2) (pe_lst (pa_cons (pe_lst (pa_cons (pe_tup (pa_cons pe_str pa_nil)) pa_nil)) (pa_cons (pe_lst (pa_cons (pe_tup (pa_cons pe_str (pa_cons pe_int pa_nil))) pa_nil)) (pa_cons (pe_lst (pa_cons (pe_tup (pa_cons pe_str (pa_cons (pe_op op_sub pe_int pe_int) pa_nil))) pa_nil)) (pa_cons (pe_lst (pa_cons (pe_tup (pa_cons pe_str (pa_cons pe_str pa_nil))) pa_nil)) (pa_cons (pe_lst (pa_cons (pe_tup (pa_cons pe_str (pa_cons pe_int (pa_cons pe_int pa_nil)))) pa_nil)) pa_nil))))))))
      (pss_cons (ps_set (i := 2) sc__law_odd_train.nd rfl (.inl rfl) (pe_op op_cat (pv 2) (pe_lst (pa_cons (pe_op op_cat (pv 1) (pe_lst (pa_cons pe_int pa_nil))) (pa_cons (pe_lst (pa_cons (pe_tup (pa_cons pe_str (pa_cons pe_int pa_nil))) pa_nil)) (pa_cons (pe_lst (pa_cons (pe_tup (pa_cons pe_str pa_nil)) (pa_cons pe_str pa_nil))) (pa_cons (pe_lst (pa_cons (pe_tup (pa_cons pe_str (pa_cons pe_int (pa_cons (pe_tup (pa_cons pe_int pa_nil)) (pa_cons (pe_tup pa_nil) pa_nil))))) pa_nil)) (pa_cons (pe_lst (pa_cons (pe_tup (pa_cons pe_int pa_nil)) pa_nil)) (pa_cons (pe_lst (pa_cons (pe_lst pa_nil) pa_nil)) pa_nil)))))))))
      (pss_cons (ps_set (i := 2) sc__law_odd_train.nd rfl (.inl rfl) (pe_op op_cat (pv 2) (pe_lst (pa_cons (pe_op op_powB pe_int pe_int) (pa_cons pe_bl pa_nil)))))
      (pss_cons (ps_set (i := 3) sc__law_odd_train.nd rfl (.inl rfl) (pe_ix (r := rIxL K) ix_list (pv 2) (pe_op op_mod (pe_call G__law_next (hr.mono (by decide)) (by rfl) g__law_next F__law_next.kp b__law_next .nil pass0 (pa_cons (pv 0) pa_nil)) pe_int) (fun _ _ => rfl)))
      (pss_cons (ps_if (PW.pt (pw_and (pt_val (pe_callB (r := rIsi K) call_isi (by rfl) m_isinstance (by decide +kernel) (pa_cons (pv 3) (pa_cons (pe_bltn (v := .ty "list") (u := .type "list") (by rfl) m_list (by decide +kernel) rfl) pa_nil)))) (pw_and1 (pt_cmpR (r := rNeD K) (op_neD hr.units) (pv 3) (pe_lst pa_nil) (nomark _))))) (pss_one (ps_set (i := 3) sc__law_odd_train.nd rfl (.inl rfl) (pe_ix (r := rIxL K) ix_list (pe_lst (pa_cons (pv 3) (pa_cons (pe_op (r := rCatS K) op_catS (pv 1) (pv 3)) (pa_cons (pe_op (r := rCatS K) op_catS (pv 3) (pv 1)) pa_nil)))) (pe_op op_mod (pe_call G__law_next (hr.mono (by decide)) (by rfl) g__law_next F__law_next.kp b__law_next .nil pass0 (pa_cons (pv 0) pa_nil)) pe_int) (fun _ _ => rfl)))) pss_nil)
      (pss_one (ps_ret (pv 3)))))))))))), ?_⟩
    refine w_st (σ' := [some (.ref D), some (.ref a), none, none]) rfl ?_
    with_reducible refine w_seq ?_
    with_reducible refine w_asg ?_
    refine GvL.use (K := K) (ds := [.none, .tuple [], .list [], .tuple (ps.map Part.data), .str "click", .list [.none], .list [.tuple []], .list [.list [.str "click"]], .list [.tuple [.str "click", .int 0]], .list [.tuple [.str "Click"]]]) (by
        walk_at "gv"
        exact (gvT_tupV (by rfl) (by assumption) (by assumption) rfl).gv
        walk_at "gv"
    ) fun l0 vs0 H0 s0 h0 d0 => ?_
    have a0 := s0 _ _ ha
    have w0 := dpAll_same s0 hd
    with_reducible refine w_name (σ' := [some (.ref D), some (.ref a), some (.ref l0), none]) rfl ?_
    with_reducible refine w_seq ?_
    with_reducible refine w_asg ?_
    refine GvL.use (K := K) (gvL_cat (es := [.list [.tuple [.str "wheel", .int 3]], .list [.tuple [.str "wheel", .int 0, .tuple []]], .list [.tuple [.str "wheel", .int 3, .list [.int 0]]], .list [.tuple [.str "wheel", .int 3, .tuple [.int 1, .int 1]]]]) (gvL_var rfl h0 d0) (by walk_at "gv") (Nat.le_of_ble_eq_true rfl)) fun l1 vs1 H1 t1 h1 d1 => ?_
    have a1 := t1 _ _ a0
    have w1 := dpAll_same t1 w0
    with_reducible refine w_name (σ' := [some (.ref D), some (.ref a), some (.ref l1), none]) rfl ?_
    have s1 := s0.trans t1
    with_reducible refine w_seq ?_
    with_reducible refine w_asg ?_
    refine GvL.use (K := K) (gvL_cat (es := [.list [.tuple [.str "wheel", .int 3, .tuple [.int 2, .int 1]]]]) (gvL_var rfl h1 d1) (by walk_at "gv") (Nat.le_of_ble_eq_true rfl)) fun l2 vs2 H2 t2 h2 d2 => ?_
    have a2 := t2 _ _ a1
    have w2 := dpAll_same t2 w1
    with_reducible refine w_name (σ' := [some (.ref D), some (.ref a), some (.ref l2), none]) rfl ?_
    have s2 := s1.trans t2
    with_reducible refine w_seq ?_
    with_reducible refine w_asg ?_
    refine GvL.use (K := K) (gvL_cat (es := [.list [.tuple [.str "wheel", .int 3, .tuple [.int 3]]], .list [.tuple [.str "wheel", .int 3, .tuple [.int (-1)]]], .list [.tuple [.str "wheel", .bool true, .tuple []]], .list [.tuple [.str "wheel", .int 3, .tuple [.none]]]]) (gvL_var rfl h2 d2) (by walk_at "gv") (Nat.le_of_ble_eq_true rfl)) fun l3 vs3 H3 t3 h3 d3 => ?_
    have a3 := t3 _ _ a2
    have w3 := dpAll_same t3 w2
    with_reducible refine w_name (σ' := [some (.ref D), some (.ref a), some (.ref l3), none]) rfl ?_
    have s3 := s2.trans t3
    with_reducible refine w_seq ?_
    with_reducible refine w_asg ?_
    refine GvL.use (K := K) (gvL_cat (es := [.list [.tuple [.str "spring"]], .list [.tuple [.str "spring", .int 0]], .list [.tuple [.str "spring", .int (-1)]], .list [.tuple [.str "spring", .str "2"]], .list [.tuple [.str "spring", .int 1, .int 1]]]) (gvL_var rfl h3 d3) (by walk_at "gv") (Nat.le_of_ble_eq_true rfl)) fun l4 vs4 H4 t4 h4 d4 => ?_
    have a4 := t4 _ _ a3
    have w4 := dpAll_same t4 w3
    with_reducible refine w_name (σ' := [some (.ref D), some (.ref a), some (.ref l4), none]) rfl ?_
    have s4 := s3.trans t4
    with_reducible refine w_seq ?_
    with_reducible refine w_asg ?_
    refine GvL.use (K := K) (gvL_cat (es := [.list (ps.map Part.data ++ [.int 7]), .list [.tuple [.str "rocker", .int 1]], .list [.tuple [.str "rocker"], .str "rocker"], .list [.tuple [.str "wheel", .int 2, .tuple [.int 0], .tuple []]], .list [.tuple [.int 1]], .list [.list []]]) (gvL_var rfl h4 d4) (by
        walk_at "gv"
        exact (gvL_cat (gvL_var (by rfl) (by assumption) (by assumption)) (gvL_lst (gv_cons gv_int gv_nil)) (by rw [List.length_map]; show ps.length + 1 ≤ 1000; omega)).gv
        walk_at "gv"
    ) (Nat.le_of_ble_eq_true rfl)) fun l5 vs5 H5 t5 h5 d5 => ?_
    have a5 := t5 _ _ a4
    have w5 := dpAll_same t5 w4
    with_reducible refine w_name (σ' := [some (.ref D), some (.ref a), some (.ref l5), none]) rfl ?_
    have s5 := s4.trans t5
    with_reducible refine w_seq ?_
    with_reducible refine w_asg ?_
    refine GvL.use (K := K) (gvL_cat (es := [.int (1000000000000000000000000000000), .bool true]) (gvL_var rfl h5 d5) (by walk_at "gv") (Nat.le_of_ble_eq_true rfl)) fun l6 vs6 H6 t6 h6 d6 => ?_
    have a6 := t6 _ _ a5
    have w6 := dpAll_same t6 w5
    with_reducible refine w_name (σ' := [some (.ref D), some (.ref a), some (.ref l6), none]) rfl ?_
    have s6 := s5.trans t6
    walk_at "ct"
    refine ⟨D, c, rfl, s6 _ _ hD, by omega, fun n1 _ _ => ?_⟩
    have dr := ((Dr.refl hD).same s6).trans (Dr.step (s6 _ _ hD) (c + 1))
    have hl := (Dr.step (s6 _ _ hD) (c + 1)).at (s6 _ _ hD) h6
    have hdd := (Dr.step (s6 _ _ hD) (c + 1)).all (s6 _ _ hD) d6
    generalize upd H6 D _ = H9 at *
    walk_at "ct"
    refine w_mod (by decide) fun r r0 r1 => ?_
    refine w_some (.of hl) hdd r0 r1 fun v d hm hv => ?_
    have lit : ∀ ds : List PyData, ds.all (fun d => fineB 6 170 d && !isT d && oddB d) = true → ∀ d ∈ ds, Fine d 6 170 ∧ isT d = false ∧ oddB d = true := fun ds h d hd => by
      have z := List.all_eq_true.mp h d hd
      rw [Bool.and_eq_true, Bool.and_eq_true] at z
      exact ⟨fine_by (ds := [d]) (by rw [List.all_cons, z.1.1]; rfl) d List.mem_cons_self, by simpa using z.1.2, z.2⟩
    have sp1 : Fine (.tuple (ps.map Part.data)) 6 170 ∧ isT (.tuple (ps.map Part.data)) = false ∧ oddB (.tuple (ps.map Part.data)) = true := ⟨fps.tup.mono (by decide) (by decide), rfl, rfl⟩
    have sp2 : Fine (.list (ps.map Part.data ++ [.int 7])) 6 170 ∧ isT (.list (ps.map Part.data ++ [.int 7])) = false ∧ oddB (.list (ps.map Part.data ++ [.int 7])) = true := ⟨(FineA.app fps (FineA.one (m := 0) (fine_int (by decide)))).lst.mono (by decide) (by decide), no_part (d := .int 7) (List.mem_append_right _ List.mem_cons_self) rfl, by
      show (_ || !(ps.map Part.data ++ [PyData.int 7]).all isP) = true
      rw [List.all_append]
      simp [isP]⟩
    have both : Fine d 6 170 ∧ isT d = false ∧ oddB d = true := by
      rcases List.mem_append.mp hm with hm | hm
      rotate_left
      · exact lit _ (by decide +kernel) d hm
      rcases List.mem_append.mp hm with hm | hm
      rotate_left
      · rcases List.mem_cons.mp hm with rfl | hm
        · exact sp2
        exact lit _ (by decide +kernel) d hm
      rcases List.mem_append.mp hm with hm | hm
      rotate_left
      · exact lit _ (by decide +kernel) d hm
      rcases List.mem_append.mp hm with hm | hm
      rotate_left
      · exact lit _ (by decide +kernel) d hm
      rcases List.mem_append.mp hm with hm | hm
      rotate_left
      · exact lit _ (by decide +kernel) d hm
      rcases List.mem_append.mp hm with hm | hm
      rotate_left
      · exact lit _ (by decide +kernel) d hm
      rcases List.mem_cons.mp hm with rfl | hm
      · exact lit [_] (by decide +kernel) _ List.mem_cons_self
      rcases List.mem_cons.mp hm with rfl | hm
      · exact lit [_] (by decide +kernel) _ List.mem_cons_self
      rcases List.mem_cons.mp hm with rfl | hm
      · exact lit [_] (by decide +kernel) _ List.mem_cons_self
      rcases List.mem_cons.mp hm with rfl | hm
      · exact sp1
      exact lit _ (by decide +kernel) d hm
    clear hm lit sp1 sp2 hdd h6 d6 hl
    obtain ⟨fd, bad, ob⟩ := both
    have a9 := dr.at hD ha
    have w9 := dr.all hD hd
    walk_at "ct"
    cases hv with
    | non =>
      refine w_isi (b := false) (.base .non) (kit_ty (by decide +kernel)) ?_
      walk_at "ct"
      exact q .non _ (c + 1) H9 dr (by omega) (.non) (fd.mono (by decide) (by decide)) bad
    | bl b =>
      refine w_isi (b := false) (.base (.bl b)) (kit_ty (by decide +kernel)) ?_
      walk_at "ct"
      exact q (.bl b) _ (c + 1) H9 dr (by omega) (.bl b) (fd.mono (by decide) (by decide)) bad
    | int i =>
      refine w_isi (b := false) (.base (.int i)) (kit_ty (by decide +kernel)) ?_
      walk_at "ct"
      exact q (.int i) _ (c + 1) H9 dr (by omega) (.int i) (fd.mono (by decide) (by decide)) bad
    | str x =>
      refine w_isi (b := false) (.base (.str x)) (kit_ty (by decide +kernel)) ?_
      walk_at "ct"
      exact q (.str x) _ (c + 1) H9 dr (by omega) (.str x) (fd.mono (by decide) (by decide)) bad
    | tup hs ht =>
      refine w_isi (b := false) (tyx_T hs) (kit_ty (by decide +kernel)) ?_
      walk_at "ct"
      exact q (.ref _) _ (c + 1) H9 dr (by omega) (.tup hs ht) (fd.mono (by decide) (by decide)) bad
    | @lst o os ds hs ht =>
      refine w_isi (b := true) (tyx_L hs) (kit_ty (by decide +kernel)) ?_
      walk_at "ct"
      refine ⟨len2 rfl, fun z n_z => ?_⟩
      generalize h_GA : upd _ z _ = GA
      obtain ⟨s_GA, e_z⟩ := Ct.upd_new h_GA n_z
      clear h_GA
      have hs1 := s_GA.seq hs
      have ht1 := dpAll_same s_GA ht
      refine ⟨.list ds, .list [], .lst hs1 ht1, .lst (.of e_z) .nil, shaped_of ⟨fd.lay, fd.dep⟩ (by decide), by decide, ?_⟩
      rw [show PyData.eqv (.list ds) (.list []) = ds.isEmpty from eqvAll_nil ds]
      have drA := dr.same s_GA
      cases ds with
      | nil =>
        rw [show ([] : List PyData).isEmpty = true from rfl]
        walk_at "ct"
        exact q (.ref o) _ (c + 1) GA drA (by omega) (.lst hs1 ht1) (fd.mono (by decide) (by decide)) bad
      | cons d0 dr0 =>
        obtain ⟨x, hx, hxp⟩ : ∃ x ∈ d0 :: dr0, isP x = false := by
          have : (false || !(d0 :: dr0).all isP) = true := ob
          rw [Bool.false_or, Bool.not_eq_true'] at this
          obtain ⟨x, hx, h⟩ := List.all_eq_false.mp this
          exact ⟨x, hx, by simpa using h⟩
        have fo : FineA (d0 :: dr0) 5 170 := ⟨fd.ok, by have := fd.dep; rw [PyData.depth] at this; omega, fd.few⟩
        have ol : os.length ≤ 170 := by rw [dpAll_len ht]; exact fo.len
        have wl : ws.length = ps.length := by rw [dpAll_len hd, List.length_map]
        have f5 := fps.mono (n' := 5) (m' := 165) (by decide) (Nat.le_refl _)
        rw [show (d0 :: dr0).isEmpty = false from rfl]
        walk_at "ct"
        refine w_catS (.of (s_GA _ _ a9)) hs1 (by omega) fun p n_p => ?_
        generalize h_GB : upd _ p _ = GB
        obtain ⟨s_GB, e_p⟩ := Ct.upd_new h_GB n_p
        clear h_GB
        walk_at "ct"
        refine w_catS (s_GB.seq hs1) (.of ((s_GA.trans s_GB) _ _ a9)) (by omega) fun p2 n_p2 => ?_
        generalize h_GC : upd _ p2 _ = GC
        obtain ⟨s_GC, e_p2⟩ := Ct.upd_new h_GC n_p2
        clear h_GC
        walk_at "ct"
        refine ⟨len2 rfl, fun l3 n_l3 => ?_⟩
        generalize h_GD : upd _ l3 _ = GD
        obtain ⟨s_GD, e_l3⟩ := Ct.upd_new h_GD n_l3
        clear h_GD
        walk_at "ct"
        have drD := ((drA.same s_GB).same s_GC).same s_GD
        refine ⟨D, c + 1, rfl, drD.2, by omega, fun n2 _ _ => ?_⟩
        have sAD := (s_GB.trans s_GC).trans s_GD
        have hs2 := sAD.seq hs1
        have ht2 := dpAll_same sAD ht1
        have w2 := dpAll_same (s_GA.trans sAD) w9
        have st := Dr.step drD.2 (c + 2)
        have hl3 := st.at drD.2 e_l3
        have hp3 := st.at drD.2 ((s_GC.trans s_GD) _ _ e_p)
        have hp23 := st.at drD.2 (s_GD _ _ e_p2)
        have do3 : Dp K (upd GD D (DrO D (c + 2))) (.ref o) (.list (d0 :: dr0)) := by
          have := st.all drD.2 (DpAll.cons (Dp.lst hs2 ht2) .nil)
          cases this with
          | cons h _ => exact h
        have dp3 := st.all drD.2 (dpAll_app w2 ht2)
        have dp23 := st.all drD.2 (dpAll_app ht2 w2)
        have dE := drD.trans st
        generalize upd GD D _ = GE at *
        walk_at "ct"
        refine w_mod (by decide) fun r3 r30 r31 => ?_
        rcases (show r3 = 0 ∨ r3 = 1 ∨ r3 = 2 by omega) with rfl | rfl | rfl
        · refine w_ixL (.of hl3) (v := .ref o) rfl ?_
          walk_at "ct"
          exact q (.ref o) _ (c + 2) GE dE (Nat.le_refl _) do3 (fd.mono (by decide) (by decide)) bad
        · refine w_ixL (.of hl3) (v := .ref p) rfl ?_
          walk_at "ct"
          exact q (.ref p) _ (c + 2) GE dE (Nat.le_refl _) (.lst (.of hp3) dp3) ((f5.app fo).lst.mono (by decide) (by decide)) (no_part (List.mem_append_right _ hx) hxp)
        · refine w_ixL (.of hl3) (v := .ref p2) rfl ?_
          walk_at "ct"
          exact q (.ref p2) _ (c + 2) GE dE (Nat.le_refl _) (.lst (.of hp23) dp23) ((fo.app f5).lst.mono (by decide) (by decide)) (no_part (List.mem_append_left _ hx) hxp)
abbrev S__law_refused : Stmt := topS 41
theorem sc__law_refused : FnScope ["_law_thing", "_law_error", "_law_kept", "e"] ["_law_thing"] (defScope S__law_refused) := ⟨rfl, rfl, rfl, by decide +kernel, rfl, by decide +kernel, by decide +kernel⟩
def sp__law_refused (K : PySem.W.Frag) (c_NoTrain : Addr) (c_NoStand : Addr) (c_NoRow : Addr) (c_NoCount : Addr) (c_TooMany : Addr) (c_NoText : Addr) (c_TrainError : Addr) : Sp := fun vs H Q _ => ∃ (v : V) (d : PyData), vs = [v] ∧ Dp K H v d ∧ Fine d 30 600 ∧ isT d = false ∧ ∀ H', Same H H' → Q (.bl true) H'
theorem ok__law_refused {f : Addr} {fd : FuncData} {f_show_train : Addr} {fd_show_train : FuncData} {c_TooMany : Addr} {c_NoText : Addr} {c_NoStand : Addr} {c_NoRow : Addr} {c_NoCount : Addr} {c_NoTrain : Addr} {c_TrainError : Addr} (F : Fun K "_law_refused" "_law_refused" S__law_refused f fd)
    (F_show_train : Fun K "show_train" "show_train" S_show_train f_show_train fd_show_train) (b_show_train : Binds K fd_show_train ["train"] []) (g_show_train : mg "show_train" = some (.ref f_show_train)) (G_show_train : FnOk P w K mg base (L2.CX P w) 14 f_show_train fd_show_train ["train"] (sp_show_train K c_NoTrain)) (m_str : mg "str" = none) (m_isinstance : mg "isinstance" = none) (m_ValueError : mg "ValueError" = none)
    (g_TooMany : mg "TooMany" = some (.ref c_TooMany))
    (g_NoText : mg "NoText" = some (.ref c_NoText))
    (g_NoStand : mg "NoStand" = some (.ref c_NoStand))
    (g_NoRow : mg "NoRow" = some (.ref c_NoRow))
    (g_NoCount : mg "NoCount" = some (.ref c_NoCount))
    (g_NoTrain : mg "NoTrain" = some (.ref c_NoTrain))
    (g_TrainError : mg "TrainError" = some (.ref c_TrainError))
    (E_NoTrain : ErrC K mg "NoTrain" c_NoTrain)
    (kx_NoTrain : PySem.W.exmOne K (.ref c_NoTrain) (.ref c_TrainError) = some true)
    (kv_NoTrain : PySem.W.kitOne K (.ref c_NoTrain) (.type "ValueError") = some true)
    (k1_NoTrain : PySem.W.kitOne K (.ref c_NoTrain) (.ref c_NoTrain) = some true)
    (k2_NoTrain : PySem.W.kitOne K (.ref c_NoTrain) (.ref c_NoStand) = some false)
    (k3_NoTrain : PySem.W.kitOne K (.ref c_NoTrain) (.ref c_NoRow) = some false)
    (k4_NoTrain : PySem.W.kitOne K (.ref c_NoTrain) (.ref c_NoCount) = some false)
    (k5_NoTrain : PySem.W.kitOne K (.ref c_NoTrain) (.ref c_TooMany) = some false)
    (k6_NoTrain : PySem.W.kitOne K (.ref c_NoTrain) (.ref c_NoText) = some false) :
    FnG P w K mg base CX0 15 f fd ["_law_thing"] (sp__law_refused K c_NoTrain c_NoStand c_NoRow c_NoCount c_TooMany c_NoText c_TrainError) := by
  refine fnG_of0 F sc__law_refused (fun vs H Q E h => ?_) (fun cdv A gd outer s H vs Q E hr h => ?_)
  ·
    obtain ⟨v, d, rfl, _⟩ := h
    rfl
  ·
    obtain ⟨v, d, rfl, hd, fine, bad, q⟩ := h
    refine ⟨_, (pss_cons (ps_set (i := 1) sc__law_refused.nd rfl (.inl rfl) pe_non)
      (pss_cons (ps_set (i := 2) sc__law_refused.nd rfl (.inl rfl) (pe_callTy (r := rStrV K) (call_strV gd hr.units) (by rfl) m_str (by decide +kernel) (pa_cons (pv 0) pa_nil)))
      (pss_cons (ps_try_keep (i := 3) (c := .ref c_TrainError) rfl rfl rfl sc__law_refused.nd rfl rfl ⟨by rfl, by decide, Or.inl g_TrainError⟩ (fun W pn xe tk _ => (pss_one (ps_expr (pe_callS (E := WE W) G_show_train (hr.mono (by decide)) (by rfl) g_show_train F_show_train.kp b_show_train (fun σ => passAt tk σ) (pa_cons (pv 0) pa_nil))))) (fun a pn => (pss_one (ps_set (i := 1) sc__law_refused.nd rfl (.inl rfl) (pv 3)))))
      (pss_cons (ps_if (PW.pt (pw_or (pt_not (pt_val (pe_callB (r := rIsX K) call_isX (by rfl) m_isinstance (by decide +kernel) (pa_cons (pv 1) (pa_cons (pe_glob (v := .ref c_NoTrain) (by rfl) g_NoTrain rfl) pa_nil))))) (pw_or (pt_not (pt_val (pe_callB (r := rIsX K) call_isX (by rfl) m_isinstance (by decide +kernel) (pa_cons (pv 1) (pa_cons (pe_bltn (v := .ty "ValueError") (u := .type "ValueError") (by rfl) m_ValueError (by decide +kernel) rfl) pa_nil))))) (pw_or1 (pt_cmpR op_ne (pe_callTy (r := rStrV K) (call_strV gd hr.units) (by rfl) m_str (by decide +kernel) (pa_cons (pv 0) pa_nil)) (pv 2) (nomark _)))))) (pss_one (ps_ret pe_bl)) pss_nil)
      (pss_one (ps_ret (pe_not (pe_callB (r := rIsXT K) call_isXT (by rfl) m_isinstance (by decide +kernel) (pa_cons (pv 1) (pa_cons (pe_tup (pa_cons (pe_glob (v := .ref c_NoCount) (by rfl) g_NoCount rfl) (pa_cons (pe_glob (v := .ref c_NoRow) (by rfl) g_NoRow rfl) (pa_cons (pe_glob (v := .ref c_NoStand) (by rfl) g_NoStand rfl) (pa_cons (pe_glob (v := .ref c_NoText) (by rfl) g_NoText rfl) (pa_cons (pe_glob (v := .ref c_TooMany) (by rfl) g_TooMany rfl) pa_nil)))))) pa_nil)))))))))), ?_⟩
    refine w_st (σ' := [some v, none, none, none]) rfl ?_
    walk_at "ct"
    refine ⟨v, d, rfl, hd, fine.mono (by decide) (by decide), ?_⟩
    walk_at "ct"
    refine w_callS ?_
    walk_at "ct"
    refine ⟨v, d, rfl, hd, fine, .inl ⟨bad, fun H1 s1 => ?_⟩⟩
    refine ⟨rfl, kx_NoTrain, fun a na => ?_⟩
    walk_at "ct"
    intro na2
    refine w_st (σ' := [some v, some (.ref a), some (.str (saidV d)), none]) rfl ?_
    have sa : Same H1 (upd H1 a (KeptX (.ref c_NoTrain) a)) := same_upd na2
    have ha : (upd H1 a (KeptX (.ref c_NoTrain) a)) a = some (KeptX (.ref c_NoTrain) a) := upd_same
    generalize upd H1 a _ = H2 at *
    walk_at "ct"
    refine ⟨a, c_NoTrain, _, _, true, rfl, ha, E_NoTrain.is, .own _, k1_NoTrain, ?_⟩
    walk_at "ct"
    refine ⟨a, c_NoTrain, _, _, true, rfl, ha, E_NoTrain.is, .ty _, kv_NoTrain, ?_⟩
    walk_at "ct"
    refine ⟨v, d, rfl, dp_same (s1.trans sa) hd, fine.mono (by decide) (by decide), ?_⟩
    walk_at "ct"
    refine ⟨rfl, ?_⟩
    rw [decide_eq_true rfl]
    walk_at "ct"
    refine ⟨len2 rfl, fun tp n_tp => ?_⟩
    generalize h_G : upd _ tp _ = G
    obtain ⟨s_G, e_tp⟩ := Ct.upd_new h_G n_tp
    clear h_G
    have none5 : PySem.W.kitAny K (.ref c_NoTrain) [.ref c_NoCount, .ref c_NoRow, .ref c_NoStand, .ref c_NoText, .ref c_TooMany] = some false :=
      kitAny_cons k4_NoTrain (fun _ => kitAny_cons k3_NoTrain (fun _ => kitAny_cons k2_NoTrain (fun _ => kitAny_cons k6_NoTrain (fun _ => kitAny_cons k5_NoTrain (fun _ => rfl) nofun) nofun) nofun) nofun) nofun
    refine ⟨a, c_NoTrain, tp, _, _, false, rfl, s_G _ _ ha, E_NoTrain.is, e_tp, .cons (.own _) (.cons (.own _) (.cons (.own _) (.cons (.own _) (.cons (.own _) .nil)))), none5, ?_⟩
    walk_at "ct"
    exact q G ((s1.trans sa).trans s_G)
abbrev S_law : Stmt := topS 42
theorem sc_law : FnScope ["_law_script", "_law_first", "_law_k", "_law_train_here", "_law_cell", "_law_draws_here", "_law_some", "_law_stand_here"] ["_law_script"] (defScope S_law) := ⟨rfl, rfl, rfl, by decide +kernel, rfl, by decide +kernel, by decide +kernel⟩
def sp_law (K : PySem.W.Frag) (T : List Addr) : Sp := fun vs H Q _ => ∃ (a : Addr) (ns : List Int), vs = [.ref a] ∧ SqE K H a (ns.map V.int) ∧ ns.length ≤ 63 ∧ Tb T H ∧ ∀ H', Same H H' → Q (.bl true) H'
theorem ok_law {f : Addr} {fd : FuncData} {f__law_well : Addr} {fd__law_well : FuncData} {f__law_train_text : Addr} {fd__law_train_text : FuncData} {f_read_train : Addr} {fd_read_train : FuncData} {f__law_odd_train : Addr} {fd__law_odd_train : FuncData} {f__law_refused : Addr} {fd__law_refused : FuncData} {f__law_stand : Addr} {fd__law_stand : FuncData} {f__law_train : Addr} {fd__law_train : FuncData} {f__law_draws : Addr} {fd__law_draws : FuncData} {f__law_next : Addr} {fd__law_next : FuncData} {c_NoTrain : Addr} {c_NoStand : Addr} {c_NoRow : Addr} {c_NoCount : Addr} {c_TooMany : Addr} {c_NoText : Addr} {c_TrainError : Addr} {T : List Addr} (F : Fun K "law" "law" S_law f fd)
    (F__law_well : Fun K "_law_well" "_law_well" S__law_well f__law_well fd__law_well) (b__law_well : Binds K fd__law_well ["_law_train_here", "_law_stand_here"] []) (g__law_well : mg "_law_well" = some (.ref f__law_well)) (G__law_well : FnOk P w K mg base CX0 15 f__law_well fd__law_well ["_law_train_here", "_law_stand_here"] (sp__law_well K T))
    (F__law_train_text : Fun K "_law_train_text" "_law_train_text" S__law_train_text f__law_train_text fd__law_train_text) (b__law_train_text : Binds K fd__law_train_text ["_law_train_here"] []) (g__law_train_text : mg "_law_train_text" = some (.ref f__law_train_text)) (G__law_train_text : FnOk P w K mg base CX0 2 f__law_train_text fd__law_train_text ["_law_train_here"] (sp__law_train_text K))
    (F_read_train : Fun K "read_train" "read_train" S_read_train f_read_train fd_read_train) (b_read_train : Binds K fd_read_train ["text"] []) (g_read_train : mg "read_train" = some (.ref f_read_train)) (G_read_train : FnOk P w K mg base CX0 6 f_read_train fd_read_train ["text"] (sp_read_train K T))
    (F__law_odd_train : Fun K "_law_odd_train" "_law_odd_train" S__law_odd_train f__law_odd_train fd__law_odd_train) (b__law_odd_train : Binds K fd__law_odd_train ["_law_draws_here", "_law_train_here"] []) (g__law_odd_train : mg "_law_odd_train" = some (.ref f__law_odd_train)) (G__law_odd_train : FnOk P w K mg base CX0 2 f__law_odd_train fd__law_odd_train ["_law_draws_here", "_law_train_here"] (sp__law_odd_train K))
    (F__law_refused : Fun K "_law_refused" "_law_refused" S__law_refused f__law_refused fd__law_refused) (b__law_refused : Binds K fd__law_refused ["_law_thing"] []) (g__law_refused : mg "_law_refused" = some (.ref f__law_refused)) (G__law_refused : FnG P w K mg base CX0 15 f__law_refused fd__law_refused ["_law_thing"] (sp__law_refused K c_NoTrain c_NoStand c_NoRow c_NoCount c_TooMany c_NoText c_TrainError))
    (F__law_stand : Fun K "_law_stand" "_law_stand" S__law_stand f__law_stand fd__law_stand) (b__law_stand : Binds K fd__law_stand ["_law_draws_here"] []) (g__law_stand : mg "_law_stand" = some (.ref f__law_stand)) (G__law_stand : FnOk P w K mg base CX0 3 f__law_stand fd__law_stand ["_law_draws_here"] (sp__law_stand K))
    (F__law_train : Fun K "_law_train" "_law_train" S__law_train f__law_train fd__law_train) (b__law_train : Binds K fd__law_train ["_law_draws_here"] []) (g__law_train : mg "_law_train" = some (.ref f__law_train)) (G__law_train : FnOk P w K mg base CX0 5 f__law_train fd__law_train ["_law_draws_here"] (sp__law_train K))
    (F__law_draws : Fun K "_law_draws" "_law_draws" S__law_draws f__law_draws fd__law_draws) (b__law_draws : Binds K fd__law_draws ["_law_cell"] []) (g__law_draws : mg "_law_draws" = some (.ref f__law_draws)) (G__law_draws : FnOk P w K mg base CX0 1 f__law_draws fd__law_draws ["_law_cell"] (sp__law_draws K))
    (F__law_next : Fun K "_law_next" "_law_next" S__law_next f__law_next fd__law_next) (b__law_next : Binds K fd__law_next ["_law_draws_here"] []) (g__law_next : mg "_law_next" = some (.ref f__law_next)) (G__law_next : FnOk P w K mg base CX0 1 f__law_next fd__law_next ["_law_draws_here"] (sp__law_next K)) (m_range : mg "range" = none) (m_tuple : mg "tuple" = none) :
    FnG P w K mg base CX0 16 f fd ["_law_script"] (sp_law K T) := by
  refine fnG_of0 F sc_law (fun vs H Q E h => ?_) (fun cdv A gd outer s H vs Q E hr h => ?_)
  ·
    obtain ⟨a, ns, rfl, _⟩ := h
    rfl
  ·
    obtain ⟨a, ns, rfl, hE, hlen, hTb, q⟩ := h
    have hS := hE.sql
    refine ⟨_, (pss_cons (ps_set (i := 1) sc_law.nd rfl (.inr rfl) (pe_op op_add (pe_op op_powB pe_int pe_int) (pe_call G__law_next (hr.mono (by decide)) (by rfl) g__law_next F__law_next.kp b__law_next .nil pass0 (pa_cons (pe_call G__law_draws (hr.mono (by decide)) (by rfl) g__law_draws F__law_draws.kp b__law_draws .nil pass0 (pa_cons (pe_ix (r := rIxL K) ix_list (pe_op (r := rCatE K) op_catE (pv 0) (pe_lst (pa_cons pe_int pa_nil))) pe_int (fun _ _ => rfl)) pa_nil)) pa_nil))))
      (pss_cons (ps_set (i := 3) sc_law.nd rfl (.inl rfl) (pe_op op_rep (pe_lst (pa_cons (pe_tup (pa_cons pe_str (pa_cons (pe_op op_sub (pe_op op_powB pe_int pe_int) pe_int) (pa_cons (pe_callTy call_tuple_of (by rfl) m_tuple (by decide +kernel) (pa_cons (pe_lc (own := [("_law_k", 2)]) (g := gName 2)  rfl sc_law.nd  (pi_range1 (by rfl) m_range (pa_cons pe_int pa_nil)) (blkOk_by (own := [("_law_k", 2)]) (N := ["_law_script", "_law_first", "_law_k", "_law_train_here", "_law_cell", "_law_draws_here", "_law_some", "_law_stand_here"]) (sc := defScope S_law) (by decide +kernel)) (fun _ _ _ _ _ => pg_name (i := 2) sc_law.nd rfl (Or.inl rfl)) (fun _ _ _ _ _ => pts_nil) (fun _ _ _ _ _ => (pe_op op_add (pv 1) (pv 2)))) pa_nil)) pa_nil)))) pa_nil)) pe_int))
      (pss_cons (ps_if (pt_not (pt_val (pe_call G__law_well (hr.mono (by decide)) (by rfl) g__law_well F__law_well.kp b__law_well .nil pass0 (pa_cons (pv 3) (pa_cons (pe_op (r := rRepZ K) op_repZ (pe_tup (pa_cons pe_int pa_nil)) pe_int) pa_nil))))) (pss_one (ps_ret pe_bl)) pss_nil)
      (pss_cons (ps_for PassesOwn.never rfl (pi_list (pe_op op_cat (pe_slice (r := rSlL K) sl_list (pv 0) po_none (po_some pe_int)) (pe_lst (pa_cons pe_int pa_nil)))) (pg_name (i := 4) sc_law.nd rfl (.inl rfl))
      (pss_cons (ps_set (i := 5) sc_law.nd rfl (.inr rfl) (pe_call G__law_draws (hr.mono (by decide)) (by rfl) g__law_draws F__law_draws.kp b__law_draws .nil pass0 (pa_cons (pv 4) pa_nil)))
      (pss_cons (ps_setLc (i := 6) (own := [("_law_k", 2)]) (g := gName 2)  rfl sc_law.nd rfl rfl (sw_true rfl rfl rfl (by decide +kernel)) (pi_range1 (by rfl) m_range (pa_cons pe_int pa_nil)) (blkOk_by (own := [("_law_k", 2)]) (N := ["_law_script", "_law_first", "_law_k", "_law_train_here", "_law_cell", "_law_draws_here", "_law_some", "_law_stand_here"]) (sc := defScope S_law) (by decide +kernel)) (fun _ _ _ _ _ => pg_name (i := 2) sc_law.nd rfl (Or.inl rfl)) (fun _ _ _ _ _ => pts_nil) (fun _ _ _ _ _ => (pe_tup (pa_cons (pe_call G__law_train (hr.mono (by decide)) (by rfl) g__law_train F__law_train.kp b__law_train .nil pass0 (pa_cons (pv 5) pa_nil)) (pa_cons (pe_call G__law_stand (hr.mono (by decide)) (by rfl) g__law_stand F__law_stand.kp b__law_stand .nil pass0 (pa_cons (pv 5) pa_nil)) pa_nil)))))
      (pss_cons (ps_for PassesOwn.never rfl (pi_range1 (by rfl) m_range (pa_cons pe_int pa_nil)) (pg_name (i := 2) sc_law.nd rfl (.inl rfl))
      (pss_one (ps_if (pt_not (pt_val (pe_callG G__law_refused gd (hr.mono (by decide)) (by rfl) g__law_refused F__law_refused.kp b__law_refused pass0 (pa_cons (pe_call G__law_odd_train (hr.mono (by decide)) (by rfl) g__law_odd_train F__law_odd_train.kp b__law_odd_train .nil pass0 (pa_cons (pv 5) (pa_cons (pe_ix (r := rIxT K) ix_tup (pe_ix (r := rIxL K) ix_list (pv 6) pe_int (fun _ _ => rfl)) pe_int (fun _ _ => rfl)) pa_nil))) pa_nil)))) (pss_one (ps_ret pe_bl)) pss_nil)))
      (pss_cons (ps_set (i := 1) sc_law.nd rfl (.inr rfl) (pe_call G_read_train (hr.mono (by decide)) (by rfl) g_read_train F_read_train.kp b_read_train .nil pass0 (pa_cons (pe_call G__law_train_text (hr.mono (by decide)) (by rfl) g__law_train_text F__law_train_text.kp b__law_train_text .nil pass0 (pa_cons (pe_ix (r := rIxT K) ix_tup (pe_ix (r := rIxL K) ix_list (pv 6) pe_int (fun _ _ => rfl)) pe_int (fun _ _ => rfl)) pa_nil)) pa_nil)))
      (pss_one (ps_for PassesOwn.never rfl (pi_list (pe_lst (pa_cons (pe_ix (r := rIxL K) ix_list (pv 6) pe_int (fun _ _ => rfl)) (pa_cons (pe_ix (r := rIxL K) ix_list (pv 6) pe_int (fun _ _ => rfl)) pa_nil)))) (pg_tup rfl (pgs_cons (pg_name (i := 3) sc_law.nd rfl (.inl rfl)) (pgs_cons (pg_name (i := 7) sc_law.nd rfl (.inl rfl)) pgs_nil)))
      (pss_one (ps_if (PW.pt (pw_or (pt_not (pt_val (pe_call G__law_well (hr.mono (by decide)) (by rfl) g__law_well F__law_well.kp b__law_well .nil pass0 (pa_cons (pv 3) (pa_cons (pv 7) pa_nil))))) (pw_or1 (pt_cmpR (r := rNeD K) (op_neD hr.units) (pv 1) (pe_ix (r := rIxT K) ix_tup (pe_ix (r := rIxL K) ix_list (pv 6) pe_int (fun _ _ => rfl)) pe_int (fun _ _ => rfl)) (nomark _))))) (pss_one (ps_ret pe_bl)) pss_nil)))))))))
      (pss_one (ps_ret pe_bl)))))), ?_⟩
    refine w_st (σ' := [some (.ref a), none, none, none, none, none, none, none]) rfl ?_
    walk_at "ct"
    refine w_rIv (.int (10 ^ 39)) ⟨by decide, by decide⟩ rfl ?_
    walk_at "ct"
    refine ⟨len2 rfl, fun z0 n_z0 => ?_⟩
    generalize h_H1 : upd _ z0 _ = H1
    obtain ⟨s_H1, e_z0⟩ := Ct.upd_new h_H1 n_z0
    clear h_H1
    refine ⟨a, z0, _, _, rfl, rfl, hE.same s_H1, e_z0, by rw [List.length_map]; exact Nat.le_of_lt (small1000 (show ns.length + 1 ≤ 1000 by omega)), fun z1 n_z1 => ?_⟩
    generalize h_H2 : upd _ z1 _ = H2
    obtain ⟨s_H2, e_z1⟩ := Ct.upd_new h_H2 n_z1
    clear h_H2
    walk_at "ct"
    obtain ⟨c, hc⟩ : ∃ c : Int, atI (ns.map V.int ++ [V.int 0]) 0 = some (.int c) := by
      cases ns with
      | nil => exact ⟨0, at0⟩
      | cons n r => exact ⟨n, at0⟩
    refine w_ixL (.of e_z1) hc ?_
    walk_at "ct"
    refine ⟨c, rfl, fun D H3 s3 n_D hD => ?_⟩
    walk_at "ct"
    refine ⟨D, 0, rfl, hD, by omega, fun n1 n10 n11 => ?_⟩
    have t3 : Same H (upd H3 D (DrO D 1)) := same_new ((s_H1.trans s_H2).trans s3) ((s_H1.trans s_H2).free n_D)
    generalize upd H3 D _ = H4 at *
    walk_at "ct"
    rw [show (10 : Int) ^ 39 = ((10 * M38 : Nat) : Int) by decide]
    have m38 : 1 ≤ 10 * M38 := by decide
    have m39 : 10 * M38 + 2147483648 + 40 < M40 - 1 := by decide
    obtain ⟨F, hF, F0, F1⟩ : ∃ F : Nat, ((10 * M38 : Nat) : Int) + n1 = (F : Int) ∧ 1 ≤ F ∧ F + 40 < M40 - 1 := ⟨10 * M38 + n1.toNat, by omega, by omega, by omega⟩
    rw [hF]
    walk_at "ct"
    refine w_rIv (.int (10 ^ 40)) ⟨by decide, by decide⟩ rfl ?_
    walk_at "ct"
    rw [show (10 : Int) ^ 40 - 1 = ((M40 - 1 : Nat) : Int) by decide]
    refine w_RG1 (by decide) (by decide) ?_
    refine lb_range (fun A i G => Same H4 G ∧ G A = some (.lst (((List.range i).map fun k => F + k).map fun n : Nat => V.int (n : Int)))) (fun A nA => ⟨same_upd nA, upd_same⟩) ?_ ?_
    · rintro A nA i G hi ⟨sG, hA⟩
      have hi30 : i < 30 := hi
      walk_at "ct"
      refine ⟨rfl, ?_⟩
      walk_at "ct"
      rw [show (F : Int) + (0 + (i : Int)) = ((F + i : Nat) : Int) by omega]
      refine ⟨_, hA, by rw [List.length_map, List.length_map, List.length_range]; exact small1000 (by omega), same_new sG nA, ?_⟩
      rw [upd_same, List.range_succ, List.map_append, List.map_append]
      rfl
    rintro A nA G5 ⟨s5, hA⟩
    walk_at "ct"
    refine ⟨A, _, rfl, .inl ⟨.of hA, fun b n_b => ?_⟩⟩
    generalize h_G6 : upd _ b _ = G6
    obtain ⟨s_G6, e_b⟩ := Ct.upd_new h_G6 n_b
    clear h_G6
    walk_at "ct"
    refine ⟨len2 rfl, fun v n_v => ?_⟩
    generalize h_G7 : upd _ v _ = G7
    obtain ⟨s_G7, e_v⟩ := Ct.upd_new h_G7 n_v
    clear h_G7
    walk_at "ct"
    refine ⟨len2 rfl, fun l1 n_l1 => ?_⟩
    generalize h_G8 : upd _ l1 _ = G8
    obtain ⟨s_G8, e_l1⟩ := Ct.upd_new h_G8 n_l1
    clear h_G8
    walk_at "ct"
    refine ⟨l1, 8, _, rfl, rfl, e_l1, by decide, by decide, by show 1 * 8 ≤ sizeLine; decide, fun r0 n_r0 => ?_⟩
    generalize h_G9 : upd _ r0 _ = G9
    obtain ⟨s_G9, e_r0⟩ := Ct.upd_new h_G9 n_r0
    clear h_G9
    walk_at "ct"
    refine ⟨len2 rfl, fun zt n_zt => ?_⟩
    generalize h_G10 : upd _ zt _ = G10
    obtain ⟨s_G10, e_zt⟩ := Ct.upd_new h_G10 n_zt
    clear h_G10
    walk_at "ct"
    refine ⟨zt, 8, _, rfl, rfl, .of e_zt, (fun z => nomatch z), by decide, by decide, (show 1 ≤ 1000 by decide), fun zp G11 s11 hzp => ?_⟩
    walk_at "ct"
    have pw : ((List.range 30).map fun k => F + k).Pairwise (· < ·) := by
      rw [List.pairwise_map]
      exact List.pairwise_lt_range.imp fun h => by omega
    have bz : ∀ n ∈ (List.range 30).map fun k => F + k, n < M40 - 1 := fun n hn => by
      obtain ⟨k, hk, rfl⟩ := List.mem_map.mp hn
      have := List.mem_range.mp hk
      omega
    have len30 : ((List.range 30).map fun k => F + k).length = 30 := by rw [List.length_map, List.length_range]
    have pS := wheelS pw bz (by decide) (by decide) (by rw [len30]; decide)
    have fP := fine_wheelN (z := ((M40 - 1 : Nat) : Int)) (k := 30) (by decide) (int200 (by decide)) (rise_nat pw bz) (by rw [List.length_map, len30]; decide)
    have b11 := ((s_G7.trans s_G8).trans s_G9).trans (s_G10.trans s11)
    have dv : Dp K G11 (.ref v) (Part.wheel ((M40 - 1 : Nat) : Int) (((List.range 30).map fun k => F + k).map fun n : Nat => (n : Int))).data :=
      wheel_dp (.of (((s_G8.trans s_G9).trans (s_G10.trans s11)) _ _ e_v)) (.of (by rw [map_toInt]; exact b11 _ _ e_b))
    have t11 : Same H G11 := ((t3.trans s5).trans s_G6).trans b11
    refine ⟨r0, zp, _, _, _, List.replicate 8 0, rfl, .of ((s_G10.trans s11) _ _ e_r0), dpAll_copies dv 8, trainT_copies pS 8, (fun z => nomatch z), by rw [List.length_replicate]; decide, ((fineA_copies fP 8).lst.mono (by decide) (by decide)), hzp, (fun z => nomatch z), (fun n hn => by rw [List.eq_of_mem_replicate hn]; decide), by decide, hTb.same t11, fun G12 s12 => ?_⟩
    walk_at "ct"
    have t12 := t11.trans s12
    refine w_slL (t12.seq hS) fun u5 n_u5 => ?_
    generalize h_U1 : upd _ u5 _ = U1
    obtain ⟨s_U1, e_u5⟩ := Ct.upd_new h_U1 n_u5
    clear h_U1
    walk_at "ct"
    refine ⟨len2 rfl, fun u6 n_u6 => ?_⟩
    generalize h_U2 : upd _ u6 _ = U2
    obtain ⟨s_U2, e_u6⟩ := Ct.upd_new h_U2 n_u6
    clear h_U2
    obtain ⟨cs, hcs, cl⟩ : ∃ cs : List Int, cutV (ns.map V.int) none (some 6) = cs.map V.int ∧ cs.length ≤ 63 := by
      refine ⟨_, cutV_map ns none (some 6), ?_⟩
      have := cutV_length (ns.map V.int) none (some 6)
      rw [cutV_map, List.length_map, List.length_map] at this
      omega
    rw [hcs] at e_u5
    refine w_cat (show U2 u5 = some (.lst (cs.map V.int)) from s_U2 _ _ e_u5) e_u6 (by rw [List.length_map]; exact Nat.le_of_lt (small1000 (show cs.length + 1 ≤ 1000 by omega))) fun u7 U3 n_u7 s_U3 e_u7 => ?_
    rw [show (cs.map V.int ++ [V.int 0]) = (cs ++ [0]).map V.int by rw [List.map_append]; rfl] at e_u7
    have sHU := ((t12.trans s_U1).trans s_U2).trans s_U3
    walk_at "ct"
    refine w_IL (.of e_u7) ?_
    refine fb_list ((cs ++ [0]).map V.int) (fun n σ J => ∃ y1 y2 y3 y4 y5 y6 y7, σ = [some (.ref a), y1, y2, y3, y4, y5, y6, y7] ∧ Same U3 J) ⟨_, _, _, _, _, _, _, rfl, Same.refl _⟩ ?_ ?_ ?_
    · rintro n σ J hn ⟨y1, y2, y3, y4, y5, y6, y7, rfl, sm⟩
      exact .of (sm _ _ e_u7)
    · rintro n x σ J hx ⟨y1, y2, y3, y4, y5, y6, y7, rfl, s_J⟩
      obtain ⟨c', rfl⟩ : ∃ c : Int, x = .int c := by
        obtain ⟨k, _, rfl⟩ := List.mem_map.mp (List.mem_of_getElem? hx)
        exact ⟨k, rfl⟩
      have sHJ := sHU.trans s_J
      walk_at "ct"
      refine ⟨c', rfl, fun E J1 s_J1 n_E hE2 => ?_⟩
      walk_at "ct"
      refine w_RG1 (by decide) (by decide) ?_
      refine lb_range (fun A i G => ∃ (vs : List V) (e : Nat), Dr E e J1 G ∧ e ≤ 5000 * i ∧ G A = some (.lst vs) ∧ vs.length = i ∧ ∀ (j : Nat) (v : V), vs[j]? = some v → ∃ t a p ps ts ms, v = .ref t ∧ a ≠ A ∧ PairT K G t a p ps ts ms) (fun A nA => ⟨[], 0, (Dr.refl hE2).same (same_upd nA), Nat.le_refl _, upd_same, rfl, fun j v h => by simp at h⟩) ?_ ?_
      · rintro A nA i G hi ⟨vs, e, dG, eb, hA, vl, each⟩
        have hi2 : i < 2 := hi
        walk_at "ct"
        refine ⟨rfl, ?_⟩
        walk_at "ct"
        refine ⟨E, e, rfl, dG.2, by omega, fun a1 ws1 ps1 ts1 e1 K1 g1 e1b n_a1 h_a1 d1 tr1 ne1 pl1 f1 => ?_⟩
        walk_at "ct"
        refine ⟨E, e1, rfl, g1.2, by omega, fun p1 ms1 e2 K2 g2 e2b h_p1 nn1 hn1 nl1 => ?_⟩
        walk_at "ct"
        refine ⟨len2 rfl, fun t1 n_t1 => ?_⟩
        generalize h_K3 : upd _ t1 _ = K3
        obtain ⟨s_K3, e_t1⟩ := Ct.upd_new h_K3 n_t1
        clear h_K3
        have hA3 := s_K3 _ _ (g2.at g1.2 (g1.at dG.2 hA))
        have g12 := g1.trans g2
        have d3 := (dG.trans g12).same s_K3
        refine ⟨vs, hA3, small1000 (by omega), vs ++ [.ref t1], e2, d3.put nA hA3, by omega, upd_same, by rw [List.length_append, vl]; rfl, fun j v hj => ?_⟩
        by_cases jl : j < vs.length
        · rw [List.getElem?_append_left jl] at hj
          obtain ⟨t, a', p, ps, ts, ms, rfl, na, pr⟩ := each j v hj
          exact ⟨t, a', p, ps, ts, ms, rfl, na, ((pr.dr g12 dG.2).same s_K3).put hA3 na⟩
        · rw [List.getElem?_append_right (by omega)] at hj
          have jz : j - vs.length = 0 := by
            have := (List.getElem?_eq_some_iff.mp hj).1
            simp at this
            omega
          rw [jz] at hj
          cases Option.some.inj hj
          have na : a1 ≠ A := fun z => by rw [z, hA] at n_a1; cases n_a1
          exact ⟨t1, a1, p1, ps1, ts1, ms1, rfl, na, PairT.put ⟨e_t1, ⟨ws1, s_K3 _ _ (g2.at g1.2 h_a1), dpAll_same s_K3 (g2.all g1.2 d1)⟩, s_K3 _ _ h_p1, tr1, ne1, pl1, f1, nn1, hn1, nl1⟩ hA3 na⟩
      rintro A nA K0 ⟨vs, e, dG, eb, hA, vl, each⟩
      have vl2 : vs.length = 2 := vl
      obtain ⟨v0, v1, rfl⟩ : ∃ v0 v1, vs = [v0, v1] := by
        match vs, vl2 with
        | [x, y], _ => exact ⟨x, y, rfl⟩
      obtain ⟨t0, a0, p0, ps0, ts0, ms0, rfl, na0, pr0⟩ := each 0 _ rfl
      obtain ⟨t1, a1, p1, ps1, ts1, ms1, rfl, na1, pr1⟩ := each 1 _ rfl
      clear each
      have eb : e ≤ 10000 := eb
      have sUK : Same U3 K0 := Dr.over dG (s_J.trans s_J1) (s_J.free n_E)
      have sHK := sHU.trans sUK
      have fE : U3 E = none := s_J.free n_E
      walk_at "ct"
      refine w_RG1 (by decide) (by decide) ?_
      refine fb_range (fun i σ G => ∃ (y2 : Option V) (c2 : Nat), σ = [some (.ref a), y1, y2, y3, some (.int c'), some (.ref E), some (.ref A), y7] ∧ Dr E c2 K0 G ∧ c2 ≤ e + 2 * i) ⟨_, e, rfl, Dr.refl dG.2, by omega⟩ ?_ ?_
      · rintro i σ G hi ⟨y2, c2, rfl, g, cb⟩
        have hi3 : i < 3 := hi
        walk_at "ct"
        refine w_ixL (.of (g.at dG.2 hA)) (v := .ref t0) rfl ?_
        have pr := pr0.dr g dG.2
        walk_at "ct"
        refine w_ixT (.of pr.ht) (v := .ref a0) rfl ?_
        walk_at "ct"
        obtain ⟨ws, ha, hd⟩ := pr.ha
        refine ⟨E, a0, c2, ws, ps0, rfl, g.2, by omega, ha, hd, pr.fine, pr.pl, trainT_tdT pr.tr, fun v d c3 G2 g2 c3b dv fd bad => ?_⟩
        walk_at "ct"
        refine ⟨v, d, rfl, dv, fd, bad, fun G3 s3 => ?_⟩
        walk_at "ct"
        exact ⟨_, c3, rfl, (g.trans g2).same s3, by omega⟩
      rintro σ G ⟨y2, c2, rfl, g, cb⟩
      have sUG : Same U3 G := Dr.over g sUK fE
      walk_at "ct"
      have hA1 := g.at dG.2 hA
      have q0 := pr0.dr g dG.2
      have q1 := pr1.dr g dG.2
      refine w_ixL (.of hA1) (v := .ref t0) rfl ?_
      walk_at "ct"
      refine w_ixT (.of q0.ht) (v := .ref a0) rfl ?_
      walk_at "ct"
      obtain ⟨ws, ha, hd⟩ := q0.ha
      refine ⟨a0, ws, ps0, ts0, rfl, .of ha, hd, q0.tr, q0.pl, fun G1 s1 => ?_⟩
      walk_at "ct"
      refine ⟨ps0, ts0, rfl, q0.tr, q0.ne, q0.pl, q0.fin, hTb.same ((sHU.trans sUG).trans s1), fun l xs G2 s2 n_l h_l d_l => ?_⟩
      walk_at "ct"
      have s12 := s1.trans s2
      refine w_ixL (.of (s12 _ _ hA1)) (v := .ref t1) rfl ?_
      walk_at "ct"
      refine w_ixL (.of (s12 _ _ hA1)) (v := .ref t0) rfl ?_
      walk_at "ct"
      refine ⟨len2 rfl, fun lo n_lo => ?_⟩
      generalize h_G3 : upd _ lo _ = G3
      obtain ⟨s_G3, e_lo⟩ := Ct.upd_new h_G3 n_lo
      clear h_G3
      walk_at "ct"
      have s13 := s12.trans s_G3
      have r0' := q0.same s13
      have r1' := q1.same s13
      have sU3 : Same U3 G3 := sUG.trans s13
      refine w_IL (.of e_lo) ?_
      refine fb_list [V.ref t1, .ref t0] (fun n σ J => ∃ (y3 y7 : Option V), σ = [some (.ref a), some (.ref l), y2, y3, some (.int c'), some (.ref E), some (.ref A), y7] ∧ Same G3 J) ⟨_, _, rfl, Same.refl _⟩ ?_ ?_ ?_
      · rintro n σ J _ ⟨y3, y7, rfl, sJ⟩
        exact .of (sJ _ _ e_lo)
      · rintro n x σ J hx ⟨y3, y7, rfl, sJ⟩
        obtain ⟨tq, aq, pq, psq, tsq, msq, rfl, pr⟩ : ∃ tq aq pq psq tsq msq, x = V.ref tq ∧ PairT K J tq aq pq psq tsq msq := by
          have hn : n < 2 := (List.getElem?_eq_some_iff.mp hx).1
          have : n = 0 ∨ n = 1 := by omega
          rcases this with rfl | rfl
          · cases Option.some.inj hx
            exact ⟨t1, a1, p1, ps1, ts1, ms1, rfl, r1'.same sJ⟩
          · cases Option.some.inj hx
            exact ⟨t0, a0, p0, ps0, ts0, ms0, rfl, r0'.same sJ⟩
        refine w_gtup (.of pr.ht) rfl ?_
        walk_at "ct"
        obtain ⟨wq, hq, dq⟩ := pr.ha
        have sHJ2 := (sHU.trans sU3).trans sJ
        refine ⟨aq, pq, wq, psq, tsq, msq, rfl, .of hq, dq, pr.tr, pr.ne, pr.pl, pr.fin, .of pr.hp, pr.nn, pr.hn, pr.nl, hTb.same sHJ2, fun J2 s2' => ?_⟩
        walk_at "ct"
        have sJ2 := sJ.trans s2'
        refine w_ixL (.of ((s13.trans sJ2) _ _ hA1)) (v := .ref t0) rfl ?_
        have pz := r0'.same sJ2
        walk_at "ct"
        refine w_ixT (.of pz.ht) (v := .ref a0) rfl ?_
        obtain ⟨wz, hz, dz⟩ := pz.ha
        have sl := s_G3.trans sJ2
        refine w_neSame (.list (ps0.map Part.data)) (.lst (.of (sl _ _ h_l)) (dpAll_same sl d_l)) (.lst (.of hz) dz) ⟨pz.fin.lay, pz.fin.dep⟩ (by decide) ?_
        walk_at "ct"
        exact ⟨_, _, rfl, sJ2⟩
      rintro σ J5 ⟨y3, y7, rfl, sJ⟩
      walk_at "ct"
      exact ⟨_, _, _, _, _, _, _, rfl, sU3.trans sJ⟩
    rintro σ J ⟨y1, y2, y3, y4, y5, y6, y7, rfl, sm⟩
    walk_at "ct"
    exact q J (sHU.trans sm)
end
theorem all_mk {l : PySem.W.OpenLaw} {w : World} {K : PySem.W.Frag} {h : Heap} {mg : Str → Option Value} {fa : Addr} (X : K.In h) (G : h.Ns mainGlobals mg) (hfa : mg "law" = some (.ref fa))
    {c_NoTrain : Addr} (y_NoTrain : PySem.W.nsIn K mainGlobals "NoTrain" = some (some (.ref c_NoTrain)))
    {c_TooMany : Addr} (y_TooMany : PySem.W.nsIn K mainGlobals "TooMany" = some (some (.ref c_TooMany)))
    {c_NoText : Addr} (y_NoText : PySem.W.nsIn K mainGlobals "NoText" = some (some (.ref c_NoText)))
    {c_NoStand : Addr} (y_NoStand : PySem.W.nsIn K mainGlobals "NoStand" = some (some (.ref c_NoStand)))
    {c_NoRow : Addr} (y_NoRow : PySem.W.nsIn K mainGlobals "NoRow" = some (some (.ref c_NoRow)))
    {c_NoCount : Addr} (y_NoCount : PySem.W.nsIn K mainGlobals "NoCount" = some (some (.ref c_NoCount)))
    {c_TrainError : Addr} (y_TrainError : PySem.W.nsIn K mainGlobals "TrainError" = some (some (.ref c_TrainError)))
    {f_is_whole : Addr} {od0 an0 : Option Addr} {sl0 : Array (Option Value)} {oc0 kV0 dc0 pm0 cd0 ct0 : Value}
    (a0 : PySem.W.nsIn K mainGlobals "is_whole" = some (some (.ref f_is_whole))) (l0 : K.lookup f_is_whole = some ⟨oc0, od0, .func (PySem.W.fnOf "is_whole" "is_whole" (defArgs S_is_whole) (defBody S_is_whole) (defScope S_is_whole) .none kV0 dc0 pm0 an0 cd0 ct0), sl0⟩) (c0 : PySem.W.codeIn K cd0 "is_whole" = true) (k0 : PySem.W.keepIn K (.ref f_is_whole) = true)
    {f_are_marks : Addr} {od1 an1 : Option Addr} {sl1 : Array (Option Value)} {oc1 kV1 dc1 pm1 cd1 ct1 : Value}
    (a1 : PySem.W.nsIn K mainGlobals "are_marks" = some (some (.ref f_are_marks))) (l1 : K.lookup f_are_marks = some ⟨oc1, od1, .func (PySem.W.fnOf "are_marks" "are_marks" (defArgs S_are_marks) (defBody S_are_marks) (defScope S_are_marks) .none kV1 dc1 pm1 an1 cd1 ct1), sl1⟩) (c1 : PySem.W.codeIn K cd1 "are_marks" = true) (k1 : PySem.W.keepIn K (.ref f_are_marks) = true)
    {f_is_part : Addr} {od2 an2 : Option Addr} {sl2 : Array (Option Value)} {oc2 kV2 dc2 pm2 cd2 ct2 : Value}
    (a2 : PySem.W.nsIn K mainGlobals "is_part" = some (some (.ref f_is_part))) (l2 : K.lookup f_is_part = some ⟨oc2, od2, .func (PySem.W.fnOf "is_part" "is_part" (defArgs S_is_part) (defBody S_is_part) (defScope S_is_part) .none kV2 dc2 pm2 an2 cd2 ct2), sl2⟩) (c2 : PySem.W.codeIn K cd2 "is_part" = true) (k2 : PySem.W.keepIn K (.ref f_is_part) = true)
    {f_check_train : Addr} {od3 an3 : Option Addr} {sl3 : Array (Option Value)} {oc3 kV3 dc3 pm3 cd3 ct3 : Value}
    (a3 : PySem.W.nsIn K mainGlobals "check_train" = some (some (.ref f_check_train))) (l3 : K.lookup f_check_train = some ⟨oc3, od3, .func (PySem.W.fnOf "check_train" "check_train" (defArgs S_check_train) (defBody S_check_train) (defScope S_check_train) .none kV3 dc3 pm3 an3 cd3 ct3), sl3⟩) (c3 : PySem.W.codeIn K cd3 "check_train" = true) (k3 : PySem.W.keepIn K (.ref f_check_train) = true)
    {f_show_list : Addr} {od4 an4 : Option Addr} {sl4 : Array (Option Value)} {oc4 kV4 dc4 pm4 cd4 ct4 : Value}
    (a4 : PySem.W.nsIn K mainGlobals "show_list" = some (some (.ref f_show_list))) (l4 : K.lookup f_show_list = some ⟨oc4, od4, .func (PySem.W.fnOf "show_list" "show_list" (defArgs S_show_list) (defBody S_show_list) (defScope S_show_list) .none kV4 dc4 pm4 an4 cd4 ct4), sl4⟩) (c4 : PySem.W.codeIn K cd4 "show_list" = true) (k4 : PySem.W.keepIn K (.ref f_show_list) = true)
    {f_show_part : Addr} {od5 an5 : Option Addr} {sl5 : Array (Option Value)} {oc5 kV5 dc5 pm5 cd5 ct5 : Value}
    (a5 : PySem.W.nsIn K mainGlobals "show_part" = some (some (.ref f_show_part))) (l5 : K.lookup f_show_part = some ⟨oc5, od5, .func (PySem.W.fnOf "show_part" "show_part" (defArgs S_show_part) (defBody S_show_part) (defScope S_show_part) .none kV5 dc5 pm5 an5 cd5 ct5), sl5⟩) (c5 : PySem.W.codeIn K cd5 "show_part" = true) (k5 : PySem.W.keepIn K (.ref f_show_part) = true)
    {f_show_train : Addr} {od6 an6 : Option Addr} {sl6 : Array (Option Value)} {oc6 kV6 dc6 pm6 cd6 ct6 : Value}
    (a6 : PySem.W.nsIn K mainGlobals "show_train" = some (some (.ref f_show_train))) (l6 : K.lookup f_show_train = some ⟨oc6, od6, .func (PySem.W.fnOf "show_train" "show_train" (defArgs S_show_train) (defBody S_show_train) (defScope S_show_train) .none kV6 dc6 pm6 an6 cd6 ct6), sl6⟩) (c6 : PySem.W.codeIn K cd6 "show_train" = true) (k6 : PySem.W.keepIn K (.ref f_show_train) = true)
    {f_show_stand : Addr} {od7 an7 : Option Addr} {sl7 : Array (Option Value)} {oc7 kV7 dc7 pm7 cd7 ct7 : Value}
    (a7 : PySem.W.nsIn K mainGlobals "show_stand" = some (some (.ref f_show_stand))) (l7 : K.lookup f_show_stand = some ⟨oc7, od7, .func (PySem.W.fnOf "show_stand" "show_stand" (defArgs S_show_stand) (defBody S_show_stand) (defScope S_show_stand) .none kV7 dc7 pm7 an7 cd7 ct7), sl7⟩) (c7 : PySem.W.codeIn K cd7 "show_stand" = true) (k7 : PySem.W.keepIn K (.ref f_show_stand) = true)
    {f_read_number : Addr} {od8 an8 : Option Addr} {sl8 : Array (Option Value)} {oc8 kV8 dc8 pm8 cd8 ct8 : Value}
    (a8 : PySem.W.nsIn K mainGlobals "read_number" = some (some (.ref f_read_number))) (l8 : K.lookup f_read_number = some ⟨oc8, od8, .func (PySem.W.fnOf "read_number" "read_number" (defArgs S_read_number) (defBody S_read_number) (defScope S_read_number) .none kV8 dc8 pm8 an8 cd8 ct8), sl8⟩) (c8 : PySem.W.codeIn K cd8 "read_number" = true) (k8 : PySem.W.keepIn K (.ref f_read_number) = true)
    {f_read_numbers : Addr} {od9 an9 : Option Addr} {sl9 : Array (Option Value)} {oc9 kV9 dc9 pm9 cd9 ct9 : Value}
    (a9 : PySem.W.nsIn K mainGlobals "read_numbers" = some (some (.ref f_read_numbers))) (l9 : K.lookup f_read_numbers = some ⟨oc9, od9, .func (PySem.W.fnOf "read_numbers" "read_numbers" (defArgs S_read_numbers) (defBody S_read_numbers) (defScope S_read_numbers) .none kV9 dc9 pm9 an9 cd9 ct9), sl9⟩) (c9 : PySem.W.codeIn K cd9 "read_numbers" = true) (k9 : PySem.W.keepIn K (.ref f_read_numbers) = true)
    {f_read_wheel : Addr} {od10 an10 : Option Addr} {sl10 : Array (Option Value)} {oc10 kV10 dc10 pm10 cd10 ct10 : Value}
    (a10 : PySem.W.nsIn K mainGlobals "read_wheel" = some (some (.ref f_read_wheel))) (l10 : K.lookup f_read_wheel = some ⟨oc10, od10, .func (PySem.W.fnOf "read_wheel" "read_wheel" (defArgs S_read_wheel) (defBody S_read_wheel) (defScope S_read_wheel) .none kV10 dc10 pm10 an10 cd10 ct10), sl10⟩) (c10 : PySem.W.codeIn K cd10 "read_wheel" = true) (k10 : PySem.W.keepIn K (.ref f_read_wheel) = true)
    {f_read_part : Addr} {od11 an11 : Option Addr} {sl11 : Array (Option Value)} {oc11 kV11 dc11 pm11 cd11 ct11 : Value}
    (a11 : PySem.W.nsIn K mainGlobals "read_part" = some (some (.ref f_read_part))) (l11 : K.lookup f_read_part = some ⟨oc11, od11, .func (PySem.W.fnOf "read_part" "read_part" (defArgs S_read_part) (defBody S_read_part) (defScope S_read_part) .none kV11 dc11 pm11 an11 cd11 ct11), sl11⟩) (c11 : PySem.W.codeIn K cd11 "read_part" = true) (k11 : PySem.W.keepIn K (.ref f_read_part) = true)
    {f_read_train : Addr} {od12 an12 : Option Addr} {sl12 : Array (Option Value)} {oc12 kV12 dc12 pm12 cd12 ct12 : Value}
    (a12 : PySem.W.nsIn K mainGlobals "read_train" = some (some (.ref f_read_train))) (l12 : K.lookup f_read_train = some ⟨oc12, od12, .func (PySem.W.fnOf "read_train" "read_train" (defArgs S_read_train) (defBody S_read_train) (defScope S_read_train) .none kV12 dc12 pm12 an12 cd12 ct12), sl12⟩) (c12 : PySem.W.codeIn K cd12 "read_train" = true) (k12 : PySem.W.keepIn K (.ref f_read_train) = true)
    {f_read_stand : Addr} {od13 an13 : Option Addr} {sl13 : Array (Option Value)} {oc13 kV13 dc13 pm13 cd13 ct13 : Value}
    (a13 : PySem.W.nsIn K mainGlobals "read_stand" = some (some (.ref f_read_stand))) (l13 : K.lookup f_read_stand = some ⟨oc13, od13, .func (PySem.W.fnOf "read_stand" "read_stand" (defArgs S_read_stand) (defBody S_read_stand) (defScope S_read_stand) .none kV13 dc13 pm13 an13 cd13 ct13), sl13⟩) (c13 : PySem.W.codeIn K cd13 "read_stand" = true) (k13 : PySem.W.keepIn K (.ref f_read_stand) = true)
    {f__law_draws : Addr} {od14 an14 : Option Addr} {sl14 : Array (Option Value)} {oc14 kV14 dc14 pm14 cd14 ct14 : Value}
    (a14 : PySem.W.nsIn K mainGlobals "_law_draws" = some (some (.ref f__law_draws))) (l14 : K.lookup f__law_draws = some ⟨oc14, od14, .func (PySem.W.fnOf "_law_draws" "_law_draws" (defArgs S__law_draws) (defBody S__law_draws) (defScope S__law_draws) .none kV14 dc14 pm14 an14 cd14 ct14), sl14⟩) (c14 : PySem.W.codeIn K cd14 "_law_draws" = true) (k14 : PySem.W.keepIn K (.ref f__law_draws) = true)
    {f__law_next : Addr} {od15 an15 : Option Addr} {sl15 : Array (Option Value)} {oc15 kV15 dc15 pm15 cd15 ct15 : Value}
    (a15 : PySem.W.nsIn K mainGlobals "_law_next" = some (some (.ref f__law_next))) (l15 : K.lookup f__law_next = some ⟨oc15, od15, .func (PySem.W.fnOf "_law_next" "_law_next" (defArgs S__law_next) (defBody S__law_next) (defScope S__law_next) .none kV15 dc15 pm15 an15 cd15 ct15), sl15⟩) (c15 : PySem.W.codeIn K cd15 "_law_next" = true) (k15 : PySem.W.keepIn K (.ref f__law_next) = true)
    {f__law_whole : Addr} {od16 an16 : Option Addr} {sl16 : Array (Option Value)} {oc16 kV16 dc16 pm16 cd16 ct16 : Value}
    (a16 : PySem.W.nsIn K mainGlobals "_law_whole" = some (some (.ref f__law_whole))) (l16 : K.lookup f__law_whole = some ⟨oc16, od16, .func (PySem.W.fnOf "_law_whole" "_law_whole" (defArgs S__law_whole) (defBody S__law_whole) (defScope S__law_whole) .none kV16 dc16 pm16 an16 cd16 ct16), sl16⟩) (c16 : PySem.W.codeIn K cd16 "_law_whole" = true) (k16 : PySem.W.keepIn K (.ref f__law_whole) = true)
    {f__law_number : Addr} {od17 an17 : Option Addr} {sl17 : Array (Option Value)} {oc17 kV17 dc17 pm17 cd17 ct17 : Value}
    (a17 : PySem.W.nsIn K mainGlobals "_law_number" = some (some (.ref f__law_number))) (l17 : K.lookup f__law_number = some ⟨oc17, od17, .func (PySem.W.fnOf "_law_number" "_law_number" (defArgs S__law_number) (defBody S__law_number) (defScope S__law_number) .none kV17 dc17 pm17 an17 cd17 ct17), sl17⟩) (c17 : PySem.W.codeIn K cd17 "_law_number" = true) (k17 : PySem.W.keepIn K (.ref f__law_number) = true)
    {f__law_rising : Addr} {od18 an18 : Option Addr} {sl18 : Array (Option Value)} {oc18 kV18 dc18 pm18 cd18 ct18 : Value}
    (a18 : PySem.W.nsIn K mainGlobals "_law_rising" = some (some (.ref f__law_rising))) (l18 : K.lookup f__law_rising = some ⟨oc18, od18, .func (PySem.W.fnOf "_law_rising" "_law_rising" (defArgs S__law_rising) (defBody S__law_rising) (defScope S__law_rising) .none kV18 dc18 pm18 an18 cd18 ct18), sl18⟩) (c18 : PySem.W.codeIn K cd18 "_law_rising" = true) (k18 : PySem.W.keepIn K (.ref f__law_rising) = true)
    {f__law_part : Addr} {od19 an19 : Option Addr} {sl19 : Array (Option Value)} {oc19 kV19 dc19 pm19 cd19 ct19 : Value}
    (a19 : PySem.W.nsIn K mainGlobals "_law_part" = some (some (.ref f__law_part))) (l19 : K.lookup f__law_part = some ⟨oc19, od19, .func (PySem.W.fnOf "_law_part" "_law_part" (defArgs S__law_part) (defBody S__law_part) (defScope S__law_part) .none kV19 dc19 pm19 an19 cd19 ct19), sl19⟩) (c19 : PySem.W.codeIn K cd19 "_law_part" = true) (k19 : PySem.W.keepIn K (.ref f__law_part) = true)
    {f__law_train : Addr} {od20 an20 : Option Addr} {sl20 : Array (Option Value)} {oc20 kV20 dc20 pm20 cd20 ct20 : Value}
    (a20 : PySem.W.nsIn K mainGlobals "_law_train" = some (some (.ref f__law_train))) (l20 : K.lookup f__law_train = some ⟨oc20, od20, .func (PySem.W.fnOf "_law_train" "_law_train" (defArgs S__law_train) (defBody S__law_train) (defScope S__law_train) .none kV20 dc20 pm20 an20 cd20 ct20), sl20⟩) (c20 : PySem.W.codeIn K cd20 "_law_train" = true) (k20 : PySem.W.keepIn K (.ref f__law_train) = true)
    {f__law_stand : Addr} {od21 an21 : Option Addr} {sl21 : Array (Option Value)} {oc21 kV21 dc21 pm21 cd21 ct21 : Value}
    (a21 : PySem.W.nsIn K mainGlobals "_law_stand" = some (some (.ref f__law_stand))) (l21 : K.lookup f__law_stand = some ⟨oc21, od21, .func (PySem.W.fnOf "_law_stand" "_law_stand" (defArgs S__law_stand) (defBody S__law_stand) (defScope S__law_stand) .none kV21 dc21 pm21 an21 cd21 ct21), sl21⟩) (c21 : PySem.W.codeIn K cd21 "_law_stand" = true) (k21 : PySem.W.keepIn K (.ref f__law_stand) = true)
    {f__law_part_text : Addr} {od22 an22 : Option Addr} {sl22 : Array (Option Value)} {oc22 kV22 dc22 pm22 cd22 ct22 : Value}
    (a22 : PySem.W.nsIn K mainGlobals "_law_part_text" = some (some (.ref f__law_part_text))) (l22 : K.lookup f__law_part_text = some ⟨oc22, od22, .func (PySem.W.fnOf "_law_part_text" "_law_part_text" (defArgs S__law_part_text) (defBody S__law_part_text) (defScope S__law_part_text) .none kV22 dc22 pm22 an22 cd22 ct22), sl22⟩) (c22 : PySem.W.codeIn K cd22 "_law_part_text" = true) (k22 : PySem.W.keepIn K (.ref f__law_part_text) = true)
    {f__law_train_text : Addr} {od23 an23 : Option Addr} {sl23 : Array (Option Value)} {oc23 kV23 dc23 pm23 cd23 ct23 : Value}
    (a23 : PySem.W.nsIn K mainGlobals "_law_train_text" = some (some (.ref f__law_train_text))) (l23 : K.lookup f__law_train_text = some ⟨oc23, od23, .func (PySem.W.fnOf "_law_train_text" "_law_train_text" (defArgs S__law_train_text) (defBody S__law_train_text) (defScope S__law_train_text) .none kV23 dc23 pm23 an23 cd23 ct23), sl23⟩) (c23 : PySem.W.codeIn K cd23 "_law_train_text" = true) (k23 : PySem.W.keepIn K (.ref f__law_train_text) = true)
    {f__law_stand_text : Addr} {od24 an24 : Option Addr} {sl24 : Array (Option Value)} {oc24 kV24 dc24 pm24 cd24 ct24 : Value}
    (a24 : PySem.W.nsIn K mainGlobals "_law_stand_text" = some (some (.ref f__law_stand_text))) (l24 : K.lookup f__law_stand_text = some ⟨oc24, od24, .func (PySem.W.fnOf "_law_stand_text" "_law_stand_text" (defArgs S__law_stand_text) (defBody S__law_stand_text) (defScope S__law_stand_text) .none kV24 dc24 pm24 an24 cd24 ct24), sl24⟩) (c24 : PySem.W.codeIn K cd24 "_law_stand_text" = true) (k24 : PySem.W.keepIn K (.ref f__law_stand_text) = true)
    {f__law_plain : Addr} {od25 an25 : Option Addr} {sl25 : Array (Option Value)} {oc25 kV25 dc25 pm25 cd25 ct25 : Value}
    (a25 : PySem.W.nsIn K mainGlobals "_law_plain" = some (some (.ref f__law_plain))) (l25 : K.lookup f__law_plain = some ⟨oc25, od25, .func (PySem.W.fnOf "_law_plain" "_law_plain" (defArgs S__law_plain) (defBody S__law_plain) (defScope S__law_plain) .none kV25 dc25 pm25 an25 cd25 ct25), sl25⟩) (c25 : PySem.W.codeIn K cd25 "_law_plain" = true) (k25 : PySem.W.keepIn K (.ref f__law_plain) = true)
    {f__law_well : Addr} {od26 an26 : Option Addr} {sl26 : Array (Option Value)} {oc26 kV26 dc26 pm26 cd26 ct26 : Value}
    (a26 : PySem.W.nsIn K mainGlobals "_law_well" = some (some (.ref f__law_well))) (l26 : K.lookup f__law_well = some ⟨oc26, od26, .func (PySem.W.fnOf "_law_well" "_law_well" (defArgs S__law_well) (defBody S__law_well) (defScope S__law_well) .none kV26 dc26 pm26 an26 cd26 ct26), sl26⟩) (c26 : PySem.W.codeIn K cd26 "_law_well" = true) (k26 : PySem.W.keepIn K (.ref f__law_well) = true)
    {f__law_odd_train : Addr} {od27 an27 : Option Addr} {sl27 : Array (Option Value)} {oc27 kV27 dc27 pm27 cd27 ct27 : Value}
    (a27 : PySem.W.nsIn K mainGlobals "_law_odd_train" = some (some (.ref f__law_odd_train))) (l27 : K.lookup f__law_odd_train = some ⟨oc27, od27, .func (PySem.W.fnOf "_law_odd_train" "_law_odd_train" (defArgs S__law_odd_train) (defBody S__law_odd_train) (defScope S__law_odd_train) .none kV27 dc27 pm27 an27 cd27 ct27), sl27⟩) (c27 : PySem.W.codeIn K cd27 "_law_odd_train" = true) (k27 : PySem.W.keepIn K (.ref f__law_odd_train) = true)
    {f__law_refused : Addr} {od28 an28 : Option Addr} {sl28 : Array (Option Value)} {oc28 kV28 dc28 pm28 cd28 ct28 : Value}
    (a28 : PySem.W.nsIn K mainGlobals "_law_refused" = some (some (.ref f__law_refused))) (l28 : K.lookup f__law_refused = some ⟨oc28, od28, .func (PySem.W.fnOf "_law_refused" "_law_refused" (defArgs S__law_refused) (defBody S__law_refused) (defScope S__law_refused) .none kV28 dc28 pm28 an28 cd28 ct28), sl28⟩) (c28 : PySem.W.codeIn K cd28 "_law_refused" = true) (k28 : PySem.W.keepIn K (.ref f__law_refused) = true)
    {f_law : Addr} {od29 an29 : Option Addr} {sl29 : Array (Option Value)} {oc29 kV29 dc29 pm29 cd29 ct29 : Value}
    (a29 : PySem.W.nsIn K mainGlobals "law" = some (some (.ref f_law))) (l29 : K.lookup f_law = some ⟨oc29, od29, .func (PySem.W.fnOf "law" "law" (defArgs S_law) (defBody S_law) (defScope S_law) .none kV29 dc29 pm29 an29 cd29 ct29), sl29⟩) (c29 : PySem.W.codeIn K cd29 "law" = true) (k29 : PySem.W.keepIn K (.ref f_law) = true)
    (z0 : PySem.W.nsIn K mainGlobals "isinstance" = some none)
    (z1 : PySem.W.nsIn K mainGlobals "int" = some none)
    (z2 : PySem.W.nsIn K mainGlobals "bool" = some none)
    (z3 : PySem.W.nsIn K mainGlobals "tuple" = some none)
    (z4 : PySem.W.nsIn K mainGlobals "len" = some none)
    (z5 : PySem.W.nsIn K mainGlobals "list" = some none)
    (z6 : PySem.W.nsIn K mainGlobals "str" = some none)
    (z7 : PySem.W.nsIn K mainGlobals "any" = some none)
    (z8 : PySem.W.nsIn K mainGlobals "range" = some none)
    (z9 : PySem.W.nsIn K mainGlobals "max" = some none)
    (z10 : PySem.W.nsIn K mainGlobals "all" = some none)
    (z11 : PySem.W.nsIn K mainGlobals "ValueError" = some none)
    (r1_NoTrain : PySem.W.keepIn K (.ref c_NoTrain) = true) (r2_NoTrain : PySem.W.excIn K c_NoTrain [.type "ValueError", .type "Exception", .type "BaseException", .type "object"] "ValueError.__new__" = true) (r3_NoTrain : PySem.W.subIn K (.ref c_NoTrain) (.type "BaseException") = some true) (r4_NoTrain : PySem.W.typeIn K (.ref c_NoTrain) = some (.type "type"))
    (r5_NoTrain : PySem.W.findIn K (.ref c_NoTrain) "__getattribute__" = some (some (.builtin "BaseException.__getattribute__"))) (r6_NoTrain : PySem.W.findIn K (.ref c_NoTrain) "__getattr__" = some none) (r7_NoTrain : PySem.W.hasDictIn K c_NoTrain = true) (r8_NoTrain : PySem.W.findIn K (.ref c_NoTrain) "__class__" = some (some (.builtin "object.__class__"))) (r9_NoTrain : PySem.W.mroIn K c_NoTrain (.type "object") = some true)
    (rA : PySem.W.specialIn K (.builtin "object.__class__") "__get__" = some (some (.builtin "getset_descriptor.__get__"))) (rB : PySem.W.takesIn K (.builtin "object.__class__") = some true)
    {tk_FIGURES : Tok} (v_FIGURES : PySem.W.nsIn K mainGlobals "FIGURES" = some (some (.str "0123456789" tk_FIGURES)))
    {tk_MOST_FIGURES : Tok} (v_MOST_FIGURES : PySem.W.nsIn K mainGlobals "MOST_FIGURES" = some (some (.int 40 tk_MOST_FIGURES)))
    (kx_NoTrain : PySem.W.exmOne K (.ref c_NoTrain) (.ref c_TrainError) = some true)
    (kv_NoTrain : PySem.W.kitOne K (.ref c_NoTrain) (.type "ValueError") = some true)
    (k1_NoTrain : PySem.W.kitOne K (.ref c_NoTrain) (.ref c_NoTrain) = some true)
    (k2_NoTrain : PySem.W.kitOne K (.ref c_NoTrain) (.ref c_NoStand) = some false)
    (k3_NoTrain : PySem.W.kitOne K (.ref c_NoTrain) (.ref c_NoRow) = some false)
    (k4_NoTrain : PySem.W.kitOne K (.ref c_NoTrain) (.ref c_NoCount) = some false)
    (k5_NoTrain : PySem.W.kitOne K (.ref c_NoTrain) (.ref c_TooMany) = some false)
    (k6_NoTrain : PySem.W.kitOne K (.ref c_NoTrain) (.ref c_NoText) = some false)
    (tb_read_number : tabOkB K cd8 = true)
    : LawAtX l w K 63 "_law_script" mg fa ["read_number"] := by
  have e := hfa.symm.trans (PySem.W.mg_of X G a29)
  cases e
  have F_is_whole := fun_mk (st := S_is_whole) l0 c0 k0
  have F_are_marks := fun_mk (st := S_are_marks) l1 c1 k1
  have F_is_part := fun_mk (st := S_is_part) l2 c2 k2
  have F_check_train := fun_mk (st := S_check_train) l3 c3 k3
  have F_show_list := fun_mk (st := S_show_list) l4 c4 k4
  have F_show_part := fun_mk (st := S_show_part) l5 c5 k5
  have F_show_train := fun_mk (st := S_show_train) l6 c6 k6
  have F_show_stand := fun_mk (st := S_show_stand) l7 c7 k7
  have F_read_number := fun_mk (st := S_read_number) l8 c8 k8
  have F_read_numbers := fun_mk (st := S_read_numbers) l9 c9 k9
  have F_read_wheel := fun_mk (st := S_read_wheel) l10 c10 k10
  have F_read_part := fun_mk (st := S_read_part) l11 c11 k11
  have F_read_train := fun_mk (st := S_read_train) l12 c12 k12
  have F_read_stand := fun_mk (st := S_read_stand) l13 c13 k13
  have F__law_draws := fun_mk (st := S__law_draws) l14 c14 k14
  have F__law_next := fun_mk (st := S__law_next) l15 c15 k15
  have F__law_whole := fun_mk (st := S__law_whole) l16 c16 k16
  have F__law_number := fun_mk (st := S__law_number) l17 c17 k17
  have F__law_rising := fun_mk (st := S__law_rising) l18 c18 k18
  have F__law_part := fun_mk (st := S__law_part) l19 c19 k19
  have F__law_train := fun_mk (st := S__law_train) l20 c20 k20
  have F__law_stand := fun_mk (st := S__law_stand) l21 c21 k21
  have F__law_part_text := fun_mk (st := S__law_part_text) l22 c22 k22
  have F__law_train_text := fun_mk (st := S__law_train_text) l23 c23 k23
  have F__law_stand_text := fun_mk (st := S__law_stand_text) l24 c24 k24
  have F__law_plain := fun_mk (st := S__law_plain) l25 c25 k25
  have F__law_well := fun_mk (st := S__law_well) l26 c26 k26
  have F__law_odd_train := fun_mk (st := S__law_odd_train) l27 c27 k27
  have F__law_refused := fun_mk (st := S__law_refused) l28 c28 k28
  have F_law := fun_mk (st := S_law) l29 c29 k29
  have m_isinstance := PySem.W.mg_none_of X G z0
  have m_int := PySem.W.mg_none_of X G z1
  have m_bool := PySem.W.mg_none_of X G z2
  have m_tuple := PySem.W.mg_none_of X G z3
  have m_len := PySem.W.mg_none_of X G z4
  have m_list := PySem.W.mg_none_of X G z5
  have m_str := PySem.W.mg_none_of X G z6
  have m_any := PySem.W.mg_none_of X G z7
  have m_range := PySem.W.mg_none_of X G z8
  have m_max := PySem.W.mg_none_of X G z9
  have m_all := PySem.W.mg_none_of X G z10
  have m_ValueError := PySem.W.mg_none_of X G z11
  have g_NoTrain := PySem.W.mg_of X G y_NoTrain
  have g_TooMany := PySem.W.mg_of X G y_TooMany
  have g_NoText := PySem.W.mg_of X G y_NoText
  have g_NoStand := PySem.W.mg_of X G y_NoStand
  have g_NoRow := PySem.W.mg_of X G y_NoRow
  have g_NoCount := PySem.W.mg_of X G y_NoCount
  have g_TrainError := PySem.W.mg_of X G y_TrainError
  have g_FIGURES := PySem.W.mg_of X G v_FIGURES
  have g_MOST_FIGURES := PySem.W.mg_of X G v_MOST_FIGURES
  have E_NoTrain : ErrC K mg "NoTrain" c_NoTrain := ⟨g_NoTrain, r1_NoTrain, r2_NoTrain, r3_NoTrain, r4_NoTrain, ⟨r5_NoTrain, r6_NoTrain, r3_NoTrain, r7_NoTrain, r8_NoTrain, rA, rB, r9_NoTrain⟩⟩
  have b_is_whole := F_is_whole.binds (ps := ["thing"]) fun _ _ _ _ _ _ us hl => match us, hl with | [_], _ => rfl
  have g_is_whole := PySem.W.mg_of X G a0
  have b_are_marks := F_are_marks.binds (ps := ["thing", "teeth"]) fun _ _ _ _ _ _ us hl => match us, hl with | [_, _], _ => rfl
  have g_are_marks := PySem.W.mg_of X G a1
  have b_is_part := F_is_part.binds (ps := ["thing"]) fun _ _ _ _ _ _ us hl => match us, hl with | [_], _ => rfl
  have g_is_part := PySem.W.mg_of X G a2
  have b_check_train := F_check_train.binds (ps := ["train"]) fun _ _ _ _ _ _ us hl => match us, hl with | [_], _ => rfl
  have g_check_train := PySem.W.mg_of X G a3
  have b_show_list := F_show_list.binds (ps := ["things", "show_one"]) fun _ _ _ _ _ _ us hl => match us, hl with | [_, _], _ => rfl
  have g_show_list := PySem.W.mg_of X G a4
  have b_show_part := F_show_part.binds (ps := ["part"]) fun _ _ _ _ _ _ us hl => match us, hl with | [_], _ => rfl
  have g_show_part := PySem.W.mg_of X G a5
  have b_show_train := F_show_train.binds (ps := ["train"]) fun _ _ _ _ _ _ us hl => match us, hl with | [_], _ => rfl
  have g_show_train := PySem.W.mg_of X G a6
  have b_show_stand := F_show_stand.binds (ps := ["stand"]) fun _ _ _ _ _ _ us hl => match us, hl with | [_], _ => rfl
  have g_show_stand := PySem.W.mg_of X G a7
  have b_read_number := F_read_number.binds (ps := ["text"]) fun _ _ _ _ _ _ us hl => match us, hl with | [_], _ => rfl
  have g_read_number := PySem.W.mg_of X G a8
  have b_read_numbers := F_read_numbers.binds (ps := ["text", "between"]) fun _ _ _ _ _ _ us hl => match us, hl with | [_, _], _ => rfl
  have g_read_numbers := PySem.W.mg_of X G a9
  have b_read_wheel := F_read_wheel.binds (ps := ["text"]) fun _ _ _ _ _ _ us hl => match us, hl with | [_], _ => rfl
  have g_read_wheel := PySem.W.mg_of X G a10
  have b_read_part := F_read_part.binds (ps := ["text"]) fun _ _ _ _ _ _ us hl => match us, hl with | [_], _ => rfl
  have g_read_part := PySem.W.mg_of X G a11
  have b_read_train := F_read_train.binds (ps := ["text"]) fun _ _ _ _ _ _ us hl => match us, hl with | [_], _ => rfl
  have g_read_train := PySem.W.mg_of X G a12
  have b_read_stand := F_read_stand.binds (ps := ["text"]) fun _ _ _ _ _ _ us hl => match us, hl with | [_], _ => rfl
  have g_read_stand := PySem.W.mg_of X G a13
  have b__law_draws := F__law_draws.binds (ps := ["_law_cell"]) fun _ _ _ _ _ _ us hl => match us, hl with | [_], _ => rfl
  have g__law_draws := PySem.W.mg_of X G a14
  have b__law_next := F__law_next.binds (ps := ["_law_draws_here"]) fun _ _ _ _ _ _ us hl => match us, hl with | [_], _ => rfl
  have g__law_next := PySem.W.mg_of X G a15
  have b__law_whole := F__law_whole.binds (ps := ["_law_found"]) fun _ _ _ _ _ _ us hl => match us, hl with | [_], _ => rfl
  have g__law_whole := PySem.W.mg_of X G a16
  have b__law_number := F__law_number.binds (ps := ["_law_draws_here"]) fun _ _ _ _ _ _ us hl => match us, hl with | [_], _ => rfl
  have g__law_number := PySem.W.mg_of X G a17
  have b__law_rising := F__law_rising.binds (ps := ["_law_draws_here", "_law_many"]) fun _ _ _ _ _ _ us hl => match us, hl with | [_, _], _ => rfl
  have g__law_rising := PySem.W.mg_of X G a18
  have b__law_part := F__law_part.binds (ps := ["_law_draws_here", "_law_most"]) fun _ _ _ _ _ _ us hl => match us, hl with | [_, _], _ => rfl
  have g__law_part := PySem.W.mg_of X G a19
  have b__law_train := F__law_train.binds (ps := ["_law_draws_here"]) fun _ _ _ _ _ _ us hl => match us, hl with | [_], _ => rfl
  have g__law_train := PySem.W.mg_of X G a20
  have b__law_stand := F__law_stand.binds (ps := ["_law_draws_here"]) fun _ _ _ _ _ _ us hl => match us, hl with | [_], _ => rfl
  have g__law_stand := PySem.W.mg_of X G a21
  have b__law_part_text := F__law_part_text.binds (ps := ["_law_part_here"]) fun _ _ _ _ _ _ us hl => match us, hl with | [_], _ => rfl
  have g__law_part_text := PySem.W.mg_of X G a22
  have b__law_train_text := F__law_train_text.binds (ps := ["_law_train_here"]) fun _ _ _ _ _ _ us hl => match us, hl with | [_], _ => rfl
  have g__law_train_text := PySem.W.mg_of X G a23
  have b__law_stand_text := F__law_stand_text.binds (ps := ["_law_stand_here"]) fun _ _ _ _ _ _ us hl => match us, hl with | [_], _ => rfl
  have g__law_stand_text := PySem.W.mg_of X G a24
  have b__law_plain := F__law_plain.binds (ps := ["_law_found"]) fun _ _ _ _ _ _ us hl => match us, hl with | [_], _ => rfl
  have g__law_plain := PySem.W.mg_of X G a25
  have b__law_well := F__law_well.binds (ps := ["_law_train_here", "_law_stand_here"]) fun _ _ _ _ _ _ us hl => match us, hl with | [_, _], _ => rfl
  have g__law_well := PySem.W.mg_of X G a26
  have b__law_odd_train := F__law_odd_train.binds (ps := ["_law_draws_here", "_law_train_here"]) fun _ _ _ _ _ _ us hl => match us, hl with | [_, _], _ => rfl
  have g__law_odd_train := PySem.W.mg_of X G a27
  have b__law_refused := F__law_refused.binds (ps := ["_law_thing"]) fun _ _ _ _ _ _ us hl => match us, hl with | [_], _ => rfl
  have g__law_refused := PySem.W.mg_of X G a28
  refine ⟨PySem.W.fnOf "law" "law" (defArgs S_law) (defBody S_law) (defScope S_law) .none kV29 dc29 pm29 an29 cd29 ct29, [("read_number", cd8)], sp_law K [tabOf K cd8], fun p hp => ?_, fun s v => .of_eq rfl, fun H a ns hlen hT hE => ?_, fun base _ _ hTB => ?_⟩
  · rcases List.mem_cons.mp hp with rfl | hp
    · exact ⟨by simp, f_read_number, _, _, _, _, g_read_number, l8, rfl, tb_read_number⟩
    cases hp
  · exact ⟨a, ns, rfl, hE, hlen, fun P hP => (by
      obtain ⟨p, hp, rfl⟩ := List.mem_map.mp (show P ∈ ([("read_number", cd8)] : List (Str × Value)).map (fun p => tabOf K p.2) from hP)
      exact hT p hp), fun H2 s2 => ⟨rfl, s2⟩⟩
  have G_is_whole : FnOk l.prog w K mg base CX0 1 _ _ ["thing"] (sp_is_whole K) := ok_is_whole F_is_whole   m_isinstance m_int m_bool   
  have G_are_marks : FnOk l.prog w K mg base CX0 2 _ _ ["thing", "teeth"] (sp_are_marks K) := ok_are_marks F_are_marks  F_is_whole b_is_whole g_is_whole G_is_whole m_isinstance m_tuple   
  have G_is_part : FnOk l.prog w K mg base CX0 3 _ _ ["thing"] (sp_is_part K) := ok_is_part F_is_part  F_is_whole b_is_whole g_is_whole G_is_whole F_are_marks b_are_marks g_are_marks G_are_marks m_isinstance m_tuple m_len   
  have G_check_train : FnOk l.prog w K mg base (L2.CX l.prog w) 4 _ _ ["train"] (sp_check_train K c_NoTrain) := ok_check_train F_check_train  F_is_part b_is_part g_is_part G_is_part m_isinstance m_list m_len g_NoTrain E_NoTrain  
  have G_show_list : ∀ R, (∀ f sp, R f sp → L2.Held l.prog w K mg base 12 f sp) → FnOk l.prog w K mg base CX0 13 f_show_list _ ["things", "show_one"] (sp_show_list K R) := fun R HR => ok_show_list F_show_list      HR 
  have G_show_part : FnOk l.prog w K mg base CX0 1 _ _ ["part"] (sp_show_part K) := ok_show_part F_show_part   m_str   
  have G_show_train : FnOk l.prog w K mg base (L2.CX l.prog w) 14 _ _ ["train"] (sp_show_train K c_NoTrain) := ok_show_train F_show_train  F_show_list b_show_list g_show_list G_show_list F_show_part b_show_part g_show_part G_show_part F_check_train b_check_train g_check_train G_check_train    
  have G_show_stand : FnOk l.prog w K mg base CX0 1 _ _ ["stand"] (sp_show_stand K) := ok_show_stand F_show_stand   m_str   
  have G_read_number : FnOk l.prog w K mg base CX0 2 _ _ ["text"] (sp_read_number K [tabOf K cd8]) := ok_read_number F_read_number   m_any m_int m_len  g_FIGURES g_MOST_FIGURES  (hTB ("read_number", cd8) (by simp)) (by obtain ⟨_, _, _, _, h, _⟩ := tab_inv tb_read_number; exact h) (by simp)
  have G_read_numbers : FnOk l.prog w K mg base CX0 3 _ _ ["text", "between"] (sp_read_numbers K [tabOf K cd8]) := ok_read_numbers F_read_numbers  F_read_number b_read_number g_read_number G_read_number    
  have G_read_wheel : FnOk l.prog w K mg base CX0 4 _ _ ["text"] (sp_read_wheel K [tabOf K cd8]) := ok_read_wheel F_read_wheel  F_read_numbers b_read_numbers g_read_numbers G_read_numbers F_read_number b_read_number g_read_number G_read_number m_tuple   
  have G_read_part : FnOk l.prog w K mg base CX0 5 _ _ ["text"] (sp_read_part K [tabOf K cd8]) := ok_read_part F_read_part  F_read_number b_read_number g_read_number G_read_number F_read_wheel b_read_wheel g_read_wheel G_read_wheel    
  have G_read_train : FnOk l.prog w K mg base CX0 6 _ _ ["text"] (sp_read_train K [tabOf K cd8]) := ok_read_train F_read_train  F_check_train b_check_train g_check_train G_check_train F_read_part b_read_part g_read_part G_read_part    
  have G_read_stand : FnOk l.prog w K mg base CX0 4 _ _ ["text"] (sp_read_stand K [tabOf K cd8]) := ok_read_stand F_read_stand  F_read_numbers b_read_numbers g_read_numbers G_read_numbers m_tuple   
  have G__law_draws : FnOk l.prog w K mg base CX0 1 _ _ ["_law_cell"] (sp__law_draws K) := ok__law_draws F__law_draws      
  have G__law_next : FnOk l.prog w K mg base CX0 1 _ _ ["_law_draws_here"] (sp__law_next K) := ok__law_next F__law_next      
  have G__law_whole : FnOk l.prog w K mg base CX0 1 _ _ ["_law_found"] (sp__law_whole K) := ok__law_whole F__law_whole   m_isinstance m_int m_bool   
  have G__law_number : FnOk l.prog w K mg base CX0 2 _ _ ["_law_draws_here"] (sp__law_number K) := ok__law_number F__law_number  F__law_next b__law_next g__law_next G__law_next m_range   
  have G__law_rising : FnOk l.prog w K mg base CX0 3 _ _ ["_law_draws_here", "_law_many"] (sp__law_rising K) := ok__law_rising F__law_rising  F__law_next b__law_next g__law_next G__law_next F__law_number b__law_number g__law_number G__law_number m_range m_tuple   
  have G__law_part : FnOk l.prog w K mg base CX0 4 _ _ ["_law_draws_here", "_law_most"] (sp__law_part K) := ok__law_part F__law_part  F__law_number b__law_number g__law_number G__law_number F__law_next b__law_next g__law_next G__law_next F__law_rising b__law_rising g__law_rising G__law_rising m_max   
  have G__law_train : FnOk l.prog w K mg base CX0 5 _ _ ["_law_draws_here"] (sp__law_train K) := ok__law_train F__law_train  F__law_part b__law_part g__law_part G__law_part F__law_next b__law_next g__law_next G__law_next m_range m_int   
  have G__law_stand : FnOk l.prog w K mg base CX0 3 _ _ ["_law_draws_here"] (sp__law_stand K) := ok__law_stand F__law_stand  F__law_next b__law_next g__law_next G__law_next F__law_number b__law_number g__law_number G__law_number m_tuple m_range   
  have G__law_part_text : FnOk l.prog w K mg base CX0 1 _ _ ["_law_part_here"] (sp__law_part_text K) := ok__law_part_text F__law_part_text   m_str   
  have G__law_train_text : FnOk l.prog w K mg base CX0 2 _ _ ["_law_train_here"] (sp__law_train_text K) := ok__law_train_text F__law_train_text  F__law_part_text b__law_part_text g__law_part_text G__law_part_text    
  have G__law_stand_text : FnOk l.prog w K mg base CX0 1 _ _ ["_law_stand_here"] (sp__law_stand_text K) := ok__law_stand_text F__law_stand_text   m_str   
  have G__law_plain : FnOk l.prog w K mg base CX0 7 _ _ ["_law_found"] (sp__law_plain 5 K) := (rec__law_plain F__law_plain b__law_plain g__law_plain F__law_whole b__law_whole g__law_whole G__law_whole m_isinstance m_list m_tuple m_all m_str 5).mono (by decide)
  have G__law_well : FnOk l.prog w K mg base CX0 15 _ _ ["_law_train_here", "_law_stand_here"] (sp__law_well K [tabOf K cd8]) := ok__law_well F__law_well  F_read_train b_read_train g_read_train G_read_train F__law_plain b__law_plain g__law_plain G__law_plain F_read_stand b_read_stand g_read_stand G_read_stand F_show_stand b_show_stand g_show_stand G_show_stand F_show_train b_show_train g_show_train G_show_train F__law_stand_text b__law_stand_text g__law_stand_text G__law_stand_text F__law_train_text b__law_train_text g__law_train_text G__law_train_text m_list m_isinstance m_tuple m_all m_str   
  have G__law_odd_train : FnOk l.prog w K mg base CX0 2 _ _ ["_law_draws_here", "_law_train_here"] (sp__law_odd_train K) := ok__law_odd_train F__law_odd_train  F__law_next b__law_next g__law_next G__law_next m_tuple m_isinstance m_list   
  have G__law_refused : FnG l.prog w K mg base CX0 15 _ _ ["_law_thing"] (sp__law_refused K c_NoTrain c_NoStand c_NoRow c_NoCount c_TooMany c_NoText c_TrainError) := ok__law_refused F__law_refused  F_show_train b_show_train g_show_train G_show_train m_str m_isinstance m_ValueError g_TooMany g_NoText g_NoStand g_NoRow g_NoCount g_NoTrain g_TrainError  E_NoTrain kx_NoTrain kv_NoTrain k1_NoTrain k2_NoTrain k3_NoTrain k4_NoTrain k5_NoTrain k6_NoTrain
  exact fun z H ws vs Q E e b r h => FnG.goes (k := 16) (ok_law F_law  F__law_well b__law_well g__law_well G__law_well F__law_train_text b__law_train_text g__law_train_text G__law_train_text F_read_train b_read_train g_read_train G_read_train F__law_odd_train b__law_odd_train g__law_odd_train G__law_odd_train F__law_refused b__law_refused g__law_refused G__law_refused F__law_stand b__law_stand g__law_stand G__law_stand F__law_train b__law_train g__law_train G__law_train F__law_draws b__law_draws g__law_draws G__law_draws F__law_next b__law_next g__law_next G__law_next m_range m_tuple   ) callerA rfl ⟨rfl, by decide, by decide⟩ [] z H ⟨ws, []⟩ ws vs Q E e b r h
end My
open PySem PySem.W PyProof.Rows
set_option maxHeartbeats 0 in
theorem PySem.Challenge.cw_clicktrain_k71_trains_and_stands_as_text_holds : PySem.Challenge.rw_clicktrain_k71_trains_and_stands_as_text.Holds := by
  w_on; o_law; k_head; (case hw => w_witness2)
  k_fill
  refine Ct.walk_ofX (l := PySem.Challenge.rw_clicktrain_k71_trains_and_stands_as_text) (n := 63) (x := "_law_script") (defs := ["read_number"]) rfl (by decide) rfl (by decide +kernel) (fun w h Y => PySem.W.kIn_of Y) ?F
  case F =>
    intro w mg fa h KX G hmg
    refine' My.all_mk KX G hmg ?y_NoTrain ?y_TooMany ?y_NoText ?y_NoStand ?y_NoRow ?y_NoCount ?y_TrainError ?a0 ?l0 ?c0 ?k0 ?a1 ?l1 ?c1 ?k1 ?a2 ?l2 ?c2 ?k2 ?a3 ?l3 ?c3 ?k3 ?a4 ?l4 ?c4 ?k4 ?a5 ?l5 ?c5 ?k5 ?a6 ?l6 ?c6 ?k6 ?a7 ?l7 ?c7 ?k7 ?a8 ?l8 ?c8 ?k8 ?a9 ?l9 ?c9 ?k9 ?a10 ?l10 ?c10 ?k10 ?a11 ?l11 ?c11 ?k11 ?a12 ?l12 ?c12 ?k12 ?a13 ?l13 ?c13 ?k13 ?a14 ?l14 ?c14 ?k14 ?a15 ?l15 ?c15 ?k15 ?a16 ?l16 ?c16 ?k16 ?a17 ?l17 ?c17 ?k17 ?a18 ?l18 ?c18 ?k18 ?a19 ?l19 ?c19 ?k19 ?a20 ?l20 ?c20 ?k20 ?a21 ?l21 ?c21 ?k21 ?a22 ?l22 ?c22 ?k22 ?a23 ?l23 ?c23 ?k23 ?a24 ?l24 ?c24 ?k24 ?a25 ?l25 ?c25 ?k25 ?a26 ?l26 ?c26 ?k26 ?a27 ?l27 ?c27 ?k27 ?a28 ?l28 ?c28 ?k28 ?a29 ?l29 ?c29 ?k29 ?z0 ?z1 ?z2 ?z3 ?z4 ?z5 ?z6 ?z7 ?z8 ?z9 ?z10 ?z11 ?r1_NoTrain ?r2_NoTrain ?r3_NoTrain ?r4_NoTrain ?r5_NoTrain ?r6_NoTrain ?r7_NoTrain ?r8_NoTrain ?r9_NoTrain ?rA ?rB ?v_FIGURES ?v_MOST_FIGURES ?kx_NoTrain ?kv_NoTrain ?k1_NoTrain ?k2_NoTrain ?k3_NoTrain ?k4_NoTrain ?k5_NoTrain ?k6_NoTrain ?tb_read_number
    (case y_NoTrain => first | k_is | k_exc | kit_is | exact PySem.W.exm_ref (by k_is) (by k_is) (by k_is) (by k_is))
    (case y_TooMany => first | k_is | k_exc | kit_is | exact PySem.W.exm_ref (by k_is) (by k_is) (by k_is) (by k_is))
    (case y_NoText => first | k_is | k_exc | kit_is | exact PySem.W.exm_ref (by k_is) (by k_is) (by k_is) (by k_is))
    (case y_NoStand => first | k_is | k_exc | kit_is | exact PySem.W.exm_ref (by k_is) (by k_is) (by k_is) (by k_is))
    (case y_NoRow => first | k_is | k_exc | kit_is | exact PySem.W.exm_ref (by k_is) (by k_is) (by k_is) (by k_is))
    (case y_NoCount => first | k_is | k_exc | kit_is | exact PySem.W.exm_ref (by k_is) (by k_is) (by k_is) (by k_is))
    (case y_TrainError => first | k_is | k_exc | kit_is | exact PySem.W.exm_ref (by k_is) (by k_is) (by k_is) (by k_is))
    (case a0 => first | k_is | k_exc | kit_is | exact PySem.W.exm_ref (by k_is) (by k_is) (by k_is) (by k_is))
    (case l0 => first | k_is | k_exc | kit_is | exact PySem.W.exm_ref (by k_is) (by k_is) (by k_is) (by k_is))
    (case c0 => first | k_is | k_exc | kit_is | exact PySem.W.exm_ref (by k_is) (by k_is) (by k_is) (by k_is))
    (case k0 => first | k_is | k_exc | kit_is | exact PySem.W.exm_ref (by k_is) (by k_is) (by k_is) (by k_is))
    (case a1 => first | k_is | k_exc | kit_is | exact PySem.W.exm_ref (by k_is) (by k_is) (by k_is) (by k_is))
    (case l1 => first | k_is | k_exc | kit_is | exact PySem.W.exm_ref (by k_is) (by k_is) (by k_is) (by k_is))
    (case c1 => first | k_is | k_exc | kit_is | exact PySem.W.exm_ref (by k_is) (by k_is) (by k_is) (by k_is))
    (case k1 => first | k_is | k_exc | kit_is | exact PySem.W.exm_ref (by k_is) (by k_is) (by k_is) (by k_is))
    (case a2 => first | k_is | k_exc | kit_is | exact PySem.W.exm_ref (by k_is) (by k_is) (by k_is) (by k_is))
    (case l2 => first | k_is | k_exc | kit_is | exact PySem.W.exm_ref (by k_is) (by k_is) (by k_is) (by k_is))
    (case c2 => first | k_is | k_exc | kit_is | exact PySem.W.exm_ref (by k_is) (by k_is) (by k_is) (by k_is))
    (case k2 => first | k_is | k_exc | kit_is | exact PySem.W.exm_ref (by k_is) (by k_is) (by k_is) (by k_is))
    (case a3 => first | k_is | k_exc | kit_is | exact PySem.W.exm_ref (by k_is) (by k_is) (by k_is) (by k_is))
    (case l3 => first | k_is | k_exc | kit_is | exact PySem.W.exm_ref (by k_is) (by k_is) (by k_is) (by k_is))
    (case c3 => first | k_is | k_exc | kit_is | exact PySem.W.exm_ref (by k_is) (by k_is) (by k_is) (by k_is))
    (case k3 => first | k_is | k_exc | kit_is | exact PySem.W.exm_ref (by k_is) (by k_is) (by k_is) (by k_is))
    (case a4 => first | k_is | k_exc | kit_is | exact PySem.W.exm_ref (by k_is) (by k_is) (by k_is) (by k_is))
    (case l4 => first | k_is | k_exc | kit_is | exact PySem.W.exm_ref (by k_is) (by k_is) (by k_is) (by k_is))
    (case c4 => first | k_is | k_exc | kit_is | exact PySem.W.exm_ref (by k_is) (by k_is) (by k_is) (by k_is))
    (case k4 => first | k_is | k_exc | kit_is | exact PySem.W.exm_ref (by k_is) (by k_is) (by k_is) (by k_is))
    (case a5 => first | k_is | k_exc | kit_is | exact PySem.W.exm_ref (by k_is) (by k_is) (by k_is) (by k_is))
    (case l5 => first | k_is | k_exc | kit_is | exact PySem.W.exm_ref (by k_is) (by k_is) (by k_is) (by k_is))
    (case c5 => first | k_is | k_exc | kit_is | exact PySem.W.exm_ref (by k_is) (by k_is) (by k_is) (by k_is))
    (case k5 => first | k_is | k_exc | kit_is | exact PySem.W.exm_ref (by k_is) (by k_is) (by k_is) (by k_is))
    (case a6 => first | k_is | k_exc | kit_is | exact PySem.W.exm_ref (by k_is) (by k_is) (by k_is) (by k_is))
    (case l6 => first | k_is | k_exc | kit_is | exact PySem.W.exm_ref (by k_is) (by k_is) (by k_is) (by k_is))
    (case c6 => first | k_is | k_exc | kit_is | exact PySem.W.exm_ref (by k_is) (by k_is) (by k_is) (by k_is))
    (case k6 => first | k_is | k_exc | kit_is | exact PySem.W.exm_ref (by k_is) (by k_is) (by k_is) (by k_is))
    (case a7 => first | k_is | k_exc | kit_is | exact PySem.W.exm_ref (by k_is) (by k_is) (by k_is) (by k_is))
    (case l7 => first | k_is | k_exc | kit_is | exact PySem.W.exm_ref (by k_is) (by k_is) (by k_is) (by k_is))
    (case c7 => first | k_is | k_exc | kit_is | exact PySem.W.exm_ref (by k_is) (by k_is) (by k_is) (by k_is))
    (case k7 => first | k_is | k_exc | kit_is | exact PySem.W.exm_ref (by k_is) (by k_is) (by k_is) (by k_is))
    (case a8 => first | k_is | k_exc | kit_is | exact PySem.W.exm_ref (by k_is) (by k_is) (by k_is) (by k_is))
    (case l8 => first | k_is | k_exc | kit_is | exact PySem.W.exm_ref (by k_is) (by k_is) (by k_is) (by k_is))
    (case c8 => first | k_is | k_exc | kit_is | exact PySem.W.exm_ref (by k_is) (by k_is) (by k_is) (by k_is))
    (case k8 => first | k_is | k_exc | kit_is | exact PySem.W.exm_ref (by k_is) (by k_is) (by k_is) (by k_is))
    (case a9 => first | k_is | k_exc | kit_is | exact PySem.W.exm_ref (by k_is) (by k_is) (by k_is) (by k_is))
    (case l9 => first | k_is | k_exc | kit_is | exact PySem.W.exm_ref (by k_is) (by k_is) (by k_is) (by k_is))
    (case c9 => first | k_is | k_exc | kit_is | exact PySem.W.exm_ref (by k_is) (by k_is) (by k_is) (by k_is))
    (case k9 => first | k_is | k_exc | kit_is | exact PySem.W.exm_ref (by k_is) (by k_is) (by k_is) (by k_is))
    (case a10 => first | k_is | k_exc | kit_is | exact PySem.W.exm_ref (by k_is) (by k_is) (by k_is) (by k_is))
    (case l10 => first | k_is | k_exc | kit_is | exact PySem.W.exm_ref (by k_is) (by k_is) (by k_is) (by k_is))
    (case c10 => first | k_is | k_exc | kit_is | exact PySem.W.exm_ref (by k_is) (by k_is) (by k_is) (by k_is))
    (case k10 => first | k_is | k_exc | kit_is | exact PySem.W.exm_ref (by k_is) (by k_is) (by k_is) (by k_is))
    (case a11 => first | k_is | k_exc | kit_is | exact PySem.W.exm_ref (by k_is) (by k_is) (by k_is) (by k_is))
    (case l11 => first | k_is | k_exc | kit_is | exact PySem.W.exm_ref (by k_is) (by k_is) (by k_is) (by k_is))
    (case c11 => first | k_is | k_exc | kit_is | exact PySem.W.exm_ref (by k_is) (by k_is) (by k_is) (by k_is))
    (case k11 => first | k_is | k_exc | kit_is | exact PySem.W.exm_ref (by k_is) (by k_is) (by k_is) (by k_is))
    (case a12 => first | k_is | k_exc | kit_is | exact PySem.W.exm_ref (by k_is) (by k_is) (by k_is) (by k_is))
    (case l12 => first | k_is | k_exc | kit_is | exact PySem.W.exm_ref (by k_is) (by k_is) (by k_is) (by k_is))
    (case c12 => first | k_is | k_exc | kit_is | exact PySem.W.exm_ref (by k_is) (by k_is) (by k_is) (by k_is))
    (case k12 => first | k_is | k_exc | kit_is | exact PySem.W.exm_ref (by k_is) (by k_is) (by k_is) (by k_is))
    (case a13 => first | k_is | k_exc | kit_is | exact PySem.W.exm_ref (by k_is) (by k_is) (by k_is) (by k_is))
    (case l13 => first | k_is | k_exc | kit_is | exact PySem.W.exm_ref (by k_is) (by k_is) (by k_is) (by k_is))
    (case c13 => first | k_is | k_exc | kit_is | exact PySem.W.exm_ref (by k_is) (by k_is) (by k_is) (by k_is))
    (case k13 => first | k_is | k_exc | kit_is | exact PySem.W.exm_ref (by k_is) (by k_is) (by k_is) (by k_is))
    (case a14 => first | k_is | k_exc | kit_is | exact PySem.W.exm_ref (by k_is) (by k_is) (by k_is) (by k_is))
    (case l14 => first | k_is | k_exc | kit_is | exact PySem.W.exm_ref (by k_is) (by k_is) (by k_is) (by k_is))
    (case c14 => first | k_is | k_exc | kit_is | exact PySem.W.exm_ref (by k_is) (by k_is) (by k_is) (by k_is))
    (case k14 => first | k_is | k_exc | kit_is | exact PySem.W.exm_ref (by k_is) (by k_is) (by k_is) (by k_is))
    (case a15 => first | k_is | k_exc | kit_is | exact PySem.W.exm_ref (by k_is) (by k_is) (by k_is) (by k_is))
    (case l15 => first | k_is | k_exc | kit_is | exact PySem.W.exm_ref (by k_is) (by k_is) (by k_is) (by k_is))
    (case c15 => first | k_is | k_exc | kit_is | exact PySem.W.exm_ref (by k_is) (by k_is) (by k_is) (by k_is))
    (case k15 => first | k_is | k_exc | kit_is | exact PySem.W.exm_ref (by k_is) (by k_is) (by k_is) (by k_is))
    (case a16 => first | k_is | k_exc | kit_is | exact PySem.W.exm_ref (by k_is) (by k_is) (by k_is) (by k_is))
    (case l16 => first | k_is | k_exc | kit_is | exact PySem.W.exm_ref (by k_is) (by k_is) (by k_is) (by k_is))
    (case c16 => first | k_is | k_exc | kit_is | exact PySem.W.exm_ref (by k_is) (by k_is) (by k_is) (by k_is))
    (case k16 => first | k_is | k_exc | kit_is | exact PySem.W.exm_ref (by k_is) (by k_is) (by k_is) (by k_is))
    (case a17 => first | k_is | k_exc | kit_is | exact PySem.W.exm_ref (by k_is) (by k_is) (by k_is) (by k_is))
    (case l17 => first | k_is | k_exc | kit_is | exact PySem.W.exm_ref (by k_is) (by k_is) (by k_is) (by k_is))
    (case c17 => first | k_is | k_exc | kit_is | exact PySem.W.exm_ref (by k_is) (by k_is) (by k_is) (by k_is))
    (case k17 => first | k_is | k_exc | kit_is | exact PySem.W.exm_ref (by k_is) (by k_is) (by k_is) (by k_is))
    (case a18 => first | k_is | k_exc | kit_is | exact PySem.W.exm_ref (by k_is) (by k_is) (by k_is) (by k_is))
    (case l18 => first | k_is | k_exc | kit_is | exact PySem.W.exm_ref (by k_is) (by k_is) (by k_is) (by k_is))
    (case c18 => first | k_is | k_exc | kit_is | exact PySem.W.exm_ref (by k_is) (by k_is) (by k_is) (by k_is))
    (case k18 => first | k_is | k_exc | kit_is | exact PySem.W.exm_ref (by k_is) (by k_is) (by k_is) (by k_is))
    (case a19 => first | k_is | k_exc | kit_is | exact PySem.W.exm_ref (by k_is) (by k_is) (by k_is) (by k_is))
    (case l19 => first | k_is | k_exc | kit_is | exact PySem.W.exm_ref (by k_is) (by k_is) (by k_is) (by k_is))
    (case c19 => first | k_is | k_exc | kit_is | exact PySem.W.exm_ref (by k_is) (by k_is) (by k_is) (by k_is))
    (case k19 => first | k_is | k_exc | kit_is | exact PySem.W.exm_ref (by k_is) (by k_is) (by k_is) (by k_is))
    (case a20 => first | k_is | k_exc | kit_is | exact PySem.W.exm_ref (by k_is) (by k_is) (by k_is) (by k_is))
    (case l20 => first | k_is | k_exc | kit_is | exact PySem.W.exm_ref (by k_is) (by k_is) (by k_is) (by k_is))
    (case c20 => first | k_is | k_exc | kit_is | exact PySem.W.exm_ref (by k_is) (by k_is) (by k_is) (by k_is))
    (case k20 => first | k_is | k_exc | kit_is | exact PySem.W.exm_ref (by k_is) (by k_is) (by k_is) (by k_is))
    (case a21 => first | k_is | k_exc | kit_is | exact PySem.W.exm_ref (by k_is) (by k_is) (by k_is) (by k_is))
    (case l21 => first | k_is | k_exc | kit_is | exact PySem.W.exm_ref (by k_is) (by k_is) (by k_is) (by k_is))
    (case c21 => first | k_is | k_exc | kit_is | exact PySem.W.exm_ref (by k_is) (by k_is) (by k_is) (by k_is))
    (case k21 => first | k_is | k_exc | kit_is | exact PySem.W.exm_ref (by k_is) (by k_is) (by k_is) (by k_is))
    (case a22 => first | k_is | k_exc | kit_is | exact PySem.W.exm_ref (by k_is) (by k_is) (by k_is) (by k_is))
    (case l22 => first | k_is | k_exc | kit_is | exact PySem.W.exm_ref (by k_is) (by k_is) (by k_is) (by k_is))
    (case c22 => first | k_is | k_exc | kit_is | exact PySem.W.exm_ref (by k_is) (by k_is) (by k_is) (by k_is))
    (case k22 => first | k_is | k_exc | kit_is | exact PySem.W.exm_ref (by k_is) (by k_is) (by k_is) (by k_is))
    (case a23 => first | k_is | k_exc | kit_is | exact PySem.W.exm_ref (by k_is) (by k_is) (by k_is) (by k_is))
    (case l23 => first | k_is | k_exc | kit_is | exact PySem.W.exm_ref (by k_is) (by k_is) (by k_is) (by k_is))
    (case c23 => first | k_is | k_exc | kit_is | exact PySem.W.exm_ref (by k_is) (by k_is) (by k_is) (by k_is))
    (case k23 => first | k_is | k_exc | kit_is | exact PySem.W.exm_ref (by k_is) (by k_is) (by k_is) (by k_is))
    (case a24 => first | k_is | k_exc | kit_is | exact PySem.W.exm_ref (by k_is) (by k_is) (by k_is) (by k_is))
    (case l24 => first | k_is | k_exc | kit_is | exact PySem.W.exm_ref (by k_is) (by k_is) (by k_is) (by k_is))
    (case c24 => first | k_is | k_exc | kit_is | exact PySem.W.exm_ref (by k_is) (by k_is) (by k_is) (by k_is))
    (case k24 => first | k_is | k_exc | kit_is | exact PySem.W.exm_ref (by k_is) (by k_is) (by k_is) (by k_is))
    (case a25 => first | k_is | k_exc | kit_is | exact PySem.W.exm_ref (by k_is) (by k_is) (by k_is) (by k_is))
    (case l25 => first | k_is | k_exc | kit_is | exact PySem.W.exm_ref (by k_is) (by k_is) (by k_is) (by k_is))
    (case c25 => first | k_is | k_exc | kit_is | exact PySem.W.exm_ref (by k_is) (by k_is) (by k_is) (by k_is))
    (case k25 => first | k_is | k_exc | kit_is | exact PySem.W.exm_ref (by k_is) (by k_is) (by k_is) (by k_is))
    (case a26 => first | k_is | k_exc | kit_is | exact PySem.W.exm_ref (by k_is) (by k_is) (by k_is) (by k_is))
    (case l26 => first | k_is | k_exc | kit_is | exact PySem.W.exm_ref (by k_is) (by k_is) (by k_is) (by k_is))
    (case c26 => first | k_is | k_exc | kit_is | exact PySem.W.exm_ref (by k_is) (by k_is) (by k_is) (by k_is))
    (case k26 => first | k_is | k_exc | kit_is | exact PySem.W.exm_ref (by k_is) (by k_is) (by k_is) (by k_is))
    (case a27 => first | k_is | k_exc | kit_is | exact PySem.W.exm_ref (by k_is) (by k_is) (by k_is) (by k_is))
    (case l27 => first | k_is | k_exc | kit_is | exact PySem.W.exm_ref (by k_is) (by k_is) (by k_is) (by k_is))
    (case c27 => first | k_is | k_exc | kit_is | exact PySem.W.exm_ref (by k_is) (by k_is) (by k_is) (by k_is))
    (case k27 => first | k_is | k_exc | kit_is | exact PySem.W.exm_ref (by k_is) (by k_is) (by k_is) (by k_is))
    (case a28 => first | k_is | k_exc | kit_is | exact PySem.W.exm_ref (by k_is) (by k_is) (by k_is) (by k_is))
    (case l28 => first | k_is | k_exc | kit_is | exact PySem.W.exm_ref (by k_is) (by k_is) (by k_is) (by k_is))
    (case c28 => first | k_is | k_exc | kit_is | exact PySem.W.exm_ref (by k_is) (by k_is) (by k_is) (by k_is))
    (case k28 => first | k_is | k_exc | kit_is | exact PySem.W.exm_ref (by k_is) (by k_is) (by k_is) (by k_is))
    (case a29 => first | k_is | k_exc | kit_is | exact PySem.W.exm_ref (by k_is) (by k_is) (by k_is) (by k_is))
    (case l29 => first | k_is | k_exc | kit_is | exact PySem.W.exm_ref (by k_is) (by k_is) (by k_is) (by k_is))
    (case c29 => first | k_is | k_exc | kit_is | exact PySem.W.exm_ref (by k_is) (by k_is) (by k_is) (by k_is))
    (case k29 => first | k_is | k_exc | kit_is | exact PySem.W.exm_ref (by k_is) (by k_is) (by k_is) (by k_is))
    (case z0 => first | k_is | k_exc | kit_is | exact PySem.W.exm_ref (by k_is) (by k_is) (by k_is) (by k_is))
    (case z1 => first | k_is | k_exc | kit_is | exact PySem.W.exm_ref (by k_is) (by k_is) (by k_is) (by k_is))
    (case z2 => first | k_is | k_exc | kit_is | exact PySem.W.exm_ref (by k_is) (by k_is) (by k_is) (by k_is))
    (case z3 => first | k_is | k_exc | kit_is | exact PySem.W.exm_ref (by k_is) (by k_is) (by k_is) (by k_is))
    (case z4 => first | k_is | k_exc | kit_is | exact PySem.W.exm_ref (by k_is) (by k_is) (by k_is) (by k_is))
    (case z5 => first | k_is | k_exc | kit_is | exact PySem.W.exm_ref (by k_is) (by k_is) (by k_is) (by k_is))
    (case z6 => first | k_is | k_exc | kit_is | exact PySem.W.exm_ref (by k_is) (by k_is) (by k_is) (by k_is))
    (case z7 => first | k_is | k_exc | kit_is | exact PySem.W.exm_ref (by k_is) (by k_is) (by k_is) (by k_is))
    (case z8 => first | k_is | k_exc | kit_is | exact PySem.W.exm_ref (by k_is) (by k_is) (by k_is) (by k_is))
    (case z9 => first | k_is | k_exc | kit_is | exact PySem.W.exm_ref (by k_is) (by k_is) (by k_is) (by k_is))
    (case z10 => first | k_is | k_exc | kit_is | exact PySem.W.exm_ref (by k_is) (by k_is) (by k_is) (by k_is))
    (case z11 => first | k_is | k_exc | kit_is | exact PySem.W.exm_ref (by k_is) (by k_is) (by k_is) (by k_is))
    (case r1_NoTrain => first | k_is | k_exc | kit_is | exact PySem.W.exm_ref (by k_is) (by k_is) (by k_is) (by k_is))
    (case r2_NoTrain => first | k_is | k_exc | kit_is | exact PySem.W.exm_ref (by k_is) (by k_is) (by k_is) (by k_is))
    (case r3_NoTrain => first | k_is | k_exc | kit_is | exact PySem.W.exm_ref (by k_is) (by k_is) (by k_is) (by k_is))
    (case r4_NoTrain => first | k_is | k_exc | kit_is | exact PySem.W.exm_ref (by k_is) (by k_is) (by k_is) (by k_is))
    (case r5_NoTrain => first | k_is | k_exc | kit_is | exact PySem.W.exm_ref (by k_is) (by k_is) (by k_is) (by k_is))
    (case r6_NoTrain => first | k_is | k_exc | kit_is | exact PySem.W.exm_ref (by k_is) (by k_is) (by k_is) (by k_is))
    (case r7_NoTrain => first | k_is | k_exc | kit_is | exact PySem.W.exm_ref (by k_is) (by k_is) (by k_is) (by k_is))
    (case r8_NoTrain => first | k_is | k_exc | kit_is | exact PySem.W.exm_ref (by k_is) (by k_is) (by k_is) (by k_is))
    (case r9_NoTrain => first | k_is | k_exc | kit_is | exact PySem.W.exm_ref (by k_is) (by k_is) (by k_is) (by k_is))
    (case rA => first | k_is | k_exc | kit_is | exact PySem.W.exm_ref (by k_is) (by k_is) (by k_is) (by k_is))
    (case rB => first | k_is | k_exc | kit_is | exact PySem.W.exm_ref (by k_is) (by k_is) (by k_is) (by k_is))
    (case v_FIGURES => first | k_is | k_exc | kit_is | exact PySem.W.exm_ref (by k_is) (by k_is) (by k_is) (by k_is))
    (case v_MOST_FIGURES => first | k_is | k_exc | kit_is | exact PySem.W.exm_ref (by k_is) (by k_is) (by k_is) (by k_is))
    (case kx_NoTrain => first | k_is | k_exc | kit_is | exact PySem.W.exm_ref (by k_is) (by k_is) (by k_is) (by k_is))
    (case kv_NoTrain => first | k_is | k_exc | kit_is | exact PySem.W.exm_ref (by k_is) (by k_is) (by k_is) (by k_is))
    (case k1_NoTrain => first | k_is | k_exc | kit_is | exact PySem.W.exm_ref (by k_is) (by k_is) (by k_is) (by k_is))
    (case k2_NoTrain => first | k_is | k_exc | kit_is | exact PySem.W.exm_ref (by k_is) (by k_is) (by k_is) (by k_is))
    (case k3_NoTrain => first | k_is | k_exc | kit_is | exact PySem.W.exm_ref (by k_is) (by k_is) (by k_is) (by k_is))
    (case k4_NoTrain => first | k_is | k_exc | kit_is | exact PySem.W.exm_ref (by k_is) (by k_is) (by k_is) (by k_is))
    (case k5_NoTrain => first | k_is | k_exc | kit_is | exact PySem.W.exm_ref (by k_is) (by k_is) (by k_is) (by k_is))
    (case k6_NoTrain => first | k_is | k_exc | kit_is | exact PySem.W.exm_ref (by k_is) (by k_is) (by k_is) (by k_is))
    (case tb_read_number => first | kernel_rfl | rfl)
