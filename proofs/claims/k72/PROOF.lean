import PyProof.Rows.All
import Wide.All
import OpenK.AllK
import Wide.FinOn
import HandS.ForMost
import HandS.Wide
import HandS.IsInst
import HandS.Walk
import HandS.Star
import HandS.TupAny
import HandS.Style
import HandS.Deep
import KE.GoesNew
import HandS.CallLocal
import HandS.Codes
import HandS.FStr
import PyProof.StrBlock2
import HandS.Text
import HandS.GenList
import HandS.AnyAll
import HandS.EndBits
import PySem.Challenge.RW_clicktrain_k72_rows_and_shows_as_texts
set_option Elab.async false
set_option linter.all false
set_option maxRecDepth 100000
set_option maxHeartbeats 4000000
namespace Ct
open PySem PySem.Spec PyProof.Rows L2
/-! walking a reading, construct by construct -/
section
variable {K : PySem.W.Frag} {H : Hp} {σ : L2.St} {D : Ends} {Q : VK} {QB : Bool → Hp → Prop} {QA : List V → Hp → Prop} {QS : L2.St → Hp → Prop}
theorem w_seq {t u : TS} (h : t { D with nx := u D } σ H) : tSeq t u D σ H := h
theorem w_join {t u : TS} (J : L2.St → Hp → Prop) (h1 : ∀ σ' H', J σ' H' → u D σ' H') (h2 : ∀ N : L2.St → Hp → Prop, (∀ σ' H', J σ' H' → N σ' H') → t { D with nx := N } σ H) : tSeq t u D σ H := h2 (u D) h1
theorem w_asg {te : TE} {g : TG} (h : te σ H fun x H1 => g x σ H1 D.nx) : tAsg te g D σ H := h
theorem w_ret {te : TE} (h : te σ H D.rt) : tRet te D σ H := h
theorem w_ifS {c : TT} {t u : TS} (h : c σ H fun b H1 => if b = true then t D σ H1 else u D σ H1) : tIfS c t u D σ H := h
theorem w_drop {te : TE} (h : te σ H fun _ H1 => D.nx σ H1) : tDrop te D σ H := h
theorem w_next (h : D.nx σ H) : tNext D σ H := h
theorem w_var {i : Nat} {v : V} (e : σ[i]? = some (some v)) (h : Q v H) : tVar i σ H Q := ⟨v, e, h⟩
theorem w_c {v : V} (h : Q v H) : tC v σ H Q := h
theorem w_op {r : R2} {ta tb : TE} (h : ta σ H fun x H1 => tb σ H1 fun y H2 => r x y H2 Q) : tOp r ta tb σ H Q := h
theorem w_chain {r r' : R2} {ta tb tc : TE} (h : ta σ H fun x H1 => tb σ H1 fun y H2 => r x y H2 fun z H3 => ∃ k, z = .bl k ∧ (if k = true then tc σ H3 fun w' H4 => r' y w' H4 Q else Q (.bl false) H3)) : tChain r r' ta tb tc σ H Q := h
theorem w_un {r : V → Hp → VK → Prop} {ta : TE} (h : ta σ H fun x H1 => r x H1 Q) : tUn r ta σ H Q := h
theorem w_test {t : TE} (h : t σ H fun x H' => ∃ k, x = .bl k ∧ QB k H') : tTest t σ H QB := h
theorem w_B {t : TE} (h : t σ H fun x H' => ∃ k, x = .bl k ∧ QB k H') : tB t σ H QB := h
theorem w_and {t u : TT} (h : t σ H fun c H1 => if c = true then u σ H1 QB else QB false H1) : tAnd t u σ H QB := h
theorem w_or {t u : TT} (h : t σ H fun c H1 => if c = true then QB true H1 else u σ H1 QB) : tOr t u σ H QB := h
theorem w_not {t : TT} (h : t σ H fun c H1 => QB (!c) H1) : tNot t σ H QB := h
theorem w_if {t : TT} {ta tb : TE} (h : t σ H fun c H1 => if c = true then ta σ H1 Q else tb σ H1 Q) : tIf t ta tb σ H Q := h
theorem w_nil (h : QA [] H) : tNil σ H QA := h
theorem w_cons {ta : TE} {tr : TA} (h : ta σ H fun x H1 => tr σ H1 fun xs H2 => QA (x :: xs) H2) : tCons ta tr σ H QA := h
theorem w_cb {r : List V → Hp → VK → Prop} {t : TA} (h : t σ H fun vs H1 => r vs H1 Q) : tCB r t σ H Q := h
theorem w_call {sp : Sp} {dvs : List V} {E : XK} {t : TA} (h : t σ H fun vs H1 => sp (vs ++ dvs) H1 Q E) : tCall sp dvs E t σ H Q := h
theorem w_name {i : Nat} {v : V} {σ' : L2.St} (e : σ.set i (some v) = σ') (h : QS σ' H) : gName i v σ H QS := by
  unfold gName
  rw [e]
  exact h
theorem w_rI {C : Int → Int → Prop} {g : Int → Int → V} {i j : Int} (c : C i j) (h : Q (g i j) H) : rI C g (.int i) (.int j) H Q := ⟨i, j, rfl, rfl, c, h⟩
theorem w_rI0 {g : Int → Int → V} {i j : Int} (h : Q (g i j) H) : rI0 g (.int i) (.int j) H Q := ⟨i, j, rfl, rfl, h⟩
theorem w_rU {g : Int → V} {i : Int} (h : Q (g i) H) : rU g (.int i) H Q := ⟨i, rfl, h⟩
theorem w_rEqI {i j : Int} (h : Q (.bl (decide (i = j))) H) : rEq (.int i) (.int j) H Q := by
  refine ⟨rfl, ?_⟩
  rw [show decide (V.int i = V.int j) = decide (i = j) from by
    by_cases e : i = j
    · subst e
      rw [decide_eq_true rfl, decide_eq_true rfl]
    · rw [decide_eq_false e, decide_eq_false fun z => e (V.int.inj z)]]
  exact h
theorem w_rNeI {i j : Int} (h : Q (.bl (!decide (i = j))) H) : rNe (.int i) (.int j) H Q := by
  refine ⟨rfl, ?_⟩
  rw [show decide (V.int i = V.int j) = decide (i = j) from by
    by_cases e : i = j
    · subst e
      rw [decide_eq_true rfl, decide_eq_true rfl]
    · rw [decide_eq_false e, decide_eq_false fun z => e (V.int.inj z)]]
  exact h
theorem w_rEqS {x y : Str} {b : Bool} (e : decide (V.str x = V.str y) = b) (h : Q (.bl b) H) : rEq (.str x) (.str y) H Q := by
  refine ⟨rfl, ?_⟩
  rw [e]
  exact h
theorem w_bl {b : Bool} {QP : Bool → Prop} (h : QP b) : ∃ k, V.bl b = .bl k ∧ QP k := ⟨b, rfl, h⟩
theorem w_in {i : Int} {QP : Int → Prop} (h : QP i) : ∃ k, V.int i = .int k ∧ QP k := ⟨i, rfl, h⟩
theorem w_ixT {p : Addr} {xs : List V} {i : Int} {v : V} (h : SqT K H p xs) (e : atI xs i = some v) (q : Q v H) : rIxT K (.ref p) (.int i) H Q := ⟨p, xs, i, v, rfl, rfl, h, e, q⟩
theorem w_ixL {p : Addr} {xs : List V} {i : Int} {v : V} (h : SqL K H p xs) (e : atI xs i = some v) (q : Q v H) : rIxL K (.ref p) (.int i) H Q := ⟨p, xs, i, v, rfl, rfl, h, e, q⟩
theorem w_tup {t : TA} (h : t σ H fun xs H1 => xs.length ≤ sizeLine ∧ ∀ p, H1 p = none → Q (.ref p) (upd H1 p (.tup xs))) : tTup t σ H Q := h
theorem w_lst {t : TA} (h : t σ H fun xs H1 => xs.length ≤ sizeLine ∧ ∀ p, H1 p = none → Q (.ref p) (upd H1 p (.lst xs))) : tLst t σ H Q := h
theorem w_bm {T : String} {r : V → List V → Hp → VK → Prop} {to : TE} {t : TA} (h : to σ H fun x H1 => tyV K T x H1 ∧ t σ H1 fun xs H2 => r x xs H2 Q) : tBM K T r to t σ H Q := h
theorem w_inT {p : Addr} {x : Int} {ns : List Int} (h : SqT K H p (ns.map V.int)) (q : Q (.bl (decide (x ∈ ns))) H) : rIn K false (.int x) (.ref p) H Q := by
  refine ⟨p, ns.map V.int, rfl, .inr h, rfl, ?_, ?_⟩
  · rw [List.all_map]
    exact List.all_eq_true.mpr fun _ _ => rfl
  · rw [if_neg Bool.false_ne_true]
    rw [show inV (.int x) (ns.map V.int) = decide (x ∈ ns) from by
      unfold inV
      rw [List.any_map]
      by_cases e : x ∈ ns
      · rw [decide_eq_true e, List.any_eq_true]
        exact ⟨x, e, by show (x == x) = true; exact beq_self_eq_true x⟩
      · rw [decide_eq_false e, List.any_eq_false]
        intro y hy
        show ¬ (y == x) = true
        intro z
        have : y = x := eq_of_beq z
        subst this
        exact e hy]
    exact q
theorem w_break (h : D.bk σ H) : tBreak D σ H := h
theorem w_cont (h : D.ct σ H) : tCont D σ H := h
theorem w_nT {A B : Prop} (h : B) : if (!true) = true then A else B := h
theorem w_nF {A B : Prop} (h : A) : if (!false) = true then A else B := h
theorem w_ite {c A B : Prop} [Decidable c] (h1 : c → A) (h2 : ¬ c → B) : if (decide c) = true then A else B := by
  by_cases h : c
  · rw [if_pos (decide_eq_true h)]
    exact h1 h
  · rw [if_neg (by rw [decide_eq_false h]; exact Bool.false_ne_true)]
    exact h2 h
theorem w_iteN {c A B : Prop} [Decidable c] (h1 : ¬ c → A) (h2 : c → B) : if (!decide c) = true then A else B := by
  by_cases h : c
  · rw [decide_eq_true h]
    exact iteF (h2 h)
  · rw [decide_eq_false h]
    exact iteT (h1 h)
theorem w_st {t : TS} {σ' : L2.St} (e : σ = σ') (h : t D σ' H) : t D σ H := by
  rw [e]
  exact h
end
/-! heaps -/
theorem same_new {H0 H : Hp} {p : Addr} {o : HO} (s : Same H0 H) (h : H0 p = none) : Same H0 (upd H p o) := fun b x e => by
  rw [upd_ne (ne_of_none e h)]
  exact s b x e
theorem same_upd {H : Hp} {p : Addr} {o : HO} (h : H p = none) : Same H (upd H p o) := same_new (Same.refl H) h
theorem Same.tup {K : PySem.W.Frag} {H H' : Hp} {a : Addr} {xs : List V} (e : Same H H') (h : SqT K H a xs) : SqT K H' a xs := by
  rcases h with (h | ⟨o, h⟩) | h
  · exact .inl (.inl (e _ _ h))
  · exact .inl (.inr ⟨o, e _ _ h⟩)
  · exact .inr h
theorem Same.new {H H' : Hp} {p : Addr} (s : Same H H') (h : H' p = none) : H p = none := s.free h
mutual
theorem dp_same {K : PySem.W.Frag} {H H' : Hp} (e : Same H H') : ∀ {v : V} {d : PyData}, Dp K H v d → Dp K H' v d
  | _, _, .non => .non
  | _, _, .bl b => .bl b
  | _, _, .int i => .int i
  | _, _, .str x => .str x
  | _, _, .lst h t => .lst (e.seq h) (dpAll_same e t)
  | _, _, .tup h t => .tup (Same.tup e h) (dpAll_same e t)
theorem dpAll_same {K : PySem.W.Frag} {H H' : Hp} (e : Same H H') : ∀ {vs : List V} {ds : List PyData}, DpAll K H vs ds → DpAll K H' vs ds
  | _, _, .nil => .nil
  | _, _, .cons h t => .cons (dp_same e h) (dpAll_same e t)
end
theorem dpAll_len {K : PySem.W.Frag} {H : Hp} : ∀ {vs : List V} {ds : List PyData}, DpAll K H vs ds → vs.length = ds.length
  | _, _, .nil => rfl
  | _, _, .cons _ t => by rw [List.length_cons, List.length_cons, dpAll_len t]
theorem dpAll_get {K : PySem.W.Frag} {H : Hp} : ∀ {vs : List V} {ds : List PyData} {i : Nat} {d : PyData}, DpAll K H vs ds → ds[i]? = some d → ∃ v, vs[i]? = some v ∧ Dp K H v d
  | _, _, _, _, .nil, e => by simp at e
  | _, _, 0, _, .cons h _, e => by
    cases (Option.some.inj e)
    exact ⟨_, rfl, h⟩
  | _, _, i + 1, _, .cons _ t, e => dpAll_get (i := i) t e
theorem dpAll_ints {K : PySem.W.Frag} {H : Hp} : ∀ (ns : List Int), DpAll K H (ns.map V.int) (ns.map PyData.int)
  | [] => .nil
  | n :: r => .cons (.int n) (dpAll_ints r)
theorem dpAll_ints_inv {K : PySem.W.Frag} {H : Hp} : ∀ {vs : List V} (ns : List Int), DpAll K H vs (ns.map PyData.int) → vs = ns.map V.int
  | _, [], .nil => rfl
  | _, n :: r, .cons (.int _) t => by rw [dpAll_ints_inv r t, List.map_cons]
theorem dpAll_app {K : PySem.W.Frag} {H : Hp} : ∀ {vs ws : List V} {ds es : List PyData}, DpAll K H vs ds → DpAll K H ws es → DpAll K H (vs ++ ws) (ds ++ es)
  | _, _, _, _, .nil, h => h
  | _, _, _, _, .cons a t, h => .cons a (dpAll_app t h)
theorem ix_at {n j : Nat} {k : Int} (e : k = (j : Int)) (h : j < n) : ixN n k = some j := by
  subst e
  unfold ixN
  rw [if_pos (Int.natCast_nonneg j), if_pos (by omega)]
  rfl
theorem cutV_map (ms : List Int) (lo hi : Option Int) : cutV (ms.map V.int) lo hi = ((ms.drop (HT.sIx ms.length 0 lo)).take (HT.sIx ms.length ms.length hi - HT.sIx ms.length 0 lo)).map V.int := by
  unfold cutV
  rw [List.length_map, List.map_take, List.map_drop]
theorem at0 {x : V} {r : List V} : atI (x :: r) 0 = some x := atI_nat (xs := x :: r) (j := 0) rfl
theorem at1 {x y : V} {r : List V} : atI (x :: y :: r) 1 = some y := atI_nat (xs := x :: y :: r) (j := 1) rfl
theorem at2 {x y z : V} {r : List V} : atI (x :: y :: z :: r) 2 = some z := atI_nat (xs := x :: y :: z :: r) (j := 2) rfl
theorem len2 {n : Nat} (h : Nat.ble n sizeLine = true) : n ≤ sizeLine := Nat.le_of_ble_eq_true h
/-! sizes of numbers -/
theorem div_ok {i j : Int} (h : 0 < j) (h2 : j < 2 ^ 250) : CDivW i j := wide_div (b := 250) h (by omega) (by decide) (by decide)
theorem mul_ok {i j : Int} (h1 : -(2 ^ 250) < i) (h2 : i < 2 ^ 250) (h3 : -(2 ^ 250) < j) (h4 : j < 2 ^ 250) : CMulW i j := wide_mul (a := 250) (b := 250) (by omega) (by omega) (by decide) (by decide) (by decide)
/-- a power whose bits are few -/
def CPowB (i j : Int) : Prop := 0 ≤ j ∧ (Builtin.Int.intBits i : Int) * j ≤ 2 ^ 27
theorem op_powB {X : Cx} : OpR X (binaryOp .Pow) (rI CPowB fun i j => .int (i ^ j.toNat)) := opI fun _ _ _ _ _ _ _ hc q => pow_int hc.1 hc.2 q
/-! loops, targets, stores -/
section
variable {K : PySem.W.Frag} {H : Hp} {σ : L2.St} {D : Ends} {Q : VK} {QA : List V → Hp → Prop} {QS : L2.St → Hp → Prop} {R : It → Hp → Prop}
def FB (J : It) (g : TG) (tb : TS) (D : Ends) (σ : L2.St) (H : Hp) : Prop := tFor (fun _ H R => R J H) g tb D σ H
theorem w_for {wi : TI} {g : TG} {tb : TS} (h : wi σ H fun J H1 => FB J g tb D σ H1) : tFor wi g tb D σ H := h
def RG1 (vs : List V) (H : Hp) (R : It → Hp → Prop) : Prop := iRng1 (fun _ H Q => Q vs H) [] H R
def RG2 (vs : List V) (H : Hp) (R : It → Hp → Prop) : Prop := iRng2 (fun _ H Q => Q vs H) [] H R
theorem w_rng1 {ta : TA} (h : ta σ H fun vs H1 => RG1 vs H1 R) : iRng1 ta σ H R := h
theorem w_rng2 {ta : TA} (h : ta σ H fun vs H1 => RG2 vs H1 R) : iRng2 ta σ H R := h
theorem w_RG1 {j : Int} (h1 : -(2 ^ 62) ≤ j) (h2 : j < 2 ^ 62) (h : R (Itr 0 j.toNat) H) : RG1 [.int j] H R := ⟨j, rfl, h1, h2, h⟩
theorem w_RG2 {i j : Int} (h1 : -(2 ^ 62) ≤ i) (h2 : i < 2 ^ 62) (h3 : -(2 ^ 62) ≤ j) (h4 : j < 2 ^ 62) (h : R (Itr i (j - i).toNat) H) : RG2 [.int i, .int j] H R := ⟨i, j, rfl, ⟨h1, h2, h3, h4⟩, h⟩
def IL (K : PySem.W.Frag) (v : V) (H : Hp) (R : It → Hp → Prop) : Prop := iList K (tC v) [] H R
def IT (K : PySem.W.Frag) (v : V) (H : Hp) (R : It → Hp → Prop) : Prop := iTup K (tC v) [] H R
theorem w_ilist {tl : TE} (h : tl σ H fun v H1 => IL K v H1 R) : iList K tl σ H R := h
theorem w_itup {tl : TE} (h : tl σ H fun v H1 => IT K v H1 R) : iTup K tl σ H R := h
theorem w_IL {a : Addr} {xs : List V} (h : SqL K H a xs) (q : R (Itl K a) H) : IL K (.ref a) H R := ⟨a, rfl, ⟨xs, h⟩, q⟩
theorem w_IT {a : Addr} {xs : List V} (h : SqT K H a xs) (q : R (Itt K a) H) : IT K (.ref a) H R := ⟨a, rfl, ⟨xs, h⟩, q⟩
theorem fb_range {lo : Int} {n : Nat} {g : TG} {tb : TS} (Pv : Nat → L2.St → Hp → Prop) (h0 : Pv 0 σ H)
    (hs : ∀ i σ H, i < n → Pv i σ H → g (.int (lo + i)) σ H fun σ2 H2 => tb { D with nx := Pv (i + 1), ct := Pv (i + 1), bk := D.nx } σ2 H2) (hd : ∀ σ H, Pv n σ H → D.nx σ H) : FB (Itr lo n) g tb D σ H := for_range Pv h0 hs hd
theorem fb_list {a : Addr} (xs : List V) {g : TG} {tb : TS} (Pv : Nat → L2.St → Hp → Prop) (h0 : Pv 0 σ H) (hl : ∀ i σ H, i ≤ xs.length → Pv i σ H → SqL K H a xs)
    (hs : ∀ i x σ H, xs[i]? = some x → Pv i σ H → g x σ H fun σ2 H2 => tb { D with nx := Pv (i + 1), ct := Pv (i + 1), bk := D.nx } σ2 H2) (hd : ∀ σ H, Pv xs.length σ H → D.nx σ H) : FB (Itl K a) g tb D σ H := for_list Pv h0 hl hs hd
theorem fb_tup {a : Addr} (xs : List V) {g : TG} {tb : TS} (Pv : Nat → L2.St → Hp → Prop) (h0 : Pv 0 σ H) (hl : ∀ i σ H, i ≤ xs.length → Pv i σ H → SqT K H a xs)
    (hs : ∀ i x σ H, xs[i]? = some x → Pv i σ H → g x σ H fun σ2 H2 => tb { D with nx := Pv (i + 1), ct := Pv (i + 1), bk := D.nx } σ2 H2) (hd : ∀ σ H, Pv xs.length σ H → D.nx σ H) : FB (Itt K a) g tb D σ H := for_tup Pv h0 hl hs hd
def LB (J : It) (g : TG) (tt : TT) (te : TE) (vs : List Nat) (σ : L2.St) (H : Hp) (Q : VK) : Prop := tLc (fun _ H R => R J H) g tt te vs σ H Q
theorem w_lc {wi : TI} {g : TG} {tt : TT} {te : TE} {vs : List Nat} (h : wi σ H fun J H1 => LB J g tt te vs σ H1 Q) : tLc wi g tt te vs σ H Q := h
theorem lb_range {lo : Int} {n : Nat} {g : TG} {tt : TT} {te : TE} {vs : List Nat} (Pv : Addr → Nat → Hp → Prop) (h0 : ∀ D, H D = none → Pv D 0 (upd H D (.lst [])))
    (hs : ∀ D, H D = none → ∀ i H1, i < n → Pv D i H1 → g (.int (lo + i)) (wipe σ vs) H1 fun σ2 H2 => wipe σ2 vs = wipe σ vs ∧ tt σ2 H2 fun b H3 =>
      if b = true then te σ2 H3 fun y H4 => ∃ acc, H4 D = some (.lst acc) ∧ acc.length < sizeLine ∧ Pv D (i + 1) (upd H4 D (.lst (acc ++ [y]))) else Pv D (i + 1) H3) (hd : ∀ D, H D = none → ∀ H1, Pv D n H1 → Q (.ref D) H1) : LB (Itr lo n) g tt te vs σ H Q :=
  fun D hD => lc_range (Pv D) (h0 D hD) (hs D hD) (hd D hD)
theorem lb_list {a : Addr} (xs : List V) {g : TG} {tt : TT} {te : TE} {vs : List Nat} (Pv : Addr → Nat → Hp → Prop) (h0 : ∀ D, H D = none → Pv D 0 (upd H D (.lst []))) (hl : ∀ D, H D = none → ∀ i H1, i ≤ xs.length → Pv D i H1 → SqL K H1 a xs)
    (hs : ∀ D, H D = none → ∀ i x H1, xs[i]? = some x → Pv D i H1 → g x (wipe σ vs) H1 fun σ2 H2 => wipe σ2 vs = wipe σ vs ∧ tt σ2 H2 fun b H3 =>
      if b = true then te σ2 H3 fun y H4 => ∃ acc, H4 D = some (.lst acc) ∧ acc.length < sizeLine ∧ Pv D (i + 1) (upd H4 D (.lst (acc ++ [y]))) else Pv D (i + 1) H3) (hd : ∀ D, H D = none → ∀ H1, Pv D xs.length H1 → Q (.ref D) H1) : LB (Itl K a) g tt te vs σ H Q :=
  fun D hD => lc_list (Pv D) (h0 D hD) (hl D hD) (hs D hD) (hd D hD)
def IE (K : PySem.W.Frag) (vs : List V) (H : Hp) (R : It → Hp → Prop) : Prop := iEnum K (fun _ H Q => Q vs H) [] H R
theorem w_enum {ta : TA} (h : ta σ H fun vs H1 => IE K vs H1 R) : iEnum K ta σ H R := h
theorem w_IE {a : Addr} {xs : List V} (h : SqL K H a xs) (q : R (Ite K a) H) : IE K [.ref a] H R := ⟨a, xs, rfl, h, q⟩
theorem lb_enum {a : Addr} (xs : List V) {g : TG} {tt : TT} {te : TE} {vs : List Nat} (Pv : Addr → Nat → Hp → Prop) (h0 : ∀ D, H D = none → Pv D 0 (upd H D (.lst []))) (hl : ∀ D, H D = none → ∀ i H1, i ≤ xs.length → Pv D i H1 → SqL K H1 a xs)
    (hs : ∀ D, H D = none → ∀ i v T H1, xs[i]? = some v → Pv D i H1 → H1 T = none → g (.ref T) (wipe σ vs) (upd H1 T (.tup [.int (i : Nat), v])) fun σ2 H2 => wipe σ2 vs = wipe σ vs ∧ tt σ2 H2 fun b H3 =>
      if b = true then te σ2 H3 fun y H4 => ∃ acc, H4 D = some (.lst acc) ∧ acc.length < sizeLine ∧ Pv D (i + 1) (upd H4 D (.lst (acc ++ [y]))) else Pv D (i + 1) H3) (hd : ∀ D, H D = none → ∀ H1, Pv D xs.length H1 → Q (.ref D) H1) : LB (Ite K a) g tt te vs σ H Q :=
  fun D hD => lc_it (walk_enum (xs := xs)) (Pv D) (h0 D hD) (hl D hD) (fun i x H1 H2 _ p y => by
    obtain ⟨T, u, v, rfl, hT, rfl, e1, e2⟩ := y
    cases Option.some.inj e1
    exact hs D hD i v T H1 e2 p hT) (hd D hD)
theorem w_yes {QB : Bool → Hp → Prop} (h : QB true H) : tYes σ H QB := h
theorem w_gtup {n : Nat} {t : TGs} {a : Addr} {xs : List V} (h : SqT K H a xs) (e : xs.length = n) (q : t xs σ H QS) : gTup K n t (.ref a) σ H QS := ⟨a, xs, rfl, h, e, q⟩
theorem w_gcons {t : TG} {u : TGs} {v : V} {r : List V} (h : t v σ H fun σ' H' => u r σ' H' QS) : gCons t u (v :: r) σ H QS := ⟨v, r, rfl, h⟩
theorem w_gnil (h : QS σ H) : gNil [] σ H QS := ⟨rfl, h⟩
theorem w_gsub {to ti : TE} {t : TSet} {v : V} (h : to σ H fun o H1 => ti σ H1 fun i H2 => t o i v H2 fun H3 => QS σ H3) : gSub to ti t v σ H QS := h
theorem w_setL {p : Addr} {xs : List V} {k : Int} {j : Nat} {v : V} {QH : Hp → Prop} (h : H p = some (.lst xs)) (e : ixN xs.length k = some j) (q : QH (upd H p (.lst (xs.set j v)))) : rSetL (.ref p) (.int k) v H QH := ⟨p, xs, k, j, rfl, rfl, h, e, q⟩
theorem w_aug {i : Nat} {te : TE} {ti : TIp} {x : V} (e : σ[i]? = some (some x)) (h : te σ H fun y H1 => ti x y H1 fun z H2 => D.nx (σ.set i (some z)) H2) : tAug i te ti D σ H := ⟨x, e, h⟩
theorem w_ipI {f : Int → Int → Int} {i j : Int} (h : Q (.int (f i j)) H) : ipI f (.int i) (.int j) H Q := ⟨i, j, rfl, rfl, h⟩
theorem w_append {l : Addr} {xs : List V} {y : V} (h : H l = some (.lst xs)) (hl : xs.length < sizeLine) (q : Q .non (upd H l (.lst (xs ++ [y])))) : rAppend (.ref l) [y] H Q := ⟨l, xs, y, rfl, rfl, h, hl, q⟩
theorem ty_list {l : Addr} {xs : List V} (h : H l = some (.lst xs)) : tyV K "list" (.ref l) H := .inl ⟨rfl, _, .inl (.inl h)⟩
theorem w_mod {i j : Int} (h : 0 < j) (q : ∀ r, 0 ≤ r → r < j → Q (.int r) H) : rI (fun _ j => 0 < j) (fun i j => .int (i % j)) (.int i) (.int j) H Q :=
  ⟨i, j, rfl, rfl, h, q _ (Int.emod_nonneg _ (by omega)) (Int.emod_lt_of_pos _ h)⟩
theorem w_div {i j : Int} (h : CDivW i j) (q : ∀ r, Q (.int r) H) : rI CDivW (fun i j => .int (i / j)) (.int i) (.int j) H Q := ⟨i, j, rfl, rfl, h, q _⟩
theorem w_rIv {C : Int → Int → Prop} {g : Int → Int → V} {i j : Int} (v : V) (c : C i j) (e : g i j = v) (h : Q v H) : rI C g (.int i) (.int j) H Q := ⟨i, j, rfl, rfl, c, by rw [e]; exact h⟩
theorem w_isi {x : V} {n : String} {t : Value} {b : Bool} (ty : TyX K H x t) (k : PySem.W.kitOne K t (.type n) = some b) (q : Q (.bl b) H) : rIsi K [x, .ty n] H Q := ⟨x, .ty n, t, .type n, b, rfl, .ty n, ty, k, q⟩
theorem w_andV {ta tb : TE} (h : ta σ H fun x H1 => ∃ c, x = .bl c ∧ if c = true then tb σ H1 Q else Q (.bl false) H1) : tAndV ta tb σ H Q := h
theorem w_orV {ta tb : TE} (h : ta σ H fun x H1 => ∃ c, x = .bl c ∧ if c = true then Q (.bl true) H1 else tb σ H1 Q) : tOrV ta tb σ H Q := h
theorem w_notV {ta : TE} (h : ta σ H fun x H1 => ∃ c, x = .bl c ∧ Q (.bl (!c)) H1) : tNotV ta σ H Q := h
theorem w_slL {a : Addr} {xs : List V} {lo hi : Option Int} (h : SqL K H a xs) (q : ∀ p, H p = none → Q (.ref p) (upd H p (.lst (cutV xs lo hi)))) : rSlL K (.ref a) lo hi H Q := ⟨a, xs, rfl, h, q⟩
theorem w_sl {r : V → Option Int → Option Int → Hp → VK → Prop} {te : TE} {tl th : TO} (h : te σ H fun x H1 => tl σ H1 fun l H2 => th σ H2 fun u H3 => r x l u H3 Q) : tSl r te tl th σ H Q := h
theorem w_nopart {QO : Option Int → Hp → Prop} (h : QO none H) : tNoPart σ H QO := h
theorem w_part {QO : Option Int → Hp → Prop} {t : TE} (h : t σ H fun x H1 => ∃ i, x = .int i ∧ QO (some i) H1) : tPart t σ H QO := h
end
end Ct

namespace Ct
open PySem PySem.Spec PyProof.Rows L2
/-! parts, stands, what a push does -/
inductive Part where
  | wheel (z : Int) (ms : List Int) | click | rocker | spring (k : Int)
def Part.data : Part → PyData
  | .wheel z ms => .tuple [.str "wheel", .int z, .tuple (ms.map PyData.int)]
  | .click => .tuple [.str "click"]
  | .rocker => .tuple [.str "rocker"]
  | .spring k => .tuple [.str "spring", .int k]
def Part.places : Part → Int
  | .wheel z _ => z
  | .click => 1
  | .rocker => 2
  | .spring k => k
def Rise (z : Int) (ms : List Int) : Prop := ms.Pairwise (· < ·) ∧ ∀ m ∈ ms, 0 ≤ m ∧ m < z
def Part.ok : Part → Prop
  | .wheel z ms => 1 ≤ z ∧ z < 2 ^ 200 ∧ Rise z ms ∧ ms.length ≤ 1000
  | .click => True
  | .rocker => True
  | .spring k => 1 ≤ k ∧ k < 2 ^ 200
theorem Part.ok.pos {p : Part} (h : p.ok) : 1 ≤ p.places ∧ p.places < 2 ^ 200 := by
  cases p with
  | wheel z ms => exact ⟨h.1, h.2.1⟩
  | click => exact ⟨by decide, by decide⟩
  | rocker => exact ⟨by decide, by decide⟩
  | spring k => exact h
/-- the new place and what is given -/
def pp : Part → Int → Int → Int × Int
  | .wheel z ms, x, w => ((x + w) % z, if (if w = 1 then (x + w) % z else x) ∈ ms then w else 0)
  | .click, _, w => (0, if w = 1 then 1 else 0)
  | .rocker, x, w => (if w = 1 then 1 else 0, if w = 1 ∧ x = 0 then 1 else 0)
  | .spring k, x, w => if w = 1 then (if x = k - 1 then (0, 1) else (x + 1, 0)) else (if x - 1 > 0 then x - 1 else 0, 0)
def stands : List Part → Int
  | [] => 1
  | p :: r => p.places * stands r
def Sign (w : Int) : Prop := w = 1 ∨ w = -1
theorem pp_sign (p : Part) (x w : Int) (h : Sign w) : (pp p x w).2 = 0 ∨ Sign (pp p x w).2 := by
  cases p with
  | wheel z ms =>
    by_cases e : (if w = 1 then (x + w) % z else x) ∈ ms
    · rw [show (pp (.wheel z ms) x w).2 = w from if_pos e]
      exact .inr h
    · exact .inl (if_neg e)
  | click =>
    show (if w = 1 then (1 : Int) else 0) = 0 ∨ Sign (if w = 1 then (1 : Int) else 0)
    split
    · exact .inr (.inl rfl)
    · exact .inl rfl
  | rocker =>
    show (if w = 1 ∧ x = 0 then (1 : Int) else 0) = 0 ∨ Sign (if w = 1 ∧ x = 0 then (1 : Int) else 0)
    split
    · exact .inr (.inl rfl)
    · exact .inl rfl
  | spring k =>
    show (if w = 1 then (if x = k - 1 then ((0 : Int), (1 : Int)) else (x + 1, 0)) else (if x - 1 > 0 then x - 1 else 0, 0)).2 = 0 ∨ Sign (if w = 1 then (if x = k - 1 then ((0 : Int), (1 : Int)) else (x + 1, 0)) else (if x - 1 > 0 then x - 1 else 0, 0)).2
    split
    · split
      · exact .inr (.inl rfl)
      · exact .inl rfl
    · exact .inl rfl
/-- one part's turn in a push that goes along a train -/
def stp (ps : List Part) (s : List Int × Int) (n : Nat) : List Int × Int :=
  if s.2 = 0 then s else match ps[n]?, s.1[n]? with
    | some p, some x => (s.1.set n (pp p x s.2).1, (pp p x s.2).2)
    | _, _ => s
def runN (ps : List Part) (i : Nat) (s : List Int × Int) : Nat → List Int × Int
  | 0 => s
  | n + 1 => stp ps (runN ps i s n) (i + n)
theorem stp_zero {ps : List Part} {s : List Int × Int} {n : Nat} (h : s.2 = 0) : stp ps s n = s := by
  unfold stp
  rw [if_pos h]
theorem stp_at {ps : List Part} {s : List Int × Int} {n : Nat} {p : Part} {x : Int} (h : s.2 ≠ 0) (hp : ps[n]? = some p) (hx : s.1[n]? = some x) : stp ps s n = (s.1.set n (pp p x s.2).1, (pp p x s.2).2) := by
  unfold stp
  rw [if_neg h, hp, hx]
theorem runN_zero {ps : List Part} {i : Nat} {s : List Int × Int} {n : Nat} (h : (runN ps i s n).2 = 0) : ∀ m, runN ps i s (n + m) = runN ps i s n
  | 0 => rfl
  | m + 1 => by
    show stp ps (runN ps i s (n + m)) _ = _
    rw [runN_zero h m]
    exact stp_zero h
theorem stp_len (ps : List Part) (s : List Int × Int) (n : Nat) : (stp ps s n).1.length = s.1.length := by
  unfold stp
  split
  · rfl
  · split
    · show (s.1.set n _).length = _
      rw [List.length_set]
    · rfl
theorem runN_len (ps : List Part) (i : Nat) (s : List Int × Int) : ∀ n, (runN ps i s n).1.length = s.1.length
  | 0 => rfl
  | n + 1 => by
    show (stp ps _ _).1.length = _
    rw [stp_len, runN_len ps i s n]
theorem stp_other {ps : List Part} {s : List Int × Int} {n m : Nat} (h : n ≠ m) : (stp ps s n).1[m]? = s.1[m]? := by
  unfold stp
  split
  · rfl
  · split
    · show (s.1.set n _)[m]? = _
      rw [List.getElem?_set_ne h]
    · rfl
/-- parts not come to yet stand as they stood -/
theorem runN_ahead (ps : List Part) (i : Nat) (s : List Int × Int) : ∀ n m, i + n ≤ m → (runN ps i s n).1[m]? = s.1[m]?
  | 0, _, _ => rfl
  | n + 1, m, h => by
    show (stp ps _ _).1[m]? = _
    rw [stp_other (by omega), runN_ahead ps i s n m (by omega)]
theorem runN_sign (ps : List Part) (i : Nat) (s : List Int × Int) (h : Sign s.2) : ∀ n, (runN ps i s n).2 = 0 ∨ Sign (runN ps i s n).2
  | 0 => .inr h
  | n + 1 => by
    show (stp ps _ _).2 = 0 ∨ Sign (stp ps _ _).2
    rcases runN_sign ps i s h n with e | e
    · rw [stp_zero e]
      exact .inl e
    · unfold stp
      split
      · rename_i z
        exact .inl z
      · split
        · exact pp_sign _ _ _ e
        · exact .inr e
def StandOk (ps : List Part) (xs : List Int) : Prop := xs.length = ps.length ∧ ∀ (i : Nat) (p : Part) (x : Int), ps[i]? = some p → xs[i]? = some x → 0 ≤ x ∧ x < p.places
def run (ps : List Part) (xs : List Int) (i : Nat) (w : Int) : List Int × Int := runN ps i (xs, w) (ps.length - i)
/-! what stands for a part -/
section
variable {K : PySem.W.Frag} {H : Hp}
theorem tup_inv {v : V} {ds : List PyData} (h : Dp K H v (.tuple ds)) : ∃ a vs, v = .ref a ∧ SqT K H a vs ∧ DpAll K H vs ds := by
  cases h with
  | tup h t => exact ⟨_, _, rfl, h, t⟩
theorem lst_inv {v : V} {ds : List PyData} (h : Dp K H v (.list ds)) : ∃ a vs, v = .ref a ∧ SqL K H a vs ∧ DpAll K H vs ds := by
  cases h with
  | lst h t => exact ⟨_, _, rfl, h, t⟩
theorem wheel_inv {v : V} {z : Int} {ms : List Int} (h : Dp K H v (Part.wheel z ms).data) : ∃ a b, v = .ref a ∧ SqT K H a [.str "wheel", .int z, .ref b] ∧ SqT K H b (ms.map V.int) := by
  obtain ⟨a, vs, rfl, hs, ht⟩ := tup_inv h
  cases ht with
  | cons h1 t1 => cases h1; cases t1 with
    | cons h2 t2 => cases h2; cases t2 with
      | cons h3 t3 =>
        cases t3
        obtain ⟨b, ws, rfl, hb, hw⟩ := tup_inv h3
        cases dpAll_ints_inv ms hw
        exact ⟨a, b, rfl, hs, hb⟩
theorem spring_inv {v : V} {k : Int} (h : Dp K H v (Part.spring k).data) : ∃ a, v = .ref a ∧ SqT K H a [.str "spring", .int k] := by
  obtain ⟨a, vs, rfl, hs, ht⟩ := tup_inv h
  cases ht with
  | cons h1 t1 => cases h1; cases t1 with
    | cons h2 t2 => cases h2; cases t2; exact ⟨a, rfl, hs⟩
theorem click_inv {v : V} (h : Dp K H v Part.click.data) : ∃ a, v = .ref a ∧ SqT K H a [.str "click"] := by
  obtain ⟨a, vs, rfl, hs, ht⟩ := tup_inv h
  cases ht with
  | cons h1 t1 => cases h1; cases t1; exact ⟨a, rfl, hs⟩
theorem rocker_inv {v : V} (h : Dp K H v Part.rocker.data) : ∃ a, v = .ref a ∧ SqT K H a [.str "rocker"] := by
  obtain ⟨a, vs, rfl, hs, ht⟩ := tup_inv h
  cases ht with
  | cons h1 t1 => cases h1; cases t1; exact ⟨a, rfl, hs⟩
theorem wheel_dp {a b : Addr} {z : Int} {ms : List Int} (h : SqT K H a [.str "wheel", .int z, .ref b]) (hb : SqT K H b (ms.map V.int)) : Dp K H (.ref a) (Part.wheel z ms).data :=
  .tup h (.cons (.str _) (.cons (.int _) (.cons (.tup hb (dpAll_ints ms)) .nil)))
theorem spring_dp {a : Addr} {k : Int} (h : SqT K H a [.str "spring", .int k]) : Dp K H (.ref a) (Part.spring k).data := .tup h (.cons (.str _) (.cons (.int _) .nil))
theorem click_dp {a : Addr} (h : SqT K H a [.str "click"]) : Dp K H (.ref a) Part.click.data := .tup h (.cons (.str _) .nil)
theorem rocker_dp {a : Addr} (h : SqT K H a [.str "rocker"]) : Dp K H (.ref a) Part.rocker.data := .tup h (.cons (.str _) .nil)
/-- a train at a: its parts -/
def TrainAt (K : PySem.W.Frag) (H : Hp) (a : Addr) (ps : List Part) : Prop := ∃ vs, SqL K H a vs ∧ DpAll K H vs (ps.map Part.data)
theorem TrainAt.same {H' : Hp} {a : Addr} {ps : List Part} (e : Same H H') (h : TrainAt K H a ps) : TrainAt K H' a ps := by
  obtain ⟨vs, h1, h2⟩ := h
  exact ⟨vs, e.seq h1, dpAll_same e h2⟩
theorem TrainAt.at {a : Addr} {ps : List Part} {vs : List V} (h2 : DpAll K H vs (ps.map Part.data)) {i : Nat} {p : Part} (e : ps[i]? = some p) : ∃ v, vs[i]? = some v ∧ Dp K H v p.data :=
  dpAll_get h2 (by rw [List.getElem?_map, e]; rfl)
end
/-- a list that is changed leaves the parts as they are -/
theorem sqT_upd {K : PySem.W.Frag} {H : Hp} {a l : Addr} {xs ws : List V} {o : HO} (h : SqT K H a xs) (hl : H l = some (.lst ws)) : SqT K (upd H l o) a xs := by
  rcases h with (h | ⟨u, h⟩) | h
  · exact .inl (.inl (by rw [upd_ne (ne_of h hl (by intro z; cases z))]; exact h))
  · exact .inl (.inr ⟨u, by rw [upd_ne (ne_of h hl (by intro z; cases z))]; exact h⟩)
  · exact .inr h
theorem part_upd {K : PySem.W.Frag} {H : Hp} {l : Addr} {ws : List V} {o : HO} {v : V} {p : Part} (h : Dp K H v p.data) (hl : H l = some (.lst ws)) : Dp K (upd H l o) v p.data := by
  cases p with
  | wheel z ms =>
    obtain ⟨a, b, rfl, ha, hb⟩ := wheel_inv h
    exact wheel_dp (sqT_upd ha hl) (sqT_upd hb hl)
  | click =>
    obtain ⟨a, rfl, ha⟩ := click_inv h
    exact click_dp (sqT_upd ha hl)
  | rocker =>
    obtain ⟨a, rfl, ha⟩ := rocker_inv h
    exact rocker_dp (sqT_upd ha hl)
  | spring k =>
    obtain ⟨a, rfl, ha⟩ := spring_inv h
    exact spring_dp (sqT_upd ha hl)
theorem parts_upd {K : PySem.W.Frag} {H : Hp} {l : Addr} {ws : List V} {o : HO} (hl : H l = some (.lst ws)) : ∀ {vs : List V} (ps : List Part), DpAll K H vs (ps.map Part.data) → DpAll K (upd H l o) vs (ps.map Part.data)
  | _, [], .nil => .nil
  | _, p :: r, .cons h t => .cons (part_upd h hl) (parts_upd hl r t)
theorem stands_app : ∀ (ps : List Part) (p : Part), stands (ps ++ [p]) = stands ps * p.places
  | [], p => by
    show p.places * 1 = 1 * p.places
    rw [Int.mul_one, Int.one_mul]
  | a :: r, p => by
    show a.places * stands (r ++ [p]) = a.places * stands r * p.places
    rw [stands_app r p, Int.mul_assoc]
theorem stands_pos : ∀ (ps : List Part), (∀ p ∈ ps, p.ok) → 1 ≤ stands ps
  | [], _ => Int.le_refl _
  | a :: r, h => by
    have h1 := (h a List.mem_cons_self).pos.1
    have h2 := stands_pos r fun p hp => h p (List.mem_cons_of_mem _ hp)
    show 1 ≤ a.places * stands r
    have := Int.mul_le_mul h1 h2 (by decide) (by omega)
    omega
theorem room_step {s pl room most : Int} (hs : 1 ≤ s) (h1 : 1 ≤ pl) (h2 : pl ≤ room) (h : s * room ≤ most) : 1 ≤ room / pl ∧ s * pl * (room / pl) ≤ most := by
  refine ⟨Int.le_ediv_of_mul_le (by omega) (by omega), ?_⟩
  rw [Int.mul_assoc]
  exact Int.le_trans (Int.mul_le_mul_of_nonneg_left (Int.mul_ediv_self_le (by omega)) (by omega)) h
theorem room_end {s room most : Int} (hs : 1 ≤ s) (h1 : 1 ≤ room) (h : s * room ≤ most) : s ≤ most := by
  have := Int.mul_le_mul_of_nonneg_left h1 (show 0 ≤ s by omega)
  omega
/-! data that can be laid -/
theorem canLay_ints : ∀ ns : List Int, PyData.canLayAll0 (ns.map PyData.int) = true
  | [] => rfl
  | n :: r => by
    rw [List.map_cons, PyData.canLayAll0, canLay_ints r]
    rfl
theorem lay_all {n : Nat} : ∀ ds : List PyData, (∀ d ∈ ds, d.canLay0 = true ∧ d.depth ≤ n) → PyData.canLayAll0 ds = true ∧ PyData.depthAll ds ≤ n
  | [], _ => ⟨rfl, Nat.zero_le _⟩
  | d :: r, h => by
    have h1 := h d List.mem_cons_self
    have h2 := lay_all r fun e he => h e (List.mem_cons_of_mem _ he)
    rw [PyData.canLayAll0, PyData.depthAll, h1.1, h2.1]
    exact ⟨rfl, Nat.max_le.mpr ⟨h1.2, h2.2⟩⟩
theorem lay_tup {n : Nat} {ds : List PyData} (h : ∀ d ∈ ds, d.canLay0 = true ∧ d.depth ≤ n) : (PyData.tuple ds).canLay0 = true ∧ (PyData.tuple ds).depth ≤ n + 1 := by
  obtain ⟨h1, h2⟩ := lay_all ds h
  rw [PyData.canLay0, PyData.depth]
  exact ⟨h1, by omega⟩
theorem lay_lst {n : Nat} {ds : List PyData} (h : ∀ d ∈ ds, d.canLay0 = true ∧ d.depth ≤ n) : (PyData.list ds).canLay0 = true ∧ (PyData.list ds).depth ≤ n + 1 := by
  obtain ⟨h1, h2⟩ := lay_all ds h
  rw [PyData.canLay0, PyData.depth]
  exact ⟨h1, by omega⟩
theorem lay_int (n : Nat) (i : Int) : (PyData.int i).canLay0 = true ∧ (PyData.int i).depth ≤ n := ⟨rfl, Nat.zero_le _⟩
theorem lay_str (n : Nat) (x : Str) (h : (PyData.str x).canLay0 = true := by decide +kernel) : (PyData.str x).canLay0 = true ∧ (PyData.str x).depth ≤ n := ⟨h, Nat.zero_le _⟩
theorem lay_ints (ns : List Int) (n : Nat) : ∀ d ∈ ns.map PyData.int, d.canLay0 = true ∧ d.depth ≤ n := fun d hd => by
  obtain ⟨i, _, rfl⟩ := List.mem_map.mp hd
  exact lay_int n i
theorem lay_mono {d : PyData} {n m : Nat} (h : d.canLay0 = true ∧ d.depth ≤ n) (e : n ≤ m) : d.canLay0 = true ∧ d.depth ≤ m := ⟨h.1, Nat.le_trans h.2 e⟩
theorem lay_part (p : Part) : p.data.canLay0 = true ∧ p.data.depth ≤ 2 := by
  cases p with
  | wheel z ms =>
    refine lay_tup (n := 1) fun d hd => ?_
    rcases List.mem_cons.mp hd with rfl | hd
    · exact lay_str _ _
    rcases List.mem_cons.mp hd with rfl | hd
    · exact lay_int _ _
    rcases List.mem_cons.mp hd with rfl | hd
    · exact lay_tup (lay_ints ms 0)
    · cases hd
  | click => exact lay_mono (lay_tup (n := 0) fun d hd => by
      rcases List.mem_cons.mp hd with rfl | hd
      · exact lay_str _ _
      · cases hd) (by decide)
  | rocker => exact lay_mono (lay_tup (n := 0) fun d hd => by
      rcases List.mem_cons.mp hd with rfl | hd
      · exact lay_str _ _
      · cases hd) (by decide)
  | spring k => exact lay_mono (lay_tup (n := 0) fun d hd => by
      rcases List.mem_cons.mp hd with rfl | hd
      · exact lay_str _ _
      rcases List.mem_cons.mp hd with rfl | hd
      · exact lay_int _ _
      · cases hd) (by decide)
theorem lay_train (ps : List Part) : (PyData.list (ps.map Part.data)).canLay0 = true ∧ (PyData.list (ps.map Part.data)).depth ≤ 3 := lay_lst fun d hd => by
  obtain ⟨p, _, rfl⟩ := List.mem_map.mp hd
  exact lay_part p
theorem shaped_of {d : PyData} {n : Nat} (h : d.canLay0 = true ∧ d.depth ≤ n) (e : n ≤ 64) : SeqAt.shaped d = true := by
  unfold SeqAt.shaped
  rw [h.1, decide_eq_true (Nat.le_trans h.2 e)]
  rfl
theorem lay_told (xs : List Int) (y : Int) : (PyData.tuple [.tuple (xs.map PyData.int), .int y]).canLay0 = true ∧ (PyData.tuple [.tuple (xs.map PyData.int), .int y]).depth ≤ 2 := lay_tup (n := 1) fun d hd => by
  rcases List.mem_cons.mp hd with rfl | hd
  · exact lay_tup (lay_ints xs 0)
  rcases List.mem_cons.mp hd with rfl | hd
  · exact lay_int _ _
  · cases hd
theorem w_neSame {K : PySem.W.Frag} {H : Hp} {Q : VK} {x y : V} (d : PyData) {n : Nat} (hx : Dp K H x d) (hy : Dp K H y d) (h : d.canLay0 = true ∧ d.depth ≤ n) (e : n ≤ 64) (q : Q (.bl false) H) : rNeD K x y H Q :=
  ⟨d, d, hx, hy, shaped_of h e, shaped_of h e, by rw [SeqAt.eqv_refl d h.1]; exact q⟩
theorem tyx_T {K : PySem.W.Frag} {H : Hp} {a : Addr} {xs : List V} (h : SqT K H a xs) : TyX K H (.ref a) (.type "tuple") := by
  rcases h with (h | ⟨o, h⟩) | ⟨o, its, n, hk, hc, _⟩
  · exact .base (.tup h)
  · exact .fTuple h
  · exact .kTuple hk hc
theorem tyx_L {K : PySem.W.Frag} {H : Hp} {a : Addr} {xs : List V} (h : SqL K H a xs) : TyX K H (.ref a) (.type "list") := by
  rcases h with (h | ⟨o, h⟩) | ⟨o, its, n, hk, hc, _⟩
  · exact .base (.lst h)
  · exact .base (.frz h)
  · exact .kList hk hc
end Ct

namespace Ct
open PySem PySem.Spec PyProof.Rows L2
/-! zip of a list and a tuple: the list first -/
def ItM (K : PySem.W.Frag) (a b : Addr) : It where
  go := fun i H => ∃ (xs ys : List V) (x y : V), SqL K H a xs ∧ SqT K H b ys ∧ xs[i]? = some x ∧ ys[i]? = some y
  yld := fun i H v H' => ∃ T x y, v = .ref T ∧ H T = none ∧ H' = upd H T (.tup [x, y]) ∧ (∀ xs, SqL K H a xs → xs[i]? = some x) ∧ ∀ ys, SqT K H b ys → ys[i]? = some y
  stop := fun i H => ∃ xs ys : List V, SqL K H a xs ∧ SqT K H b ys ∧ min xs.length ys.length = i
abbrev ZSt (a b z TI TO i1 i2 : Addr) (i : Nat) (h : Heap) : Prop :=
  IsZip h z TI TO .none ∧ IsTupOf2 h TI (.ref i1) (.ref i2) ∧ (∃ a1 a2, IsTupOf2 h TO a1 a2) ∧ h.IsListIter i1 a i ∧ h.IsTupleIter i2 b i
theorem turnM {P : Program} {w : World} {K : PySem.W.Frag} {es : List Expr} {kk : Nat} {tp : Pos} {a b N : Nat} (ha : a < N) (hb : b < N) :
    Turn P w K (.Tuple es kk tp) (ItM K a b) [N + 4, N + 2, N + 3, N, N + 1] (N + 4) (ZSt a b (N + 4) (N + 2) (N + 3) N (N + 1)) := by
  have five : ∀ {c : Nat}, c ∈ [N + 4, N + 2, N + 3, N, N + 1] → N ≤ c := fun {c} hc => by
    simp only [List.mem_cons, List.not_mem_nil, or_false] at hc
    omega
  have sep : ZipSep2 (N + 4) (N + 2) (N + 3) N (N + 1) [N, a] [N + 1, b] := zip_sep2 (fun c hc => by rw [List.mem_singleton] at hc; rw [hc]; exact ha) fun c hc => by rw [List.mem_singleton] at hc; rw [hc]; exact hb
  have wrfp : ∀ {c : Nat}, c ∉ [N + 4, N + 2, N + 3, N, N + 1] → c ∉ [N + 4, N + 3, N, N + 1] := fun {c} hc hm => hc (by
    simp only [List.mem_cons, List.not_mem_nil, or_false] at hm ⊢
    omega)
  refine ⟨List.mem_cons_self, fun i h st c hc => ?_, fun i h h' st k => ?_, ?_, ?_, fun A i s Q E st h => wpAny_pyIter_zip st.1 h⟩
  · obtain ⟨s1, s2, ⟨u, v, s3⟩, ⟨o1, g1, _, d1⟩, ⟨o2, g2, _, d2⟩⟩ := st
    simp only [List.mem_cons, List.not_mem_nil, or_false] at hc
    rcases hc with e | e | e | e | e <;> subst e
    · exact ⟨_, s1, fun v q => nomatch q⟩
    · exact ⟨_, s2, fun v q => nomatch q⟩
    · exact ⟨_, s3, fun v q => nomatch q⟩
    · exact ⟨o1, g1, fun v q => by rw [d1] at q; cases q⟩
    · exact ⟨o2, g2, fun v q => by rw [d2] at q; cases q⟩
  · obtain ⟨s1, s2, ⟨u, v, s3⟩, s4, s5⟩ := st
    exact ⟨k _ (by simp) _ s1, k _ (by simp) _ s2, ⟨u, v, k _ (by simp) _ s3⟩, s4.at fun o q => k N (by simp) o q, s5.at fun o q => k (N + 1) (by simp) o q⟩
  · intro X eP ew eK calm i pins s σ H E I hf st hg
    subst eP ew eK
    obtain ⟨xs, ys, x, y, lx, ty, gx, gy⟩ := hg
    obtain ⟨us, rx, px, _⟩ := I.list lx
    obtain ⟨vs, ry, py, _⟩ := I.tuple ty
    obtain ⟨s1, s2, s3, s4, s5⟩ := st
    have hh : X.A.in1.handled = none := I.ok.hd calm
    have G := GoesN.zip2 (elts := es) (x1 := kk) (pos := tp) sep (Draws.list (prog := X.prog) (w := X.w) hh N a (Nat.ne_of_lt ha) us.toArray) (Draws.tuple (prog := X.prog) (w := X.w) hh (N + 1) b (Nat.ne_of_lt (Nat.lt_succ_of_lt hb)) vs.toArray)
    have lu := rx.length
    have lv := ry.length
    have ix : i < xs.length := (List.getElem?_eq_some_iff.mp gx).1
    have iy : i < ys.length := (List.getElem?_eq_some_iff.mp gy).1
    refine G.goes i s _ E (by rw [List.size_toArray, List.size_toArray]; omega) ⟨s1, s2, s3, ⟨s4, px.isList⟩, ⟨s5, py⟩⟩ fun v h' tk hY st' hk _ => ?_
    obtain ⟨T, u1, u2, rfl, hT, q1, q2, hTu⟩ := hY
    obtain ⟨w1, e1, r1⟩ := rx.get gx
    obtain ⟨w2, e2, r2⟩ := ry.get gy
    have f1 : w1 = u1 := Option.some.inj (e1.symm.trans (by simpa using q1))
    have f2 : w2 = u2 := Option.some.inj (e2.symm.trans (by simpa using q2))
    subst f1 f2
    have new : ObjOk X.prog X.w (upd H T (.tup [x, y])) h' T (.tup [x, y]) := ⟨len2 rfl, [w1, w2], .cons r1 (.cons r2 .nil), hTu⟩
    refine ⟨.ref T, _, I.turnedNew (t' := tk) (fun c o hc e => hk c o (wrfp hc) e) hf hT new, rfl, ⟨T, x, y, rfl, I.hok.fresh hT, rfl, fun l hl => by rw [I.list_inj hl lx]; exact gx, fun l hl => by rw [I.tuple_inj hl ty]; exact gy⟩, ⟨st'.1, st'.2.1, st'.2.2.1, st'.2.2.2.1.1, st'.2.2.2.2.1⟩, fun c hc => ?_⟩
    obtain ⟨o, g, _⟩ : ∃ o, s.heap.get? c = some o ∧ True := by
      obtain ⟨u, v, s3⟩ := s3
      obtain ⟨o1, g1, _⟩ := s4
      obtain ⟨o2, g2, _⟩ := s5
      simp only [List.mem_cons, List.not_mem_nil, or_false] at hc
      rcases hc with e | e | e | e | e <;> subst e
      · exact ⟨_, s1, trivial⟩
      · exact ⟨_, s2, trivial⟩
      · exact ⟨_, s3, trivial⟩
      · exact ⟨_, g1, trivial⟩
      · exact ⟨_, g2, trivial⟩
    rw [upd_ne (Nat.ne_of_lt (Nat.lt_of_lt_of_le (Heap.lt_size g) hT))]
    exact (hf c hc).1
  · intro X eP ew eK calm i pins s σ H E I hf st hg
    subst eP ew eK
    obtain ⟨xs, ys, lx, ty, hm⟩ := hg
    obtain ⟨us, rx, px, _⟩ := I.list lx
    obtain ⟨vs, ry, py, _⟩ := I.tuple ty
    obtain ⟨s1, s2, s3, s4, s5⟩ := st
    have hh : X.A.in1.handled = none := I.ok.hd calm
    have G := GoesN.zip2 (elts := es) (x1 := kk) (pos := tp) sep (Draws.list (prog := X.prog) (w := X.w) hh N a (Nat.ne_of_lt ha) us.toArray) (Draws.tuple (prog := X.prog) (w := X.w) hh (N + 1) b (Nat.ne_of_lt (Nat.lt_succ_of_lt hb)) vs.toArray)
    have lu := rx.length
    have lv := ry.length
    have hn : min us.toArray.size vs.toArray.size = i := by rw [List.size_toArray, List.size_toArray]; omega
    rw [hn] at G
    exact G.stops s _ E ⟨s1, s2, s3, ⟨s4, px.isList⟩, ⟨s5, py⟩⟩ fun h' tk hk _ => I.turnedL (t' := tk) (fun c o hc e => hk c o (wrfp hc) e) hf
def iM (K : PySem.W.Frag) (ta : TA) : TI := fun σ H R => ta σ H fun vs H1 => ∃ a b xs ys, vs = [.ref a, .ref b] ∧ SqL K H1 a xs ∧ SqT K H1 b ys ∧ R (ItM K a b) H1
theorem pi_zipM {X : Cx} {e e2 : Expr} {ta : TA} {p pos tp : Pos} {es : List Expr} {kk : Nat} (gl : Gl X "zip") (mz : X.mg "zip" = none) (pa : PA X [e, e2] ta)
    (se : starEach [e, e2] X.env = (false, eval e X.env) :: starEach [e2] X.env := by rfl) (bk : (backTo pos (starEach [e2] X.env)).any (·.1) = false := by rfl) : PI X (.Tuple es kk tp) (.Call (.Name "zip" p) [e, e2] [] pos) (iM X.K ta) := by
  refine ⟨fun pins s σ H R I h => Call_ (ld_blt I gl mz boot_zip (callWith_type1 (thn (pa.run pos pins s σ H _ I h) fun us s1 ⟨vs, H1, I1, r1, q1⟩ => ?_) se bk))⟩
  obtain ⟨a, b, xs, ys, rfl, lx, ty, q⟩ := q1
  cases r1 with
  | cons ra rr => cases rr with
    | cons rb rn =>
      cases rn
      cases ra
      cases rb
      obtain ⟨us, rx, px, _⟩ := I1.list lx
      obtain ⟨vs, ry, py, _⟩ := I1.tuple ty
      obtain ⟨ob, gb, _⟩ := id py
      refine zip_begins2 (begins_list a us.toArray) (begins_tuple b vs.toArray) px.isList py fun h' z1 z2 z3 g1 g2 _ hk => wpAny_pyIter_zip z1 ?_
      have I2 : Inv X pins σ H1 { s1 with heap := h' } := I1.kept (t' := s1.toks) hk
      refine ⟨_, _, _, _, H1, rfl, I2, turnM px.lt (Heap.lt_size gb), ⟨z1, z2, ⟨_, _, z3⟩, ⟨_, g1, rfl, rfl⟩, ⟨_, g2, rfl, rfl⟩⟩, fun c hc => ?_, q⟩
      have hle : s1.heap.objs.size ≤ c := by
        simp only [List.mem_cons, List.not_mem_nil, or_false] at hc
        rcases hc with e | e | e | e | e <;> subst e <;> first | exact Nat.le_add_right _ _ | exact Nat.le_refl _
      exact I1.fpOk hle (I1.hok.fresh hle)
section
variable {K : PySem.W.Frag} {H : Hp} {σ : L2.St} {D : Ends} {R : It → Hp → Prop}
def IM (K : PySem.W.Frag) (vs : List V) (H : Hp) (R : It → Hp → Prop) : Prop := iM K (fun _ H Q => Q vs H) [] H R
theorem w_im {ta : TA} (h : ta σ H fun vs H1 => IM K vs H1 R) : iM K ta σ H R := h
theorem w_IM {a b : Addr} {xs ys : List V} (h1 : SqL K H a xs) (h2 : SqT K H b ys) (q : R (ItM K a b) H) : IM K [.ref a, .ref b] H R := ⟨a, b, xs, ys, rfl, h1, h2, q⟩
theorem fb_zipM {a b : Addr} (xs ys : List V) (hl : xs.length = ys.length) {g : TG} {tb : TS} (Pv : Nat → L2.St → Hp → Prop) (h0 : Pv 0 σ H) (hq : ∀ i σ H, i ≤ xs.length → Pv i σ H → SqL K H a xs ∧ SqT K H b ys)
    (hs : ∀ i x y T σ H, xs[i]? = some x → ys[i]? = some y → Pv i σ H → H T = none → g (.ref T) σ (upd H T (.tup [x, y])) fun σ2 H2 => tb { D with nx := Pv (i + 1), ct := Pv (i + 1), bk := D.nx } σ2 H2) (hd : ∀ σ H, Pv xs.length σ H → D.nx σ H) : FB (ItM K a b) g tb D σ H := by
  refine ⟨fun i m σ H => m = xs.length - i ∧ i ≤ xs.length ∧ Pv i σ H, ⟨xs.length, rfl, Nat.zero_le _, h0⟩, ?_⟩
  rintro i m σ H ⟨rfl, hi, p⟩
  obtain ⟨q1, q2⟩ := hq i σ H hi p
  by_cases hlt : i < xs.length
  · refine .inr ⟨⟨xs, ys, _, _, q1, q2, List.getElem?_eq_getElem hlt, List.getElem?_eq_getElem (hl ▸ hlt)⟩, Pv (i + 1), fun σ' H' p' => ⟨xs.length - (i + 1), by omega, rfl, hlt, p'⟩, fun v H' y => ?_⟩
    obtain ⟨T, x1, x2, rfl, hT, rfl, f1, f2⟩ := y
    exact hs i x1 x2 T σ H (f1 _ q1) (f2 _ q2) p hT
  · exact .inl ⟨⟨xs, ys, q1, q2, by omega⟩, hd σ H (by rw [show xs.length = i by omega]; exact p)⟩
end
end Ct

namespace Ct
open PySem PySem.Spec PyProof.Rows L2
/-! pushes of one deed, reckoned at once -/
def cnt (ms : List Int) (r : Int) : Int := ((ms.filter fun m => decide (m ≤ r)).length : Int)
theorem cnt_nil (r : Int) : cnt [] r = 0 := rfl
theorem cnt_cons (m : Int) (ms : List Int) (r : Int) : cnt (m :: ms) r = (if m ≤ r then 1 else 0) + cnt ms r := by
  unfold cnt
  rw [List.filter_cons]
  by_cases h : m ≤ r
  · rw [if_pos h, if_pos (decide_eq_true h), List.length_cons]
    omega
  · rw [if_neg h, if_neg (by rw [decide_eq_false h]; exact Bool.false_ne_true)]
    omega
theorem cnt_all : ∀ {ms : List Int} {r : Int}, (∀ m ∈ ms, m ≤ r) → cnt ms r = ms.length
  | [], _, _ => rfl
  | m :: ms, r, h => by
    rw [cnt_cons, if_pos (h m List.mem_cons_self), cnt_all fun x hx => h x (List.mem_cons_of_mem _ hx), List.length_cons]
    omega
theorem cnt_zero : ∀ {ms : List Int} {r : Int}, (∀ m ∈ ms, r < m) → cnt ms r = 0
  | [], _, _ => rfl
  | m :: ms, r, h => by
    have h1 := h m List.mem_cons_self
    rw [cnt_cons, if_neg (by omega), cnt_zero fun x hx => h x (List.mem_cons_of_mem _ hx)]
    rfl
theorem cnt_split : ∀ (ms : List Int) (k : Nat) (r : Int), k ≤ ms.length → (∀ (j : Nat) (m : Int), j < k → ms[j]? = some m → m ≤ r) → (∀ (j : Nat) (m : Int), k ≤ j → ms[j]? = some m → r < m) → cnt ms r = k
  | ms, 0, r, _, _, h => cnt_zero fun m hm => by
    obtain ⟨j, hj, e⟩ := List.mem_iff_getElem.mp hm
    exact h j m (Nat.zero_le _) (by rw [List.getElem?_eq_getElem hj, e])
  | [], k + 1, r, hk, _, _ => absurd hk (by simp)
  | m :: ms, k + 1, r, hk, h1, h2 => by
    rw [cnt_cons, if_pos (h1 0 m (Nat.succ_pos k) rfl), cnt_split ms k r (by rw [List.length_cons] at hk; omega) (fun j x hj hx => h1 (j + 1) x (by omega) hx) fun j x hj hx => h2 (j + 1) x (by omega) hx]
    omega
theorem cnt_step : ∀ {ms : List Int} (r : Int), ms.Pairwise (· < ·) → cnt ms r = cnt ms (r - 1) + (if r ∈ ms then 1 else 0)
  | [], _, _ => rfl
  | m :: ms, r, h => by
    obtain ⟨h1, h2⟩ := List.pairwise_cons.mp h
    have ih := cnt_step r h2
    rw [cnt_cons, cnt_cons, ih]
    by_cases e : r = m
    · subst e
      have hn : r ∉ ms := fun z => by
        have := h1 r z
        omega
      rw [if_neg hn, if_pos List.mem_cons_self, if_pos (Int.le_refl _), if_neg (by omega)]
      omega
    · have hm : (r ∈ m :: ms) ↔ r ∈ ms := ⟨fun z => (List.mem_cons.mp z).resolve_left e, fun z => List.mem_cons_of_mem _ z⟩
      by_cases hr : r ∈ ms
      · rw [if_pos hr, if_pos (hm.mpr hr)]
        by_cases h3 : m ≤ r
        · rw [if_pos h3, if_pos (by omega)]
          omega
        · rw [if_neg h3, if_neg (by omega)]
          omega
      · rw [if_neg hr, if_neg (fun z => hr (hm.mp z))]
        by_cases h3 : m ≤ r
        · rw [if_pos h3, if_pos (by omega)]
          omega
        · rw [if_neg h3, if_neg (by omega)]
          omega
/-- marks up to a tooth, over all turns -/
def mah (z : Int) (ms : List Int) (y : Int) : Int := y / z * (ms.length : Int) + cnt ms (y % z)
theorem mah_step {z : Int} {ms : List Int} (hz : 1 ≤ z) (rs : Rise z ms) (y : Int) : mah z ms y = mah z ms (y - 1) + (if y % z ∈ ms then 1 else 0) := by
  unfold mah
  have e := Int.emod_add_mul_ediv y z
  have r0 := Int.emod_nonneg y (show z ≠ 0 by omega)
  have r1 := Int.emod_lt_of_pos y (show 0 < z by omega)
  by_cases h : y % z = 0
  · obtain ⟨e1, e2⟩ := (Int.ediv_emod_unique (a := y - 1) (b := z) (r := z - 1) (q := y / z - 1) (by omega)).mpr ⟨by rw [Int.mul_sub]; omega, by omega, by omega⟩
    rw [e1, e2, h, cnt_all (ms := ms) (r := z - 1) (fun m hm => by have := (rs.2 m hm).2; omega), cnt_step 0 rs.1, cnt_zero (ms := ms) (r := 0 - 1) (fun m hm => by have := (rs.2 m hm).1; omega), Int.sub_mul]
    omega
  · obtain ⟨e1, e2⟩ := (Int.ediv_emod_unique (a := y - 1) (b := z) (r := y % z - 1) (q := y / z) (by omega)).mpr ⟨by omega, by omega, by omega⟩
    rw [e1, e2, cnt_step (y % z) rs.1]
    omega
theorem mah_up {z : Int} {ms : List Int} (hz : 1 ≤ z) (rs : Rise z ms) (y : Int) : ∀ t : Nat, mah z ms y ≤ mah z ms (y + t)
  | 0 => by rw [show y + ((0 : Nat) : Int) = y by omega]; exact Int.le_refl _
  | t + 1 => by
    have h := mah_step hz rs (y + ((t + 1 : Nat) : Int))
    rw [show y + ((t + 1 : Nat) : Int) - 1 = y + t by omega] at h
    have ih := mah_up hz rs y t
    rw [h]
    split <;> omega
/-- so many pushes one way at a part: its place, and how many it gives -/
def pt (p : Part) (x w t : Int) : Int × Int := match p with
  | .wheel z ms => ((x + w * t) % z, if mah z ms (x + w * t) - mah z ms x < 0 then -(mah z ms (x + w * t) - mah z ms x) else mah z ms (x + w * t) - mah z ms x)
  | .click => (x, if w = 1 then t else 0)
  | .rocker => if t = 0 then (x, 0) else if w = -1 then (0, 0) else (1, 1 - x)
  | .spring k => if w = -1 then (if x - t > 0 then x - t else 0, 0) else ((x + t) % k, (x + t) / k)
theorem pt_zero {p : Part} {x w : Int} (ok : p.ok) (h0 : 0 ≤ x) (h1 : x < p.places) : pt p x w 0 = (x, 0) := by
  cases p with
  | wheel z ms =>
    have h2 : x < z := h1
    simp only [pt, Int.mul_zero, Int.add_zero, Int.emod_eq_of_lt h0 h2, Int.sub_self]
    rfl
  | click =>
    simp only [pt]
    split <;> rfl
  | rocker => rfl
  | spring k =>
    have h2 : x < k := h1
    simp only [pt]
    split
    · rw [show (if x - 0 > 0 then x - 0 else 0) = x by split <;> omega]
    · rw [Int.add_zero, Int.emod_eq_of_lt h0 h2, Int.ediv_eq_zero_of_lt h0 h2]
theorem pp_way (p : Part) (x w : Int) (h : Sign w) : (pp p x w).2 = 0 ∨ (pp p x w).2 = w := by
  cases p with
  | wheel z ms =>
    by_cases e : (if w = 1 then (x + w) % z else x) ∈ ms
    · exact .inr (if_pos e)
    · exact .inl (if_neg e)
  | click =>
    by_cases e : w = 1
    · exact .inr (by simp only [pp, if_pos e]; exact e.symm)
    · exact .inl (if_neg e)
  | rocker =>
    by_cases e : w = 1 ∧ x = 0
    · exact .inr (by simp only [pp, if_pos e]; exact e.1.symm)
    · exact .inl (if_neg e)
  | spring k =>
    by_cases e : w = 1
    · by_cases e2 : x = k - 1
      · exact .inr (by simp only [pp, if_pos e, if_pos e2]; exact e.symm)
      · exact .inl (by simp only [pp, if_pos e, if_neg e2])
    · exact .inl (by simp only [pp, if_neg e])
theorem neg_abs {d : Int} (h : 0 ≤ d) : (if d < 0 then -d else d) = d := if_neg (by omega)
theorem abs_neg {d : Int} (h : d ≤ 0) : (if d < 0 then -d else d) = -d := by
  split <;> omega
/-- one push more -/
theorem pt_step {p : Part} {x w : Int} (ok : p.ok) (h0 : 0 ≤ x) (h1 : x < p.places) (hw : Sign w) (t : Nat) :
    pt p x w ((t + 1 : Nat) : Int) = ((pp p (pt p x w t).1 w).1, (pt p x w t).2 + if (pp p (pt p x w t).1 w).2 = 0 then 0 else 1) := by
  cases p with
  | wheel z ms =>
    have hz : 1 ≤ z := ok.1
    have rs : Rise z ms := ok.2.2.1
    rcases hw with rfl | rfl
    · have u1 := mah_up hz rs x t
      have u2 := mah_up hz rs x (t + 1)
      have st := mah_step hz rs (x + ((t + 1 : Nat) : Int))
      rw [show x + ((t + 1 : Nat) : Int) - 1 = x + t by omega] at st
      simp only [pt, pp, Int.one_mul, if_true]
      rw [neg_abs (by omega), neg_abs (by omega)]
      have em : ((x + (t : Int)) % z + 1) % z = (x + ((t + 1 : Nat) : Int)) % z := by
        rw [Int.emod_add_emod]
        congr 1
        omega
      rw [em]
      by_cases hm : (x + ((t + 1 : Nat) : Int)) % z ∈ ms
      · rw [if_pos hm] at st ⊢
        rw [if_neg (by decide)]
        exact Prod.ext rfl (by show mah z ms _ - mah z ms x = mah z ms _ - mah z ms x + 1; omega)
      · rw [if_neg hm] at st ⊢
        rw [if_pos rfl]
        exact Prod.ext rfl (by show mah z ms _ - mah z ms x = mah z ms _ - mah z ms x + 0; omega)
    · have v1 := mah_up hz rs (x - t) t
      have v2 := mah_up hz rs (x - ((t + 1 : Nat) : Int)) (t + 1)
      have st := mah_step hz rs (x - t)
      rw [show x - t + t = x by omega] at v1
      rw [show x - ((t + 1 : Nat) : Int) + ((t + 1 : Nat) : Int) = x by omega] at v2
      simp only [pt, pp, show ∀ y : Int, x + -1 * y = x - y from fun y => by omega, if_neg (show ¬ (-1 : Int) = 1 by decide)]
      rw [abs_neg (by omega), abs_neg (by omega)]
      have em : ((x - (t : Int)) % z + -1) % z = (x - ((t + 1 : Nat) : Int)) % z := by
        rw [Int.emod_add_emod]
        congr 1
        omega
      rw [em]
      rw [show x - (t : Int) - 1 = x - ((t + 1 : Nat) : Int) by omega] at st
      by_cases hm : (x - (t : Int)) % z ∈ ms
      · rw [if_pos hm] at st ⊢
        rw [if_neg (by decide)]
        exact Prod.ext rfl (by show -(mah z ms _ - mah z ms x) = -(mah z ms _ - mah z ms x) + 1; omega)
      · rw [if_neg hm] at st ⊢
        rw [if_pos rfl]
        exact Prod.ext rfl (by show -(mah z ms _ - mah z ms x) = -(mah z ms _ - mah z ms x) + 0; omega)
  | click =>
    have h2 : x < 1 := h1
    have ex : x = 0 := by omega
    subst ex
    rcases hw with rfl | rfl
    · simp only [pt, pp, if_true]
      rw [if_neg (by decide)]
      exact Prod.ext rfl (by show ((t + 1 : Nat) : Int) = (t : Int) + 1; omega)
    · rfl
  | rocker =>
    have h2 : x < 2 := h1
    rcases hw with rfl | rfl
    · simp only [pt, pp, if_neg (show ¬ ((t + 1 : Nat) : Int) = 0 by omega), if_neg (show ¬ (1 : Int) = -1 by decide), if_true]
      by_cases ht : (t : Int) = 0
      · rw [if_pos ht]
        by_cases hx : x = 0
        · subst hx
          rfl
        · have hx1 : x = 1 := by omega
          subst hx1
          rfl
      · rw [if_neg ht]
        simp
    · simp only [pt, pp, if_neg (show ¬ ((t + 1 : Nat) : Int) = 0 by omega), if_true]
      by_cases ht : (t : Int) = 0
      · rw [if_pos ht]
        rfl
      · rw [if_neg ht]
        rfl
  | spring k =>
    have h2 : x < k := h1
    have hk : 1 ≤ k := ok.1
    rcases hw with rfl | rfl
    · simp only [pt, pp, if_neg (show ¬ (1 : Int) = -1 by decide), if_true]
      have e := Int.emod_add_mul_ediv (x + t) k
      have r0 := Int.emod_nonneg (x + t) (show k ≠ 0 by omega)
      have r1 := Int.emod_lt_of_pos (x + t) (show 0 < k by omega)
      by_cases hx : (x + (t : Int)) % k = k - 1
      · obtain ⟨e1, e2⟩ := (Int.ediv_emod_unique (a := x + ((t + 1 : Nat) : Int)) (b := k) (r := 0) (q := (x + t) / k + 1) (by omega)).mpr ⟨by rw [Int.mul_add]; omega, by omega, by omega⟩
        rw [if_pos hx, e1, e2]
        rfl
      · obtain ⟨e1, e2⟩ := (Int.ediv_emod_unique (a := x + ((t + 1 : Nat) : Int)) (b := k) (r := (x + t) % k + 1) (q := (x + t) / k) (by omega)).mpr ⟨by omega, by omega, by omega⟩
        rw [if_neg hx, e1, e2]
        exact Prod.ext rfl (by show (x + (t : Int)) / k = (x + (t : Int)) / k + 0; omega)
    · simp only [pt, pp, if_true, if_neg (show ¬ (-1 : Int) = 1 by decide)]
      refine Prod.ext ?_ rfl
      show (if x - ((t + 1 : Nat) : Int) > 0 then x - ((t + 1 : Nat) : Int) else 0) = (if (if x - (t : Int) > 0 then x - (t : Int) else 0) - 1 > 0 then (if x - (t : Int) > 0 then x - (t : Int) else 0) - 1 else 0)
      by_cases hx : x - (t : Int) > 0
      · rw [if_pos hx]
        split <;> split <;> omega
      · rw [if_neg hx]
        split <;> split <;> omega
theorem pt_nn {p : Part} {x w : Int} (ok : p.ok) (h0 : 0 ≤ x) (h1 : x < p.places) (hw : Sign w) : ∀ t : Nat, 0 ≤ (pt p x w t).2
  | 0 => by
    show 0 ≤ (pt p x w 0).2
    rw [pt_zero ok h0 h1]
    exact Int.le_refl _
  | t + 1 => by
    rw [pt_step ok h0 h1 hw t]
    have := pt_nn ok h0 h1 hw t
    show 0 ≤ (pt p x w t).2 + _
    split <;> omega
theorem pt_le {p : Part} {x w : Int} (ok : p.ok) (h0 : 0 ≤ x) (h1 : x < p.places) (hw : Sign w) : ∀ t : Nat, (pt p x w t).2 ≤ t
  | 0 => by
    show (pt p x w 0).2 ≤ 0
    rw [pt_zero ok h0 h1]
    exact Int.le_refl _
  | t + 1 => by
    rw [pt_step ok h0 h1 hw t]
    have := pt_le ok h0 h1 hw t
    show (pt p x w t).2 + _ ≤ _
    split <;> omega
theorem pp_place {p : Part} {x w : Int} (ok : p.ok) (h0 : 0 ≤ x) (h1 : x < p.places) (hw : Sign w) : 0 ≤ (pp p x w).1 ∧ (pp p x w).1 < p.places := by
  cases p with
  | wheel z ms =>
    have hz : 1 ≤ z := ok.1
    exact ⟨Int.emod_nonneg _ (by omega), Int.emod_lt_of_pos _ (by omega)⟩
  | click => exact ⟨Int.le_refl _, show (0 : Int) < 1 by decide⟩
  | rocker =>
    rcases hw with rfl | rfl
    · exact ⟨show (0 : Int) ≤ 1 by decide, show (1 : Int) < 2 by decide⟩
    · exact ⟨show (0 : Int) ≤ 0 by decide, show (0 : Int) < 2 by decide⟩
  | spring k =>
    have h2 : x < k := h1
    rcases hw with rfl | rfl
    · simp only [pp, if_true]
      by_cases e : x = k - 1
      · rw [if_pos e]
        exact ⟨Int.le_refl _, show (0 : Int) < k by omega⟩
      · rw [if_neg e]
        exact ⟨show 0 ≤ x + 1 by omega, show x + 1 < k by omega⟩
    · simp only [pp, if_neg (show ¬ (-1 : Int) = 1 by decide)]
      refine ⟨?_, ?_⟩
      · show 0 ≤ (if x - 1 > 0 then x - 1 else 0)
        split <;> omega
      · show (if x - 1 > 0 then x - 1 else 0) < k
        split <;> omega
theorem pt_place {p : Part} {x w : Int} (ok : p.ok) (h0 : 0 ≤ x) (h1 : x < p.places) (hw : Sign w) : ∀ t : Nat, 0 ≤ (pt p x w t).1 ∧ (pt p x w t).1 < p.places
  | 0 => by
    show 0 ≤ (pt p x w 0).1 ∧ (pt p x w 0).1 < p.places
    rw [pt_zero ok h0 h1]
    exact ⟨h0, h1⟩
  | t + 1 => by
    rw [pt_step ok h0 h1 hw t]
    obtain ⟨a, b⟩ := pt_place ok h0 h1 hw t
    exact pp_place ok a b hw
/-! along a train -/
def gen (f : Part → Int → Int → Int × Int) : List Part → List Int → Int → List Int × Int
  | p :: ps, x :: xs, a => ((f p x a).1 :: (gen f ps xs (f p x a).2).1, (gen f ps xs (f p x a).2).2)
  | _, xs, a => (xs, a)
def stF (f : Part → Int → Int → Int × Int) (ps : List Part) (s : List Int × Int) (n : Nat) : List Int × Int := match ps[n]?, s.1[n]? with
  | some p, some x => (s.1.set n (f p x s.2).1, (f p x s.2).2)
  | _, _ => s
def rnF (f : Part → Int → Int → Int × Int) (ps : List Part) (i : Nat) (s : List Int × Int) : Nat → List Int × Int
  | 0 => s
  | n + 1 => stF f ps (rnF f ps i s n) (i + n)
theorem stF_at {f : Part → Int → Int → Int × Int} {ps : List Part} {s : List Int × Int} {n : Nat} {p : Part} {x : Int} (hp : ps[n]? = some p) (hx : s.1[n]? = some x) : stF f ps s n = (s.1.set n (f p x s.2).1, (f p x s.2).2) := by
  unfold stF
  rw [hp, hx]
theorem rnF_first (f : Part → Int → Int → Int × Int) (ps : List Part) (i : Nat) (s : List Int × Int) : ∀ n, rnF f ps i s (n + 1) = rnF f ps (i + 1) (stF f ps s i) n
  | 0 => rfl
  | n + 1 => by
    show stF f ps (rnF f ps i s (n + 1)) (i + (n + 1)) = stF f ps (rnF f ps (i + 1) (stF f ps s i) n) (i + 1 + n)
    rw [rnF_first f ps i s n, show i + (n + 1) = i + 1 + n by omega]
theorem rnF_len (f : Part → Int → Int → Int × Int) (ps : List Part) (i : Nat) (s : List Int × Int) : ∀ n, (rnF f ps i s n).1.length = s.1.length
  | 0 => rfl
  | n + 1 => by
    show (stF f ps _ _).1.length = _
    rw [← rnF_len f ps i s n]
    unfold stF
    split
    · show (List.set _ _ _).length = _
      rw [List.length_set]
    · rfl
theorem rnF_ahead (f : Part → Int → Int → Int × Int) (ps : List Part) (i : Nat) (s : List Int × Int) : ∀ n m, i + n ≤ m → (rnF f ps i s n).1[m]? = s.1[m]?
  | 0, _, _ => rfl
  | n + 1, m, h => by
    rw [← rnF_ahead f ps i s n m (by omega)]
    show (stF f ps _ _).1[m]? = _
    unfold stF
    split
    · show (List.set _ _ _)[m]? = _
      rw [List.getElem?_set_ne (by omega)]
    · rfl
/-- places one by one, by number, or by going down the train -/
theorem rnF_gen (f : Part → Int → Int → Int × Int) (ps : List Part) : ∀ (n i : Nat) (xs : List Int) (a : Int), xs.length = ps.length → i + n = ps.length →
    rnF f ps i (xs, a) n = (xs.take i ++ (gen f (ps.drop i) (xs.drop i) a).1, (gen f (ps.drop i) (xs.drop i) a).2)
  | 0, i, xs, a, hl, hn => by
    have e1 : ps.drop i = [] := List.drop_of_length_le (by omega)
    have e2 : xs.drop i = [] := List.drop_of_length_le (by omega)
    rw [e1, e2]
    show (xs, a) = (xs.take i ++ [], a)
    rw [List.append_nil, List.take_of_length_le (by omega)]
  | n + 1, i, xs, a, hl, hn => by
    have hi : i < ps.length := by omega
    have hx : i < xs.length := by omega
    rw [rnF_first, stF_at (List.getElem?_eq_getElem hi) (List.getElem?_eq_getElem hx), rnF_gen f ps n (i + 1) _ _ (by rw [List.length_set]; exact hl) (by omega)]
    rw [List.drop_eq_getElem_cons hi, List.drop_eq_getElem_cons hx]
    show (List.take (i + 1) (xs.set i _) ++ (gen f _ (List.drop (i + 1) (xs.set i _)) _).1, _) = (xs.take i ++ ((f ps[i] xs[i] a).1 :: (gen f (ps.drop (i + 1)) (xs.drop (i + 1)) (f ps[i] xs[i] a).2).1), (gen f (ps.drop (i + 1)) (xs.drop (i + 1)) (f ps[i] xs[i] a).2).2)
    rw [List.drop_set_of_lt (by omega), show List.take (i + 1) (xs.set i (f ps[i] xs[i] a).1) = xs.take i ++ [(f ps[i] xs[i] a).1] by
      rw [List.take_set, List.take_add_one, List.getElem?_eq_getElem hx, List.set_append_right _ _ (by rw [List.length_take]; omega), List.length_take, show i - min i xs.length = 0 by omega]
      rfl, List.append_assoc]
    rfl
/-- a push that may be none -/
def ppz (p : Part) (x g : Int) : Int × Int := if g = 0 then (x, 0) else pp p x g
theorem stp_stF (ps : List Part) (s : List Int × Int) (n : Nat) : stp ps s n = stF ppz ps s n := by
  unfold stp stF
  split
  · rename_i h
    cases e1 : ps[n]? with
    | none => rfl
    | some p =>
      cases e2 : s.1[n]? with
      | none => rfl
      | some x =>
        obtain ⟨hn, hx⟩ := List.getElem?_eq_some_iff.mp e2
        show s = (s.1.set n (ppz p x s.2).1, (ppz p x s.2).2)
        unfold ppz
        rw [if_pos h]
        show s = (s.1.set n x, 0)
        rw [← hx, List.set_getElem_self, ← h]
  · rename_i h
    cases e1 : ps[n]? with
    | none => rfl
    | some p =>
      cases e2 : s.1[n]? with
      | none => rfl
      | some x =>
        show _ = (s.1.set n (ppz p x s.2).1, (ppz p x s.2).2)
        unfold ppz
        rw [if_neg h]
theorem runN_rnF (ps : List Part) (i : Nat) (s : List Int × Int) : ∀ n, runN ps i s n = rnF ppz ps i s n
  | 0 => rfl
  | n + 1 => by
    show stp ps _ _ = stF ppz ps _ _
    rw [stp_stF, runN_rnF ps i s n]
theorem run_gen {ps : List Part} {xs : List Int} {i : Nat} {w : Int} (hl : xs.length = ps.length) (hi : i ≤ ps.length) : Ct.run ps xs i w = (xs.take i ++ (gen ppz (ps.drop i) (xs.drop i) w).1, (gen ppz (ps.drop i) (xs.drop i) w).2) := by
  unfold Ct.run
  rw [runN_rnF, rnF_gen ppz ps _ _ _ _ hl (by omega)]
/-- pushes one by one -/
def itP (ps : List Part) (w : Int) : Nat → List Int → List Int × Int
  | 0, xs => (xs, 0)
  | t + 1, xs => ((gen ppz ps (itP ps w t xs).1 w).1, (itP ps w t xs).2 + (gen ppz ps (itP ps w t xs).1 w).2)
def ptw (w : Int) (p : Part) (x t : Int) : Int × Int := pt p x w t
theorem gen_ppz_zero : ∀ (ps : List Part) (xs : List Int), gen ppz ps xs 0 = (xs, 0)
  | [], _ => rfl
  | _ :: _, [] => rfl
  | p :: ps, x :: xs => by
    show ((ppz p x 0).1 :: (gen ppz ps xs (ppz p x 0).2).1, (gen ppz ps xs (ppz p x 0).2).2) = _
    rw [show ppz p x 0 = (x, 0) from rfl, gen_ppz_zero ps xs]
def StandL : List Part → List Int → Prop
  | [], [] => True
  | p :: ps, x :: xs => p.ok ∧ 0 ≤ x ∧ x < p.places ∧ StandL ps xs
  | _, _ => False
theorem itP_cons {p : Part} {x : Int} (ps : List Part) (xs : List Int) {w : Int} (ok : p.ok) (h0 : 0 ≤ x) (h1 : x < p.places) (hw : Sign w) : ∀ t : Nat,
    itP (p :: ps) w t (x :: xs) = ((pt p x w t).1 :: (itP ps w (pt p x w t).2.toNat xs).1, (itP ps w (pt p x w t).2.toNat xs).2)
  | 0 => by
    show (x :: xs, (0 : Int)) = ((pt p x w 0).1 :: (itP ps w (pt p x w 0).2.toNat xs).1, (itP ps w (pt p x w 0).2.toNat xs).2)
    rw [pt_zero ok h0 h1]
    rfl
  | t + 1 => by
    have w0 : w ≠ 0 := by rcases hw with rfl | rfl <;> decide
    have nn := pt_nn ok h0 h1 hw t
    show ((gen ppz (p :: ps) (itP (p :: ps) w t (x :: xs)).1 w).1, (itP (p :: ps) w t (x :: xs)).2 + (gen ppz (p :: ps) (itP (p :: ps) w t (x :: xs)).1 w).2) = _
    rw [itP_cons ps xs ok h0 h1 hw t, pt_step ok h0 h1 hw t]
    generalize hy : (pt p x w t).1 = y
    generalize hn : (pt p x w t).2 = n at nn
    show ((ppz p y w).1 :: (gen ppz ps (itP ps w n.toNat xs).1 (ppz p y w).2).1, (itP ps w n.toNat xs).2 + (gen ppz ps (itP ps w n.toNat xs).1 (ppz p y w).2).2) = _
    rw [show ppz p y w = pp p y w from if_neg w0]
    rcases pp_way p y w hw with e | e
    · rw [e, gen_ppz_zero, if_pos rfl]
      show ((pp p y w).1 :: (itP ps w n.toNat xs).1, (itP ps w n.toNat xs).2 + 0) = ((pp p y w).1 :: (itP ps w (n + 0).toNat xs).1, (itP ps w (n + 0).toNat xs).2)
      rw [Int.add_zero, Int.add_zero]
    · rw [e, if_neg w0]
      show ((pp p y w).1 :: (gen ppz ps (itP ps w n.toNat xs).1 w).1, (itP ps w n.toNat xs).2 + (gen ppz ps (itP ps w n.toNat xs).1 w).2) = ((pp p y w).1 :: (itP ps w (n + 1).toNat xs).1, (itP ps w (n + 1).toNat xs).2)
      rw [show (n + 1).toNat = n.toNat + 1 by omega]
      rfl
theorem itP_nil (w : Int) : ∀ (t : Nat), itP [] w t [] = ([], w * t)
  | 0 => by
    show (([] : List Int), (0 : Int)) = ([], w * ((0 : Nat) : Int))
    rw [show ((0 : Nat) : Int) = 0 from rfl, Int.mul_zero]
  | t + 1 => by
    show ((gen ppz [] (itP [] w t []).1 w).1, (itP [] w t []).2 + (gen ppz [] (itP [] w t []).1 w).2) = _
    rw [itP_nil w t]
    refine Prod.ext rfl ?_
    show w * t + w = w * ((t + 1 : Nat) : Int)
    rw [show ((t + 1 : Nat) : Int) = (t : Int) + 1 by omega, Int.mul_add, Int.mul_one]
/-- THE promise: reckoned at once is as pushed one by one -/
theorem itP_gen {w : Int} (hw : Sign w) : ∀ (ps : List Part) (xs : List Int) (t : Nat), StandL ps xs → itP ps w t xs = ((gen (ptw w) ps xs t).1, w * (gen (ptw w) ps xs t).2)
  | [], [], t, _ => itP_nil w t
  | p :: ps, x :: xs, t, ⟨ok, h0, h1, h⟩ => by
    rw [itP_cons ps xs ok h0 h1 hw t, itP_gen hw ps xs _ h]
    have nn := pt_nn ok h0 h1 hw t
    show _ = ((pt p x w t).1 :: (gen (ptw w) ps xs (pt p x w t).2).1, w * (gen (ptw w) ps xs (pt p x w t).2).2)
    rw [show (((pt p x w t).2.toNat : Nat) : Int) = (pt p x w t).2 by omega]
theorem gen_stand {w : Int} (hw : Sign w) : ∀ (ps : List Part) (xs : List Int) (t : Int), 0 ≤ t → StandL ps xs → StandL ps (gen (ptw w) ps xs t).1 ∧ 0 ≤ (gen (ptw w) ps xs t).2
  | [], [], t, ht, _ => ⟨trivial, ht⟩
  | p :: ps, x :: xs, t, ht, ⟨ok, h0, h1, h⟩ => by
    have e : ((t.toNat : Nat) : Int) = t := by omega
    have a := pt_place ok h0 h1 hw t.toNat
    have n := pt_nn ok h0 h1 hw t.toNat
    rw [e] at a n
    have ih := gen_stand hw ps xs (pt p x w t).2 n h
    exact ⟨⟨ok, a.1, a.2, ih.1⟩, ih.2⟩
theorem stand_drop : ∀ {ps : List Part} {xs : List Int} (i : Nat), StandL ps xs → StandL (ps.drop i) (xs.drop i)
  | [], [], i, _ => by rw [List.drop_nil, List.drop_nil]; trivial
  | p :: ps, x :: xs, 0, h => h
  | p :: ps, x :: xs, i + 1, ⟨_, _, _, h⟩ => stand_drop (ps := ps) (xs := xs) i h
theorem stand_join : ∀ {ps : List Part} {xs ys : List Int} (i : Nat), StandL ps xs → StandL (ps.drop i) ys → StandL ps (xs.take i ++ ys)
  | ps, xs, ys, 0, _, h => h
  | [], [], ys, i + 1, _, h => by
    rw [List.drop_nil] at h
    exact h
  | p :: ps, x :: xs, ys, i + 1, ⟨a, b, c, d⟩, h => ⟨a, b, c, stand_join (ps := ps) (xs := xs) i d h⟩
theorem StandL.len : ∀ {ps : List Part} {xs : List Int}, StandL ps xs → xs.length = ps.length
  | [], [], _ => rfl
  | p :: ps, x :: xs, ⟨_, _, _, h⟩ => by rw [List.length_cons, List.length_cons, StandL.len (ps := ps) (xs := xs) h]
theorem StandL.okp : ∀ {ps : List Part} {xs : List Int}, StandL ps xs → ∀ p ∈ ps, p.ok
  | [], [], _, p, hp => by cases hp
  | a :: ps, x :: xs, ⟨h, _, _, hr⟩, p, hp => by
    rcases List.mem_cons.mp hp with rfl | hp
    · exact h
    · exact StandL.okp (ps := ps) (xs := xs) hr p hp
theorem standL_of : ∀ {ps : List Part} {xs : List Int}, (∀ p ∈ ps, p.ok) → StandOk ps xs → StandL ps xs
  | [], [], _, _ => trivial
  | [], _ :: _, _, h => by have := h.1; simp at this
  | _ :: _, [], _, h => by have := h.1; simp at this
  | p :: ps, x :: xs, hp, h => by
    have a := h.2 0 p x rfl rfl
    exact ⟨hp p List.mem_cons_self, a.1, a.2, standL_of (fun q hq => hp q (List.mem_cons_of_mem _ hq)) ⟨by have := h.1; rw [List.length_cons, List.length_cons] at this; omega, fun i q y hq hy => h.2 (i + 1) q y hq hy⟩⟩
theorem StandL.ok : ∀ {ps : List Part} {xs : List Int}, StandL ps xs → StandOk ps xs
  | [], [], _ => ⟨rfl, fun i p x h _ => by simp at h⟩
  | p :: ps, x :: xs, ⟨_, a, b, h⟩ => by
    have ih := StandL.ok (ps := ps) (xs := xs) h
    refine ⟨by rw [List.length_cons, List.length_cons, ih.1], fun i q y hq hy => ?_⟩
    cases i with
    | zero =>
      cases Option.some.inj hq
      cases Option.some.inj hy
      exact ⟨a, b⟩
    | succ i => exact ih.2 i q y hq hy
/-! rows -/
structure Deed where
  i : Nat
  w : Int
  t : Nat
def Deed.ok (d : Deed) (n : Nat) : Prop := d.i < n ∧ Sign d.w
def Deed.data (d : Deed) : PyData := .tuple [.int d.i, .int d.w, .int d.t]
/-- one deed, at once -/
def deedL (ps : List Part) (xs : List Int) (d : Deed) : List Int × Int := (xs.take d.i ++ (gen (ptw d.w) (ps.drop d.i) (xs.drop d.i) d.t).1, d.w * (gen (ptw d.w) (ps.drop d.i) (xs.drop d.i) d.t).2)
def rowL (ps : List Part) : List Deed → List Int × Int → List Int × Int
  | [], s => s
  | d :: ds, s => rowL ps ds ((deedL ps s.1 d).1, s.2 + (deedL ps s.1 d).2)
theorem rowL_app (ps : List Part) : ∀ (ds es : List Deed) (s : List Int × Int), rowL ps (ds ++ es) s = rowL ps es (rowL ps ds s)
  | [], _, _ => rfl
  | d :: ds, es, s => rowL_app ps ds es _
theorem deedL_stand {ps : List Part} {xs : List Int} {d : Deed} (h : StandL ps xs) (hd : d.ok ps.length) : StandL ps (deedL ps xs d).1 :=
  stand_join d.i h (gen_stand hd.2 _ _ d.t (by omega) (stand_drop d.i h)).1
theorem rowL_stand {ps : List Part} : ∀ {ds : List Deed} {s : List Int × Int}, StandL ps s.1 → (∀ d ∈ ds, d.ok ps.length) → StandL ps (rowL ps ds s).1
  | [], _, h, _ => h
  | d :: ds, s, h, hd => rowL_stand (ds := ds) (deedL_stand h (hd d List.mem_cons_self)) fun e he => hd e (List.mem_cons_of_mem _ he)
/-- a deed, push by push: each push goes along the train from part i -/
def pushes (ps : List Part) (i : Nat) (w : Int) : Nat → List Int × Int → List Int × Int
  | 0, s => s
  | t + 1, s => ((Ct.run ps (pushes ps i w t s).1 i w).1, (pushes ps i w t s).2 + (Ct.run ps (pushes ps i w t s).1 i w).2)
theorem pushes_itP {ps : List Part} {xs : List Int} {i : Nat} {w : Int} (hl : xs.length = ps.length) (hi : i ≤ ps.length) (a : Int) : ∀ t, pushes ps i w t (xs, a) = (xs.take i ++ (itP (ps.drop i) w t (xs.drop i)).1, a + (itP (ps.drop i) w t (xs.drop i)).2) ∧ (itP (ps.drop i) w t (xs.drop i)).1.length = ps.length - i
  | 0 => by
    refine ⟨Prod.ext ?_ ?_, ?_⟩
    · show xs = xs.take i ++ xs.drop i
      rw [List.take_append_drop]
    · show a = a + 0
      omega
    · show (xs.drop i).length = _
      rw [List.length_drop, hl]
  | t + 1 => by
    obtain ⟨ih, il⟩ := pushes_itP hl hi a t
    have tl : (xs.take i).length = i := by rw [List.length_take]; omega
    have gl : ∀ (qs : List Part) (ys : List Int) (g : Int), (gen ppz qs ys g).1.length = ys.length := fun qs => by
      induction qs with
      | nil => intro ys g; rfl
      | cons q qs ih =>
        intro ys g
        cases ys with
        | nil => rfl
        | cons y ys =>
          show ((ppz q y g).1 :: (gen ppz qs ys (ppz q y g).2).1).length = _
          rw [List.length_cons, List.length_cons, ih]
    refine ⟨?_, ?_⟩
    · show ((Ct.run ps (pushes ps i w t (xs, a)).1 i w).1, (pushes ps i w t (xs, a)).2 + (Ct.run ps (pushes ps i w t (xs, a)).1 i w).2) = _
      rw [ih]
      rw [run_gen (by show (xs.take i ++ _).length = _; rw [List.length_append, tl, il]; omega) hi]
      show (List.take i (xs.take i ++ _) ++ (gen ppz (ps.drop i) (List.drop i (xs.take i ++ _)) w).1, a + _ + (gen ppz (ps.drop i) (List.drop i (xs.take i ++ _)) w).2) = _
      rw [List.take_left' tl, List.drop_left' tl]
      refine Prod.ext rfl ?_
      show a + (itP (ps.drop i) w t (xs.drop i)).2 + (gen ppz (ps.drop i) (itP (ps.drop i) w t (xs.drop i)).1 w).2 = a + ((itP (ps.drop i) w t (xs.drop i)).2 + (gen ppz (ps.drop i) (itP (ps.drop i) w t (xs.drop i)).1 w).2)
      omega
    · show (gen ppz (ps.drop i) (itP (ps.drop i) w t (xs.drop i)).1 w).1.length = _
      rw [gl, il]
theorem pushes_deed {ps : List Part} {xs : List Int} {d : Deed} (h : StandL ps xs) (hd : d.ok ps.length) (a : Int) : pushes ps d.i d.w d.t (xs, a) = ((deedL ps xs d).1, a + (deedL ps xs d).2) := by
  rw [(pushes_itP h.len (Nat.le_of_lt hd.1) a d.t).1, itP_gen hd.2 _ _ _ (stand_drop d.i h)]
  rfl
theorem pushes_stand {ps : List Part} {xs : List Int} {i : Nat} {w : Int} (h : StandL ps xs) (hi : i < ps.length) (hw : Sign w) (a : Int) (t : Nat) : StandL ps (pushes ps i w t (xs, a)).1 := by
  have := deedL_stand (d := ⟨i, w, t⟩) h ⟨hi, hw⟩
  rw [pushes_deed (d := ⟨i, w, t⟩) h ⟨hi, hw⟩ a]
  exact this
section
variable {K : PySem.W.Frag} {H : Hp}
theorem deed_inv {v : V} {d : Deed} (h : Dp K H v d.data) : ∃ a, v = .ref a ∧ SqT K H a [.int d.i, .int d.w, .int d.t] := by
  obtain ⟨a, vs, rfl, hs, ht⟩ := tup_inv h
  cases ht with
  | cons h1 t1 => cases h1; cases t1 with
    | cons h2 t2 => cases h2; cases t2 with
      | cons h3 t3 => cases h3; cases t3; exact ⟨a, rfl, hs⟩
theorem deed_dp {a : Addr} {d : Deed} (h : SqT K H a [.int d.i, .int d.w, .int d.t]) : Dp K H (.ref a) d.data := .tup h (.cons (.int _) (.cons (.int _) (.cons (.int _) .nil)))
theorem deeds_upd {l : Addr} {ws : List V} {o : HO} (hl : H l = some (.lst ws)) : ∀ {vs : List V} (ds : List Deed), DpAll K H vs (ds.map Deed.data) → DpAll K (upd H l o) vs (ds.map Deed.data)
  | _, [], .nil => .nil
  | _, d :: r, .cons h t => by
    obtain ⟨a, rfl, ha⟩ := deed_inv h
    exact .cons (deed_dp (sqT_upd ha hl)) (deeds_upd hl r t)
def RowAt (K : PySem.W.Frag) (H : Hp) (a : Addr) (ds : List Deed) : Prop := ∃ vs, SqL K H a vs ∧ DpAll K H vs (ds.map Deed.data)
theorem RowAt.same {H' : Hp} {a : Addr} {ds : List Deed} (e : Same H H') (h : RowAt K H a ds) : RowAt K H' a ds := by
  obtain ⟨vs, h1, h2⟩ := h
  exact ⟨vs, e.seq h1, dpAll_same e h2⟩
theorem deed_get {ds : List Deed} {vs : List V} (h2 : DpAll K H vs (ds.map Deed.data)) {i : Nat} {d : Deed} (e : ds[i]? = some d) : ∃ v, vs[i]? = some v ∧ Dp K H v d.data :=
  dpAll_get h2 (by rw [List.getElem?_map, e]; rfl)
end
theorem lay_deed (d : Deed) : d.data.canLay0 = true ∧ d.data.depth ≤ 1 := lay_tup (n := 0) (lay_ints [(d.i : Int), d.w, (d.t : Int)] 0)
theorem lay_row (ds : List Deed) : (PyData.list (ds.map Deed.data)).canLay0 = true ∧ (PyData.list (ds.map Deed.data)).depth ≤ 2 := lay_lst fun d hd => by
  obtain ⟨e, _, rfl⟩ := List.mem_map.mp hd
  exact lay_deed e
/-! what the checks look at -/
def isW : PyData → Bool
  | .int _ => true
  | _ => false
def risesD (last z : Int) : List PyData → Bool
  | [] => true
  | .int m :: r => if m ≤ last ∨ z ≤ m then false else risesD m z r
  | _ :: _ => false
def areM (d : PyData) (z : Int) : Bool := match d with
  | .tuple ds => risesD (-1) z ds
  | _ => false
def wheelT : List PyData → Bool
  | [.int z, m] => decide (1 ≤ z) && areM m z
  | _ => false
def springT : List PyData → Bool
  | [.int k] => decide (1 ≤ k)
  | _ => false
def isP : PyData → Bool
  | .tuple (h :: t) =>
    if PyData.eqv h (.str "wheel") = true then wheelT t
    else if PyData.eqv h (.str "spring") = true then springT t
    else PyData.eqv (.tuple (h :: t)) (.tuple [.str "click"]) || PyData.eqv (.tuple (h :: t)) (.tuple [.str "rocker"])
  | _ => false
theorem rises_of : ∀ {ms : List Int} {last z : Int}, ms.Pairwise (· < ·) → (∀ m ∈ ms, last < m ∧ m < z) → risesD last z (ms.map PyData.int) = true
  | [], _, _, _, _ => rfl
  | m :: ms, last, z, h, hm => by
    obtain ⟨h1, h2⟩ := List.pairwise_cons.mp h
    have hm1 := hm m List.mem_cons_self
    show (if m ≤ last ∨ z ≤ m then false else risesD m z (ms.map PyData.int)) = true
    rw [if_neg (by omega)]
    exact rises_of h2 fun x hx => ⟨h1 x hx, (hm x (List.mem_cons_of_mem _ hx)).2⟩
theorem isP_of {p : Part} (ok : p.ok) : isP p.data = true := by
  cases p with
  | wheel z ms =>
    simp only [isP, Part.data, wheelT, areM]
    rw [if_pos (by decide +kernel), decide_eq_true ok.1, rises_of ok.2.2.1.1 fun m hm => ?_]
    · rfl
    · have := ok.2.2.1.2 m hm
      omega
  | click => decide +kernel
  | rocker => decide +kernel
  | spring k =>
    simp only [isP, Part.data, springT]
    rw [if_neg (by decide +kernel), if_pos (by decide +kernel)]
    exact decide_eq_true ok.1
def isD (d : PyData) (n : Int) : Bool := match d with
  | .tuple [.int i, .int w, .int t] => decide (0 ≤ i) && decide (i < n) && (decide (w = 1) || decide (w = -1)) && decide (0 ≤ t)
  | _ => false
theorem dpAll_drop {K : PySem.W.Frag} {H : Hp} : ∀ {vs : List V} {ds : List PyData} (k : Nat), DpAll K H vs ds → DpAll K H (vs.drop k) (ds.drop k)
  | _, _, 0, h => h
  | _, _, _ + 1, .nil => .nil
  | _, _, k + 1, .cons _ t => dpAll_drop k t
theorem dpAll_take {K : PySem.W.Frag} {H : Hp} : ∀ {vs : List V} {ds : List PyData} (k : Nat), DpAll K H vs ds → DpAll K H (vs.take k) (ds.take k)
  | _, _, 0, _ => .nil
  | _, _, _ + 1, .nil => .nil
  | _, _, k + 1, .cons h t => .cons h (dpAll_take k t)
theorem dpAll_cut {K : PySem.W.Frag} {H : Hp} {vs : List V} {ds : List Deed} (lo hi : Option Int) (h : DpAll K H vs (ds.map Deed.data)) : ∃ es : List Deed, DpAll K H (cutV vs lo hi) (es.map Deed.data) ∧ ∀ d ∈ es, d ∈ ds := by
  refine ⟨(ds.drop (HT.sIx vs.length 0 lo)).take (HT.sIx vs.length vs.length hi - HT.sIx vs.length 0 lo), ?_, fun d hd => List.mem_of_mem_drop (List.mem_of_mem_take hd)⟩
  rw [List.map_take, List.map_drop]
  exact dpAll_take _ (dpAll_drop _ h)
/-! how often each mark is met -/
def wsum (z : Int) : List Int → Int → Int
  | [], _ => 0
  | m :: r, y => (y - m) / z + wsum z r y
theorem wsum_app (z y : Int) : ∀ (ms : List Int) (m : Int), wsum z (ms ++ [m]) y = wsum z ms y + (y - m) / z
  | [], m => by
    show (y - m) / z + 0 = 0 + (y - m) / z
    omega
  | a :: r, m => by
    show (y - a) / z + wsum z (r ++ [m]) y = (y - a) / z + wsum z r y + (y - m) / z
    rw [wsum_app z y r m]
    omega
theorem wsum_mah {z : Int} (hz : 1 ≤ z) (y : Int) : ∀ {ms : List Int}, (∀ m ∈ ms, 0 ≤ m ∧ m < z) → wsum z ms y = mah z ms y - ms.length
  | [], _ => by
    show (0 : Int) = y / z * ((0 : Nat) : Int) + 0 - ((0 : Nat) : Int)
    rw [show ((0 : Nat) : Int) = 0 from rfl, Int.mul_zero]
    rfl
  | m :: r, h => by
    have hm := h m List.mem_cons_self
    have ih := wsum_mah hz y (ms := r) fun x hx => h x (List.mem_cons_of_mem _ hx)
    have e := Int.emod_add_mul_ediv y z
    have r0 := Int.emod_nonneg y (show z ≠ 0 by omega)
    have r1 := Int.emod_lt_of_pos y (show 0 < z by omega)
    show (y - m) / z + wsum z r y = _
    rw [ih]
    unfold mah
    rw [cnt_cons, List.length_cons, show ((r.length + 1 : Nat) : Int) = (r.length : Int) + 1 by omega, Int.mul_add, Int.mul_one]
    by_cases hmr : m ≤ y % z
    · obtain ⟨e1, _⟩ := (Int.ediv_emod_unique (a := y - m) (b := z) (r := y % z - m) (q := y / z) (by omega)).mpr ⟨by omega, by omega, by omega⟩
      rw [e1, if_pos hmr]
      omega
    · obtain ⟨e1, _⟩ := (Int.ediv_emod_unique (a := y - m) (b := z) (r := y % z - m + z) (q := y / z - 1) (by omega)).mpr ⟨by rw [Int.mul_sub]; omega, by omega, by omega⟩
      rw [e1, if_neg hmr]
      omega
theorem wsum_up {z : Int} {ms : List Int} {x : Int} (ok : (Part.wheel z ms).ok) (t : Nat) : wsum z ms (x + t) - wsum z ms x = (pt (.wheel z ms) x 1 t).2 := by
  have rs : Rise z ms := ok.2.2.1
  have u := mah_up ok.1 rs x t
  rw [wsum_mah ok.1 _ rs.2, wsum_mah ok.1 _ rs.2]
  simp only [pt, Int.one_mul]
  rw [neg_abs (by omega)]
  omega
theorem wsum_down {z : Int} {ms : List Int} {x : Int} (ok : (Part.wheel z ms).ok) (t : Nat) : wsum z ms x - wsum z ms (x - t) = (pt (.wheel z ms) x (-1) t).2 := by
  have rs : Rise z ms := ok.2.2.1
  have u := mah_up ok.1 rs (x - t) t
  rw [show x - (t : Int) + t = x by omega] at u
  rw [wsum_mah ok.1 _ rs.2, wsum_mah ok.1 _ rs.2]
  simp only [pt, show x + -1 * (t : Int) = x - t by omega]
  rw [abs_neg (by omega)]
  omega
/-! a deed in two -/
theorem pushes_add (ps : List Part) (i : Nat) (w : Int) (a : Nat) (s : List Int × Int) : ∀ b, pushes ps i w (a + b) s = pushes ps i w b (pushes ps i w a s)
  | 0 => rfl
  | b + 1 => by
    show ((Ct.run ps (pushes ps i w (a + b) s).1 i w).1, (pushes ps i w (a + b) s).2 + (Ct.run ps (pushes ps i w (a + b) s).1 i w).2) = _
    rw [pushes_add ps i w a s b]
    rfl
theorem rowL_one {ps : List Part} {s : List Int × Int} {d : Deed} (h : StandL ps s.1) (hd : d.ok ps.length) : rowL ps [d] s = pushes ps d.i d.w d.t s := (pushes_deed h hd s.2).symm
def halves : List Deed → List Deed
  | [] => []
  | d :: r => ⟨d.i, d.w, d.t / 2⟩ :: ⟨d.i, d.w, d.t - d.t / 2⟩ :: halves r
theorem halves_app : ∀ (ds es : List Deed), halves (ds ++ es) = halves ds ++ halves es
  | [], _ => rfl
  | d :: r, es => by
    show _ :: _ :: halves (r ++ es) = _ :: _ :: (halves r ++ halves es)
    rw [halves_app r es]
theorem halves_ok {n : Nat} {b : Nat} : ∀ {ds : List Deed}, (∀ d ∈ ds, d.ok n ∧ d.t < b) → ∀ d ∈ halves ds, d.ok n ∧ d.t < b
  | [], _, d, hd => by cases hd
  | e :: r, h, d, hd => by
    have he := h e List.mem_cons_self
    rcases List.mem_cons.mp hd with rfl | hd
    · exact ⟨he.1, Nat.lt_of_le_of_lt (Nat.div_le_self _ _) he.2⟩
    rcases List.mem_cons.mp hd with rfl | hd
    · exact ⟨he.1, Nat.lt_of_le_of_lt (Nat.sub_le _ _) he.2⟩
    · exact halves_ok (fun d hd => h d (List.mem_cons_of_mem _ hd)) d hd
theorem rowL_halves {ps : List Part} : ∀ {ds : List Deed} {s : List Int × Int}, StandL ps s.1 → (∀ d ∈ ds, d.ok ps.length) → rowL ps (halves ds) s = rowL ps ds s
  | [], _, _, _ => rfl
  | d :: r, s, h, hd => by
    have hd0 := hd d List.mem_cons_self
    have k1 : Deed.ok ⟨d.i, d.w, d.t / 2⟩ ps.length := hd0
    have k2 : Deed.ok ⟨d.i, d.w, d.t - d.t / 2⟩ ps.length := hd0
    show rowL ps ([⟨d.i, d.w, d.t / 2⟩] ++ ([⟨d.i, d.w, d.t - d.t / 2⟩] ++ halves r)) s = rowL ps ([d] ++ r) s
    have h1 : StandL ps (rowL ps [⟨d.i, d.w, d.t / 2⟩] s).1 := rowL_stand h fun e he => by rw [List.mem_singleton] at he; rw [he]; exact k1
    have h2 : StandL ps (rowL ps [⟨d.i, d.w, d.t - d.t / 2⟩] (rowL ps [⟨d.i, d.w, d.t / 2⟩] s)).1 := rowL_stand h1 fun e he => by rw [List.mem_singleton] at he; rw [he]; exact k2
    rw [rowL_app, rowL_app, rowL_app, rowL_halves h2 fun e he => hd e (List.mem_cons_of_mem _ he)]
    rw [rowL_one h1 k2, rowL_one h k1, rowL_one h hd0, ← pushes_add, show d.t / 2 + (d.t - d.t / 2) = d.t by omega]
theorem run_deed {ps : List Part} {xs : List Int} {i : Nat} {w : Int} (h : StandL ps xs) (hi : i < ps.length) (hw : Sign w) : deedL ps xs ⟨i, w, 1⟩ = Ct.run ps xs i w := by
  have e : ((Ct.run ps xs i w).1, 0 + (Ct.run ps xs i w).2) = ((deedL ps xs ⟨i, w, 1⟩).1, 0 + (deedL ps xs ⟨i, w, 1⟩).2) := pushes_deed (d := ⟨i, w, 1⟩) h ⟨hi, hw⟩ 0
  obtain ⟨e1, e2⟩ := Prod.mk.inj e
  exact Prod.ext e1.symm (by omega)
theorem rowL_snoc (ps : List Part) (ds : List Deed) (d : Deed) (s : List Int × Int) : rowL ps (ds ++ [d]) s = ((deedL ps (rowL ps ds s).1 d).1, (rowL ps ds s).2 + (deedL ps (rowL ps ds s).1 d).2) := rowL_app ps ds [d] s
theorem told_dp {K : PySem.W.Frag} {H : Hp} {q u : Addr} {xs : List Int} {y : Int} (h : SqT K H q [.ref u, .int y]) (hu : SqT K H u (xs.map V.int)) : Dp K H (.ref q) (.tuple [.tuple (xs.map PyData.int), .int y]) :=
  .tup h (.cons (.tup hu (dpAll_ints xs)) (.cons (.int y) .nil))
end Ct

namespace Ct
open PySem PySem.Spec PyProof.Rows L2
/-! all stands of a train -/
theorem ip_mul {X : Cx} : PIp X .Mult (rI CMul fun i j => .int (i * j)) := iop_mul
def rowS (s : List Int) (k : Nat) : List (List Int) := (List.range k).map fun (x : Nat) => s ++ [(x : Int)]
def grow (ss : List (List Int)) (p : Part) : List (List Int) := ss.flatMap fun s => rowS s p.places.toNat
def allS (ps : List Part) : List (List Int) := ps.foldl grow [[]]
def tupD (s : List Int) : PyData := .tuple (s.map PyData.int)
theorem rowS_len (s : List Int) (k : Nat) : (rowS s k).length = k := by
  unfold rowS
  rw [List.length_map, List.length_range]
theorem rowS_succ (s : List Int) (k : Nat) : rowS s (k + 1) = rowS s k ++ [s ++ [(k : Int)]] := by
  unfold rowS
  rw [List.range_succ, List.map_append]
  rfl
theorem flat_len (k : Nat) : ∀ ss : List (List Int), (ss.flatMap fun s => rowS s k).length = ss.length * k
  | [] => by simp
  | s :: r => by
    rw [List.flatMap_cons, List.length_append, rowS_len, flat_len k r, List.length_cons, Nat.add_mul, Nat.one_mul]
    omega
theorem allS_snoc (ps : List Part) (p : Part) : allS (ps ++ [p]) = grow (allS ps) p := by
  unfold allS
  rw [List.foldl_append]
  rfl
theorem allS_take {ps : List Part} {n : Nat} {p : Part} (h : ps[n]? = some p) : allS (ps.take (n + 1)) = grow (allS (ps.take n)) p := by
  rw [List.take_add_one, h]
  exact allS_snoc _ _
theorem stands_take {ps : List Part} {n : Nat} {p : Part} (h : ps[n]? = some p) : stands (ps.take (n + 1)) = stands (ps.take n) * p.places := by
  rw [List.take_add_one, h]
  exact stands_app _ _
theorem allS_len {ps : List Part} (hok : ∀ p ∈ ps, p.ok) : ∀ n, n ≤ ps.length → ((allS (ps.take n)).length : Int) = stands (ps.take n)
  | 0, _ => rfl
  | n + 1, hn => by
    obtain ⟨p, hp⟩ : ∃ p, ps[n]? = some p := ⟨_, List.getElem?_eq_getElem (by omega)⟩
    have po := (hok p (List.mem_of_getElem? hp)).pos.1
    rw [allS_take hp, stands_take hp, ← allS_len hok n (by omega)]
    unfold grow
    rw [flat_len, Int.natCast_mul, Int.toNat_of_nonneg (by omega)]
theorem stands_le {ps : List Part} (hok : ∀ p ∈ ps, p.ok) : ∀ n, n ≤ ps.length → stands (ps.take (ps.length - n)) ≤ stands ps
  | 0, _ => by
    rw [Nat.sub_zero, List.take_length]
    exact Int.le_refl _
  | n + 1, hn => by
    have ih := stands_le hok n (by omega)
    obtain ⟨p, hp⟩ : ∃ p, ps[ps.length - (n + 1)]? = some p := ⟨_, List.getElem?_eq_getElem (by omega)⟩
    have po := (hok p (List.mem_of_getElem? hp)).pos.1
    have e := stands_take hp
    rw [show ps.length - (n + 1) + 1 = ps.length - n by omega] at e
    have sp := stands_pos (ps.take (ps.length - (n + 1))) fun q hq => hok q (List.mem_of_mem_take hq)
    rw [e] at ih
    have := Int.mul_le_mul_of_nonneg_left po (show 0 ≤ stands (ps.take (ps.length - (n + 1))) by omega)
    omega
theorem stands_le' {ps : List Part} (hok : ∀ p ∈ ps, p.ok) {n : Nat} (hn : n ≤ ps.length) : stands (ps.take n) ≤ stands ps := by
  have := stands_le hok (ps.length - n) (by omega)
  rw [show ps.length - (ps.length - n) = n by omega] at this
  exact this
theorem place_le {ps : List Part} (hok : ∀ p ∈ ps, p.ok) {n : Nat} {p : Part} (hp : ps[n]? = some p) : p.places ≤ stands ps := by
  have hn : n < ps.length := (List.getElem?_eq_some_iff.mp hp).1
  have po := (hok p (List.mem_of_getElem? hp)).pos.1
  have h3 := stands_le' hok (n := n + 1) hn
  have sp := stands_pos (ps.take n) fun q hq => hok q (List.mem_of_mem_take hq)
  rw [stands_take hp] at h3
  have := Int.mul_le_mul_of_nonneg_right sp (show 0 ≤ p.places by omega)
  omega
theorem fold_each {k : Nat} : ∀ (ps : List Part) (ss : List (List Int)), (∀ s ∈ ss, s.length = k) → ∀ s ∈ ps.foldl grow ss, s.length = k + ps.length
  | [], ss, h, s, hs => h s hs
  | p :: ps, ss, h, s, hs => by
    have := fold_each (k := k + 1) ps (grow ss p) (fun t ht => by
      obtain ⟨u, hu, hr⟩ := List.mem_flatMap.mp ht
      obtain ⟨x, _, rfl⟩ := List.mem_map.mp hr
      rw [List.length_append, h u hu]
      rfl) s hs
    rw [List.length_cons]
    omega
theorem allS_each (ps : List Part) (s : List Int) (h : s ∈ allS ps) : s.length = ps.length := by
  have := fold_each (k := 0) ps [[]] (fun t ht => by rw [List.mem_singleton] at ht; rw [ht]; rfl) s h
  omega
theorem grow_le {ps : List Part} (hok : ∀ p ∈ ps, p.ok) {n : Nat} {p : Part} (hp : ps[n]? = some p) {i : Nat} : (((allS (ps.take n)).take i).flatMap fun s => rowS s p.places.toNat).length ≤ (stands ps).toNat := by
  have hn : n < ps.length := (List.getElem?_eq_some_iff.mp hp).1
  have h1 : (((allS (ps.take n)).take i).flatMap fun s => rowS s p.places.toNat).length ≤ (grow (allS (ps.take n)) p).length := by
    unfold grow
    rw [flat_len, flat_len, List.length_take]
    exact Nat.mul_le_mul_right _ (Nat.min_le_right _ _)
  rw [← allS_take hp] at h1
  have h2 := allS_len hok (n + 1) hn
  have h3 := stands_le' hok (n := n + 1) hn
  omega
section
variable {K : PySem.W.Frag} {H : Hp}
theorem tupD_inv {v : V} {s : List Int} (h : Dp K H v (tupD s)) : ∃ a, v = .ref a ∧ SqT K H a (s.map V.int) := by
  obtain ⟨a, vs, rfl, hs, ht⟩ := tup_inv h
  cases dpAll_ints_inv s ht
  exact ⟨a, rfl, hs⟩
theorem tupD_dp {a : Addr} {s : List Int} (h : SqT K H a (s.map V.int)) : Dp K H (.ref a) (tupD s) := .tup h (dpAll_ints s)
theorem tups_upd {l : Addr} {ws : List V} {o : HO} (hl : H l = some (.lst ws)) : ∀ {vs : List V} (ss : List (List Int)), DpAll K H vs (ss.map tupD) → DpAll K (upd H l o) vs (ss.map tupD)
  | _, [], .nil => .nil
  | _, s :: r, .cons h t => by
    obtain ⟨a, rfl, ha⟩ := tupD_inv h
    exact .cons (tupD_dp (sqT_upd ha hl)) (tups_upd hl r t)
theorem tup_get {ss : List (List Int)} {vs : List V} (h2 : DpAll K H vs (ss.map tupD)) {i : Nat} {s : List Int} (e : ss[i]? = some s) : ∃ a, vs[i]? = some (.ref a) ∧ SqT K H a (s.map V.int) := by
  obtain ⟨v, hv, hd⟩ := dpAll_get h2 (d := tupD s) (by rw [List.getElem?_map, e]; rfl)
  obtain ⟨a, rfl, ha⟩ := tupD_inv hd
  exact ⟨a, hv, ha⟩
end
theorem lay_tupD (s : List Int) : (tupD s).canLay0 = true ∧ (tupD s).depth ≤ 1 := lay_tup (lay_ints s 0)
theorem lay_tups (ss : List (List Int)) : (PyData.list (ss.map tupD)).canLay0 = true ∧ (PyData.list (ss.map tupD)).depth ≤ 2 := lay_lst fun d hd => by
  obtain ⟨s, _, rfl⟩ := List.mem_map.mp hd
  exact lay_tupD s
theorem stands_rev : ∀ ps : List Part, stands ps.reverse = stands ps
  | [] => rfl
  | p :: r => by
    rw [List.reverse_cons, stands_app, stands_rev r]
    exact Int.mul_comm _ _
theorem dpAll_rev {K : PySem.W.Frag} {H : Hp} : ∀ {vs : List V} {ds : List PyData}, DpAll K H vs ds → DpAll K H vs.reverse ds.reverse
  | _, _, .nil => .nil
  | _, _, .cons h t => by
    rw [List.reverse_cons, List.reverse_cons]
    exact dpAll_app (dpAll_rev t) (.cons h .nil)
/-! two fors in one list -/
section
variable {K : PySem.W.Frag} {H : Hp} {σ : L2.St} {Q : VK}
def LB2 (J : It) (g : TG) (tt : TT) (wi1 : TI) (g1 : TG) (tt1 : TT) (te : TE) (vs vs1 : List Nat) (σ : L2.St) (H : Hp) (Q : VK) : Prop := tLc2 (fun _ H R => R J H) g tt wi1 g1 tt1 te vs vs1 σ H Q
theorem w_lc2 {wi wi1 : TI} {g g1 : TG} {tt tt1 : TT} {te : TE} {vs vs1 : List Nat} (h : wi σ H fun J H1 => LB2 J g tt wi1 g1 tt1 te vs vs1 σ H1 Q) : tLc2 wi g tt wi1 g1 tt1 te vs vs1 σ H Q := h
/-- the inner loop, from which Nx is reached -/
def IB (J : It) (g : TG) (tt : TT) (te : TE) (vs : List Nat) (D : Addr) (σ : L2.St) (H : Hp) (Nx : Hp → Prop) : Prop :=
  ∃ U : Nat → Nat → Hp → Prop, (∃ m, U 0 m H) ∧
    ∀ j k H, U j k H → (J.stop j H ∧ Nx H) ∨
      (J.go j H ∧ ∃ Z : Hp → Prop, (∀ H', Z H' → ∃ k', k' < k ∧ U (j + 1) k' H') ∧
        ∀ x H', J.yld j H x H' →
          g x (wipe σ vs) H' fun σ3 H5 => wipe σ3 vs = wipe σ vs ∧ tt σ3 H5 fun b H6 =>
            if b = true then te σ3 H6 fun y H7 => ∃ acc, H7 D = some (.lst acc) ∧ acc.length < sizeLine ∧ Z (upd H7 D (.lst (acc ++ [y]))) else Z H6)
theorem ib_range {lo : Int} {n : Nat} {g : TG} {tt : TT} {te : TE} {vs : List Nat} {D : Addr} {Nx : Hp → Prop} (Pi : Nat → Hp → Prop) (h0 : Pi 0 H)
    (hs : ∀ j H, j < n → Pi j H → g (.int (lo + j)) (wipe σ vs) H fun σ3 H5 => wipe σ3 vs = wipe σ vs ∧ tt σ3 H5 fun b H6 =>
      if b = true then te σ3 H6 fun y H7 => ∃ acc, H7 D = some (.lst acc) ∧ acc.length < sizeLine ∧ Pi (j + 1) (upd H7 D (.lst (acc ++ [y]))) else Pi (j + 1) H6) (hd : ∀ H, Pi n H → Nx H) : IB (Itr lo n) g tt te vs D σ H Nx := by
  refine ⟨fun j k H => k = n - j ∧ j ≤ n ∧ Pi j H, ⟨n, rfl, Nat.zero_le _, h0⟩, ?_⟩
  rintro j k H ⟨rfl, hj, p⟩
  by_cases hlt : j < n
  · refine .inr ⟨hlt, Pi (j + 1), fun H' p' => ⟨n - (j + 1), by omega, rfl, hlt, p'⟩, fun x H' y => ?_⟩
    obtain ⟨e1, e2⟩ := y
    subst e1 e2
    exact hs j _ hlt p
  · have e : j = n := by omega
    subst e
    exact .inl ⟨Nat.le_refl _, hd H p⟩
theorem lb2_list {a : Addr} (xs : List V) {wi1 : TI} {g g1 : TG} {tt tt1 : TT} {te : TE} {vs vs1 : List Nat} (Pv : Addr → Nat → Hp → Prop) (h0 : ∀ D, H D = none → Pv D 0 (upd H D (.lst []))) (hl : ∀ D, H D = none → ∀ i H1, i ≤ xs.length → Pv D i H1 → SqL K H1 a xs)
    (hs : ∀ D, H D = none → ∀ i x H1, xs[i]? = some x → Pv D i H1 → g x (wipe σ vs) H1 fun σ2 H2 => wipe σ2 vs = wipe σ vs ∧ tt σ2 H2 fun b H3 =>
      if b = true then wi1 σ2 H3 fun J1 H4 => IB J1 g1 tt1 te vs1 D σ2 H4 (Pv D (i + 1)) else Pv D (i + 1) H3) (hd : ∀ D, H D = none → ∀ H1, Pv D xs.length H1 → Q (.ref D) H1) : LB2 (Itl K a) g tt wi1 g1 tt1 te vs vs1 σ H Q := by
  intro D hD
  refine ⟨fun i m H1 => m = xs.length - i ∧ i ≤ xs.length ∧ Pv D i H1, ⟨xs.length, rfl, Nat.zero_le _, h0 D hD⟩, ?_⟩
  rintro i m H1 ⟨rfl, hi, p⟩
  have q := hl D hD i H1 hi p
  by_cases hlt : i < xs.length
  · refine .inr ⟨⟨xs, _, q, List.getElem?_eq_getElem hlt⟩, Pv D (i + 1), fun H' p' => ⟨xs.length - (i + 1), by omega, rfl, hlt, p'⟩, fun x H' y => ?_⟩
    obtain ⟨e, y⟩ := y
    subst e
    exact hs D hD i x _ (y xs q) p
  · have e : i = xs.length := by omega
    subst e
    exact .inl ⟨⟨xs, q, Nat.le_refl _⟩, hd D hD H1 p⟩
theorem w_star {te : TE} {t : TA} {QA : List V → Hp → Prop} (h : te σ H fun x H1 => ∃ p xs, x = V.ref p ∧ (SqT K H1 p xs ∨ SqL K H1 p xs) ∧ t σ H1 fun ys H2 => QA (xs ++ ys) H2) : StX.tStar K te t σ H QA := h
theorem lb_tup {a : Addr} (xs : List V) {g : TG} {tt : TT} {te : TE} {vs : List Nat} (Pv : Addr → Nat → Hp → Prop) (h0 : ∀ D, H D = none → Pv D 0 (upd H D (.lst []))) (hl : ∀ D, H D = none → ∀ i H1, i ≤ xs.length → Pv D i H1 → SqT K H1 a xs)
    (hs : ∀ D, H D = none → ∀ i x H1, xs[i]? = some x → Pv D i H1 → g x (wipe σ vs) H1 fun σ2 H2 => wipe σ2 vs = wipe σ vs ∧ tt σ2 H2 fun b H3 =>
      if b = true then te σ2 H3 fun y H4 => ∃ acc, H4 D = some (.lst acc) ∧ acc.length < sizeLine ∧ Pv D (i + 1) (upd H4 D (.lst (acc ++ [y]))) else Pv D (i + 1) H3) (hd : ∀ D, H D = none → ∀ H1, Pv D xs.length H1 → Q (.ref D) H1) : LB (Itt K a) g tt te vs σ H Q :=
  fun D hD => lc_tup (Pv D) (h0 D hD) (hl D hD) (hs D hD) (hd D hD)
theorem w_revL {te : TE} (h : te σ H fun x H1 => ∃ a xs, x = .ref a ∧ SqL K H1 a xs ∧ ∀ p, H1 p = none → Q (.ref p) (upd H1 p (.lst xs.reverse))) : tRevL K te σ H Q := h
end
end Ct
namespace Ct
open PySem PySem.Spec PyProof.Rows L2
theorem w_catA {K : PySem.W.Frag} {H : Hp} {Q : VK} {a b : Addr} {xs ys : List V} (ha : SqT K H a xs) (hb : SqT K H b ys) (l : xs.length + ys.length ≤ 1000) (q : ∀ u H', Same H H' → SqT K H' u (xs ++ ys) → Q (.ref u) H') : rCatA K (.ref a) (.ref b) H Q := by
  refine ⟨a, b, xs, ys, rfl, rfl, ha, hb, Nat.le_of_lt (small1000 l), fun hx => ?_, fun _ hy => ?_, fun _ _ p np => ?_⟩
  · refine q b H (Same.refl H) ?_
    rw [hx, List.nil_append]
    exact hb
  · refine q a H (Same.refl H) ?_
    rw [hy, List.append_nil]
    exact ha
  · exact q p _ (same_upd np) (.of upd_same)
end Ct
namespace Ct
open PySem PySem.Spec PyProof.Rows L2
theorem standL_app : ∀ {ps qs : List Part} {xs ys : List Int}, StandL ps xs → StandL qs ys → StandL (ps ++ qs) (xs ++ ys)
  | [], _, [], _, _, h => h
  | _ :: _, _, _ :: _, _, ⟨a, b, c, d⟩, h => ⟨a, b, c, standL_app d h⟩
end Ct
namespace Ct
open PySem PySem.Spec PyProof.Rows L2
/-! signs fed to a train -/
def isSg : PyData → Bool
  | .int i => decide (i ∈ [(1 : Int), -1, 0])
  | _ => false
theorem isSg_of {s : Int} (h : s = 0 ∨ Sign s) : isSg (.int s) = true := by
  rcases h with h | h | h <;> rw [h] <;> decide
theorem run_zero (ps : List Part) (xs : List Int) (i : Nat) : Ct.run ps xs i 0 = (xs, 0) := by
  unfold Ct.run
  have z := runN_zero (ps := ps) (i := i) (s := (xs, 0)) (n := 0) rfl (ps.length - i)
  rw [Nat.zero_add] at z
  exact z
theorem run_stand {ps : List Part} {xs : List Int} {i : Nat} {w : Int} (h : StandL ps xs) (hi : i < ps.length) (hw : w = 0 ∨ Sign w) : StandL ps (Ct.run ps xs i w).1 := by
  rcases hw with e | e
  · rw [e, run_zero]
    exact h
  · rw [← run_deed h hi e]
    exact deedL_stand h ⟨hi, e⟩
def fedS (ps : List Part) : List Int → List Int → List Int × List Int
  | xs, [] => (xs, [])
  | xs, s :: r => ((fedS ps (Ct.run ps xs 0 s).1 r).1, (Ct.run ps xs 0 s).2 :: (fedS ps (Ct.run ps xs 0 s).1 r).2)
theorem fedS_snoc (ps : List Part) (s : Int) : ∀ (ss : List Int) (xs : List Int), fedS ps xs (ss ++ [s]) = ((Ct.run ps (fedS ps xs ss).1 0 s).1, (fedS ps xs ss).2 ++ [(Ct.run ps (fedS ps xs ss).1 0 s).2])
  | [], xs => rfl
  | a :: r, xs => by
    rw [List.cons_append, fedS, fedS_snoc ps s r, fedS]
    rfl
theorem fedS_take {ps : List Part} {ss : List Int} {k : Nat} {s : Int} (xs : List Int) (h : ss[k]? = some s) : fedS ps xs (ss.take (k + 1)) = ((Ct.run ps (fedS ps xs (ss.take k)).1 0 s).1, (fedS ps xs (ss.take k)).2 ++ [(Ct.run ps (fedS ps xs (ss.take k)).1 0 s).2]) := by
  rw [← fedS_snoc, List.take_add_one, h]
  rfl
theorem fedS_stand {ps : List Part} (h1 : 1 ≤ ps.length) : ∀ {ss : List Int} {xs : List Int}, StandL ps xs → (∀ s ∈ ss, s = 0 ∨ Sign s) → StandL ps (fedS ps xs ss).1
  | [], _, h, _ => h
  | s :: r, _, h, hs => fedS_stand (ss := r) h1 (run_stand h h1 (hs s List.mem_cons_self)) fun t ht => hs t (List.mem_cons_of_mem s ht)
theorem fedS_len (ps : List Part) : ∀ (ss : List Int) (xs : List Int), (fedS ps xs ss).2.length = ss.length
  | [], _ => rfl
  | s :: r, xs => by
    rw [fedS, List.length_cons, List.length_cons, fedS_len ps r]
end Ct
namespace Ct
open PySem PySem.Spec PyProof.Rows L2
theorem fold_mem : ∀ (ps : List Part) (ss : List (List Int)) (xs : List Int), (∀ p ∈ ps, p.ok) → (xs ∈ ps.foldl grow ss ↔ ∃ s ∈ ss, ∃ ys, xs = s ++ ys ∧ StandL ps ys)
  | [], ss, xs, _ => by
    constructor
    · intro h
      exact ⟨xs, h, [], (List.append_nil xs).symm, trivial⟩
    · rintro ⟨s, hs, ys, rfl, hy⟩
      cases ys with
      | nil => rw [List.append_nil]; exact hs
      | cons _ _ => exact nomatch hy
  | p :: ps, ss, xs, ok => by
    have po := (ok p List.mem_cons_self).pos.1
    rw [List.foldl_cons, fold_mem ps (grow ss p) xs fun q hq => ok q (List.mem_cons_of_mem _ hq)]
    constructor
    · rintro ⟨s', hs', ys, rfl, hy⟩
      obtain ⟨s, hs, hin⟩ := List.mem_flatMap.mp hs'
      obtain ⟨k, hk, rfl⟩ := List.mem_map.mp hin
      rw [List.mem_range] at hk
      exact ⟨s, hs, (k : Int) :: ys, by rw [List.append_assoc]; rfl, ok p List.mem_cons_self, by omega, by omega, hy⟩
    · rintro ⟨s, hs, ys, rfl, hy⟩
      cases ys with
      | nil => exact nomatch hy
      | cons y ys =>
        obtain ⟨_, y0, y1, hy⟩ := hy
        refine ⟨s ++ [y], List.mem_flatMap.mpr ⟨s, hs, List.mem_map.mpr ⟨y.toNat, List.mem_range.mpr (by omega), by rw [Int.toNat_of_nonneg y0]⟩⟩, ys, by rw [List.append_assoc]; rfl, hy⟩
theorem allS_mem {ps : List Part} (ok : ∀ p ∈ ps, p.ok) (xs : List Int) : xs ∈ allS ps ↔ StandL ps xs := by
  rw [allS, fold_mem ps [[]] xs ok]
  constructor
  · rintro ⟨s, hs, ys, rfl, hy⟩
    rw [List.mem_singleton] at hs
    rw [hs]
    exact hy
  · intro h
    exact ⟨[], List.mem_singleton.mpr rfl, xs, rfl, h⟩
/-! one-way trains -/
def gvb : Part → Bool
  | .wheel _ ms => decide (0 < ms.length)
  | _ => false
theorem pp_back {p : Part} {x w : Int} (hw : Sign w) (h : (pp p x w).2 = -1) : w = -1 ∧ gvb p = true := by
  have e := pp_way p x w hw
  rw [h] at e
  have hw1 : w = -1 := by
    rcases e with e | e
    · exact absurd e (by decide)
    · exact e.symm
  refine ⟨hw1, ?_⟩
  subst hw1
  cases p with
  | wheel z ms =>
    have h : (if (if (-1 : Int) = 1 then (x + -1) % z else x) ∈ ms then (-1 : Int) else 0) = -1 := h
    by_cases e2 : (if (-1 : Int) = 1 then (x + -1) % z else x) ∈ ms
    · exact decide_eq_true (List.length_pos_of_mem e2)
    · rw [if_neg e2] at h
      exact absurd h (by decide)
  | click => exact absurd (show (if (-1 : Int) = 1 then (1 : Int) else 0) = -1 from h) (by decide)
  | rocker =>
    have h : (if (-1 : Int) = 1 ∧ x = 0 then (1 : Int) else 0) = -1 := h
    rw [if_neg (by intro z; exact absurd z.1 (by decide))] at h
    exact absurd h (by decide)
  | spring k => exact absurd (show (0 : Int) = -1 from h) (by decide)
/-- what is shown below nought comes through all parts -/
theorem gen_back : ∀ {ps : List Part} {xs : List Int} {w : Int}, w = 0 ∨ Sign w → xs.length = ps.length → (gen ppz ps xs w).2 = -1 → w = -1 ∧ ps.all gvb = true
  | [], [], w, _, _, h => ⟨h, rfl⟩
  | p :: ps, x :: xs, w, hw, hl, h => by
    have hl' : xs.length = ps.length := Nat.succ.inj hl
    have h' : (gen ppz ps xs (ppz p x w).2).2 = -1 := h
    have hz : (ppz p x w).2 = 0 ∨ Sign (ppz p x w).2 := by
      unfold ppz
      split
      · exact .inl rfl
      · rename_i e
        exact pp_sign p x w (hw.resolve_left e)
    obtain ⟨h1, h2⟩ := gen_back hz hl' h'
    have e : w ≠ 0 := fun z => by
      rw [show ppz p x w = (x, 0) from if_pos z] at h1
      exact absurd (show (0 : Int) = -1 from h1) (by decide)
    unfold ppz at h1
    rw [if_neg e] at h1
    obtain ⟨h3, h4⟩ := pp_back (hw.resolve_left e) h1
    exact ⟨h3, by rw [List.all_cons, h4, h2]; rfl⟩
/-- a stand at which each wheel stands at a mark -/
def atMarks : List Part → List Int
  | [] => []
  | .wheel _ (m :: _) :: r => m :: atMarks r
  | _ :: r => 0 :: atMarks r
theorem marks_back : ∀ {ps : List Part}, (∀ p ∈ ps, p.ok) → ps.all gvb = true → StandL ps (atMarks ps) ∧ (gen ppz ps (atMarks ps) (-1)).2 = -1
  | [], _, _ => ⟨trivial, rfl⟩
  | .wheel z (m :: ms) :: r, ok, h => by
    rw [List.all_cons, Bool.and_eq_true] at h
    have o := ok _ List.mem_cons_self
    obtain ⟨h1, h2⟩ := marks_back (fun p hp => ok p (List.mem_cons_of_mem _ hp)) h.2
    have hm := o.2.2.1.2 m List.mem_cons_self
    refine ⟨⟨o, hm.1, hm.2, h1⟩, ?_⟩
    show (gen ppz r (atMarks r) (ppz (.wheel z (m :: ms)) m (-1)).2).2 = -1
    rw [show (ppz (.wheel z (m :: ms)) m (-1)).2 = -1 from if_pos List.mem_cons_self]
    exact h2
  | .wheel z [] :: r, _, h => by
    rw [List.all_cons, Bool.and_eq_true] at h
    exact absurd (show false = true from h.1) (by decide)
  | .click :: r, _, h => by
    rw [List.all_cons, Bool.and_eq_true] at h
    exact absurd h.1 (by decide)
  | .rocker :: r, _, h => by
    rw [List.all_cons, Bool.and_eq_true] at h
    exact absurd h.1 (by decide)
  | .spring k :: r, _, h => by
    rw [List.all_cons, Bool.and_eq_true] at h
    exact absurd (show false = true from h.1) (by decide)
theorem run_back {ps : List Part} {xs : List Int} {w : Int} (hl : xs.length = ps.length) (hw : Sign w) (h : (Ct.run ps xs 0 w).2 = -1) : w = -1 ∧ ps.all gvb = true := by
  rw [run_gen hl (Nat.zero_le _)] at h
  exact gen_back (.inr hw) hl h
theorem run_marks {ps : List Part} (ok : ∀ p ∈ ps, p.ok) (h : ps.all gvb = true) : StandL ps (atMarks ps) ∧ (Ct.run ps (atMarks ps) 0 (-1)).2 = -1 := by
  obtain ⟨h1, h2⟩ := marks_back ok h
  refine ⟨h1, ?_⟩
  rw [run_gen h1.len (Nat.zero_le _)]
  exact h2
/-! worn teeth -/
def offMark (ms : List Int) (m : Int) : List Int := ms.filter fun k => !decide (k = m)
def wornP (ps : List Part) : Option (Nat × Int) → List Part
  | none => ps
  | some (i, m) => match ps[i]? with
    | some (.wheel z ms) => ps.set i (.wheel z (offMark ms m))
    | _ => ps
theorem offMark_ok {z : Int} {ms : List Int} {m : Int} (h : (Part.wheel z ms).ok) : (Part.wheel z (offMark ms m)).ok :=
  ⟨h.1, h.2.1, ⟨h.2.2.1.1.filter _, fun k hk => h.2.2.1.2 k (List.mem_filter.mp hk).1⟩, Nat.le_trans (List.length_filter_le _ _) h.2.2.2⟩
theorem wornP_ok {ps : List Part} (h : ∀ p ∈ ps, p.ok) (w : Option (Nat × Int)) : ∀ p ∈ wornP ps w, p.ok := by
  unfold wornP
  split
  · exact h
  · split
    · rename_i i m z ms e
      intro p hp
      rcases List.mem_or_eq_of_mem_set hp with hp | hp
      · exact h p hp
      · rw [hp]
        exact offMark_ok (h _ (List.mem_of_getElem? e))
    · exact h
theorem wornP_len (ps : List Part) (w : Option (Nat × Int)) : (wornP ps w).length = ps.length := by
  unfold wornP
  split
  · rfl
  · split
    · rw [List.length_set]
    · rfl
/-- a wear as it is handed in -/
def WearAt (K : PySem.W.Frag) (H : Hp) (v : V) : Option (Nat × Int) → Prop
  | none => v = .non
  | some (i, m) => ∃ g, v = .ref g ∧ SqT K H g [.int i, .int m]
end Ct
namespace Ct
open PySem PySem.Spec PyProof.Rows L2
theorem dpAll_set {K : PySem.W.Frag} {H : Hp} : ∀ {vs : List V} {ds : List PyData} {i : Nat} {v : V} {d : PyData}, DpAll K H vs ds → Dp K H v d → DpAll K H (vs.set i v) (ds.set i d)
  | _, _, _, _, _, .nil, _ => .nil
  | _, _, 0, _, _, .cons _ t, h => .cons h t
  | _, _, _ + 1, _, _, .cons a t, h => .cons a (dpAll_set t h)
theorem WearAt.same {K : PySem.W.Frag} {H H' : Hp} {v : V} {w : Option (Nat × Int)} (s : Same H H') (h : WearAt K H v w) : WearAt K H' v w := by
  cases w with
  | none => exact h
  | some im =>
    obtain ⟨g, e, hg⟩ := h
    exact ⟨g, e, Same.tup s hg⟩
end Ct
namespace Ct
open PySem PySem.Spec PyProof.Rows L2
/-! trains behind one another -/
theorem gen_app (f : Part → Int → Int → Int × Int) (qs : List Part) (ys : List Int) : ∀ (ps : List Part) (xs : List Int) (a : Int), xs.length = ps.length →
    gen f (ps ++ qs) (xs ++ ys) a = ((gen f ps xs a).1 ++ (gen f qs ys (gen f ps xs a).2).1, (gen f qs ys (gen f ps xs a).2).2)
  | [], [], _, _ => rfl
  | p :: ps, x :: xs, a, h => by
    have ih := gen_app f qs ys ps xs (f p x a).2 (Nat.succ.inj h)
    show ((f p x a).1 :: (gen f (ps ++ qs) (xs ++ ys) (f p x a).2).1, (gen f (ps ++ qs) (xs ++ ys) (f p x a).2).2) = _
    rw [ih]
    rfl
theorem run0 {ps : List Part} {xs : List Int} (w : Int) (hx : xs.length = ps.length) : Ct.run ps xs 0 w = gen ppz ps xs w := by
  rw [run_gen hx (Nat.zero_le _)]
  rfl
theorem run_len (ps : List Part) (xs : List Int) (w : Int) : (Ct.run ps xs 0 w).1.length = xs.length := runN_len ps 0 (xs, w) _
theorem run_app {ps qs : List Part} {xs ys : List Int} (w : Int) (hx : xs.length = ps.length) (hy : ys.length = qs.length) :
    Ct.run (ps ++ qs) (xs ++ ys) 0 w = ((Ct.run ps xs 0 w).1 ++ (Ct.run qs ys 0 (Ct.run ps xs 0 w).2).1, (Ct.run qs ys 0 (Ct.run ps xs 0 w).2).2) := by
  rw [run0 w (by rw [List.length_append, List.length_append, hx, hy]), gen_app ppz qs ys ps xs w hx, run0 w hx, run0 _ hy]
theorem run_sg {ps : List Part} {xs : List Int} {w : Int} (hw : w = 0 ∨ Sign w) : (Ct.run ps xs 0 w).2 = 0 ∨ Sign (Ct.run ps xs 0 w).2 := by
  rcases hw with e | e
  · rw [e, run_zero]
    exact .inl rfl
  · exact runN_sign ps 0 (xs, w) e _
theorem fedS_sg {ps : List Part} : ∀ {ss : List Int} {xs : List Int}, (∀ s ∈ ss, s = 0 ∨ Sign s) → ∀ s ∈ (fedS ps xs ss).2, s = 0 ∨ Sign s
  | [], _, _, _, h => by cases h
  | s :: r, xs, hs, t, h => by
    rcases List.mem_cons.mp h with h | h
    · rw [h]
      exact run_sg (hs s List.mem_cons_self)
    · exact fedS_sg (ss := r) (fun u hu => hs u (List.mem_cons_of_mem s hu)) t h
theorem fedS_len1 (ps : List Part) : ∀ (ss : List Int) (xs : List Int), (fedS ps xs ss).1.length = xs.length
  | [], _ => rfl
  | s :: r, xs => by rw [fedS, fedS_len1 ps r, run_len]
theorem fed_app {ps qs : List Part} : ∀ {ss : List Int} {xs ys : List Int}, xs.length = ps.length → ys.length = qs.length →
    fedS (ps ++ qs) (xs ++ ys) ss = ((fedS ps xs ss).1 ++ (fedS qs ys (fedS ps xs ss).2).1, (fedS qs ys (fedS ps xs ss).2).2)
  | [], _, _, _, _ => rfl
  | s :: r, xs, ys, hx, hy => by
    have ih := fed_app (ss := r) (xs := (Ct.run ps xs 0 s).1) (ys := (Ct.run qs ys 0 (Ct.run ps xs 0 s).2).1) (by rw [run_len, hx]) (by rw [run_len, hy])
    rw [fedS, run_app s hx hy, fedS]
    show ((fedS (ps ++ qs) ((Ct.run ps xs 0 s).1 ++ (Ct.run qs ys 0 (Ct.run ps xs 0 s).2).1) r).1, (Ct.run qs ys 0 (Ct.run ps xs 0 s).2).2 :: (fedS (ps ++ qs) ((Ct.run ps xs 0 s).1 ++ (Ct.run qs ys 0 (Ct.run ps xs 0 s).2).1) r).2) = _
    rw [ih]
    rfl
theorem gen_nought {w : Int} : ∀ {ps : List Part} {xs : List Int}, StandL ps xs → gen (ptw w) ps xs 0 = (xs, 0)
  | [], [], _ => rfl
  | p :: ps, x :: xs, h => by
    obtain ⟨ok, x0, x1, hr⟩ := h
    show ((ptw w p x 0).1 :: (gen (ptw w) ps xs (ptw w p x 0).2).1, (gen (ptw w) ps xs (ptw w p x 0).2).2) = _
    rw [show ptw w p x 0 = (x, 0) from pt_zero ok x0 x1, gen_nought hr]
theorem gen_upto {w : Int} (hw : Sign w) : ∀ {ps : List Part} {xs : List Int} {t : Int}, 0 ≤ t → StandL ps xs → 0 ≤ (gen (ptw w) ps xs t).2 ∧ (gen (ptw w) ps xs t).2 ≤ t
  | [], [], t, h, _ => ⟨h, Int.le_refl _⟩
  | p :: ps, x :: xs, t, h, hs => by
    obtain ⟨ok, x0, x1, hr⟩ := hs
    have e : ((t.toNat : Nat) : Int) = t := Int.toNat_of_nonneg h
    have h1 := pt_nn ok x0 x1 hw t.toNat
    have h2 := pt_le ok x0 x1 hw t.toNat
    rw [e] at h1 h2
    have ih := gen_upto (ps := ps) (xs := xs) (t := (ptw w p x t).2) hw h1 hr
    exact ⟨ih.1, Int.le_trans ih.2 h2⟩
/-- a deed at a part of the first train: what it gives comes to the second one -/
theorem deed_front {ps qs : List Part} {xs ys : List Int} {d : Deed} (hx : StandL ps xs) (hy : StandL qs ys) (hd : d.ok ps.length) {w' : Int} {t' : Nat} (hw' : w' = if (deedL ps xs d).2 < 0 then -1 else 1) (ht' : (t' : Int) = if (deedL ps xs d).2 < 0 then -(deedL ps xs d).2 else (deedL ps xs d).2) :
    t' ≤ d.t ∧ deedL (ps ++ qs) (xs ++ ys) d = ((deedL ps xs d).1 ++ (deedL qs ys ⟨0, w', t'⟩).1, (deedL qs ys ⟨0, w', t'⟩).2) := by
  have hl := hx.len
  have e1 : (xs ++ ys).take d.i = xs.take d.i := List.take_append_of_le_length (by have := hd.1; omega)
  have e2 : (xs ++ ys).drop d.i = xs.drop d.i ++ ys := List.drop_append_of_le_length (by have := hd.1; omega)
  have e3 : (ps ++ qs).drop d.i = ps.drop d.i ++ qs := List.drop_append_of_le_length (by have := hd.1; omega)
  have hg := gen_upto (t := (d.t : Int)) hd.2 (by omega) (stand_drop d.i hx)
  have ga := gen_app (ptw d.w) qs ys (ps.drop d.i) (xs.drop d.i) d.t (by rw [List.length_drop, List.length_drop, hl])
  unfold deedL at hw' ht' ⊢
  rw [e1, e2, e3, ga]
  generalize gen (ptw d.w) (ps.drop d.i) (xs.drop d.i) d.t = r at *
  have hw' : w' = if d.w * r.2 < 0 then -1 else 1 := hw'
  have ht' : (t' : Int) = if d.w * r.2 < 0 then -(d.w * r.2) else d.w * r.2 := ht'
  have et : (t' : Int) = r.2 := by
    rcases hd.2 with e | e <;> rw [e] at ht' <;> split at ht' <;> omega
  refine ⟨by omega, ?_⟩
  show (xs.take d.i ++ (r.1 ++ (gen (ptw d.w) qs ys r.2).1), d.w * (gen (ptw d.w) qs ys r.2).2) = ((xs.take d.i ++ r.1) ++ ([] ++ (gen (ptw w') qs ys (t' : Int)).1), w' * (gen (ptw w') qs ys (t' : Int)).2)
  rw [et, List.nil_append, List.append_assoc]
  by_cases h0 : r.2 = 0
  · rw [h0, gen_nought hy, gen_nought hy, Int.mul_zero, Int.mul_zero]
  · have ew : w' = d.w := by
      rcases hd.2 with e | e <;> rw [e] at hw' ⊢ <;> rw [hw'] <;> split <;> omega
    rw [ew]
theorem deed_behind {ps qs : List Part} {xs ys : List Int} {d : Deed} {j : Nat} (hx : xs.length = ps.length) (hi : d.i = ps.length + j) : deedL (ps ++ qs) (xs ++ ys) d = (xs ++ (deedL qs ys ⟨j, d.w, d.t⟩).1, (deedL qs ys ⟨j, d.w, d.t⟩).2) := by
  unfold deedL
  rw [hi]
  have e1 : (xs ++ ys).take (ps.length + j) = xs ++ ys.take j := by rw [← hx, List.take_length_add_append]
  have e2 : (xs ++ ys).drop (ps.length + j) = ys.drop j := by rw [← hx, List.drop_length_add_append]
  have e3 : (ps ++ qs).drop (ps.length + j) = qs.drop j := by rw [List.drop_length_add_append]
  rw [e1, e2, e3, List.append_assoc]
end Ct

namespace Ct
open PySem PySem.Spec PyProof.Rows L2
/-! a row done often -/
def itR (ps : List Part) (ds : List Deed) : Nat → List Int → List Int × Int
  | 0, xs => (xs, 0)
  | n + 1, xs => ((rowL ps ds ((itR ps ds n xs).1, 0)).1, (itR ps ds n xs).2 + (rowL ps ds ((itR ps ds n xs).1, 0)).2)
theorem itR_stand {ps : List Part} {ds : List Deed} {xs : List Int} (h : StandL ps xs) (hd : ∀ d ∈ ds, d.ok ps.length) : ∀ n, StandL ps (itR ps ds n xs).1
  | 0 => h
  | n + 1 => rowL_stand (s := ((itR ps ds n xs).1, 0)) (itR_stand h hd n) hd
theorem itR_round {ps : List Part} {ds : List Deed} {xs : List Int} {j k : Nat} (e : (itR ps ds j xs).1 = (itR ps ds k xs).1) : ∀ m, (itR ps ds (k + m) xs).1 = (itR ps ds (j + m) xs).1 ∧ (itR ps ds (k + m) xs).2 - (itR ps ds (j + m) xs).2 = (itR ps ds k xs).2 - (itR ps ds j xs).2
  | 0 => ⟨e.symm, rfl⟩
  | m + 1 => by
    obtain ⟨h1, h2⟩ := itR_round e m
    show (rowL ps ds ((itR ps ds (k + m) xs).1, 0)).1 = (rowL ps ds ((itR ps ds (j + m) xs).1, 0)).1 ∧ (itR ps ds (k + m) xs).2 + (rowL ps ds ((itR ps ds (k + m) xs).1, 0)).2 - ((itR ps ds (j + m) xs).2 + (rowL ps ds ((itR ps ds (j + m) xs).1, 0)).2) = _
    rw [h1]
    exact ⟨rfl, by omega⟩
theorem itR_rounds {ps : List Part} {ds : List Deed} {xs : List Int} {j k : Nat} (hjk : j ≤ k) (e : (itR ps ds j xs).1 = (itR ps ds k xs).1) (m : Nat) : ∀ r : Nat, itR ps ds (j + m + r * (k - j)) xs = ((itR ps ds (j + m) xs).1, (itR ps ds (j + m) xs).2 + (r : Int) * ((itR ps ds k xs).2 - (itR ps ds j xs).2))
  | 0 => by
    rw [Nat.zero_mul, Nat.add_zero, show ((0 : Nat) : Int) = 0 from rfl, Int.zero_mul, Int.add_zero]
  | r + 1 => by
    have ih := itR_rounds hjk e m r
    have hr := itR_round e (m + r * (k - j))
    rw [← Nat.add_assoc j m, ih] at hr
    rw [show j + m + (r + 1) * (k - j) = k + (m + r * (k - j)) by rw [Nat.add_mul, Nat.one_mul]; omega]
    refine Prod.ext hr.1 ?_
    have h2 : (itR ps ds (k + (m + r * (k - j))) xs).2 - ((itR ps ds (j + m) xs).2 + (r : Int) * ((itR ps ds k xs).2 - (itR ps ds j xs).2)) = (itR ps ds k xs).2 - (itR ps ds j xs).2 := hr.2
    show (itR ps ds (k + (m + r * (k - j))) xs).2 = (itR ps ds (j + m) xs).2 + ((r + 1 : Nat) : Int) * ((itR ps ds k xs).2 - (itR ps ds j xs).2)
    rw [show ((r + 1 : Nat) : Int) = (r : Int) + 1 by omega, Int.add_mul, Int.one_mul]
    omega
/-- the way round, reckoned -/
theorem itR_at {ps : List Part} {ds : List Deed} {xs : List Int} {j k n : Nat} (hjk : j < k) (hn : j ≤ n) (e : (itR ps ds j xs).1 = (itR ps ds k xs).1) :
    itR ps ds n xs = ((itR ps ds (j + (n - j) % (k - j)) xs).1, (itR ps ds (j + (n - j) % (k - j)) xs).2 + (((n - j) / (k - j) : Nat) : Int) * ((itR ps ds k xs).2 - (itR ps ds j xs).2)) := by
  have h := itR_rounds (Nat.le_of_lt hjk) e ((n - j) % (k - j)) ((n - j) / (k - j))
  rw [show j + (n - j) % (k - j) + (n - j) / (k - j) * (k - j) = n by
    have := Nat.mod_add_div (n - j) (k - j)
    rw [Nat.mul_comm (k - j)] at this
    omega] at h
  exact h
/-! no more unlike stands than there are -/
theorem filt_len {N : Nat} : ∀ {l : List Nat}, l.Nodup → (∀ x ∈ l, x < N + 1) → l.length ≤ (l.filter fun x => decide (x < N)).length + 1
  | [], _, _ => Nat.zero_le _
  | a :: r, hn, h => by
    obtain ⟨h1, h2⟩ := List.nodup_cons.mp hn
    by_cases ha : a < N
    · rw [List.filter_cons, if_pos (decide_eq_true ha), List.length_cons, List.length_cons]
      have := filt_len h2 fun x hx => h x (List.mem_cons_of_mem _ hx)
      omega
    · have ea : a = N := by
        have := h a List.mem_cons_self
        omega
      have : (r.filter fun x => decide (x < N)) = r := List.filter_eq_self.mpr fun x hx => decide_eq_true (by
        have h3 := h x (List.mem_cons_of_mem _ hx)
        have h4 : x ≠ N := fun z => h1 (by rw [ea, ← z]; exact hx)
        omega)
      rw [List.filter_cons, if_neg (by rw [decide_eq_false ha]; exact Bool.false_ne_true), this, List.length_cons]
      omega
theorem holes : ∀ (N : Nat) (l : List Nat), l.Nodup → (∀ x ∈ l, x < N) → l.length ≤ N
  | 0, [], _, _ => Nat.le_refl _
  | 0, a :: _, _, h => absurd (h a List.mem_cons_self) (Nat.not_lt_zero a)
  | N + 1, l, hn, h => by
    have h1 := filt_len hn h
    have h2 := holes N (l.filter fun x => decide (x < N)) (hn.filter _) fun x hx => of_decide_eq_true (List.mem_filter.mp hx).2
    omega
def code : List Part → List Int → Nat
  | _ :: ps, x :: xs => x.toNat * (stands ps).toNat + code ps xs
  | _, _ => 0
theorem code_lt : ∀ {ps : List Part} {xs : List Int}, StandL ps xs → code ps xs < (stands ps).toNat
  | [], [], _ => by decide
  | p :: ps, x :: xs, ⟨ok, h0, h1, h⟩ => by
    have ih := code_lt (ps := ps) (xs := xs) h
    have po := ok.pos.1
    show x.toNat * (stands ps).toNat + code ps xs < (p.places * stands ps).toNat
    have sp : 1 ≤ stands ps := stands_pos ps h.okp
    have e : (p.places * stands ps).toNat = p.places.toNat * (stands ps).toNat := by
      rw [Int.toNat_mul (by omega) (by omega)]
    rw [e]
    have hx : x.toNat + 1 ≤ p.places.toNat := by omega
    have := Nat.mul_le_mul_right (stands ps).toNat hx
    rw [Nat.add_mul, Nat.one_mul] at this
    omega
theorem code_inj : ∀ {ps : List Part} {xs ys : List Int}, StandL ps xs → StandL ps ys → code ps xs = code ps ys → xs = ys
  | [], [], [], _, _, _ => rfl
  | p :: ps, x :: xs, y :: ys, ⟨_, a0, _, ha⟩, ⟨_, b0, _, hb⟩, e => by
    have la := code_lt ha
    have lb := code_lt hb
    have e2 : x.toNat * (stands ps).toNat + code ps xs = y.toNat * (stands ps).toNat + code ps ys := e
    generalize (stands ps).toNat = N at *
    have d1 : (x.toNat * N + code ps xs) / N = x.toNat := by
      rw [Nat.mul_comm, Nat.mul_add_div (by omega), Nat.div_eq_of_lt la, Nat.add_zero]
    have d2 : (y.toNat * N + code ps ys) / N = y.toNat := by
      rw [Nat.mul_comm, Nat.mul_add_div (by omega), Nat.div_eq_of_lt lb, Nat.add_zero]
    rw [e2, d2] at d1
    have ex : x = y := by omega
    subst ex
    rw [code_inj ha hb (by omega)]
theorem few_stands {ps : List Part} {ds : List Deed} {xs : List Int} (h : StandL ps xs) (hd : ∀ d ∈ ds, d.ok ps.length) {k : Nat} (dist : ∀ i j, i < j → j < k → (itR ps ds i xs).1 ≠ (itR ps ds j xs).1) : k ≤ (stands ps).toNat := by
  have := holes (stands ps).toNat ((List.range k).map fun i => code ps (itR ps ds i xs).1) ?_ ?_
  · rw [List.length_map, List.length_range] at this
    exact this
  · rw [List.nodup_iff_pairwise_ne, List.pairwise_map]
    refine List.Pairwise.imp_of_mem (fun {a b} ha hb hab => ?_) (List.pairwise_lt_range (n := k))
    rw [List.mem_range] at ha hb
    exact fun z => dist a b hab hb (code_inj (itR_stand h hd a) (itR_stand h hd b) z)
  · intro x hx
    obtain ⟨i, _, rfl⟩ := List.mem_map.mp hx
    exact code_lt (itR_stand h hd i)
/-! how great a sum may be -/
theorem gen_le {w : Int} (hw : Sign w) : ∀ (ps : List Part) (xs : List Int) (t : Int), 0 ≤ t → StandL ps xs → (gen (ptw w) ps xs t).2 ≤ t
  | [], [], t, _, _ => Int.le_refl _
  | p :: ps, x :: xs, t, ht, ⟨ok, h0, h1, h⟩ => by
    have e : ((t.toNat : Nat) : Int) = t := by omega
    have a := pt_le ok h0 h1 hw t.toNat
    have n := pt_nn ok h0 h1 hw t.toNat
    rw [e] at a n
    exact Int.le_trans (gen_le hw ps xs (pt p x w t).2 n h) a
theorem deedL_sum {ps : List Part} {xs : List Int} {d : Deed} (h : StandL ps xs) (hd : d.ok ps.length) : -(d.t : Int) ≤ (deedL ps xs d).2 ∧ (deedL ps xs d).2 ≤ d.t := by
  have g1 := (gen_stand hd.2 _ _ (d.t : Int) (by omega) (stand_drop d.i h)).2
  have g2 := gen_le hd.2 _ _ (d.t : Int) (by omega) (stand_drop d.i h)
  show -(d.t : Int) ≤ d.w * (gen (ptw d.w) (ps.drop d.i) (xs.drop d.i) d.t).2 ∧ d.w * (gen (ptw d.w) (ps.drop d.i) (xs.drop d.i) d.t).2 ≤ d.t
  generalize (gen (ptw d.w) (ps.drop d.i) (xs.drop d.i) d.t).2 = g at *
  rcases hd.2 with e | e
  · rw [e, Int.one_mul]
    exact ⟨by omega, g2⟩
  · rw [e]
    exact ⟨by omega, by omega⟩
theorem rowL_sum {ps : List Part} : ∀ {ds : List Deed} {s : List Int × Int}, StandL ps s.1 → (∀ d ∈ ds, d.ok ps.length ∧ d.t < 2 ^ 200) → s.2 - ds.length * 2 ^ 200 ≤ (rowL ps ds s).2 ∧ (rowL ps ds s).2 ≤ s.2 + ds.length * 2 ^ 200
  | [], s, _, _ => by
    show s.2 - ((0 : Nat) : Int) * 2 ^ 200 ≤ s.2 ∧ s.2 ≤ s.2 + ((0 : Nat) : Int) * 2 ^ 200
    rw [show ((0 : Nat) : Int) = 0 from rfl, Int.zero_mul]
    omega
  | d :: ds, s, h, hd => by
    have d0 := hd d List.mem_cons_self
    have a := deedL_sum h d0.1
    have ih := rowL_sum (ds := ds) (s := ((deedL ps s.1 d).1, s.2 + (deedL ps s.1 d).2)) (deedL_stand h d0.1) fun e he => hd e (List.mem_cons_of_mem _ he)
    have i1 : s.2 + (deedL ps s.1 d).2 - (ds.length : Int) * 2 ^ 200 ≤ (rowL ps (d :: ds) s).2 := ih.1
    have i2 : (rowL ps (d :: ds) s).2 ≤ s.2 + (deedL ps s.1 d).2 + (ds.length : Int) * 2 ^ 200 := ih.2
    have dt := d0.2
    rw [List.length_cons, show ((ds.length + 1 : Nat) : Int) = (ds.length : Int) + 1 by omega, Int.add_mul, Int.one_mul]
    omega
theorem itR_sum {ps : List Part} {ds : List Deed} {xs : List Int} (h : StandL ps xs) (hd : ∀ d ∈ ds, d.ok ps.length ∧ d.t < 2 ^ 200) (hl : ds.length ≤ 1000) : ∀ n : Nat, -(n : Int) * 2 ^ 210 ≤ (itR ps ds n xs).2 ∧ (itR ps ds n xs).2 ≤ (n : Int) * 2 ^ 210
  | 0 => by
    show -((0 : Nat) : Int) * 2 ^ 210 ≤ 0 ∧ (0 : Int) ≤ ((0 : Nat) : Int) * 2 ^ 210
    decide
  | n + 1 => by
    have ih := itR_sum h hd hl n
    have r := rowL_sum (s := ((itR ps ds n xs).1, 0)) (itR_stand h (fun d hm => (hd d hm).1) n) hd
    have r1 : (0 : Int) - ds.length * 2 ^ 200 ≤ (rowL ps ds ((itR ps ds n xs).1, 0)).2 := r.1
    have r2 : (rowL ps ds ((itR ps ds n xs).1, 0)).2 ≤ 0 + ds.length * 2 ^ 200 := r.2
    show -((n + 1 : Nat) : Int) * 2 ^ 210 ≤ (itR ps ds n xs).2 + (rowL ps ds ((itR ps ds n xs).1, 0)).2 ∧ (itR ps ds n xs).2 + (rowL ps ds ((itR ps ds n xs).1, 0)).2 ≤ ((n + 1 : Nat) : Int) * 2 ^ 210
    rw [show ((n + 1 : Nat) : Int) = (n : Int) + 1 by omega]
    omega
theorem inl_inj : ∀ {xs ys : List Int}, xs.map (Sum.inl : Int → Key) = ys.map Sum.inl → xs = ys
  | [], [], _ => rfl
  | [], _ :: _, h => nomatch h
  | _ :: _, [], h => nomatch h
  | x :: xs, y :: ys, h => by
    injection h with h1 h2
    injection h1 with h3
    rw [h3, inl_inj h2]
theorem key_map (xs : List Int) : (xs.map (Sum.inl : Int → Key)).map kV = xs.map V.int := by
  rw [List.map_map]
  rfl
theorem units65 {k : Nat} {A : Around} (r : Room k A) : A.units + 65 < cLine := by
  have := r.un
  omega
theorem eqv_ints : ∀ (xs ys : List Int), PyData.eqvAll (xs.map PyData.int) (ys.map PyData.int) = decide (xs = ys)
  | [], [] => rfl
  | [], _ :: _ => rfl
  | _ :: _, [] => rfl
  | x :: xs, y :: ys => by
    rw [List.map_cons, List.map_cons, PyData.eqvAll, eqv_ints xs ys, PyData.eqv]
    by_cases e : x = y
    · subst e
      by_cases e2 : xs = ys
      · subst e2
        simp
      · rw [decide_eq_false e2, decide_eq_false (fun z => e2 (List.cons.inj z).2), Bool.and_false]
    · rw [decide_eq_false (fun z => e (List.cons.inj z).1), show (x == y) = false from beq_eq_false_iff_ne.mpr e, Bool.false_and]
theorem eqv_tupD (xs ys : List Int) : PyData.eqv (tupD xs) (tupD ys) = decide (xs = ys) := by
  unfold tupD
  rw [PyData.eqv]
  exact eqv_ints xs ys
theorem itR_one {ps : List Part} {xs : List Int} {i : Nat} {w : Int} (h : StandL ps xs) (hi : i < ps.length) (hw : Sign w) : ∀ n, itR ps [⟨i, w, 1⟩] n xs = pushes ps i w n (xs, 0)
  | 0 => rfl
  | n + 1 => by
    have ih := itR_one h hi hw n
    have hs : StandL ps (pushes ps i w n (xs, 0)).1 := pushes_stand h hi hw 0 n
    have e : rowL ps [⟨i, w, 1⟩] ((pushes ps i w n (xs, 0)).1, 0) = pushes ps i w 1 ((pushes ps i w n (xs, 0)).1, 0) := rowL_one (s := ((pushes ps i w n (xs, 0)).1, 0)) (d := ⟨i, w, 1⟩) hs ⟨hi, hw⟩
    show ((rowL ps [⟨i, w, 1⟩] ((itR ps [⟨i, w, 1⟩] n xs).1, 0)).1, (itR ps [⟨i, w, 1⟩] n xs).2 + (rowL ps [⟨i, w, 1⟩] ((itR ps [⟨i, w, 1⟩] n xs).1, 0)).2) = _
    rw [ih, e]
    refine Prod.ext rfl ?_
    show (pushes ps i w n (xs, 0)).2 + (0 + (Ct.run ps (pushes ps i w n (xs, 0)).1 i w).2) = (pushes ps i w n (xs, 0)).2 + (Ct.run ps (pushes ps i w n (xs, 0)).1 i w).2
    omega
theorem itR_deed {ps : List Part} {xs : List Int} {i : Nat} {w : Int} (h : StandL ps xs) (hi : i < ps.length) (hw : Sign w) (n : Nat) : itR ps [⟨i, w, 1⟩] n xs = rowL ps [⟨i, w, n⟩] (xs, 0) := by
  rw [itR_one h hi hw n, rowL_one (s := (xs, 0)) (d := ⟨i, w, n⟩) h ⟨hi, hw⟩]
theorem itR_add {ps : List Part} {ds : List Deed} (a : Nat) (xs : List Int) : ∀ b, itR ps ds (a + b) xs = ((itR ps ds b (itR ps ds a xs).1).1, (itR ps ds a xs).2 + (itR ps ds b (itR ps ds a xs).1).2)
  | 0 => Prod.ext rfl (Int.add_zero _).symm
  | b + 1 => by
    have ih := itR_add (ps := ps) (ds := ds) a xs b
    show ((rowL ps ds ((itR ps ds (a + b) xs).1, 0)).1, (itR ps ds (a + b) xs).2 + (rowL ps ds ((itR ps ds (a + b) xs).1, 0)).2) = _
    rw [ih]
    refine Prod.ext rfl ?_
    show (itR ps ds a xs).2 + (itR ps ds b (itR ps ds a xs).1).2 + _ = (itR ps ds a xs).2 + ((itR ps ds b (itR ps ds a xs).1).2 + _)
    rw [Int.add_assoc]
section
variable {K : PySem.W.Frag} {H : Hp} {σ : L2.St} {Q : VK} {D : Ends}
theorem w_dnewT (h : ∀ p, H p = none → Q (.ref p) (upd H p (.dT []))) : tDNewT σ H Q := h
theorem w_dnotin {ty td : TE} (h : ty σ H fun y H1 => td σ H1 fun x H2 => ∃ a o, x = .ref a ∧ DGet H2 a y o ∧ Q (.bl (!o.isSome)) H2) : tDNotIn ty td σ H Q := h
theorem w_dget {td ty : TE} (h : td σ H fun x H1 => ty σ H1 fun y H2 => ∃ a v, x = .ref a ∧ DGet H2 a y (some v) ∧ Q v H2) : tDGet td ty σ H Q := h
theorem w_dput {td ty tv : TE} (h : tv σ H fun v H1 => td σ H1 fun x H2 => ty σ H2 fun y H3 => ∃ a H4, x = .ref a ∧ DPut H3 a y v H4 ∧ D.nx σ H4) : sDPut td ty tv D σ H := h
end
end Ct

namespace Ct
open PySem PySem.Spec PyProof.Rows L2
/-! what stays, found by looking -/
section
variable {K : PySem.W.Frag} {H G : Hp} {a p : Addr} {o : HO} {xs : List V} {v : V} {d : PyData} {ds : List PyData} {ps : List Part}
theorem mv_get (s : Same H G) (h : H a = some o) : G a = some o := s _ _ h
theorem mv_lst (s : Same H G) (h : H a = some (.lst xs)) : SqL K G a xs := .of (s _ _ h)
theorem mv_sql (s : Same H G) (h : SqL K H a xs) : SqL K G a xs := s.seq h
theorem mv_tup (s : Same H G) (h : H a = some (.tup xs)) : SqT K G a xs := .of (s _ _ h)
theorem mv_sqt (s : Same H G) (h : SqT K H a xs) : SqT K G a xs := Same.tup s h
theorem mv_dp (s : Same H G) (h : Dp K H v d) : Dp K G v d := dp_same s h
theorem mv_dpa (s : Same H G) (h : DpAll K H xs ds) : DpAll K G xs ds := dpAll_same s h
theorem mv_train (s : Same H G) (h : TrainAt K H a ps) : TrainAt K G a ps := h.same s
theorem mv_free (s : Same H G) (h : G a = none) : H a = none := s.free h
theorem upd_new (h : upd H p o = G) (n : H p = none) : Same H G ∧ G p = some o := by
  subst h
  exact ⟨same_upd n, upd_same⟩
variable {Q : VK} {b : Addr} {ys : List V} {n : Nat} {ms : List Int}
theorem w_slLu (h : SqL K H a xs) (hn : n ≤ xs.length) (q : ∀ p G, H p = none → Same H G → G p = some (.lst (xs.take n)) → Q (.ref p) G) : rSlL K (.ref a) none (some (n : Int)) H Q := by
  refine w_slL h fun p np => ?_
  have e : cutV xs none (some (n : Int)) = xs.take n := by
    unfold cutV
    rw [HT.sIx_none, HT.sIx_nat, List.drop_zero, Nat.min_eq_left (by omega), Nat.sub_zero]
  rw [e]
  exact q p _ np (same_upd np) upd_same
theorem w_slLf (h : SqL K H a xs) (hn : n ≤ xs.length) (q : ∀ p G, H p = none → Same H G → G p = some (.lst (xs.drop n)) → Q (.ref p) G) : rSlL K (.ref a) (some (n : Int)) none H Q := by
  refine w_slL h fun p np => ?_
  have e : cutV xs (some (n : Int)) none = xs.drop n := by
    unfold cutV
    rw [HT.sIx_none, HT.sIx_nat, Nat.min_eq_left (by omega), List.take_of_length_le (by rw [List.length_drop]; exact Nat.le_refl _)]
  rw [e]
  exact q p _ np (same_upd np) upd_same
theorem w_cat (h : H a = some (.lst xs)) (h2 : H b = some (.lst ys)) (l : xs.length + ys.length ≤ sizeLine) (q : ∀ p G, H p = none → Same H G → G p = some (.lst (xs ++ ys)) → Q (.ref p) G) : rCat (.ref a) (.ref b) H Q :=
  ⟨a, b, xs, ys, rfl, rfl, h, h2, l, fun p np => q p _ np (same_upd np) upd_same⟩
theorem w_rNs {x y : Str} {c : Bool} (e : (!decide (V.str x = V.str y)) = c) (h : Q (.bl c) H) : rNe (.str x) (.str y) H Q := by
  refine ⟨rfl, ?_⟩
  rw [e]
  exact h
variable {σ : L2.St}
theorem walk_zipM {n : Nat} (hn : n = min xs.length ys.length) : Walk (ItM K a b) n (fun H => SqL K H a xs ∧ SqT K H b ys) (YPair (fun i => xs[i]?) (fun i => ys[i]?)) := by
  subst hn
  refine ⟨fun i _ hi q => ?_, fun _ q => ⟨xs, ys, q.1, q.2, by omega⟩, fun i H v H' _ q y => ?_⟩
  · have h1 : i < xs.length := by omega
    have h2 : i < ys.length := by omega
    exact ⟨xs, ys, xs[i], ys[i], q.1, q.2, by simp [h1], by simp [h2]⟩
  · obtain ⟨T, x, z, h1, h2, h3, h4, h5⟩ := y
    exact ⟨T, x, z, h1, h2, h3, h4 xs q.1, h5 ys q.2⟩
theorem lb_zipM (xs ys : List V) (hl : xs.length = ys.length) {g : TG} {tt : TT} {te : TE} {vs : List Nat} (Pv : Addr → Nat → Hp → Prop) (h0 : ∀ D, H D = none → Pv D 0 (upd H D (.lst []))) (hq : ∀ D, H D = none → ∀ i H1, i ≤ xs.length → Pv D i H1 → SqL K H1 a xs ∧ SqT K H1 b ys)
    (hs : ∀ D, H D = none → ∀ i x y T H1 G, xs[i]? = some x → ys[i]? = some y → Pv D i H1 → H1 T = none → Same H1 G → G T = some (.tup [x, y]) → g (.ref T) (wipe σ vs) G fun σ2 H2 => wipe σ2 vs = wipe σ vs ∧ tt σ2 H2 fun b H3 =>
      if b = true then te σ2 H3 fun y H4 => ∃ acc, H4 D = some (.lst acc) ∧ acc.length < sizeLine ∧ Pv D (i + 1) (upd H4 D (.lst (acc ++ [y]))) else Pv D (i + 1) H3) (hd : ∀ D, H D = none → ∀ H1, Pv D xs.length H1 → Q (.ref D) H1) : LB (ItM K a b) g tt te vs σ H Q :=
  fun D hD => lc_it (walk_zipM (xs := xs) (ys := ys) (n := xs.length) (by omega)) (Pv D) (h0 D hD) (hq D hD) (fun i x H1 H2 _ p y => by
    obtain ⟨T, u, v, rfl, hT, rfl, e1, e2⟩ := y
    exact hs D hD i u v T H1 _ e1 e2 p hT (same_upd hT) upd_same) (hd D hD)
theorem ne_new {H : Hp} {a p : Addr} {o : HO} (e : H a = some o) (n : H p = none) : p ≠ a := fun z => by rw [z, e] at n; cases n
theorem keepU {H : Hp} {a p : Addr} {o o' : HO} (e : H p = some o) (n : p ≠ a) : (upd H a o') p = some o := by rw [upd_ne n]; exact e
end
end Ct
/-! zip of two lists -/
namespace Ct
open PySem PySem.Spec PyProof.Rows L2
section
variable {K : PySem.W.Frag} {H : Hp} {σ : L2.St} {D : Ends} {R : It → Hp → Prop} {a b : Addr} {xs ys : List V}
def IZw (K : PySem.W.Frag) (vs : List V) (H : Hp) (R : It → Hp → Prop) : Prop := iZip K (fun _ H Q => Q vs H) [] H R
theorem w_izipw {ta : TA} (h : ta σ H fun vs H1 => IZw K vs H1 R) : iZip K ta σ H R := h
theorem w_IZw (h1 : SqL K H a xs) (h2 : SqL K H b ys) (q : R (Itz K a b) H) : IZw K [.ref a, .ref b] H R := ⟨a, b, xs, ys, rfl, h1, h2, q⟩
theorem fb_zipw (xs ys : List V) (hl : xs.length = ys.length) {g : TG} {tb : TS} (Pv : Nat → L2.St → Hp → Prop) (h0 : Pv 0 σ H) (hq : ∀ i σ H, i ≤ xs.length → Pv i σ H → SqL K H a xs ∧ SqL K H b ys)
    (hs : ∀ i x y T σ H G, xs[i]? = some x → ys[i]? = some y → Pv i σ H → H T = none → Same H G → G T = some (.tup [x, y]) → g (.ref T) σ G fun σ2 H2 => tb { D with nx := Pv (i + 1), ct := Pv (i + 1), bk := D.nx } σ2 H2) (hd : ∀ σ H, Pv xs.length σ H → D.nx σ H) : FB (Itz K a b) g tb D σ H :=
  for_it (walk_zip (xs := xs) (ys := ys) (n := xs.length) (by omega)) Pv h0 hq (fun i x σ H H' _ p y => by
    obtain ⟨T, u, v, rfl, hT, rfl, e1, e2⟩ := y
    exact hs i u v T σ H _ e1 e2 p hT (same_upd hT) upd_same) hd
end
end Ct

/-! what stays but for one object -/
namespace Ct
open PySem PySem.Spec PyProof.Rows L2
/-- all that was tracked stays, but for what lies at k -/
def But (k : Addr) (H H' : Hp) : Prop := ∀ a o, a ≠ k → H a = some o → H' a = some o
theorem but_same {k : Addr} {H H' : Hp} (s : Same H H') : But k H H' := fun a o _ h => s a o h
theorem But.refl {k : Addr} {H : Hp} : But k H H := fun _ _ _ h => h
theorem But.trans {k : Addr} {H H1 H2 : Hp} (a : But k H H1) (b : But k H1 H2) : But k H H2 := fun c o n h => b c o n (a c o n h)
theorem but_upd {k : Addr} {H : Hp} {o : HO} : But k H (upd H k o) := fun c u n h => by rw [upd_ne n]; exact h
theorem But.same {k : Addr} {H H1 H2 : Hp} (hk : H k = none) (s : Same H H1) (b : But k H1 H2) : Same H H2 := fun c o h => b c o (fun e => by rw [e, hk] at h; cases h) (s c o h)
def Ext (H : Hp) (k : Addr) : Prop := ∃ f, H k = some (.ext f)
theorem but_tup {K : PySem.W.Frag} {k a : Addr} {H H' : Hp} {xs : List V} (x : Ext H k) (e : But k H H') (h : SqT K H a xs) : SqT K H' a xs := by
  obtain ⟨f, x⟩ := x
  rcases h with (h | ⟨o, h⟩) | h
  · exact .inl (.inl (e _ _ (fun z => by rw [z, x] at h; cases h) h))
  · exact .inl (.inr ⟨o, e _ _ (fun z => by rw [z, x] at h; cases h) h⟩)
  · exact .inr h
theorem but_seq {K : PySem.W.Frag} {k a : Addr} {H H' : Hp} {xs : List V} (x : Ext H k) (e : But k H H') (h : SqL K H a xs) : SqL K H' a xs := by
  obtain ⟨f, x⟩ := x
  rcases h with (h | ⟨o, h⟩) | h
  · exact .inl (.inl (e _ _ (fun z => by rw [z, x] at h; cases h) h))
  · exact .inl (.inr ⟨o, e _ _ (fun z => by rw [z, x] at h; cases h) h⟩)
  · exact .inr h
mutual
theorem dp_but {K : PySem.W.Frag} {H H' : Hp} {k : Addr} (x : Ext H k) (e : But k H H') : ∀ {v : V} {d : PyData}, Dp K H v d → Dp K H' v d
  | _, _, .non => .non
  | _, _, .bl b => .bl b
  | _, _, .int i => .int i
  | _, _, .str x => .str x
  | _, _, .lst h t => .lst (but_seq x e h) (dpAll_but x e t)
  | _, _, .tup h t => .tup (but_tup x e h) (dpAll_but x e t)
theorem dpAll_but {K : PySem.W.Frag} {H H' : Hp} {k : Addr} (x : Ext H k) (e : But k H H') : ∀ {vs : List V} {ds : List PyData}, DpAll K H vs ds → DpAll K H' vs ds
  | _, _, .nil => .nil
  | _, _, .cons h t => .cons (dp_but x e h) (dpAll_but x e t)
end
theorem TrainAt.but {K : PySem.W.Frag} {H H' : Hp} {k a : Addr} {ps : List Part} (x : Ext H k) (e : But k H H') : TrainAt K H a ps → TrainAt K H' a ps
  | ⟨vs, h1, h2⟩ => ⟨vs, but_seq x e h1, dpAll_but x e h2⟩
end Ct

/-! all(.. for .. in ..), any(.. for .. in ..): the generator's own frame -/
namespace Ct
open PySem PySem.Spec PyProof.Rows L2 GenW
/-- the table of a def's code objects, whatever it holds -/
def TabX (P : Addr) : HO := .ext fun h => ∃ ps : Array Value, h.get? P = some { cls := .none, data := .fields ps } ∧ TriplesOk ps.toList
theorem over_gen {A : Around} {elt : Expr} {gs : List Comprehension} {scope : Scope} {pos : Pos} {it acc : Value} {env : Env} : A.over (.compLoop (.GeneratorExp elt gs scope pos) 0 it acc env) [] = A.deeper env := by
  first
    | rfl
    | (obtain ⟨hd, d, fr, gu, u⟩ := A; simp [Around.over, Around.deeper, marksOver, frameCount, unitsOf, envsOf, guardsOf, pushEnvs, pushGuards, Code.envs, Code.env?, Code.isFrame, Code.guards, Code.isGuard, Code.weight, Code.frames, Code.isCreation, Code.isCaller, Code.cUnits])
theorem over_genS {A : Around} {elt : Expr} {gs : List Comprehension} {scope : Scope} {pos : Pos} {it acc : Value} {env : Env} : A.over (.compStart (.GeneratorExp elt gs scope pos) 0 it acc env) [] = A.deeper env := by
  first
    | rfl
    | (obtain ⟨hd, d, fr, gu, u⟩ := A; simp [Around.over, Around.deeper, marksOver, frameCount, unitsOf, envsOf, guardsOf, pushEnvs, pushGuards, Code.envs, Code.env?, Code.isFrame, Code.guards, Code.isGuard, Code.weight, Code.frames, Code.isCreation, Code.isCaller, Code.cUnits])
section
variable {X : Cx} {pins : List (Addr × Obj)} {σ : L2.St} {H : Hp} {s : Shared}
theorem tabx_ok {P0 : Program} {w : World} {H : Hp} {h : Heap} {P : Addr} {ps : Array Value} (hm : h.get? P = some { cls := .none, data := .fields ps }) (ht : TriplesOk ps.toList) : ObjOk P0 w H h P (TabX P) :=
  ⟨⟨ps, hm, ht⟩, ⟨_, hm⟩, fun h1 h2 ⟨qs, a, b⟩ st => ⟨qs, st _ a, b⟩⟩
/-- the table has grown, all else is kept -/
theorem inv_tabX {P : Addr} {ps : Array Value} {h' : Heap} {g' : Array GenState} {d' : Drawn} {t' : Nat} (I : Inv X pins σ H s) (hP : H P = some (TabX P)) (k : ∀ b o, b ≠ P → s.heap.get? b = some o → h'.get? b = some o)
    (hm : h'.get? P = some { cls := .none, data := .fields ps }) (ht : TriplesOk ps.toList) (hg : AllBare g') : Inv X pins σ H { s with heap := h', gens := g', drawn := d', toks := t' } := by
  have nP : ∀ b u, H b = some u → u ≠ TabX P → b ≠ P := fun b u e q z => by
    rw [z, hP] at e
    exact q (Option.some.inj e).symm
  have nN : ∀ b, H b = none → b ≠ P := fun b e z => by
    rw [z, hP] at e
    cases e
  refine I.step (g' := g') (d' := d') (ch := []) (fun b hb => absurd hb (by simp)) (fun b o _ _ _ e n => k b o (nN b n) e) (fun b o _ _ _ e n => ⟨o.slots, k b o (nN b n) e⟩)
    (fun b o _ e n => n) (fun b o _ e => ?_) (fun b xs e => e) (fun b o u e => e) (fun b qs e => ⟨#[], by rw [e]; simp⟩) (fun m hn => ?_) (fun b u e => ?_) hg
  · by_cases hb : b = P
    · rw [hb]
      exact ⟨_, hm⟩
    · exact ⟨o, k b o hb e⟩
  · obtain ⟨ob, es, ep, ho, r⟩ := hn
    exact ⟨ob, es, ep, k _ ob (nN _ I.free) ho, r⟩
  · by_cases hb2 : b = P
    · rw [hb2, hP] at e
      cases e
      rw [hb2]
      exact tabx_ok hm ht
    · refine (I.hok b u e).stay (fun d v hd q => k d v ?_ q) (fun d q => q) fun d xs q => q
      rcases hd with z | z
      · rw [z]
        exact hb2
      · exact nP d _ z (fun q => by unfold TabX at q; cases q)
/-- the context of a generator expression's frame: its iterator's objects at fp, what stands at pn -/
abbrev gxc (X : Cx) (B : Around) (s : Shared) (H : Hp) (scope : Scope) (cenv : Env) (fp : List Addr) (pn : List (Addr × Obj)) : Cx :=
  { X with A := B.deeper cenv, s_0 := s, H_0 := H, env := cenv, outer := X.stack, stack := cenv :: X.stack, ex := fp, fn := fun x => scope.names.lookup x == some .cell, pn := pn, xe := fun _ _ => False }
theorem lookup_clo {cells : List (Str × Addr)} {names : List (Str × NameKind)} {y : Str} {c : Addr} (e : (cloFrom cells names []).lookup y = some c) : (y, NameKind.free) ∈ names ∧ c = (cells.lookup y).getD 0 := by
  rcases cloFrom_mem (PySem.mem_of_lookup e) with z | z
  · cases z
  · exact z
/-- the frame is made -/
theorem gx_start {B : Around} {scope : Scope} {own : List (Str × Nat)} {fp : List Addr} {code : Value} {itv : Value} {h5 : Heap} {g5 : Array GenState} {t5 : Nat} {d5 : Drawn} {a : Addr} {go : Obj}
    (I : Inv X pins σ H s) (hB : B.frames = some X.stack) (hBh : B.handled = none) (ok : BlkOk X.N X.env.scope scope own) (hN : X.N.Nodup) (hcell : ∀ y ∈ scope.names, y.2 ≠ .cell) (hfp : ∀ b ∈ fp, FpOk X pins H b ∧ b < s.heap.objs.size)
    (hns : h5.Ns s.heap.objs.size (fun y => if y = ".0" then some itv else none)) (kp : ∀ b o, s.heap.get? b = some o → h5.get? b = some o)
    (ha : s.heap.objs.size < a) (hgo : h5.get? a = some go) (hgc : ∀ v, go.data ≠ .cell v) (hg5 : AllBare g5) :
    Inv (gxc X B s H scope (genEnv scope (cloFrom X.env.cells scope.names []) s.heap.objs.size code builtinsNs X.env) fp [(a, go)]) [] (wipe σ (own.map (·.2))) H { s with heap := h5, gens := g5, toks := t5, drawn := d5 } := by
  have hfree : ∀ y ∈ scope.names, y.2 = .free → ∃ c, X.env.cells.lookup y.1 = some c := fun y hy e => by
    rcases ok.free y hy e with k | k
    · exact I.ok.has _ (.inl k)
    · exact I.ok.has _ (.inr k)
  generalize hcenv : genEnv scope (cloFrom X.env.cells scope.names []) s.heap.objs.size code builtinsNs X.env = cenv
  have hL : cenv.locals = s.heap.objs.size := by rw [← hcenv]; rfl
  have hcl : cenv.cells = cloFrom X.env.cells scope.names [] := by rw [← hcenv]; rfl
  have hsc : cenv.scope = scope := by rw [← hcenv]; rfl
  have mem : ∀ {y c}, cenv.cells.lookup y = some c → X.env.cells.lookup y = some c ∧ c < s.heap.objs.size := fun {y c} e => by
    rw [hcl] at e
    obtain ⟨h1, rfl⟩ := lookup_clo e
    obtain ⟨c, hc⟩ := hfree _ h1 rfl
    rw [hc]
    obtain ⟨w, z⟩ := I.cell _ _ hc
    exact ⟨rfl, z.lt⟩
  have look : ∀ {y}, scope.names.lookup y = some .free → ∃ c, cenv.cells.lookup y = some c ∧ X.env.cells.lookup y = some c := fun {y} hl => by
    have hy : (y, NameKind.free) ∈ scope.names := PySem.mem_of_lookup hl
    obtain ⟨c', e'⟩ := mem_lookup (cloFrom_has (cells := X.env.cells) (acc := []) hy)
    rw [← hcl] at e'
    exact ⟨c', e', (mem e').1⟩
  have okB : (gxc X B s H scope cenv fp [(a, go)]).Ok := by
    refine ⟨I.ok.mod, by show cenv.scope.kind = _; rw [hsc]; exact ok.kind, by show cenv.globals = _; rw [← hcenv]; exact I.ok.glob, by show cenv.builtins = _; rw [← hcenv]; rfl, by show s.heap.objs.size ≤ cenv.locals; rw [hL]; exact Nat.le_refl _,
      fun y z c e1 e2 => I.ok.inj y z c (mem e1).1 (mem e2).1, fun y hy => ?_, fun y c z e => ?_, fun _ => hBh, Around.frames_deeper hB, .inr ⟨rfl, ?_⟩, fun b hb => ⟨?_, fun y c e z => ?_⟩, I.bs, Nat.le_trans I.ok.bsz I.sz, fun b o e hb => ?_, fun b hb z => ?_, I.stack, I.stkFree⟩
    · have hy : cenv.scope.names.lookup y = some .cell ∨ cenv.scope.names.lookup y = some .free := hy
      rw [hsc] at hy
      rcases hy with hy | hy
      · exact absurd rfl (hcell _ (PySem.mem_of_lookup hy))
      · obtain ⟨c, h1, _⟩ := look hy
        exact ⟨c, h1⟩
    · have z : (scope.names.lookup y == some NameKind.cell) = true := z
      have z : scope.names.lookup y = some .cell := by simpa using z
      exact absurd rfl (hcell _ (PySem.mem_of_lookup z))
    · show cenv.frame = some cenv.locals
      rw [← hcenv]
      rfl
    · show b ≠ cenv.locals
      rw [hL]
      exact Nat.ne_of_lt (hfp b hb).2
    · exact (hfp b hb).1.2.2.2.2.1 y c (mem e).1 z
    · rcases (hfp b hb).1.2.2.2.1 with z | z
      · exact I.ok.noex b o e z
      · exact absurd (Nat.lt_of_lt_of_le (Heap.lt_size e) (Nat.le_trans I.ok.bsz z)) (Nat.lt_irrefl _)
    · rcases List.mem_cons.mp (I.stkSub b z) with z | z
      · exact (hfp b hb).1.2.1 z
      · exact (hfp b hb).1.2.2.1 z
  refine ⟨okB, rfl, hg5, Un.kept kp, ⟨fun y => if y = ".0" then some itv else none, ?_, fun i y av e1 e2 e3 => ?_⟩, fun y c e => ?_, ?_, fun y c e => ?_, fun p hp => ?_, I.hok.kept kp, by rw [wipe_length]; exact I.len⟩
  · show Heap.Ns _ cenv.locals _
    rw [hL]
    exact hns
  · obtain ⟨e2, hne⟩ := wipe_some e2
    have hfr : scope.names.lookup y = some .free := by
      have e3 : Vis cenv.scope y := e3
      rw [hsc] at e3
      have no : ∀ k, scope.names.lookup y = some k → ¬ (k = .local ∨ k = .cell) := fun k e hh => by
        rcases ok.own _ (PySem.mem_of_lookup e) hh with e' | e'
        · obtain ⟨p, hp, hpy⟩ := List.mem_map.mp e'
          have e3 := ok.ix p hp
          have : p.1 = y := hpy
          rw [this] at e3
          exact hne (List.mem_map.mpr ⟨p, hp, nodup_ix hN e3 e1⟩)
        · exact e' (List.mem_of_getElem? e1)
      rcases e3 with e3 | e3 | e3
      · exact absurd (.inl rfl) (no _ e3)
      · exact absurd (.inr rfl) (no _ e3)
      · exact e3
    obtain ⟨m, hn, hl⟩ := I.loc
    have hvis : Vis X.env.scope y := (ok.free _ (PySem.mem_of_lookup hfr) rfl).elim (fun k => .inr (.inl k)) (fun k => .inr (.inr k))
    obtain ⟨w, r, q⟩ := hl i y av e1 e2 hvis
    refine ⟨w, r, .inr ⟨.inr (by show cenv.scope.names.lookup y = _; rw [hsc]; exact hfr), ?_⟩⟩
    obtain ⟨c, h1, h2⟩ := look hfr
    rcases q with ⟨k, _⟩ | ⟨_, c', e', z⟩
    · have k : X.env.scope.names.lookup y = some .local := k
      rcases ok.free _ (PySem.mem_of_lookup hfr) rfl with k' | k' <;> rw [show X.env.scope.names.lookup y = _ from k'] at k <;> cases k
    · rw [h2] at e'
      cases e'
      exact ⟨c, h1, z.keeps kp⟩
  · obtain ⟨w, z⟩ := I.cell y c (mem e).1
    exact ⟨w, z.keeps kp⟩
  · show H cenv.locals = none
    rw [hL]
    exact I.hok.fresh (Nat.le_refl _)
  · exact I.freeC y c (mem e).1
  · have hp : p ∈ [(a, go)] ++ [] := hp
    rw [List.append_nil, List.mem_singleton] at hp
    subst hp
    refine ⟨hgo, I.hok.fresh (Nat.le_of_lt ha), ?_, ?_, hgc⟩
    · show a ≠ cenv.locals
      rw [hL]
      exact Nat.ne_of_gt ha
    · show a ∉ frs X.stack
      intro z
      rcases List.mem_cons.mp (I.stkSub a z) with z | z
      · have h1 := I.lt
        rw [← z] at h1
        exact Nat.lt_irrefl _ (Nat.lt_trans h1 ha)
      · exact I.nofs (Nat.le_of_lt ha) z
end
end Ct
namespace Ct
open PySem PySem.Spec PyProof.Rows L2 GenW
section
variable {X : Cx}
/-- what is known where the whole is done: b the answer -/
def GFin (P : Program) (w : World) (fr fp : List Addr) (H4 : Hp) (h4 : Heap) (Q : VK) (b : Bool) (h : Heap) : Prop := ∃ H', Un fr fp H4 H' h4 h ∧ HOk P w H' h ∧ Q (.bl b) H'
def GDone (P : Program) (w : World) (fr fp : List Addr) (H4 : Hp) (s4 : Shared) (Q : VK) (st : Bool) : Nat → Shared → Shared → Prop := fun _ _ s1 => s1.os = s4.os ∧ AllBare s1.gens ∧ GFin P w fr fp H4 s4.heap Q (!st) s1.heap
/-- the generator hands out a truth: the one that ends the walk, or another one, and goes on -/
def GYld (P : Program) (w : World) (fr fp : List Addr) (H4 : Hp) (s4 : Shared) (Q : VK) (st : Bool) (a : Addr) (g : Nat) : Protocol := fun _ _ v s1 kap =>
  ∃ b, v = .bool b ∧ s1.os = s4.os ∧ AllBare s1.gens ∧ s1.heap.NoLimit ∧ s1.heap.IsGen a g ∧ (if b = st then GFin P w fr fp H4 s4.heap Q st s1.heap else ∀ s' : Shared, s'.heap = s1.heap → s'.os = s1.os → AllBare s'.gens → kap (.send .none) s')
/-- all(..) with st = false, any(..) with st = true -/
def tGen (P : Addr) (st : Bool) (wi : TI) (g : TG) (te : TE) (vs : List Nat) : TE := fun σ H Q => wi σ H fun J H1 => H1 P = some (TabX P) ∧ ∃ W : Nat → Nat → Hp → Prop, (∃ m, W 0 m H1) ∧ ∀ i m H, W i m H →
  (J.stop i H ∧ Q (.bl (!st)) H) ∨ (J.go i H ∧ ∃ Nx : Hp → Prop, (∀ H', Nx H' → ∃ m', m' < m ∧ W (i + 1) m' H') ∧ ∀ x H', J.yld i H x H' → g x (wipe σ vs) H' fun σ2 H2 => wipe σ2 vs = wipe σ vs ∧ te σ2 H2 fun y H3 => ∃ b, y = .bl b ∧ if b = st then Q (.bl st) H3 else Nx H3)

theorem seg_gx {B : Around} {scope : Scope} {own : List (Str × Nat)} {fp : List Addr} {s4 : Shared} {H4 : Hp} {cenv : Env} {a : Addr} {go : Obj} {gn : Nat} {elt tg iter : Expr} {pos : Pos} {it : Addr} {tn : Nat → Heap → Prop} {J : It} {g : TG} {te : TE} {σ : L2.St} {Q : VK} {st : Bool} {W : Nat → Nat → Hp → Prop}
    (hc : X.calm = true) (hco : cenv.scope.isCoroutine = false) (hgn : ∀ h : Heap, h.get? a = some go → h.IsGen a gn)
    (T : Turn X.prog X.w X.K tg J fp it tn) (pg : PG (gxc X B s4 H4 scope cenv fp [(a, go)]) tg g) (pe : PE (gxc X B s4 H4 scope cenv fp [(a, go)]) elt te) (hfa : ∀ b ∈ fp, b ≠ a)
    (turn : ∀ i m H, W i m H → (J.stop i H ∧ Q (.bl (!st)) H) ∨ (J.go i H ∧ ∃ Nx : Hp → Prop, (∀ H', Nx H' → ∃ m', m' < m ∧ W (i + 1) m' H') ∧ ∀ x H', J.yld i H x H' → g x (wipe σ (own.map (·.2))) H' fun σ2 H2 => wipe σ2 (own.map (·.2)) = wipe σ (own.map (·.2)) ∧ te σ2 H2 fun y H3 => ∃ b, y = .bl b ∧ if b = st then Q (.bl st) H3 else Nx H3)) :
    ∀ (m n : Nat), m < n → ∀ (i : Nat) (s₀ s : Shared) (H : Hp), W i m H → Inv (gxc X B s4 H4 scope cenv fp [(a, go)]) [] (wipe σ (own.map (·.2))) H s → tn i s.heap → (∀ b ∈ fp, H b = none) →
      Seg (model X.prog X.w) B (fun n s₀ r s₁ => r = .ok .next ∧ GDone X.prog X.w (frs X.stack) fp H4 s4 Q st n s₀ s₁) (GYld X.prog X.w (frs X.stack) fp H4 s4 Q st a gn) n s₀
        (.compLoop (.GeneratorExp elt [⟨tg, iter, [], 0⟩] scope pos) 0 (.ref it) .none cenv)
        ((model X.prog X.w).den (.compLoop (.GeneratorExp elt [⟨tg, iter, [], 0⟩] scope pos) 0 (.ref it) .none cenv)) [] s := by
  intro m
  induction m using Nat.strongRecOn with
  | ind m ih =>
    intro n hmn i s₀ s H w I st5 n5
    have stat : ∀ {σ' : L2.St} {H' : Hp} {s' : Shared}, Inv (gxc X B s4 H4 scope cenv fp [(a, go)]) [] σ' H' s' → (∀ b ∈ fp, H' b = none) → ∀ b ∈ fp, FpOk (gxc X B s4 H4 scope cenv fp [(a, go)]) [] H' b := fun {σ' H' s'} I' hn b hb =>
      ⟨hn b hb, (I'.ok.exf b hb).1, I'.ok.exfs b hb, .inl hb, fun x c e => (I'.ok.exf b hb).2 x c e, fun p hp => by
        have hp : p ∈ [(a, go)] ++ [] := hp
        rw [List.append_nil, List.mem_singleton] at hp
        subst hp
        exact fun z => hfa b hb z.symm⟩
    have pinned : ∀ {pins' : List (Addr × Obj)} {σ' : L2.St} {H' : Hp} {s' : Shared}, Inv (gxc X B s4 H4 scope cenv fp [(a, go)]) pins' σ' H' s' → s'.heap.IsGen a gn := fun {pins' σ' H' s'} I' =>
      hgn _ (I'.pin (a, go) (List.mem_append_left _ (List.mem_singleton.mpr rfl))).1
    show Seg _ B _ _ _ s₀ _ ((compTurn (.GeneratorExp elt [⟨tg, iter, [], 0⟩] scope pos) 0 (.ref it) .none cenv).onRaise (leaving cenv)) [] s
    rw [compTurn_gen, Sem.onRaise_eq_wrap]
    refine seg_bind_wrap (wpAny_standAt ?_)
    rcases turn i m H w with ⟨stop, qq⟩ | ⟨goes, Nx, hNx, step⟩
    · refine seg_bind_wrap ?_
      rw [over_gen]
      refine wpAny_mono (T.done (gxc X B s4 H4 scope cenv fp [(a, go)]) rfl rfl rfl hc i [] s _ H (fun _ _ => False) I (stat I n5) st5 stop) (fun r s6 hr => ?_) (fun _ _ z => z.elim)
      obtain ⟨rfl, I6⟩ := hr
      exact seg_end (.ok .next) ⟨rfl, I6.os, I6.bare, H, I6.base, I6.hok, qq⟩
    · refine seg_bind_wrap ?_
      rw [over_gen]
      refine wpAny_mono (T.item (gxc X B s4 H4 scope cenv fp [(a, go)]) rfl rfl rfl hc i [] s _ H (fun _ _ => False) I (stat I n5) st5 goes) (fun r s6 hr => ?_) (fun _ _ z => z.elim)
      obtain ⟨u, rfl, h6⟩ := hr
      refine seg_bind_wrap ?_
      rw [over_gen]
      refine wpAny_mono h6 (fun _ s7 h7 => ?_) (fun _ _ z => z.elim)
      obtain ⟨x, H7, I7, r7, y7, st7, n7⟩ := h7
      have I7' := I7.pinned (stat I7 n7) (T.obj _ _ st7)
      refine seg_bind_wrap ?_
      rw [over_gen]
      refine wpAny_mono (pg.run _ s7 _ H7 x u _ I7' r7 (step x H7 y7)) (fun _ s8 h8 => ?_) (fun _ _ z => z.elim)
      obtain ⟨σ8, H8, I8, hw8, q8⟩ := h8
      refine seg_bind_wrap (wpAny_tests_nil ?_)
      simp only [if_true]
      have hy : ∀ v, yieldOut cenv v = yieldValue v := fun v => by simp only [yieldOut, hco, Bool.false_eq_true, if_false]
      simp only [hy]
      rw [Sem.bind_eq_wrap', Sem.bind_eq_wrap', Sem.wrap_wrap, Sem.wrap_wrap]
      refine seg_wrap ?_
      rw [over_gen]
      refine wpAny_mono (pe.run _ s8 σ8 H8 _ I8 q8) (fun z s9 h9 => ?_) (fun _ _ z => z.elim)
      obtain ⟨y, H9, I9, r9, b, rfl, q9⟩ := h9
      have r9 : z = Value.bool b := r9
      subst r9
      have hlim : s9.heap.NoLimit := I9.nolimit
      by_cases hb : b = st
      · obtain ⟨k, rfl⟩ : ∃ k, n = k + 1 := ⟨n - 1, by omega⟩
        rw [if_pos hb] at q9
        refine seg_at (seg_yield rfl rfl rfl ⟨b, rfl, I9.os, I9.bare, hlim, pinned I9, ?_⟩)
        rw [if_pos hb]
        exact ⟨H9, I9.base, I9.hok, q9⟩
      · rw [if_neg hb] at q9
        obtain ⟨m', hm, w'⟩ := hNx H9 q9
        obtain ⟨k, rfl⟩ : ∃ k, n = k + 1 := ⟨n - 1, by omega⟩
        refine seg_at (seg_yield rfl rfl rfl ⟨b, rfl, I9.os, I9.bare, hlim, pinned I9, ?_⟩)
        rw [if_neg hb]
        intro s' e1 e2 e3
        have pin' : ∀ b ∈ fp, ∀ o, s7.heap.get? b = some o → s9.heap.get? b = some o ∧ H9 b = none := fun b hb o e =>
          let z := I9.pin (b, o) (List.mem_append_right _ (List.mem_append_right _ (mem_pinsAt hb e)))
          ⟨z.1, z.2.1⟩
        have hl : (wipe σ (own.map (·.2))).length = σ8.length := by rw [← hw8, wipe_length]
        have I10 : Inv (gxc X B s4 H4 scope cenv fp [(a, go)]) [] (wipe σ (own.map (·.2))) H9 s9 := (I9.unpinned (pins := [])).weak hl (fun j v e => by
          rw [← hw8] at e
          exact (wipe_some e).1)
        have I11 : Inv (gxc X B s4 H4 scope cenv fp [(a, go)]) [] (wipe σ (own.map (·.2))) H9 s' := by
          refine I10.call' (ch := []) e2 (Un.kept fun b o e => by rw [e1]; exact e) (by rw [e1]; exact I10.hok) e3 fun b z => by simp at z
        refine seg_again rfl (ih m' hm k (by omega) (i + 1) s' s' H9 w' I11 ?_ fun b hb => ?_)
        · rw [e1]
          exact T.keep _ _ _ st7 fun b hb o e => (pin' b hb o e).1
        · obtain ⟨o, e, _⟩ := T.obj _ _ st7 b hb
          exact (pin' b hb o e).2
end
end Ct
namespace Ct
open PySem PySem.Spec PyProof.Rows L2 GenW
section
variable {P : Program} {w : World} {A : Around} {fr fp : List Addr} {H4 : Hp} {s4 : Shared} {Q : VK} {a : Addr} {g : Nat} {R : Result → Shared → Prop}
theorem all_gx (hh : A.handled = none) (hd : A.depth < recursionLimit) (hend : ∀ b (s' : Shared), s'.os = s4.os → AllBare s'.gens → GFin P w fr fp H4 s4.heap Q b s'.heap → R (.ok (.ret (.bool b))) s') :
    ∀ (m : Nat) (s : Shared), s.heap.IsGen a g → s.heap.NoLimit →
      (∃ gs, s.gens[g]? = some gs ∧ gs.Goes (model P w) A.in1.in1 (fun n s₀ r s₁ => r = .ok .next ∧ GDone P w fr fp H4 s4 Q false n s₀ s₁) (GYld P w fr fp H4 s4 Q false a g) m (.send .none) (s.setGen g .running)) →
      codeAny (model P w) A (.builtin "all.loop" ⟨[.ref a], []⟩) R s := by
  intro m
  induction m with
  | zero =>
    intro s hg hl ⟨gs, hgs, hgo⟩
    refine codeAny_builtin F.entry_all_loop ?_
    rw [Around.under_plainId F.plain_all_loop _]
    show wpAny _ A.in1 (pyNext (.ref a) >>= _) _ _ s
    refine wpAny_bind (wpAny_pyNext_genexpQ (A := A.in1) hh hl hd hg hgs hgo (fun v s₁ gs' hbare hv => ?_) (fun s₁ hp h' hk => ?_))
    · obtain ⟨b, rfl, os1, hb1, hl1, hg1, q⟩ := hv
      refine wpAny_bind (wpAny_holding (wpAny_truthy_bool ?_))
      refine wpAny_bind (wpAny_letGo ?_)
      by_cases hb : b = false
      · rw [if_pos hb] at q
        subst hb
        simp only [Bool.false_eq_true, if_false]
        refine wpAny_bind (wpAny_rule (wpAny_pure ?_))
        exact hend false _ os1 (allBare_setGen hb1 hbare) q
      · rw [if_neg hb] at q
        exact False.elim (q s₁ rfl rfl hb1)
    · obtain ⟨os1, hb1, H', un, hok, hQ⟩ := hp
      refine wpAny_bind (wpAny_rule (wpAny_pure ?_))
      exact hend true _ os1 (allBare_setGen hb1 rfl) ⟨H', un.trans (Un.kept hk), hok.kept hk, hQ⟩
  | succ m ih =>
    intro s hg hl ⟨gs, hgs, hgo⟩
    have hgl : g < s.gens.size := (Array.getElem?_eq_some_iff.mp hgs).1
    refine codeAny_builtin F.entry_all_loop ?_
    rw [Around.under_plainId F.plain_all_loop _]
    show wpAny _ A.in1 (pyNext (.ref a) >>= _) _ _ s
    refine wpAny_bind (wpAny_gsz (n := g + 1) hgl (wpAny_pyNext_genexpQ (A := A.in1) hh hl hd hg hgs hgo (fun v s₁ gs' hbare hv => ?_) (fun s₁ hp h' hk => ?_)))
    · intro hsz
      obtain ⟨b, rfl, os1, hb1, hl1, hg1, q⟩ := hv
      refine wpAny_bind (wpAny_holding (wpAny_truthy_bool ?_))
      refine wpAny_bind (wpAny_letGo ?_)
      have hsz1 : g < s₁.gens.size := by
        have q : (s₁.setGen g gs').gens.size = s₁.gens.size := setGen_size _ _ _
        have hsz' : g + 1 ≤ (s₁.setGen g gs').gens.size := hsz
        omega
      by_cases hb : b = false
      · rw [if_pos hb] at q
        subst hb
        simp only [Bool.false_eq_true, if_false]
        refine wpAny_bind (wpAny_rule (wpAny_pure ?_))
        exact hend false _ os1 (allBare_setGen hb1 hbare) q
      · rw [if_neg hb] at q
        have hb2 : b = true := by
          cases b with
          | true => rfl
          | false => exact absurd rfl hb
        subst hb2
        simp only [if_true]
        refine wpAny_pure ⟨plainId_quiet F.plain_all_loop _, ?_⟩
        exact ih (s₁.setGen g gs') hg1 hl1 ⟨gs', setGen_at hsz1, q _ rfl rfl (allBare_setGen (allBare_setGen hb1 hbare) rfl)⟩
    · intro _
      obtain ⟨os1, hb1, H', un, hok, hQ⟩ := hp
      refine wpAny_bind (wpAny_rule (wpAny_pure ?_))
      exact hend true _ os1 (allBare_setGen hb1 rfl) ⟨H', un.trans (Un.kept hk), hok.kept hk, hQ⟩
theorem any_gx (hh : A.handled = none) (hd : A.depth < recursionLimit) (hend : ∀ b (s' : Shared), s'.os = s4.os → AllBare s'.gens → GFin P w fr fp H4 s4.heap Q b s'.heap → R (.ok (.ret (.bool b))) s') :
    ∀ (m : Nat) (s : Shared), s.heap.IsGen a g → s.heap.NoLimit →
      (∃ gs, s.gens[g]? = some gs ∧ gs.Goes (model P w) A.in1.in1 (fun n s₀ r s₁ => r = .ok .next ∧ GDone P w fr fp H4 s4 Q true n s₀ s₁) (GYld P w fr fp H4 s4 Q true a g) m (.send .none) (s.setGen g .running)) →
      codeAny (model P w) A (.builtin "any.loop" ⟨[.ref a], []⟩) R s := by
  intro m
  induction m with
  | zero =>
    intro s hg hl ⟨gs, hgs, hgo⟩
    refine codeAny_builtin F.entry_any_loop ?_
    rw [Around.under_plainId F.plain_any_loop _]
    show wpAny _ A.in1 (pyNext (.ref a) >>= _) _ _ s
    refine wpAny_bind (wpAny_pyNext_genexpQ (A := A.in1) hh hl hd hg hgs hgo (fun v s₁ gs' hbare hv => ?_) (fun s₁ hp h' hk => ?_))
    · obtain ⟨b, rfl, os1, hb1, hl1, hg1, q⟩ := hv
      refine wpAny_bind (wpAny_holding (wpAny_truthy_bool ?_))
      refine wpAny_bind (wpAny_letGo ?_)
      by_cases hb : b = true
      · rw [if_pos hb] at q
        subst hb
        simp only [if_true]
        refine wpAny_bind (wpAny_rule (wpAny_pure ?_))
        exact hend true _ os1 (allBare_setGen hb1 hbare) q
      · rw [if_neg hb] at q
        exact False.elim (q s₁ rfl rfl hb1)
    · obtain ⟨os1, hb1, H', un, hok, hQ⟩ := hp
      refine wpAny_bind (wpAny_rule (wpAny_pure ?_))
      exact hend false _ os1 (allBare_setGen hb1 rfl) ⟨H', un.trans (Un.kept hk), hok.kept hk, hQ⟩
  | succ m ih =>
    intro s hg hl ⟨gs, hgs, hgo⟩
    have hgl : g < s.gens.size := (Array.getElem?_eq_some_iff.mp hgs).1
    refine codeAny_builtin F.entry_any_loop ?_
    rw [Around.under_plainId F.plain_any_loop _]
    show wpAny _ A.in1 (pyNext (.ref a) >>= _) _ _ s
    refine wpAny_bind (wpAny_gsz (n := g + 1) hgl (wpAny_pyNext_genexpQ (A := A.in1) hh hl hd hg hgs hgo (fun v s₁ gs' hbare hv => ?_) (fun s₁ hp h' hk => ?_)))
    · intro hsz
      obtain ⟨b, rfl, os1, hb1, hl1, hg1, q⟩ := hv
      refine wpAny_bind (wpAny_holding (wpAny_truthy_bool ?_))
      refine wpAny_bind (wpAny_letGo ?_)
      have hsz1 : g < s₁.gens.size := by
        have q : (s₁.setGen g gs').gens.size = s₁.gens.size := setGen_size _ _ _
        have hsz' : g + 1 ≤ (s₁.setGen g gs').gens.size := hsz
        omega
      by_cases hb : b = true
      · rw [if_pos hb] at q
        subst hb
        simp only [if_true]
        refine wpAny_bind (wpAny_rule (wpAny_pure ?_))
        exact hend true _ os1 (allBare_setGen hb1 hbare) q
      · rw [if_neg hb] at q
        have hb2 : b = false := by
          cases b with
          | false => rfl
          | true => exact absurd rfl hb
        subst hb2
        simp only [Bool.false_eq_true, if_false]
        refine wpAny_pure ⟨plainId_quiet F.plain_any_loop _, ?_⟩
        exact ih (s₁.setGen g gs') hg1 hl1 ⟨gs', setGen_at hsz1, q _ rfl rfl (allBare_setGen (allBare_setGen hb1 hbare) rfl)⟩
    · intro _
      obtain ⟨os1, hb1, H', un, hok, hQ⟩ := hp
      refine wpAny_bind (wpAny_rule (wpAny_pure ?_))
      exact hend false _ os1 (allBare_setGen hb1 rfl) ⟨H', un.trans (Un.kept hk), hok.kept hk, hQ⟩
end
end Ct
namespace Ct
open PySem PySem.Spec PyProof.Rows L2 GenW
section
variable {X : Cx}
theorem gen_eval {pins : List (Addr × Obj)} {σ : L2.St} {H : Hp} {s : Shared} {Q : VK} {c P : Addr} {elt tg iter : Expr} {scope : Scope} {own : List (Str × Nat)} {pos : Pos} {wi : TI} {g : TG} {te : TE} {st : Bool} {k : Nat} {Q' : Value → Shared → Prop}
    (hr : Room (k + 1) X.A) (hc : X.calm = true) (hN : X.N.Nodup) (TB : GxR.TabB X.base X.mg c P) (hcode : X.env.code = .ref c) (hi : PI X tg iter wi) (ok : BlkOk X.N X.env.scope scope own) (hcell : ∀ y ∈ scope.names, y.2 ≠ .cell) (hco : scope.isCoroutine = false) (hdot : scope.names.lookup (".0" : Str) = some NameKind.local)
    (hg : ∀ (s : Shared) (H : Hp) (C : Addr) (cl : List (Str × Addr)) (cd : Value) (fp : List Addr) (pn : List (Addr × Obj)) (B : Around), PG (gxc X B s H scope (genEnv scope cl C cd builtinsNs X.env) fp pn) tg g)
    (he : ∀ (s : Shared) (H : Hp) (C : Addr) (cl : List (Str × Addr)) (cd : Value) (fp : List Addr) (pn : List (Addr × Obj)) (B : Around), Room k (B.deeper (genEnv scope cl C cd builtinsNs X.env)) → PE (gxc X B s H scope (genEnv scope cl C cd builtinsNs X.env) fp pn) elt te)
    (hs : ∀ x, genFold iter X.env x = pure x) (I : Inv X pins σ H s) (h : tGen P st wi g te (own.map (·.2)) σ H Q)
    (hQ : ∀ (a : Addr) (gn : Nat) (s4 s5 : Shared) (H4 : Hp) (fp : List Addr) (m : Nat) (gs : GenState), Inv X pins σ H4 s4 → (∀ b ∈ fp, FpOk X pins H4 b) → s5.heap.IsGen a gn → s5.heap.NoLimit → s5.gens[gn]? = some gs →
      gs.Goes (model X.prog X.w) X.A.in1.in1 (fun n s₀ r s₁ => r = .ok .next ∧ GDone X.prog X.w (frs X.stack) fp H4 s4 Q st n s₀ s₁) (GYld X.prog X.w (frs X.stack) fp H4 s4 Q st a gn) m (.send .none) (s5.setGen gn .running) → Q' (.ref a) s5) :
    wpAny (model X.prog X.w) X.A (eval (.GeneratorExp elt [⟨tg, iter, [], 0⟩] scope pos) X.env) Q' X.xe s := by
  have hfree : ∀ y ∈ scope.names, y.2 = .free → ∃ c, X.env.cells.lookup y.1 = some c := fun y hy e => by
    rcases ok.free y hy e with k | k
    · exact I.ok.has _ (.inl k)
    · exact I.ok.has _ (.inr k)
  refine wpAny_GeneratorExp_make hco (closure_ok hfree) hcell hdot ok.kind hr.depth (thn (hi.run pins s σ H _ I h) fun xv s1 hx => thn hx fun itv s2 h2 => ?_) hs
  obtain ⟨it, fp, tn, J, H2, rfl, I2, T, st2, f2, hTab, W, ⟨m0, w0⟩, turn⟩ := h2
  obtain ⟨⟨ps, hP2, ht⟩, _, _⟩ := I2.hok P _ hTab
  have hPlt : P < s2.heap.objs.size := Heap.lt_size hP2
  have cd : PySem.W.CodeHd s2.heap c P := TB.code.keeps I2.bk
  have nP : ∀ b, H2 b = none → b ≠ P := fun b e z => by
    rw [z, hTab] at e
    cases e
  have cont : ∀ (code : Value) (h3 : Heap) (tk : Nat) (ps' : Array Value), Heap.ExtBut P s2.heap h3 → s2.heap.objs.size ≤ h3.objs.size → h3.get? P = some { cls := .none, data := .fields ps' } → TriplesOk ps'.toList →
      wpAny (model X.prog X.w) X.A (builtinsFor X.env.globals X.env.builtins) (fun bi s₄ =>
        ∀ h', h'.Ns s₄.heap.objs.size (fun y => if y = ".0" then some (Value.ref it) else none) → Heap.SameBut s₄.heap.objs.size (s₄.heap.push { cls := .type "frame", data := .dict #[] }) h' →
          Q' (.ref h'.objs.size) { s₄ with
            gens := s₄.gens.push (.fresh (.compStart (.GeneratorExp elt [⟨tg, iter, [], 0⟩] scope pos) 0 (.ref it) .none (genEnv scope (cloFrom X.env.cells scope.names []) s₄.heap.objs.size code bi X.env))),
            toks := s₄.toks + 1 + 1 + 1,
            heap := h'.push { cls := .type "generator", data := .fields #[.int s₄.gens.size 0, .str "<genexpr>" (s₄.toks + 1), .str (X.env.qual ++ "<genexpr>") (s₄.toks + 1 + 1)] } }) X.xe { s2 with heap := h3, toks := tk } := by
    intro code h3 tk ps' hx hsz hP3 ht3
    obtain ⟨bm, ob, e1, e2, e3, e4, e5, e6, e7, e8⟩ := TB.bm
    have keep3 : ∀ b u, b ≠ P → s2.heap.get? b = some u → h3.get? b = some u := fun b u hb e => hx b u hb e
    refine wpAny_builtinsFor (m := X.mg) (by rw [I2.ok.glob]; exact (I2.mod.glob.keeps I2.bk).extBut hx TB.gP) e1 e2 (keep3 _ _ e4 (I2.bk _ _ e5)) e6 e7 e8 ?_
    intro h' hn' hs'
    have I4 : Inv X pins σ H2 { s2 with heap := h3, toks := tk } := inv_tabX (g' := s2.gens) (d' := s2.drawn) (t' := tk) I2 hTab keep3 hP3 ht3 I2.bare
    generalize hs4 : ({ s2 with heap := h3, toks := tk } : Shared) = s4 at *
    have h4 : s4.heap = h3 := by rw [← hs4]
    have keep' : ∀ b o, s4.heap.get? b = some o → h'.get? b = some o := fun b o e => hs'.extBut b o (Nat.ne_of_lt (Heap.lt_size e)) (Heap.get?_push_of_some _ e)
    have hsz' : h'.objs.size = s4.heap.objs.size + 1 := by rw [hs'.1, Heap.size_push]
    generalize hgo : ({ cls := .type "generator", data := .fields #[.int s4.gens.size 0, .str "<genexpr>" (s4.toks + 1), .str (X.env.qual ++ "<genexpr>") (s4.toks + 1 + 1)] } : Obj) = go
    have hgn : ∀ h : Heap, h.get? h'.objs.size = some go → h.IsGen h'.objs.size s4.gens.size := fun h e => ⟨go, _, _, e, by rw [← hgo], by rw [← hgo], by rw [← hgo]⟩
    have keep5 : ∀ b o, s4.heap.get? b = some o → (h'.push go).get? b = some o := fun b o e => Heap.get?_push_of_some _ (keep' b o e)
    have hgoat : (h'.push go).get? h'.objs.size = some go := Heap.get?_push_size _ (by rw [← hgo]; rfl)
    have f4 : ∀ b ∈ fp, FpOk X pins H2 b ∧ b < s4.heap.objs.size := fun b hb => by
      obtain ⟨o, e, _⟩ := T.obj _ _ st2 b hb
      refine ⟨f2 b hb, ?_⟩
      rw [h4]
      exact Heap.lt_size (keep3 b o (nP b (f2 b hb).1) e)
    have kfp : ∀ b ∈ fp, ∀ o, s2.heap.get? b = some o → (h'.push go).get? b = some o := fun b hb o e => keep5 b o (by rw [h4]; exact keep3 b o (nP b (f2 b hb).1) e)
    have lim5 : (h'.push go).NoLimit := I4.nolimit.keeps keep5
    refine hQ h'.objs.size s4.gens.size s4 _ H2 fp (m0 + 1) _ I4 f2 (hgn _ hgoat) lim5 (Array.getElem?_push_size ..) ?_
    have hns5 : (h'.push go).Ns s4.heap.objs.size (fun y => if y = ".0" then some (Value.ref it) else none) := hn'.push _
    have hfa : ∀ b ∈ fp, b ≠ h'.objs.size := fun b hb => by
      have := (f4 b hb).2
      intro z
      rw [z, hsz'] at this
      exact absurd (Nat.lt_trans (Nat.lt_succ_self _) this) (Nat.lt_irrefl _)
    have J5 : ∀ (g5 : Array GenState), AllBare g5 → Inv (gxc X X.A.in1.in1 s4 H2 scope (genEnv scope (cloFrom X.env.cells scope.names []) s4.heap.objs.size code builtinsNs X.env) fp [(h'.objs.size, go)]) [] (wipe σ (own.map (·.2))) H2 { s4 with heap := h'.push go, gens := g5, toks := s4.toks + 1 + 1 + 1, drawn := s4.drawn } := fun g5 b5 =>
      gx_start (B := X.A.in1.in1) I4 I4.ok.frames hr.hd ok hN hcell f4 hns5 keep5 (by rw [hsz']; exact Nat.lt_succ_self _) hgoat (fun v z => by rw [← hgo] at z; cases z) b5
    have room : Room k (X.A.in1.in1.deeper (genEnv scope (cloFrom X.env.cells scope.names []) s4.heap.objs.size code builtinsNs X.env)) :=
      ⟨hr.hd, by have := hr.dp; show X.A.depth + 1 + 3 * k + 5 < _; omega, by have := hr.un; show X.A.units + 1 + 1 + 3 + 16 * k + 200 < _; omega⟩
    have b5 : AllBare ((s4.gens.push (.fresh (.compStart (.GeneratorExp elt [⟨tg, iter, [], 0⟩] scope pos) 0 (.ref it) .none (genEnv scope (cloFrom X.env.cells scope.names []) s4.heap.objs.size code builtinsNs X.env)))).setIfInBounds s4.gens.size .running) :=
      allBare_setGen (s := { s4 with gens := s4.gens.push (.fresh (.compStart (.GeneratorExp elt [⟨tg, iter, [], 0⟩] scope pos) 0 (.ref it) .none (genEnv scope (cloFrom X.env.cells scope.names []) s4.heap.objs.size code builtinsNs X.env))) }) (g := s4.gens.size) (AllBare.push I4.bare rfl) rfl
    have loop := seg_gx (iter := iter) (pos := pos) (σ := σ) (own := own) (Q := Q) (st := st) hc hco hgn T (hg s4 H2 _ _ code fp [(h'.objs.size, go)] X.A.in1.in1) (he s4 H2 _ _ code fp [(h'.objs.size, go)] X.A.in1.in1 room) hfa turn m0 (m0 + 1) (Nat.lt_succ_self _) 0
      (Shared.setGen { s4 with heap := h'.push go, gens := s4.gens.push (.fresh (.compStart (.GeneratorExp elt [⟨tg, iter, [], 0⟩] scope pos) 0 (.ref it) .none (genEnv scope (cloFrom X.env.cells scope.names []) s4.heap.objs.size code builtinsNs X.env))), toks := s4.toks + 1 + 1 + 1 } s4.gens.size .running)
      (Shared.setGen { s4 with heap := h'.push go, gens := s4.gens.push (.fresh (.compStart (.GeneratorExp elt [⟨tg, iter, [], 0⟩] scope pos) 0 (.ref it) .none (genEnv scope (cloFrom X.env.cells scope.names []) s4.heap.objs.size code builtinsNs X.env))), toks := s4.toks + 1 + 1 + 1 } s4.gens.size .running)
      H2 w0 (J5 _ b5) (T.keep _ _ _ st2 kfp) (fun b hb => (f2 b hb).1)
    refine ⟨rfl, ?_⟩
    show Seg _ X.A.in1.in1 _ _ _ _ _ ((compStart (.GeneratorExp elt [⟨tg, iter, [], 0⟩] scope pos) 0 (.ref it) .none (genEnv scope (cloFrom X.env.cells scope.names []) s4.heap.objs.size code builtinsNs X.env)).onRaise (leaving (genEnv scope (cloFrom X.env.cells scope.names []) s4.heap.objs.size code builtinsNs X.env))) [] _
    unfold compStart
    rw [Sem.onRaise_eq_wrap]
    show Seg _ X.A.in1.in1 _ _ _ _ _ ((ask >>= _).wrap _ _ _ _) [] _
    refine seg_bind_wrap (wpAny_askSetting ?_)
    split
    · exact seg_again rfl loop
    · first
        | exact seg_bind_wrap (wpAny_rule (seg_bind_wrap (wpAny_standAt (seg_bind_wrap (T.self _ 0 _ _ _ (T.keep _ _ _ st2 kfp) (seg_again rfl loop))))))
        | (refine seg_bind_wrap (wpAny_rule ?_); show Seg _ _ _ _ _ _ _ ((standAt iter.pos >>= _).wrap _ _ _ _) [] _; exact seg_bind_wrap (wpAny_standAt (seg_bind_wrap (T.self _ 0 _ _ _ (T.keep _ _ _ st2 kfp) (seg_again rfl loop)))))
  refine ⟨I2.nolimit, ?_⟩
  cases hf : codeAmong pos ps.toList with
  | none =>
    refine wpAny_genexprCodeX hcode (cd.code hP2 ht) (cd.tab hP2) hf fun c' h' tk hx hge hlt hco' _ htab' _ => ?_
    obtain ⟨o1, vs, f1, tf, fl, tg, inF, tx, tt, op, _, _, _, _, _, _, _, _, _, htr, _⟩ := hco'
    exact cont _ h' tk _ hx (Nat.le_trans hge (Nat.le_of_lt hlt)) htab'.2 htr
  | some cv =>
    refine wpAny_genexprCode_hit hcode (cd.code hP2 ht) hf ?_
    exact cont cv s2.heap s2.toks ps (Heap.ExtBut.refl _ _) (Nat.le_refl _) hP2 ht
end
end Ct
namespace Ct
open PySem PySem.Spec PyProof.Rows L2 GenW
section
variable {X : Cx}
theorem gx_end {pins : List (Addr × Obj)} {σ : L2.St} {H4 : Hp} {s4 s' : Shared} {fp : List Addr} {Q : VK} {b : Bool} (I4 : Inv X pins σ H4 s4) (f4 : ∀ b ∈ fp, FpOk X pins H4 b) (os : s'.os = s4.os) (bare : AllBare s'.gens) (h : GFin X.prog X.w (frs X.stack) fp H4 s4.heap Q b s'.heap) : EP X pins σ Q (.bool b) s' := by
  obtain ⟨H', un, hok, q⟩ := h
  exact ⟨.bl b, H', I4.call' (ch := fp) os un hok bare fun b hb => ⟨(f4 b hb).2.2.2.1, (f4 b hb).2.1, (f4 b hb).2.2.2.2.1, (f4 b hb).2.2.2.2.2⟩, rfl, q⟩
/-- all(elt for tg in iter) -/
theorem pe_allX {c P : Addr} {elt tg iter : Expr} {scope : Scope} {own : List (Str × Nat)} {p pos gpos : Pos} {wi : TI} {g : TG} {te : TE} {k : Nat}
    (hr : Room (k + 1) X.A) (hgl : Gl X "all") (hm : X.mg "all" = none) (hc : X.calm = true) (hN : X.N.Nodup) (TB : GxR.TabB X.base X.mg c P) (hcode : X.env.code = .ref c) (hi : PI X tg iter wi) (ok : BlkOk X.N X.env.scope scope own) (hcell : ∀ y ∈ scope.names, y.2 ≠ .cell) (hco : scope.isCoroutine = false) (hdot : scope.names.lookup (".0" : Str) = some NameKind.local)
    (hg : ∀ (s : Shared) (H : Hp) (C : Addr) (cl : List (Str × Addr)) (cd : Value) (fp : List Addr) (pn : List (Addr × Obj)) (B : Around), PG (gxc X B s H scope (genEnv scope cl C cd builtinsNs X.env) fp pn) tg g)
    (he : ∀ (s : Shared) (H : Hp) (C : Addr) (cl : List (Str × Addr)) (cd : Value) (fp : List Addr) (pn : List (Addr × Obj)) (B : Around), Room k (B.deeper (genEnv scope cl C cd builtinsNs X.env)) → PE (gxc X B s H scope (genEnv scope cl C cd builtinsNs X.env) fp pn) elt te)
    (hs : ∀ x, genFold iter X.env x = pure x := by intro _; rfl) (hb : bootBuiltins "all" = some (.builtin "all") := by decide +kernel)
    (hst : starEach [.GeneratorExp elt [⟨tg, iter, [], 0⟩] scope gpos] X.env = (false, eval (.GeneratorExp elt [⟨tg, iter, [], 0⟩] scope gpos) X.env) :: starEach [] X.env := by rfl) :
    PE X (.Call (.Name "all" p) [.GeneratorExp elt [⟨tg, iter, [], 0⟩] scope gpos] [] pos) (tGen P false wi g te (own.map (·.2))) := by
  refine ⟨fun pins s σ H Q I h => ?_⟩
  refine wpAny_Call_Name_kw (ld_blt I hgl hm hb ?_)
  refine PyProof.Rows.callWith_builtin1 ?_ hst (by rfl)
  rw [hst]
  show wpAny _ _ (spliced ((false, eval (.GeneratorExp elt [⟨tg, iter, [], 0⟩] scope gpos) X.env) :: backTo pos (starEach [] X.env))) _ _ s
  refine Calls.spliced_cons (gen_eval hr hc hN TB hcode hi ok hcell hco hdot hg he hs I h fun a gn s4 s5 H4 fp m gs I4 f4 hgen hlim hgs hgo => ?_)
  refine Calls.spliced_nil ?_
  refine call_function_tree F.kind_all F.plain_all F.entry_all (F.args_all1 _) ?_
  unfold Builtin.«all»
  refine wpAny_bind (m := oneArg "all" _) (wpAny_pure ?_)
  refine wpAny_bind (wpAny_pyIter_gen hgen ?_)
  exact wpAny_pure ⟨plainId_quiet F.plain_all_loop _, all_gx hr.hd hr.depth (fun b s' os bare fin => gx_end I4 f4 os bare fin) m s5 hgen hlim ⟨gs, hgs, hgo⟩⟩
/-- any(elt for tg in iter) -/
theorem pe_anyX {c P : Addr} {elt tg iter : Expr} {scope : Scope} {own : List (Str × Nat)} {p pos gpos : Pos} {wi : TI} {g : TG} {te : TE} {k : Nat}
    (hr : Room (k + 1) X.A) (hgl : Gl X "any") (hm : X.mg "any" = none) (hc : X.calm = true) (hN : X.N.Nodup) (TB : GxR.TabB X.base X.mg c P) (hcode : X.env.code = .ref c) (hi : PI X tg iter wi) (ok : BlkOk X.N X.env.scope scope own) (hcell : ∀ y ∈ scope.names, y.2 ≠ .cell) (hco : scope.isCoroutine = false) (hdot : scope.names.lookup (".0" : Str) = some NameKind.local)
    (hg : ∀ (s : Shared) (H : Hp) (C : Addr) (cl : List (Str × Addr)) (cd : Value) (fp : List Addr) (pn : List (Addr × Obj)) (B : Around), PG (gxc X B s H scope (genEnv scope cl C cd builtinsNs X.env) fp pn) tg g)
    (he : ∀ (s : Shared) (H : Hp) (C : Addr) (cl : List (Str × Addr)) (cd : Value) (fp : List Addr) (pn : List (Addr × Obj)) (B : Around), Room k (B.deeper (genEnv scope cl C cd builtinsNs X.env)) → PE (gxc X B s H scope (genEnv scope cl C cd builtinsNs X.env) fp pn) elt te)
    (hs : ∀ x, genFold iter X.env x = pure x := by intro _; rfl) (hb : bootBuiltins "any" = some (.builtin "any") := by decide +kernel)
    (hst : starEach [.GeneratorExp elt [⟨tg, iter, [], 0⟩] scope gpos] X.env = (false, eval (.GeneratorExp elt [⟨tg, iter, [], 0⟩] scope gpos) X.env) :: starEach [] X.env := by rfl) :
    PE X (.Call (.Name "any" p) [.GeneratorExp elt [⟨tg, iter, [], 0⟩] scope gpos] [] pos) (tGen P true wi g te (own.map (·.2))) := by
  refine ⟨fun pins s σ H Q I h => ?_⟩
  refine wpAny_Call_Name_kw (ld_blt I hgl hm hb ?_)
  refine PyProof.Rows.callWith_builtin1 ?_ hst (by rfl)
  rw [hst]
  show wpAny _ _ (spliced ((false, eval (.GeneratorExp elt [⟨tg, iter, [], 0⟩] scope gpos) X.env) :: backTo pos (starEach [] X.env))) _ _ s
  refine Calls.spliced_cons (gen_eval hr hc hN TB hcode hi ok hcell hco hdot hg he hs I h fun a gn s4 s5 H4 fp m gs I4 f4 hgen hlim hgs hgo => ?_)
  refine Calls.spliced_nil ?_
  refine call_function_tree F.kind_any F.plain_any F.entry_any (F.args_any1 _) ?_
  unfold Builtin.«any»
  refine wpAny_bind (m := oneArg "any" _) (wpAny_pure ?_)
  refine wpAny_bind (wpAny_pyIter_gen hgen ?_)
  exact wpAny_pure ⟨plainId_quiet F.plain_any_loop _, any_gx hr.hd hr.depth (fun b s' os bare fin => gx_end I4 f4 os bare fin) m s5 hgen hlim ⟨gs, hgs, hgo⟩⟩
end
end Ct
namespace Ct
open PySem PySem.Spec PyProof.Rows L2
/-! walking it -/
def GB (P : Addr) (st : Bool) (J : It) (g : TG) (te : TE) (vs : List Nat) (σ : L2.St) (H : Hp) (Q : VK) : Prop := tGen P st (fun _ H R => R J H) g te vs σ H Q
theorem w_gen {P : Addr} {st : Bool} {wi : TI} {g : TG} {te : TE} {vs : List Nat} {σ : L2.St} {H : Hp} {Q : VK} (h : wi σ H fun J H1 => GB P st J g te vs σ H1 Q) : tGen P st wi g te vs σ H Q := h
theorem gb_it {P : Addr} {st : Bool} {J : It} {n : Nat} {G : Hp → Prop} {Y : Nat → Hp → V → Hp → Prop} (w : Walk J n G Y) {g : TG} {te : TE} {vs : List Nat} {σ : L2.St} {H : Hp} {Q : VK} (Pv : Nat → Hp → Prop) (hT : H P = some (TabX P)) (h0 : Pv 0 H) (hG : ∀ i H1, i ≤ n → Pv i H1 → G H1)
    (hs : ∀ i x H1 H2, i < n → Pv i H1 → Y i H1 x H2 → g x (wipe σ vs) H2 fun σ3 H3 => wipe σ3 vs = wipe σ vs ∧ te σ3 H3 fun y H4 => ∃ b, y = .bl b ∧ if b = st then Q (.bl st) H4 else Pv (i + 1) H4) (hd : ∀ H1, Pv n H1 → Q (.bl (!st)) H1) : GB P st J g te vs σ H Q := by
  refine ⟨hT, fun i m H1 => m = n - i ∧ i ≤ n ∧ Pv i H1, ⟨n, by simp, Nat.zero_le _, h0⟩, ?_⟩
  rintro i m H1 ⟨rfl, hi, p⟩
  have q := hG i H1 hi p
  by_cases hlt : i < n
  · exact .inr ⟨w.goes i H1 hlt q, Pv (i + 1), fun H' p' => ⟨n - (i + 1), by omega, rfl, hlt, p'⟩, fun x H' y => hs i x H1 H' hlt p (w.yields i H1 x H' hlt q y)⟩
  · have e : i = n := by omega
    subst e
    exact .inl ⟨w.stops H1 q, hd H1 p⟩
theorem gb_list {K : PySem.W.Frag} {P : Addr} {st : Bool} {a : Addr} (xs : List V) {g : TG} {te : TE} {vs : List Nat} {σ : L2.St} {H : Hp} {Q : VK} (Pv : Nat → Hp → Prop) (hT : H P = some (TabX P)) (h0 : Pv 0 H) (hl : ∀ i H1, i ≤ xs.length → Pv i H1 → SqL K H1 a xs)
    (hs : ∀ i x H1, xs[i]? = some x → Pv i H1 → g x (wipe σ vs) H1 fun σ3 H3 => wipe σ3 vs = wipe σ vs ∧ te σ3 H3 fun y H4 => ∃ b, y = .bl b ∧ if b = st then Q (.bl st) H4 else Pv (i + 1) H4) (hd : ∀ H1, Pv xs.length H1 → Q (.bl (!st)) H1) : GB P st (Itl K a) g te vs σ H Q :=
  gb_it (walk_list (xs := xs)) Pv hT h0 hl (fun i x H1 H2 _ p y => by
    obtain ⟨e, y⟩ := y
    subst e
    exact hs i x _ y p) hd
theorem gb_tup {K : PySem.W.Frag} {P : Addr} {st : Bool} {a : Addr} (xs : List V) {g : TG} {te : TE} {vs : List Nat} {σ : L2.St} {H : Hp} {Q : VK} (Pv : Nat → Hp → Prop) (hT : H P = some (TabX P)) (h0 : Pv 0 H) (hl : ∀ i H1, i ≤ xs.length → Pv i H1 → SqT K H1 a xs)
    (hs : ∀ i x H1, xs[i]? = some x → Pv i H1 → g x (wipe σ vs) H1 fun σ3 H3 => wipe σ3 vs = wipe σ vs ∧ te σ3 H3 fun y H4 => ∃ b, y = .bl b ∧ if b = st then Q (.bl st) H4 else Pv (i + 1) H4) (hd : ∀ H1, Pv xs.length H1 → Q (.bl (!st)) H1) : GB P st (Itt K a) g te vs σ H Q :=
  gb_it (walk_tup (xs := xs)) Pv hT h0 hl (fun i x H1 H2 _ p y => by
    obtain ⟨e, y⟩ := y
    subst e
    exact hs i x _ y p) hd
/-- the tables of the defs that hold generator expressions -/
def Tb (T : List Addr) (H : Hp) : Prop := ∀ P ∈ T, H P = some (TabX P)
theorem Tb.same {T : List Addr} {H H' : Hp} (h : Tb T H) (s : Same H H') : Tb T H' := fun P hP => s _ _ (h P hP)
/-- a def whose own code object is known -/
theorem okC {P : Program} {w : World} {K : PySem.W.Frag} {mg : Str → Option Value} {base : Heap} {x qual : Str} {st : Stmt} {f : Addr} {fd : FuncData} {N ps : List Str} {k : Nat} {sp : Sp} (F : Fun K x qual st f fd) (S : FnScope N ps (defScope st)) (len : ∀ vs H Q E, sp vs H Q E → vs.length = ps.length)
    (hbody : ∀ (A : Around) (outer : List Env) (s : Shared) (H : Hp) (vs : List V) (Q : VK) (E : XK), Room k (A.deeper (envOfC qual (defScope st) s.heap.objs.size f fd.code)) → sp vs H Q E →
      ∃ t, PSs (cxOf CX0 P w K mg base N qual (defScope st) f fd.code A outer s H E).nox (defBody st) t ∧ t { nx := fun _ H' => Q .non H', rt := Q } (start N vs) H) : FnOk P w K mg base CX0 (k + 1) f fd ps sp := by
  obtain ⟨oc, od, kV, doc, pm, an, cdv, ct, osl, rfl, lk, hcd⟩ := F.ex
  refine fn_of lk hcd S len fun A outer s H vs Q E hr hsp => ?_
  obtain ⟨t, h, q⟩ := hbody A outer s H vs Q E hr hsp
  exact ⟨t, h.nox, q⟩
end Ct

/-! the end of a law whose defs hold generator expressions -/
namespace Ct
open PySem PySem.Spec PyProof.Rows L2
def codeOf : Value → Addr
  | .ref c => c
  | _ => 0
/-- where the table of a code object stands -/
def tabOf (K : PySem.W.Frag) (cd : Value) : Addr := match K.lookup (codeOf cd) with
  | some ⟨_, _, .fields vs, _⟩ => (match (vs : Array Value)[11]? with | some (Value.ref P) => P | _ => 0)
  | _ => 0
def tabOkB (K : PySem.W.Frag) (cd : Value) : Bool := match cd with
  | .ref c => (match K.lookup c with
    | some ⟨_, _, .fields vs, _⟩ => (match (vs : Array Value)[11]? with | some (Value.ref P) => (K.lookup P).isNone | _ => false)
    | _ => false)
  | _ => false
theorem tab_inv {K : PySem.W.Frag} {cd : Value} (h : tabOkB K cd = true) : ∃ e dd vs sl, cd = .ref (codeOf cd) ∧ K.lookup (codeOf cd) = some ⟨e, dd, .fields vs, sl⟩ ∧ vs[11]? = some (.ref (tabOf K cd)) ∧ K.lookup (tabOf K cd) = none := by
  unfold tabOkB at h
  cases cd with
  | ref c =>
    cases q : K.lookup c with
    | none =>
      simp only [q] at h
      cases h
    | some o =>
      obtain ⟨e, dd, dt, sl⟩ := o
      cases dt with
      | fields vs =>
        simp only [q] at h
        cases r : vs[11]? with
        | none =>
          simp only [r] at h
          cases h
        | some u =>
          cases u with
          | ref P =>
            simp only [r] at h
            have t : tabOf K (.ref c) = P := by
              unfold tabOf codeOf
              simp only [q, r]
            refine ⟨e, dd, vs, sl, rfl, q, ?_, ?_⟩
            · rw [t]
              exact r
            · rw [t]
              exact Option.isNone_iff_eq_none.mp h
          | _ =>
            simp only [r] at h
            cases h
      | _ =>
        simp only [q] at h
        cases h
  | _ => cases h
/-- a def that is called on the script -/
def RunOk (P : Program) (w : World) (K : PySem.W.Frag) (mg : Str → Option Value) (base : Heap) (fa : Addr) (fd : FuncData) (x : Str) (sp : Sp) : Prop :=
  ∀ (z : Shared) (H : Hp) (ws : List Value) (vs : List V) (Q : VK) (E : XK), Env0 P w K mg base callerA [] z H → BindsTo z fd ⟨ws, []⟩ ([x].zip ws) → Vals vs ws → sp vs H Q E → codeAny (model P w) callerA (.call (.ref fa) ⟨ws, []⟩) (CR CX0 [] P w H z Q E) z
/-- the script's own list, as it stands -/
def SqE (K : PySem.W.Frag) (H : Hp) (a : Addr) (xs : List V) : Prop := Rd H a (.lst xs) ∨ ∃ its : List Value, K.lookup a = some { cls := .type "list", data := .seq its.toArray } ∧ its.length ≤ sizeLine ∧ Vals xs its
theorem SqE.sql {K : PySem.W.Frag} {H : Hp} {a : Addr} {xs : List V} (h : SqE K H a xs) : SqL K H a xs := by
  rcases h with h | ⟨its, hk, hl, rv⟩
  · exact .inl h
  · exact .inr ⟨_, its.toArray, _, hk, rfl, rfl, rfl, by rw [List.size_toArray]; exact hl, by simpa using rv⟩
theorem SqE.same {K : PySem.W.Frag} {H H' : Hp} {a : Addr} {xs : List V} (h : SqE K H a xs) (s : Same H H') : SqE K H' a xs := by
  rcases h with (h | ⟨o, h⟩) | h
  · exact .inl (.inl (s _ _ h))
  · exact .inl (.inr ⟨o, s _ _ h⟩)
  · exact .inr h
/-- the script's list and a tracked one, one behind the other -/
def rCatE (K : PySem.W.Frag) : R2 := fun x y H Q => ∃ a b xs ys, x = .ref a ∧ y = .ref b ∧ SqE K H a xs ∧ H b = some (.lst ys) ∧ xs.length + ys.length ≤ sizeLine ∧ ∀ p, H p = none → Q (.ref p) (upd H p (.lst (xs ++ ys)))
theorem op_catE {X : Cx} : OpR X (binaryOp .Add) (rCatE X.K) := by
  intro pins s σ H x y v u Q I rx ry h
  obtain ⟨a, b, xs, ys, rfl, rfl, ha, hb, few, q⟩ := h
  cases rx
  cases ry
  obtain ⟨its, n, rv, ea⟩ : ∃ (its : List Value) (n : Nat), Vals xs its ∧ s.heap.get? a = some { cls := .type "list", data := .seq its.toArray n } := by
    rcases ha with h | ⟨its, hk, _, rv⟩
    · obtain ⟨_, its, n, rv, e⟩ := h.ok I.hok
      exact ⟨its, n, rv, e⟩
    · exact ⟨its, _, rv, I.kIn _ _ hk⟩
  obtain ⟨_, jts, m, rw', _, eb⟩ := I.lstM hb
  have l1 := rv.length
  have l2 := rw'.length
  refine PySem.P.add_list ea eb ?_ (by rw [List.size_toArray, List.size_toArray]; omega)
  rw [show its.toArray ++ jts.toArray = (its ++ jts).toArray by simp]
  exact ⟨.ref _, _, I.lnew (t' := s.toks) (rv.append rw') (by rw [List.length_append]; omega), rfl, q _ I.fresh⟩
theorem law_callX {P : Program} {w : World} {K : PySem.W.Frag} {mg mb : Str → Option Value} {fa a : Addr} {cs : List (Addr × Addr)} {fd : FuncData} {x : Str} {sp : Sp} {s₁ : Shared} {vs : List Value} {ns : List Int}
    (KX : K.In s₁.heap) (hns : s₁.heap.Ns mainGlobals mg) (hb : s₁.heap.Ns builtinsNs mb) (hbb : ∀ x : Str, x ≠ "__name__" → mb x = bootBuiltins x) (hlim : s₁.heap.NoLimit) (hg : s₁.gens = #[])
    (hT : ∀ p ∈ cs, s₁.heap.get? p.2 = some { cls := .none, data := .fields #[] }) (nT : ∀ p ∈ cs, K.lookup p.2 = none) (C : ∀ p ∈ cs, PySem.W.CodeHd s₁.heap p.1 p.2)
    (hbm : ∃ (bm : Addr) (ob : Obj), mg "__builtins__" = some (.ref bm) ∧ bm ≠ builtinsNs ∧ s₁.heap.get? bm = some ob ∧ ob.cls = .type "module" ∧ ob.dict = some builtinsNs ∧ ob.data = .plain)
    (ha : s₁.heap.get? a = some { cls := .type "list", data := .seq vs.toArray }) (hi : IntsAre vs ns) (hl : ns.length ≤ sizeLine)
    (F : ∀ base : Heap, K.In base → base.Ns mainGlobals mg → (∀ p ∈ cs, GxR.TabB base mg p.1 p.2) → RunOk P w K mg base fa fd x sp) (hbind : ∀ (s : Shared) (u : Value), BindsTo s fd ⟨[u], []⟩ [(x, u)])
    (hsp : ∀ H : Hp, (∀ p ∈ cs, H p.2 = some (TabX p.2)) → SqE K H a (ns.map V.int) → sp [.ref a] H (fun v H' => v = .bl true ∧ Same H H') fun _ _ _ => False) :
    codeAny (model P w) callerA (.call (.ref fa) ⟨[.ref a], []⟩) (fun r s' => r = .ok (.ret (.bool true)) ∧ OldK s₁.heap s'.heap ∧ s'.os = s₁.os ∧ AllBare s'.gens) s₁ := by
  have rv := vals_ints hi
  have lenV := hi.length
  have isT : ∀ b : Addr, b ∈ cs.map (·.2) → s₁.heap.get? b = some { cls := .none, data := .fields #[] } := fun b hb => by
    obtain ⟨p, hp, e⟩ := List.mem_map.mp hb
    rw [← e]
    exact hT p hp
  have aT : a ∉ cs.map (·.2) := fun z => by
    have q := isT a z
    rw [ha] at q
    have z' : Data.seq vs.toArray _ = Data.fields #[] := congrArg Obj.data (Option.some.inj q)
    cases z'
  have memT : ∀ p ∈ cs, p.2 ∈ cs.map (·.2) := fun p hp => List.mem_map.mpr ⟨p, hp, rfl⟩
  have core : ∀ H : Hp, (∀ b, b ∈ cs.map (·.2) → H b = some (TabX b)) → (∀ b, H b = none ∨ b ∈ cs.map (·.2) ∨ ∃ o xs, H b = some (.frz o (.lst xs))) → SqE K H a (ns.map V.int) → HOk P w H s₁.heap → (∀ b, H b ≠ none → b = a ∨ b ∈ cs.map (·.2)) → (H a ≠ none → K.lookup a = none) →
      codeAny (model P w) callerA (.call (.ref fa) ⟨[.ref a], []⟩) (fun r s' => r = .ok (.ret (.bool true)) ∧ OldK s₁.heap s'.heap ∧ s'.os = s₁.os ∧ AllBare s'.gens) s₁ := by
    intro H hH hO hS hok hA hK
    have base_of : ∀ {b : Addr} {o : Obj}, s₁.heap.get? b = some o → H b = none → (hidT s₁.heap H).get? b = some o := fun e n => hidT_get e n
    have noD : ∀ {b : Addr} {o : Obj}, s₁.heap.get? b = some o → (∀ vs n, o.data ≠ .seq vs n) → o.data ≠ .fields #[] → H b = none := fun {b o} e h1 h2 => by
      cases q : H b with
      | none => rfl
      | some u =>
        rcases hA b (by rw [q]; simp) with e' | e'
        · rw [e', ha] at e
          cases e
          exact (h1 _ _ rfl).elim
        · rw [isT b e'] at e
          cases e
          exact (h2 rfl).elim
    have noA : ∀ {b : Addr} {o : Obj} {es : Array DictEntry} {ep : Nat}, s₁.heap.get? b = some o → o.data = .dict es ep → H b = none := fun {b o es ep} e d => by
      refine noD e (fun vs n z => ?_) fun z => ?_
      · rw [d] at z
        cases z
      · rw [d] at z
        cases z
    have nsK : ∀ {b : Addr} {m : Str → Option Value}, s₁.heap.Ns b m → (hidT s₁.heap H).Ns b m := fun {b m} ⟨o, es, ep, e, d, r⟩ => ⟨o, es, ep, base_of e (noA e d), d, r⟩
    have hKb : K.In (hidT s₁.heap H) := fun b o e => base_of (KX b o e) (by
      cases q : H b with
      | none => rfl
      | some u =>
        rcases hA b (by rw [q]; simp) with e' | e'
        · rw [e'] at e q
          rw [hK (by rw [q]; simp)] at e
          cases e
        · obtain ⟨p, hp, ep⟩ := List.mem_map.mp e'
          rw [← ep, nT p hp] at e
          cases e)
    have hM : L2.Mod K mg (hidT s₁.heap H) := ⟨hKb, nsK hns, ⟨mb, nsK hb, hbb⟩, let ⟨mc, h1, h2⟩ := hlim; ⟨mc, nsK h1, h2⟩⟩
    have TB : ∀ p ∈ cs, GxR.TabB (hidT s₁.heap H) mg p.1 p.2 := fun p hp => by
      have hTp := hT p hp
      refine ⟨?_, ?_, fun z => ?_⟩
      · obtain ⟨o, us, file, tf, flags, tg, inF, text, tt, e1, r1, r2, r3, r4, r5, r6, r7, r8, hne⟩ := C p hp
        refine ⟨o, us, file, tf, flags, tg, inF, text, tt, base_of e1 (noD e1 (fun vs n z => ?_) fun z => ?_), r1, r2, r3, r4, r5, r6, r7, r8, hne⟩
        · rw [r2] at z
          cases z
        · rw [r2] at z
          cases z
          simp at r3
      · obtain ⟨bm, ob, b1, b2, b3, b4, b5, b6⟩ := hbm
        have nG : bm ≠ mainGlobals := fun q => by
          obtain ⟨o, es, ep, e, hd, _⟩ := hns
          rw [q, e] at b3
          cases b3
          rw [hd] at b6
          cases b6
        have nP : bm ≠ p.2 := fun q => by
          rw [q, hTp] at b3
          cases b3
          cases b6
        refine ⟨bm, ob, b1, b2, nG, nP, base_of b3 (noD b3 (fun vs n z => ?_) fun z => ?_), b4, b5, b6⟩
        · rw [b6] at z
          cases z
        · rw [b6] at z
          cases z
      · obtain ⟨o, es, ep, e, hd, _⟩ := hns
        rw [z, hTp] at e
        cases e
        cases hd
    have e0 : Env0 P w K mg (hidT s₁.heap H) callerA [] s₁ H := ⟨rfl, hM, fun b o e => of_hidT e, Nat.le_of_eq (hidT_size _ _), trivial, fun b hb => absurd (show b ∈ ([] : List Addr) from hb) (by simp), hok, .of_eq hg⟩
    refine codeAny_mono (F _ hKb (nsK hns) TB s₁ H [.ref a] [.ref a] _ _ e0 (hbind s₁ (.ref a)) (.cons rfl .nil) (hsp H (fun p hp => hH _ (memT p hp)) hS)) fun r s' h => ?_
    cases r with
    | error e => exact (show False from h).elim
    | ok fl =>
      cases fl with
      | next => exact False.elim h
      | brk => exact False.elim h
      | cont => exact False.elim h
      | ret u =>
        obtain ⟨v, H', os, bare, un, hok', r', q, sm⟩ := h
        subst q
        obtain rfl : u = Value.bool true := r'
        have key : ∀ b o, b ∉ cs.map (·.2) → s₁.heap.get? b = some o → s'.heap.get? b = some o := fun b o nb e => by
          cases q : H b with
          | none => exact un.keep b o e q (by intro z; exact absurd (show b ∈ ([] : List Addr) from z) (by simp)) (by simp)
          | some u =>
            rcases hO b with z | z | ⟨ob, xs, z⟩
            · rw [q] at z; cases z
            · exact absurd z nb
            · have z2 := un.frzs b ob _ z
              obtain ⟨e1, _⟩ := hok b _ z
              obtain ⟨e2, _⟩ := hok' b _ z2
              rw [e] at e1; cases e1
              exact e2
        have grown : ∀ p ∈ cs, ∃ more : Array Value, s'.heap.get? p.2 = some { cls := .none, data := .fields more } := fun p hp => by
          obtain ⟨⟨more, z, _⟩, _⟩ := hok' p.2 _ (sm _ _ (hH _ (memT p hp)))
          exact ⟨_, z⟩
        refine ⟨rfl, ⟨fun b o e => ?_, fun b o e => ?_⟩, os, bare⟩
        · by_cases hb : b ∈ cs.map (·.2)
          · obtain ⟨p, hp, ep⟩ := List.mem_map.mp hb
            obtain ⟨more, hm⟩ := grown p hp
            rw [← ep] at e ⊢
            rw [hT p hp] at e
            cases e
            exact .inr (.inl ⟨((C p hp).tab (hT p hp)).isCodeTable, rfl, #[], more, rfl, by rw [Array.empty_append]; exact hm⟩)
          · exact .inl (key b o hb e)
        · by_cases hb : b ∈ cs.map (·.2)
          · obtain ⟨p, hp, ep⟩ := List.mem_map.mp hb
            obtain ⟨more, hm⟩ := grown p hp
            rw [← ep]
            exact ⟨_, hm⟩
          · exact ⟨o, key b o hb e⟩
  cases hk : K.lookup a with
  | some o =>
    have e := KX a o hk
    rw [ha] at e
    cases e
    refine core (fun b => if b ∈ cs.map (·.2) then some (TabX b) else none) (fun b hb => if_pos hb) (fun b => ?_) (.inr ⟨vs, hk, by rw [lenV]; exact hl, rv⟩) (fun b u z => ?_) (fun b z => ?_) fun z => absurd (show (if a ∈ cs.map (·.2) then some (TabX a) else none) = none from if_neg aT) z
    · by_cases hb : b ∈ cs.map (·.2)
      · exact .inr (.inl hb)
      · exact .inl (if_neg hb)
    · by_cases hb : b ∈ cs.map (·.2)
      · have z' := (if_pos hb).symm.trans z
        cases z'
        exact tabx_ok (isT b hb) True.intro
      · have z' := (if_neg hb).symm.trans z
        cases z'
    · by_cases hb : b ∈ cs.map (·.2)
      · exact .inr hb
      · exact absurd (if_neg hb) z
  | none =>
    refine core (fun b => if b = a then some (.frz { cls := .type "list", data := .seq vs.toArray } (.lst (ns.map V.int))) else if b ∈ cs.map (·.2) then some (TabX b) else none) (fun b hb => (if_neg (show ¬ b = a from fun z => aT (by rw [← z]; exact hb))).trans (if_pos hb)) (fun b => ?_)
      (.inl (.inr ⟨{ cls := .type "list", data := .seq vs.toArray }, if_pos rfl⟩)) (fun b u z => ?_) (fun b z => ?_) fun _ => hk
    · by_cases hb : b = a
      · exact .inr (.inr ⟨_, _, if_pos hb⟩)
      · by_cases hb2 : b ∈ cs.map (·.2)
        · exact .inr (.inl hb2)
        · exact .inl ((if_neg hb).trans (if_neg hb2))
    · by_cases hb : b = a
      · have z' := (if_pos hb).symm.trans z
        cases z'
        rw [hb]
        exact ⟨ha, by rw [List.length_map]; exact hl, vs, _, rv, ha⟩
      · have z1 := (if_neg hb).symm.trans z
        by_cases hb2 : b ∈ cs.map (·.2)
        · have z' := (if_pos hb2).symm.trans z1
          cases z'
          exact tabx_ok (isT b hb2) True.intro
        · have z' := (if_neg hb2).symm.trans z1
          cases z'
    · by_cases hb : b = a
      · exact .inl hb
      · by_cases hb2 : b ∈ cs.map (·.2)
        · exact .inr hb2
        · exact absurd ((if_neg hb).trans (if_neg hb2)) z
/-- what is known of the law's promise: cs, the defs that hold generator expressions and their code objects -/
def LawAtX (l : PySem.W.OpenLaw) (w : World) (K : PySem.W.Frag) (n : Nat) (x : Str) (mg : Str → Option Value) (fa : Addr) (defs : List Str) : Prop :=
  ∃ (fd : FuncData) (cs : List (Str × Value)) (sp : Sp), (∀ p ∈ cs, p.1 ∈ defs ∧ ∃ (f : Addr) (oc : Value) (od : Option Addr) (fdx : FuncData) (osl : Array (Option Value)), mg p.1 = some (.ref f) ∧ K.lookup f = some ⟨oc, od, .func fdx, osl⟩ ∧ fdx.code = p.2 ∧ tabOkB K p.2 = true) ∧ (∀ (s : Shared) (u : Value), BindsTo s fd ⟨[u], []⟩ [(x, u)]) ∧
    (∀ (H : Hp) (a : Addr) (ns : List Int), ns.length ≤ n → (∀ p ∈ cs, H (tabOf K p.2) = some (TabX (tabOf K p.2))) → SqE K H a (ns.map V.int) → sp [.ref a] H (fun v H' => v = .bl true ∧ Same H H') fun _ _ _ => False) ∧
    ∀ base : Heap, K.In base → base.Ns mainGlobals mg → (∀ p ∈ cs, GxR.TabB base mg (codeOf p.2) (tabOf K p.2)) → RunOk l.prog w K mg base fa fd x sp
theorem walk_ofX {l : PySem.W.OpenLaw} {n : Nat} {q : Program} {loose : List Str} {XP : (Str → Option Value) → Heap → Prop} {YP : World → Heap → Prop} {d : DefRec} {K : Params → PySem.W.Frag} {x : Str} {defs : List Str}
    (hn : l.most = some n) (hn2 : n ≤ sizeLine) (hdf : d.params.defaults = []) (hrec : (defs.all fun y => (recsOf q).any fun e => e.name == y) = true) (hY : ∀ (w : World) (h : Heap), YP w h → (K w.params).In h)
    (F : ∀ (w : World) (mg : Str → Option Value) (fa : Addr) (h : Heap), (K w.params).In h → h.Ns mainGlobals mg → mg d.name = some (.ref fa) → LawAtX l w (K w.params) n x mg fa defs) :
    PySem.W.WalkO q loose XP YP l.row.toRowW d [] (fun f vs => PySem.call f vs) := by
  refine Att.attach_callB hn hdf fun w s₀ s₁ mg mb fa o pm cd doc a vs ns G Y ho hd hcd hmg hobj hints hlen hbits hg => ?_
  have KX := hY w _ Y
  obtain ⟨fd, cs, sp, hcs, hb, hsp, hF⟩ := F w mg fa _ KX G.T.g hmg
  have facts : ∀ p ∈ cs, s₁.heap.get? (tabOf (K w.params) p.2) = some { cls := .none, data := .fields #[] } ∧ (K w.params).lookup (tabOf (K w.params) p.2) = none ∧ PySem.W.CodeHd s₁.heap (codeOf p.2) (tabOf (K w.params) p.2) := fun p hp => by
    obtain ⟨hm, f, oc, od, fdx, osl, g1, g2, g3, g4⟩ := hcs p hp
    obtain ⟨e, dd, us, sl, t1, t2, t3, t4⟩ := tab_inv g4
    obtain ⟨dL, hdm, hn1⟩ := List.any_eq_true.mp (List.all_eq_true.mp hrec _ hm)
    have hn2 : dL.name = p.1 := beq_iff_eq.mp hn1
    obtain ⟨a', o', fd', c', P', h1, h2, h3, h4, h5, h6⟩ := G.T.tab dL hdm
    rw [hn2, g1] at h1
    cases h1
    rw [KX _ _ g2] at h2
    cases h2
    cases h3
    rw [g3, t1] at h4
    cases h4
    obtain ⟨⟨ob, vc, e1, e2, e3, e4⟩, hP⟩ := id h6
    rw [KX _ _ t2] at e1
    cases e1
    cases e3
    rw [t3] at e4
    cases e4
    exact ⟨hP, t4, .of h5 h6⟩
  refine law_callX (cs := cs.map fun p => (codeOf p.2, tabOf (K w.params) p.2)) KX G.T.g G.T.b G.T.builtins G.T.nolimit hg ?_ ?_ ?_ G.T.bmain hobj hints (Nat.le_trans hlen hn2) (fun base h1 h2 h3 => hF base h1 h2 fun p hp => h3 _ (List.mem_map.mpr ⟨p, hp, rfl⟩)) hb fun H hH hS => hsp H a ns hlen (fun p hp => hH _ (List.mem_map.mpr ⟨p, hp, rfl⟩)) hS
  · intro p hp
    obtain ⟨q, hq, rfl⟩ := List.mem_map.mp hp
    exact (facts q hq).1
  · intro p hp
    obtain ⟨q, hq, rfl⟩ := List.mem_map.mp hp
    exact (facts q hq).2.1
  · intro p hp
    obtain ⟨q, hq, rfl⟩ := List.mem_map.mp hp
    exact (facts q hq).2.2
theorem RunOk.of {P : Program} {w : World} {K : PySem.W.Frag} {mg : Str → Option Value} {base : Heap} {k : Nat} {fa : Addr} {fd : FuncData} {x : Str} {sp : Sp} (hr : Room k callerA) (F : FnOk P w K mg base CX0 k fa fd [x] sp) : RunOk P w K mg base fa fd x sp :=
  fun z H ws vs Q E e b r h => F.run callerA [] z H ⟨ws, []⟩ ws vs Q E hr e b r h
end Ct

/-! a list of draws: a number, how often it was drawn from, a truth; it is written -/
namespace Ct
open PySem PySem.Spec PyProof.Rows L2
def DrO (a : Addr) (c : Nat) : HO := .ext fun h => ∃ (n : Int) (b : Bool) (its : List Value) (m : Nat), Vals [.int n, .int (c : Int), .bl b] its ∧ h.get? a = some { cls := .type "list", data := .seq its.toArray m }
theorem drO_ok {P : Program} {w : World} {H : Hp} {h : Heap} {a : Addr} {c : Nat} {n : Int} {b : Bool} {its : List Value} {m : Nat} (r : Vals [.int n, .int (c : Int), .bl b] its) (e : h.get? a = some { cls := .type "list", data := .seq its.toArray m }) : ObjOk P w H h a (DrO a c) :=
  ⟨⟨n, b, its, m, r, e⟩, ⟨_, e⟩, fun _ _ ⟨n, b, its, m, r, e⟩ keep => ⟨n, b, its, m, r, keep _ e⟩⟩
section
variable {X : Cx}
theorem dr_get {pins : List (Addr × Obj)} {σ : L2.St} {H : Hp} {s : Shared} {p : Addr} {c : Nat} (I : Inv X pins σ H s) (h : H p = some (DrO p c)) : ∃ (n : Int) (b : Bool) (its : List Value) (m : Nat), Vals [.int n, .int (c : Int), .bl b] its ∧ s.heap.get? p = some { cls := .type "list", data := .seq its.toArray m } :=
  (show ObjOk X.prog X.w H s.heap p (DrO p c) from I.hok p _ h).1
def rIxDr : R2 := fun x y H Q => ∃ (p : Addr) (i : Int) (c : Nat), x = .ref p ∧ y = .int i ∧ H p = some (DrO p c) ∧ (i = 0 ∧ (∀ n : Int, Q (.int n) H) ∨ i = 1 ∧ Q (.int (c : Int)) H ∨ i = 2 ∧ ∀ b, Q (.bl b) H)
theorem ix_dr : IxR X rIxDr := by
  intro value slice pins s σ H x y v u Q I rx ry h hs
  obtain ⟨p, i, c, rfl, rfl, hp, q⟩ := h
  cases rx
  obtain ⟨t, rfl⟩ := ry
  obtain ⟨n, b, its, m, r, e⟩ := dr_get I hp
  have pl : PlainL s.heap p its.toArray := ⟨_, m, e, rfl, rfl, rfl⟩
  have hl := r.length
  have hn := line63
  rcases q with ⟨rfl, q⟩ | ⟨rfl, q⟩ | ⟨rfl, q⟩
  · obtain ⟨w, ew, rw'⟩ := r.get (i := 0) (x := .int n) rfl
    exact item_listR pl.isList (by decide) (by omega) (by simpa using ew) ⟨.int n, H, I, rw', q n⟩ hs
  · obtain ⟨w, ew, rw'⟩ := r.get (i := 1) (x := .int (c : Int)) rfl
    exact item_listR pl.isList (by decide) (by omega) (by simpa using ew) ⟨.int (c : Int), H, I, rw', q⟩ hs
  · obtain ⟨w, ew, rw'⟩ := r.get (i := 2) (x := .bl b) rfl
    exact item_listR pl.isList (by decide) (by omega) (by simpa using ew) ⟨.bl b, H, I, rw', q b⟩ hs
def rSetDr : V → V → V → Hp → (Hp → Prop) → Prop := fun o i v H Q => ∃ (p : Addr) (k : Int) (c : Nat), o = .ref p ∧ i = .int k ∧ H p = some (DrO p c) ∧ (k = 0 ∧ (∃ n : Int, v = .int n) ∧ Q (upd H p (DrO p c)) ∨ k = 1 ∧ ∃ c' : Nat, v = .int (c' : Int) ∧ Q (upd H p (DrO p c')))
theorem dr_write {pins : List (Addr × Obj)} {σ : L2.St} {H : Hp} {s : Shared} {p : Addr} {c c' : Nat} {its its' : List Value} {m m' : Nat} {f : Obj → Obj} {n : Int} {b : Bool} (I : Inv X pins σ H s) (h : H p = some (DrO p c))
    (ho : s.heap.get? p = some { cls := .type "list", data := .seq its.toArray m }) (hf : f { cls := .type "list", data := .seq its.toArray m } = { cls := .type "list", data := .seq its'.toArray m' }) (r : Vals [.int n, .int (c' : Int), .bl b] its') (t : Nat) :
    Inv X pins σ (upd H p (DrO p c')) { s with heap := s.heap.update p f, toks := t } := by
  have e : (s.heap.update p f).get? p = some { cls := .type "list", data := .seq its'.toArray m' } := by
    rw [Heap.get?_update_self f ho (by rw [hf] <;> rfl), hf]
  exact I.write (x := p) (e := p) (by rw [h]; trivial) (.inl rfl) (fun b u hb q => (Heap.get?_update_other _ _ (Ne.symm hb)).trans q) ⟨_, e⟩ (drO_ok r e)
theorem set_dr : PSet X rSetDr := by
  intro pins s σ H o i v ov iv u Q I ro ri rv h
  obtain ⟨p, k, c, rfl, rfl, hp, q⟩ := h
  cases ro
  obtain ⟨t, rfl⟩ := ri
  obtain ⟨n, b, its, m, r, e⟩ := dr_get I hp
  have hl := r.length
  have hn := line63
  rcases q with ⟨rfl, ⟨n', rfl⟩, q⟩ | ⟨rfl, c', rfl, q⟩
  · have I' := dr_write I hp e (mapSeq_set its m 0 u) (r.set rv 0) s.toks
    exact PySem.W.ki_setAt e (by decide) (by omega) (by rw [List.size_toArray, ← hl]; show (0 : Int) < ((3 : Nat) : Int); decide) ⟨_, I', q⟩
  · have I' := dr_write I hp e (mapSeq_set its m 1 u) (r.set rv 1) s.toks
    exact PySem.W.ki_setAt e (by decide) (by omega) (by rw [List.size_toArray, ← hl]; show (1 : Int) < ((3 : Nat) : Int); decide) ⟨_, I', q⟩
def tLstDr (t : TA) : TE := fun σ H Q => t σ H fun xs H1 => ∃ (n : Int) (c : Nat) (b : Bool), xs = [.int n, .int (c : Int), .bl b] ∧ ∀ p, H1 p = none → Q (.ref p) (upd H1 p (DrO p c))
theorem pe_lstDr {es : List Expr} {t : TA} {pos : Pos} (h : PA X es t) : PE X (.List es pos) (tLstDr t) := by
  refine ⟨fun pins s σ H Q I hq => ?_⟩
  refine wpAny_List_spliced (thn (h.run pos pins s σ H _ I hq) fun us s1 ⟨xs, H1, I1, r, n, c, b, ex, q⟩ => ?_)
  subst ex
  refine ⟨by rw [← r.length]; show 3 ≤ sizeLine; decide, ?_⟩
  have hf : H1 s1.heap.objs.size = none := I1.hok.fresh (Nat.le_refl _)
  exact ⟨.ref s1.heap.objs.size, upd H1 s1.heap.objs.size (DrO _ c), I1.laid (t' := s1.toks) (fun b u e => Heap.get?_push_of_some _ e) (Nat.le_refl _) (drO_ok r (Heap.get?_push_size _ rfl)), rfl, q _ hf⟩
end
section
variable {H : Hp} {σ : L2.St} {Q : VK}
theorem w_lstDr {t : TA} (h : t σ H fun xs H1 => ∃ (n : Int) (c : Nat) (b : Bool), xs = [.int n, .int (c : Int), .bl b] ∧ ∀ p, H1 p = none → Q (.ref p) (upd H1 p (DrO p c))) : tLstDr t σ H Q := h
theorem w_dr0 {p : Addr} {c : Nat} (h : H p = some (DrO p c)) (q : ∀ n : Int, Q (.int n) H) : rIxDr (.ref p) (.int 0) H Q := ⟨p, 0, c, rfl, rfl, h, .inl ⟨rfl, q⟩⟩
theorem w_dr1 {p : Addr} {c : Nat} (h : H p = some (DrO p c)) (q : Q (.int (c : Int)) H) : rIxDr (.ref p) (.int 1) H Q := ⟨p, 1, c, rfl, rfl, h, .inr (.inl ⟨rfl, q⟩)⟩
theorem w_dr2 {p : Addr} {c : Nat} (h : H p = some (DrO p c)) (q : ∀ b, Q (.bl b) H) : rIxDr (.ref p) (.int 2) H Q := ⟨p, 2, c, rfl, rfl, h, .inr (.inr ⟨rfl, q⟩)⟩
end
/-- the draws at D were drawn from, c times by now; all else that was tracked stays -/
def Dr (D : Addr) (c : Nat) (H H' : Hp) : Prop := But D H H' ∧ H' D = some (DrO D c)
theorem Dr.refl {D : Addr} {c : Nat} {H : Hp} (h : H D = some (DrO D c)) : Dr D c H H := ⟨But.refl, h⟩
theorem Dr.next {D : Addr} {c : Nat} {H H' : Hp} (h : Dr D c H H') (c' : Nat) : Dr D c' H (upd H' D (DrO D c')) := ⟨h.1.trans but_upd, upd_same⟩
theorem Dr.same {D : Addr} {c : Nat} {H H' H2 : Hp} (h : Dr D c H H') (s : Same H' H2) : Dr D c H H2 := ⟨h.1.trans (but_same s), s _ _ h.2⟩
theorem Dr.trans {D : Addr} {c c' : Nat} {H H' H2 : Hp} (h : Dr D c H H') (g : Dr D c' H' H2) : Dr D c' H H2 := ⟨h.1.trans g.1, g.2⟩
theorem Dr.ext {D : Addr} {c : Nat} {H H' : Hp} (h : Dr D c H H') : Ext H' D := ⟨_, h.2⟩
theorem drO_ext {D : Addr} {c : Nat} {H : Hp} (h : H D = some (DrO D c)) : Ext H D := ⟨_, h⟩
theorem Dr.free {D : Addr} {c : Nat} {H H' : Hp} (h : Dr D c H H') {a : Addr} (n : H' a = none) : H a = none := by
  cases e : H a with
  | none => rfl
  | some o =>
    by_cases z : a = D
    · rw [z, h.2] at n
      cases n
    · rw [h.1 a o z e] at n
      cases n
/-- a list made in between is not the draws -/
theorem Dr.at {D l : Addr} {c c' : Nat} {H H' : Hp} {o : HO} (h : Dr D c H H') (hD : H D = some (DrO D c')) (hl : H l = some o) (ne : ∀ f, o ≠ .ext f := by intro f z; cases z) : H' l = some o :=
  h.1 l o (fun z => by rw [z, hD] at hl; exact ne _ (Option.some.inj hl).symm) hl
/-- a list made since is written -/
theorem Dr.put {D l : Addr} {c : Nat} {H H' : Hp} {o o' : HO} (h : Dr D c H H') (n : H l = none) (hl : H' l = some o) (ne : ∀ f, o ≠ .ext f := by intro f z; cases z) : Dr D c H (upd H' l o') := by
  have lD : l ≠ D := fun z => by rw [z, h.2] at hl; exact ne _ (Option.some.inj hl).symm
  refine ⟨fun a u na ha => ?_, by rw [upd_ne lD.symm]; exact h.2⟩
  rw [upd_ne (fun z => by rw [z, n] at ha; cases ha)]
  exact h.1 a u na ha
theorem rep_flat (w : V) : ∀ k : Nat, (List.replicate k [w]).flatten = List.replicate k w
  | 0 => rfl
  | k + 1 => by
    rw [List.replicate_succ, List.flatten_cons, rep_flat w k, List.replicate_succ]
    rfl
theorem cut_toB (xs : List V) (k : Nat) : cutV xs none (some (k : Int)) = xs.take k := by
  unfold cutV
  rw [HT.sIx_none, HT.sIx_nat, List.drop_zero, Nat.sub_zero]
  by_cases h : k ≤ xs.length
  · rw [Nat.min_eq_left h]
  · rw [Nat.min_eq_right (by omega), List.take_length, List.take_of_length_le (by omega)]
/-- a show: a way, and what was shown -/
def sh2D (s : Int × Int) : PyData := .tuple [.int s.1, .int s.2]
def Sh2Ok (s : Int × Int) : Prop := Sign s.1 ∧ (s.2 = 0 ∨ Sign s.2)
theorem sh2_inv {K : PySem.W.Frag} {H : Hp} {v : V} {s : Int × Int} (h : Dp K H v (sh2D s)) : ∃ a, v = .ref a ∧ SqT K H a [.int s.1, .int s.2] := by
  obtain ⟨a, vs, rfl, h1, h2⟩ := tup_inv h
  cases dpAll_ints_inv [s.1, s.2] h2
  exact ⟨a, rfl, h1⟩
theorem sh2_dp {K : PySem.W.Frag} {H : Hp} {a : Addr} {s : Int × Int} (h : SqT K H a [.int s.1, .int s.2]) : Dp K H (.ref a) (sh2D s) := .tup h (.cons (.int _) (.cons (.int _) .nil))
theorem sh2_upd {K : PySem.W.Frag} {H : Hp} {l : Addr} {ws : List V} {o : HO} (hl : H l = some (.lst ws)) {v : V} {s : Int × Int} (h : Dp K H v (sh2D s)) : Dp K (upd H l o) v (sh2D s) := by
  obtain ⟨g, rfl, hg⟩ := sh2_inv h
  exact sh2_dp (sqT_upd hg hl)
theorem sh2s_upd {K : PySem.W.Frag} {H : Hp} {l : Addr} {ws : List V} {o : HO} (hl : H l = some (.lst ws)) : ∀ {vs : List V} {ss : List (Int × Int)}, DpAll K H vs (ss.map sh2D) → DpAll K (upd H l o) vs (ss.map sh2D)
  | _, [], .nil => .nil
  | _, s :: ss, .cons h t => .cons (sh2_upd hl h) (sh2s_upd hl t)
theorem lay_sh2s (ss : List (Int × Int)) : (PyData.list (ss.map sh2D)).canLay0 = true ∧ (PyData.list (ss.map sh2D)).depth ≤ 2 := lay_lst fun d hd => by
  obtain ⟨w, _, rfl⟩ := List.mem_map.mp hd
  exact lay_tup (n := 0) (lay_ints [w.1, w.2] 0)
theorem Dr.step {D : Addr} {c : Nat} {H : Hp} (h : H D = some (DrO D c)) (c' : Nat) : Dr D c' H (upd H D (DrO D c')) := (Dr.refl h).next c'
theorem Dr.all {K : PySem.W.Frag} {D : Addr} {c c' : Nat} {H H' : Hp} (d : Dr D c' H H') (h : H D = some (DrO D c)) {vs : List V} {ds : List PyData} (x : DpAll K H vs ds) : DpAll K H' vs ds := dpAll_but (drO_ext h) d.1 x
/-- a pass: what came, at which tooth, what was shown -/
abbrev Pass := Int × Int × Int
def passD (s : Pass) : PyData := .tuple [.int s.1, .int s.2.1, .int s.2.2]
theorem pass_inv {K : PySem.W.Frag} {H : Hp} {v : V} {s : Pass} (h : Dp K H v (passD s)) : ∃ a, v = .ref a ∧ SqT K H a [.int s.1, .int s.2.1, .int s.2.2] := by
  obtain ⟨a, vs, rfl, h1, h2⟩ := tup_inv h
  cases dpAll_ints_inv [s.1, s.2.1, s.2.2] h2
  exact ⟨a, rfl, h1⟩
def unlk (p q : Pass) : Bool := !decide (p.1 = 0) && (!decide (q.1 = 0) && (decide (p.2.2 = 0) != decide (q.2.2 = 0)))
/-- two passes at the same tooth that are unlike -/
def Hit (ps : List Pass) (t : Int) (j k : Nat) : Prop := ∃ p q : Pass, ps[j]? = some p ∧ ps[k]? = some q ∧ p.2.1 % t = q.2.1 % t ∧ unlk p q = true
def NoHit (ps : List Pass) (t : Int) (n : Nat) : Prop := ∀ j k, j < k → k < n → ¬ Hit ps t j k
theorem unlk_came {p q : Pass} (h : unlk p q = true) : p.1 ≠ 0 ∧ q.1 ≠ 0 ∧ (decide (p.2.2 = 0) ≠ decide (q.2.2 = 0)) := by
  unfold unlk at h
  simp only [Bool.and_eq_true, Bool.not_eq_true', decide_eq_false_iff_not, bne_iff_ne, ne_eq] at h
  exact ⟨h.1, h.2.1, h.2.2⟩
theorem unlk_of {p q : Pass} (h1 : p.1 ≠ 0) (h2 : q.1 ≠ 0) (h : unlk p q = false) : decide (p.2.2 = 0) = decide (q.2.2 = 0) := by
  unfold unlk at h
  rw [decide_eq_false h1, decide_eq_false h2] at h
  simpa using h
theorem unlk_self (p : Pass) : unlk p p = false := by
  unfold unlk
  simp
/-- what is kept of the first n passes: the first one at each tooth -/
structure Kept (ps : List Pass) (t : Int) (n : Nat) (kvs : List (Key × V)) : Prop where
  is : ∀ r v, valV kvs (Sum.inl r) = some v → ∃ (j : Nat) (p : Pass), v = .int (j : Int) ∧ j < n ∧ ps[j]? = some p ∧ p.1 ≠ 0 ∧ p.2.1 % t = r ∧ ∀ i q, i < j → ps[i]? = some q → q.1 ≠ 0 → q.2.1 % t ≠ r
  no : ∀ r, valV kvs (Sum.inl r) = none → ∀ i q, i < n → ps[i]? = some q → q.1 ≠ 0 → q.2.1 % t ≠ r
theorem Kept.skip {ps : List Pass} {t : Int} {n : Nat} {kvs : List (Key × V)} (h : Kept ps t n kvs) {q : Pass} (hq : ps[n]? = some q) (z : q.1 = 0) : Kept ps t (n + 1) kvs := by
  refine ⟨fun r v e => ?_, fun r e i p hi hp hn => ?_⟩
  · obtain ⟨j, p, h1, h2, h3⟩ := h.is r v e
    exact ⟨j, p, h1, by omega, h3⟩
  · by_cases c : i < n
    · exact h.no r e i p c hp hn
    · have : i = n := by omega
      subst this
      cases Option.some.inj (hq.symm.trans hp)
      exact absurd z hn
theorem Kept.there {ps : List Pass} {t : Int} {n : Nat} {kvs : List (Key × V)} (h : Kept ps t n kvs) {q : Pass} (hq : ps[n]? = some q) {v : V} (e : valV kvs (Sum.inl (q.2.1 % t)) = some v) : Kept ps t (n + 1) kvs := by
  refine ⟨fun r v e => ?_, fun r e' i p hi hp hn => ?_⟩
  · obtain ⟨j, p, h1, h2, h3⟩ := h.is r v e
    exact ⟨j, p, h1, by omega, h3⟩
  · by_cases c : i < n
    · exact h.no r e' i p c hp hn
    · have : i = n := by omega
      subst this
      cases Option.some.inj (hq.symm.trans hp)
      intro z
      rw [z, e'] at e
      cases e
theorem Kept.new {ps : List Pass} {t : Int} {n : Nat} {kvs : List (Key × V)} (h : Kept ps t n kvs) {q : Pass} (hq : ps[n]? = some q) (hn : q.1 ≠ 0) (e : valV kvs (Sum.inl (q.2.1 % t)) = none) : Kept ps t (n + 1) (putK kvs (Sum.inl (q.2.1 % t)) (.int (n : Int))) := by
  refine ⟨fun r v e2 => ?_, fun r e2 i p hi hp hne => ?_⟩
  · rw [valV_put] at e2
    by_cases c : (Sum.inl r : Key) = Sum.inl (q.2.1 % t)
    · have c' : r = q.2.1 % t := Sum.inl.inj c
      subst c'
      rw [if_pos rfl] at e2
      cases Option.some.inj e2
      exact ⟨n, q, rfl, Nat.lt_succ_self n, hq, hn, rfl, fun i p hi hp hne => h.no _ e i p hi hp hne⟩
    · rw [if_neg c] at e2
      obtain ⟨j, p, h1, h2, h3⟩ := h.is r v e2
      exact ⟨j, p, h1, by omega, h3⟩
  · rw [valV_put] at e2
    by_cases c : (Sum.inl r : Key) = Sum.inl (q.2.1 % t)
    · rw [if_pos c] at e2
      cases e2
    · rw [if_neg c] at e2
      by_cases cc : i < n
      · exact h.no r e2 i p cc hp hne
      · have : i = n := by omega
        subst this
        cases Option.some.inj (hq.symm.trans hp)
        exact fun z => c (by rw [z])
theorem NoHit.more {ps : List Pass} {t : Int} {n : Nat} (h : NoHit ps t n) (g : ∀ j, j < n → ¬ Hit ps t j n) : NoHit ps t (n + 1) := fun j k jk kn => by
  by_cases c : k < n
  · exact h j k jk c
  · have : k = n := by omega
    subst this
    exact g j jk
theorem fb_enumL {K : PySem.W.Frag} {H : Hp} {σ : L2.St} {D : Ends} {a : Addr} (xs : List V) {g : TG} {tb : TS} (Pv : Nat → L2.St → Hp → Prop) (h0 : Pv 0 σ H) (hl : ∀ i σ H, i ≤ xs.length → Pv i σ H → SqL K H a xs)
    (hs : ∀ i v T σ H, xs[i]? = some v → Pv i σ H → H T = none → g (.ref T) σ (upd H T (.tup [.int (i : Nat), v])) fun σ2 H2 => tb { D with nx := Pv (i + 1), ct := Pv (i + 1), bk := D.nx } σ2 H2) (hd : ∀ σ H, Pv xs.length σ H → D.nx σ H) : FB (Ite K a) g tb D σ H :=
  for_it (walk_enum (xs := xs)) Pv h0 hl (fun i x σ H H' _ p y => by
    obtain ⟨T, u, v, rfl, hT, rfl, e1, e2⟩ := y
    cases Option.some.inj e1
    exact hs i v T σ H e2 p hT) hd
theorem w_ninT {K : PySem.W.Frag} {H : Hp} {Q : VK} {p : Addr} {x : Int} {ns : List Int} (h : SqT K H p (ns.map V.int)) (q : Q (.bl (!decide (x ∈ ns))) H) : rIn K true (.int x) (.ref p) H Q := by
  refine ⟨p, ns.map V.int, rfl, .inr h, rfl, ?_, ?_⟩
  · rw [List.all_map]
    exact List.all_eq_true.mpr fun _ _ => rfl
  · rw [if_pos rfl]
    rw [show inV (.int x) (ns.map V.int) = decide (x ∈ ns) from by
      unfold inV
      rw [List.any_map]
      by_cases e : x ∈ ns
      · rw [decide_eq_true e, List.any_eq_true]
        exact ⟨x, e, by show (x == x) = true; exact beq_self_eq_true x⟩
      · rw [decide_eq_false e, List.any_eq_false]
        intro y hy
        show ¬ (y == x) = true
        intro z
        exact e (eq_of_beq z ▸ hy)]
    exact q
section
variable {K : PySem.W.Frag} {H : Hp} {σ : L2.St} {D : Ends} {Q : VK} {R : It → Hp → Prop}
def IZL (K : PySem.W.Frag) (vs : List V) (H : Hp) (R : It → Hp → Prop) : Prop := iZip K (fun _ H Q => Q vs H) [] H R
theorem w_izip {ta : TA} (h : ta σ H fun vs H1 => IZL K vs H1 R) : iZip K ta σ H R := h
theorem w_IZL {a b : Addr} {xs ys : List V} (h1 : SqL K H a xs) (h2 : SqL K H b ys) (q : R (Itz K a b) H) : IZL K [.ref a, .ref b] H R := ⟨a, b, xs, ys, rfl, h1, h2, q⟩
theorem fb_zipL {a b : Addr} (xs ys : List V) (hl : xs.length = ys.length) {g : TG} {tb : TS} (Pv : Nat → L2.St → Hp → Prop) (h0 : Pv 0 σ H) (hq : ∀ i σ H, i ≤ xs.length → Pv i σ H → SqL K H a xs ∧ SqL K H b ys)
    (hs : ∀ i x y T σ H, xs[i]? = some x → ys[i]? = some y → Pv i σ H → H T = none → g (.ref T) σ (upd H T (.tup [x, y])) fun σ2 H2 => tb { D with nx := Pv (i + 1), ct := Pv (i + 1), bk := D.nx } σ2 H2) (hd : ∀ σ H, Pv xs.length σ H → D.nx σ H) : FB (Itz K a b) g tb D σ H :=
  for_it (walk_zip (xs := xs) (ys := ys) (n := xs.length) (by omega)) Pv h0 hq (fun i x σ H H' _ p y => by
    obtain ⟨T, u, v, rfl, hT, rfl, e1, e2⟩ := y
    exact hs i u v T σ H e1 e2 p hT) hd
end
/-- the passes of the first n shows -/
def passN (cs : List Int) (ss : List (Int × Int)) : Nat → List Pass
  | 0 => []
  | n + 1 => passN cs ss n ++ (match cs[n]?, ss[n]? with | some c, some s => [(c, (if c = 1 then (cs.take n).sum + 1 else (cs.take n).sum), s.2)] | _, _ => [])
theorem pass_upd {K : PySem.W.Frag} {H : Hp} {l : Addr} {ws : List V} {o : HO} (hl : H l = some (.lst ws)) {v : V} {s : Pass} (h : Dp K H v (passD s)) : Dp K (upd H l o) v (passD s) := by
  obtain ⟨g, rfl, hg⟩ := pass_inv h
  exact .tup (sqT_upd hg hl) (.cons (.int _) (.cons (.int _) (.cons (.int _) .nil)))
theorem passes_upd {K : PySem.W.Frag} {H : Hp} {l : Addr} {ws : List V} {o : HO} (hl : H l = some (.lst ws)) : ∀ {vs : List V} {ss : List Pass}, DpAll K H vs (ss.map passD) → DpAll K (upd H l o) vs (ss.map passD)
  | _, [], .nil => .nil
  | _, s :: ss, .cons h t => .cons (pass_upd hl h) (passes_upd hl t)
end Ct

/-! defs that are handed in or picked out of a list, and dicts of the program's own top -/
namespace Ct
open PySem PySem.Spec PyProof.Rows L2
section
variable {X : Cx} {k i : Nat} {R : Addr → Sp → Prop} {x : Str} {p pos : Pos} {e fe : Expr} {es : List Expr} {t : TA} {tf : TE}
/-- the def that stands in a place, one of those that R tells of -/
def tCallR (i : Nat) (R : Addr → Sp → Prop) (t : TA) : TE := fun σ H Q => ∃ f sp, σ[i]? = some (some (.ref f)) ∧ R f sp ∧ t σ H fun vs H1 => sp vs H1 Q L2.E0
theorem nil_app {t : TA} {sp : Sp} {σ : L2.St} {H : Hp} {Q : VK} {E : XK} (h : t σ H fun vs H1 => sp vs H1 Q E) : t σ H fun vs H1 => sp (vs ++ []) H1 Q E := by
  have z : (fun (vs : List V) (H1 : Hp) => sp (vs ++ []) H1 Q E) = fun vs H1 => sp vs H1 Q E := funext fun vs => funext fun H1 => by rw [List.append_nil]
  rw [z]
  exact h
theorem pe_callR (hR : ∀ f sp, R f sp → Held X.prog X.w X.K X.mg X.base k f sp) (hr : Room k X.A) (hN : X.N[i]? = some x) (hv : Vis X.env.scope x) (ha : PA X (e :: es) t) (d1 : (x == ("__debug__" : Str)) = false := by decide) (d2 : (x == ("__classdict__" : Str)) = false := by decide) (h1 : starEach (e :: es) X.env = (false, eval e X.env) :: starEach es X.env := by rfl) (h2 : (backTo pos (starEach es X.env)).any (·.1) = false := by rfl) : PE X (.Call (.Name x p) (e :: es) [] pos) (tCallR i R t) := by
  constructor
  intro pins s σ H Q I q
  obtain ⟨f, sp, at_, r, q⟩ := q
  obtain ⟨fd, ps, F, kp, b⟩ := (hR f sp r).ex
  exact (pe_callL (E := L2.E0) F hr hN hv kp b .nil pass0 ha d1 d2 h1 h2).run pins s σ H Q I ⟨at_, nil_app q⟩
/-- the def that an expression gives -/
def tCallE (R : Addr → Sp → Prop) (tf : TE) (t : TA) : TE := fun σ H Q => tf σ H fun y H1 => ∃ f sp, y = .ref f ∧ R f sp ∧ t σ H1 fun vs H2 => sp vs H2 Q L2.E0
theorem pe_callE (hR : ∀ f sp, R f sp → Held X.prog X.w X.K X.mg X.base k f sp) (hr : Room k X.A) (hf : PE X fe tf) (ha : PA X (e :: es) t) (h0 : eval (.Call fe (e :: es) [] pos) X.env = (do callWith pos (← eval fe X.env) [] (backTo pos (starEach (e :: es) X.env)) (backToKw pos (keywordEach [] X.env))) := by rfl) (h1 : starEach (e :: es) X.env = (false, eval e X.env) :: starEach es X.env := by rfl) (h2 : (backTo pos (starEach es X.env)).any (·.1) = false := by rfl) : PE X (.Call fe (e :: es) [] pos) (tCallE R tf t) := by
  constructor
  intro pins s σ H Q I q
  refine Call_ (thn (hf.run pins s σ H _ I q) ?_) h0
  rintro u s1 ⟨y, H1, I1, ry, f, sp, rfl, r, q⟩
  cases (show u = Value.ref f from ry)
  obtain ⟨fd, ps, F, kp, b⟩ := (hR f sp r).ex
  refine PySem.W.callWith_K (h₀ := X.base) I1.ok.mod.kin kp (thn (ha.run pos pins s1 σ _ _ I1 q) ?_) h1 h2
  rintro us s2 ⟨vs, H2, I2, r2, q2⟩
  exact ⟨I2.kIn, run_fn F hr b .nil pass0 I2 r2 (by rw [List.append_nil]; exact q2)⟩
end
/-- held: one def, by its promise -/
theorem held_at {P : Program} {w : World} {K : PySem.W.Frag} {mg : Str → Option Value} {base : Heap} {k j : Nat} {f : Addr} {fd : FuncData} {ps : List Str} {sp : Sp} (G : FnOk P w K mg base CX0 j f fd ps sp) (h : j ≤ k) (kp : PySem.W.keepIn K (.ref f) = true) (b : Binds K fd ps []) : Held P w K mg base k f sp := ⟨fd, ps, G.mono h, kp, b⟩
theorem held_nil {P : Program} {w : World} {K : PySem.W.Frag} {mg : Str → Option Value} {base : Heap} {k : Nat} : ∀ f sp, (fun (_ : Addr) (_ : Sp) => False) f sp → Held P w K mg base k f sp := fun _ _ h => h.elim
theorem held_cons {P : Program} {w : World} {K : PySem.W.Frag} {mg : Str → Option Value} {base : Heap} {k : Nat} {f0 : Addr} {sp0 : Sp} {R : Addr → Sp → Prop} (h : Held P w K mg base k f0 sp0) (r : ∀ f sp, R f sp → Held P w K mg base k f sp) : ∀ f sp, (fun (f : Addr) (sp : Sp) => (f = f0 ∧ sp = sp0) ∨ R f sp) f sp → Held P w K mg base k f sp := fun f sp z => by
  rcases z with ⟨rfl, rfl⟩ | z
  · exact h
  · exact r f sp z
/-! a dict of the program's own top -/
def KDict (P : Program) (w : World) (K : PySem.W.Frag) (d : Addr) (kvs : List (Key × V)) : Prop := (d == sysModules) = false ∧ ∀ h, K.In h → ∃ vs, KV kvs vs ∧ h.DictOf (mixKind P w) d vs
inductive KdP : List DictEntry → World → List (Key × V) → List (Key × Value) → Prop
  | nil {w : World} : KdP [] w [] []
  | cons {w : World} {x : Str} {t : Tok} {v : V} {u : Value} {es : List DictEntry} {kvs : List (Key × V)} {vs : List (Key × Value)} (r : RelV v u) (h : KdP es w kvs vs) : KdP (⟨hashStr w x, .str x t, u⟩ :: es) w ((Sum.inr x, v) :: kvs) ((Sum.inr x, u) :: vs)
theorem kd_nil {w : World} : KdP [] w [] [] := .nil
theorem kd_cons {w : World} (x : Str) (t : Tok) {v : V} {u : Value} {es : List DictEntry} {kvs : List (Key × V)} {vs : List (Key × Value)} (r : RelV v u) (h : KdP es w kvs vs) : KdP (⟨hashStr w x, .str x t, u⟩ :: es) w ((Sum.inr x, v) :: kvs) ((Sum.inr x, u) :: vs) := .cons r h
theorem kd_all {P : Program} {w : World} : ∀ {es : List DictEntry} {kvs : List (Key × V)} {vs : List (Key × Value)}, KdP es w kvs vs → KV kvs vs ∧ Pairs (mixKind P w) es vs ∧ (∀ e ∈ es, ∃ k, (mixKind P w).is k e.key = true ∧ e.hash = (mixKind P w).hash k) ∧ kvs.map (·.1) = vs.map (·.1)
  | _, _, _, .nil => ⟨.nil, .nil, (fun e h => by cases h), rfl⟩
  | _, _, _, .cons (x := x) (t := t) r h => by
    obtain ⟨a, b, c, d⟩ := kd_all (P := P) h
    refine ⟨.cons ⟨rfl, r⟩ a, .cons (keyIs_str x t) rfl b, fun e he => ?_, by rw [List.map_cons, List.map_cons, d]⟩
    rcases List.mem_cons.mp he with rfl | he
    · exact ⟨Sum.inr x, keyIs_str x t, rfl⟩
    · exact c e he
theorem kdict_mk {P : Program} {w : World} {K : PySem.W.Frag} {d : Addr} {es : Array DictEntry} {ep : Nat} {kvs : List (Key × V)} {vs : List (Key × Value)} (t : K.lookup d = some ⟨.type "dict", none, .dict es ep, #[]⟩) (sys : (d == sysModules) = false) (h : KdP es.toList w kvs vs) (nd : (kvs.map (·.1)).Nodup) : KDict P w K d kvs := by
  obtain ⟨a, b, c, e⟩ := kd_all (P := P) h
  exact ⟨sys, fun hp X => ⟨vs, a, _, es, ep, X _ _ t, ⟨rfl, rfl, rfl⟩, rfl, (fun x hx => c x (Array.mem_def.mp hx)), b, by rw [← e]; exact nd⟩⟩
section
variable {X : Cx} {o i : Expr} {td ty : TE} {pos : Pos} {d : Addr} {kvs : List (Key × V)}
def tKNotIn (d : Addr) (kvs : List (Key × V)) (ty td : TE) : TE := fun σ H Q => ty σ H fun y H1 => td σ H1 fun x H2 => x = .ref d ∧ ∃ k, y = kV k ∧ Q (.bl (!(valV kvs k).isSome)) H2
def tKGet (d : Addr) (kvs : List (Key × V)) (td ty : TE) : TE := fun σ H Q => td σ H fun x H1 => ty σ H1 fun y H2 => x = .ref d ∧ ∃ k v, y = kV k ∧ valV kvs k = some v ∧ Q v H2
theorem pc_knotin (D : KDict X.prog X.w X.K d kvs) (hi : PE X i ty) (ho : PE X o td) : PC X .NotIn i o (tKNotIn d kvs ty td) := by
  constructor
  intro pins s σ H Q I q
  refine thn (hi.run pins s σ H _ I q) ?_
  rintro iv s1 ⟨y, H1, I1, ry, q1⟩
  refine thn (ho.run pins s1 σ H1 _ I1 q1) ?_
  rintro u s2 ⟨x, H2, I2, rx, rfl, k, rfl, q2⟩
  cases (show u = Value.ref d from rx)
  obtain ⟨vs, rel, dd⟩ := D.2 _ I2.kIn
  refine wpAny_notIn_of (kV_is ry) D.1 dd.mapOf ?_
  rw [← (rel.val k).isSome_eq]
  exact ⟨.bl _, H2, I2.tok _, rfl, q2⟩
theorem pe_kget (D : KDict X.prog X.w X.K d kvs) (ho : PE X o td) (hi : PE X i ty) (ns : NoSl i) : PE X (.Subscript o i pos) (tKGet d kvs td ty) := by
  constructor
  intro pins s σ H Q I q
  refine subD_of PySem.F.slot_dict_getitem.lookup ns (thn (ho.run pins s σ H _ I q) ?_)
  rintro u s1 ⟨x, H1, I1, rx, q1⟩
  refine thn (hi.run pins s1 σ H1 _ I1 q1) ?_
  rintro iv s2 ⟨y, H2, I2, ry, rfl, k, v, rfl, hv, q2⟩
  cases (show u = Value.ref d from rx)
  obtain ⟨vs, rel, dd⟩ := D.2 _ I2.kIn
  obtain ⟨z, hz, rz⟩ := RelO.some_of (v := v) (o := valueAt vs k) (by rw [← hv]; exact rel.val k)
  exact ⟨dd.typeIs, wpAny_getItem_of (kV_is ry) dd.mapOf hz ⟨v, H2, I2.tok _, rz, q2⟩⟩
end
section
variable {d : Addr} {kvs : List (Key × V)} {σ : L2.St} {H : Hp} {Q : VK} {ty td tf : TE} {i : Nat} {R : Addr → Sp → Prop} {t : TA}
theorem w_knotin (h : ty σ H fun y H1 => td σ H1 fun x H2 => x = .ref d ∧ ∃ k, y = kV k ∧ Q (.bl (!(valV kvs k).isSome)) H2) : tKNotIn d kvs ty td σ H Q := h
theorem w_kget (h : td σ H fun x H1 => ty σ H1 fun y H2 => x = .ref d ∧ ∃ k v, y = kV k ∧ valV kvs k = some v ∧ Q v H2) : tKGet d kvs td ty σ H Q := h
theorem w_callR {f : Addr} {sp : Sp} (at_ : σ[i]? = some (some (.ref f))) (r : R f sp) (h : t σ H fun vs H1 => sp vs H1 Q L2.E0) : tCallR i R t σ H Q := ⟨f, sp, at_, r, h⟩
theorem w_callE (h : tf σ H fun y H1 => ∃ f sp, y = .ref f ∧ R f sp ∧ t σ H1 fun vs H2 => sp vs H2 Q L2.E0) : tCallE R tf t σ H Q := h
end
end Ct

/-! texts: their rules, and walking them -/
namespace Ct
open PySem PySem.Spec PyProof.Rows L2
abbrev tx (l : List Nat) : Str := SX.S l
theorem tx_len (l : List Nat) : (tx l).length = l.length := SX.S_len l
theorem tx_cat (a b : List Nat) : tx a ++ tx b = tx (a ++ b) := SX.S_cat a b
theorem tx_of (s : String) : Str.ofString s = tx (s.toList.map Char.toNat) := TL.ext_tl (TL.tl_ofString s)
theorem tx_dec (a b : List Nat) : decide (V.str (tx a) = V.str (tx b)) = decide (a = b) := by
  by_cases e : a = b
  · rw [e, decide_eq_true rfl, decide_eq_true rfl]
  · rw [decide_eq_false e, decide_eq_false fun z => e (SX.S_inj (V.str.inj z))]
abbrev nL (n : Nat) : List Nat := TL.numL n
theorem tx_num (n : Nat) : (Str.ofString (toString ((n : Nat) : Int)) : Str) = tx (nL n) := SX.num_S n
section
variable {X : Cx}
def rAddS : R2 := fun x y H Q => ∃ i j, x = .str i ∧ y = .str j ∧ i.length + j.length ≤ sizeLine ∧ Q (.str (i ++ j)) H
theorem op_addS : OpR X (binaryOp .Add) rAddS := op_add_str
/-- a text so many times, none or once -/
def rMulS : R2 := fun x y H Q => ∃ (a : Str) (i : Int), x = .str a ∧ y = .int i ∧ (i = 0 ∨ i = 1) ∧ Q (.str (if i = 1 then a else Str.empty)) H
theorem op_mulS : OpR X (binaryOp .Mult) rMulS := by
  intro pins s σ H x y v u Q I rx ry h
  obtain ⟨a, i, rfl, rfl, c, q⟩ := h
  obtain ⟨t, rfl⟩ := rx
  obtain ⟨t', rfl⟩ := ry
  rcases c with rfl | rfl
  · exact SB.mul ⟨by decide, fun z => absurd (by decide) z, fun z => absurd (by decide) z⟩ fun t' k => ⟨.str Str.empty, H, I.tok _, ⟨_, rfl⟩, q⟩
  · exact SB.mul ⟨by decide, (fun _ z => nomatch z), (fun _ z => nomatch z)⟩ fun t' k => ⟨.str a, H, I.tok _, ⟨_, rfl⟩, q⟩
def rInSg (no : Bool) : R2 := fun x y H Q => ∃ (c : Nat) (z : Str), x = .str ⟨#[c]⟩ ∧ y = .str z ∧ Q (.bl (if no = true then !decide (c ∈ z.cps.toList) else decide (c ∈ z.cps.toList))) H
theorem op_inSg : OpR X (compareOp .In) (rInSg false) := op_in_sign
theorem op_notInSg : OpR X (compareOp .NotIn) (rInSg true) := op_notIn_sign
def rStrI : List V → Hp → VK → Prop := fun xs H Q => ∃ i, xs = [.int i] ∧ i.natAbs.log2 < 1920 ∧ Q (.str (toString i)) H
theorem call_strI : CallR X (.type "str") rStrI := call_str_int
def rIntS : List V → Hp → VK → Prop := fun xs H Q => ∃ a n, xs = [.str a] ∧ PySem.intText? a = some n ∧ a.length ≤ 640 ∧ Q (.int n) H
theorem call_intS : CallR X (.type "int") rIntS := call_int_str
def rLenX : List V → Hp → VK → Prop := fun xs H Q => ∃ a : Str, xs = [.str a] ∧ a.length ≤ sizeLine ∧ Q (.int a.length) H
theorem call_lenX : CallR X (.builtin "len") rLenX := call_len_str
end
section
variable {H : Hp} {Q : VK} {σ : L2.St}
theorem small6 {n : Nat} (h : n ≤ 15000000) : n ≤ sizeLine := Nat.le_trans h (by decide)
theorem w_addS {a b : List Nat} (l : a.length + b.length ≤ 15000000) (q : Q (.str (tx (a ++ b))) H) : rAddS (.str (tx a)) (.str (tx b)) H Q := ⟨_, _, rfl, rfl, by rw [tx_len, tx_len]; exact small6 l, by rw [tx_cat]; exact q⟩
theorem w_eqX {a b : List Nat} (q : Q (.bl (decide (a = b))) H) : rEq (.str (tx a)) (.str (tx b)) H Q := ⟨rfl, by rw [tx_dec]; exact q⟩
theorem w_neX {a b : List Nat} (q : Q (.bl (!decide (a = b))) H) : rNe (.str (tx a)) (.str (tx b)) H Q := ⟨rfl, by rw [tx_dec]; exact q⟩
theorem w_eqXs {a b : List Nat} {s : String} (e : s.toList.map Char.toNat = b) (q : Q (.bl (decide (a = b))) H) : rEq (.str (tx a)) (.str (Str.ofString s)) H Q := by rw [tx_of, e]; exact w_eqX q
theorem w_neXs {a b : List Nat} {s : String} (e : s.toList.map Char.toNat = b) (q : Q (.bl (!decide (a = b))) H) : rNe (.str (tx a)) (.str (Str.ofString s)) H Q := by rw [tx_of, e]; exact w_neX q
theorem log40 {n : Nat} (h : n < 10 ^ 45) : (n : Int).natAbs.log2 < 1920 := by
  rw [Int.natAbs_natCast]
  by_cases z : n = 0
  · rw [z]; decide
  · exact Nat.lt_of_le_of_lt (Nat.le_of_lt_succ ((Nat.log2_lt z).mpr (Nat.lt_of_lt_of_le h (by decide : 10 ^ 45 ≤ 2 ^ 151)))) (by decide)
theorem w_strI {n : Nat} (h : n < 10 ^ 45) (q : Q (.str (tx (nL n))) H) : rStrI [.int (n : Int)] H Q := ⟨_, rfl, log40 h, by rw [show (toString (n : Int) : Str) = tx (nL n) from tx_num n]; exact q⟩
theorem w_fmt {te : TE} (h : te σ H fun x H1 => (∃ y : Str, x = .str y ∧ y.length ≤ sizeLine ∧ Q (.str y) H1) ∨ ∃ i : Int, x = .int i ∧ i.natAbs.log2 < 1920 ∧ Q (.str (toString i)) H1) : tFmt te σ H Q := h
theorem w_fmtS {a : List Nat} (l : a.length ≤ 15000000) (q : Q (.str (tx a)) H) : (∃ y : Str, V.str (tx a) = .str y ∧ y.length ≤ sizeLine ∧ Q (.str y) H) ∨ ∃ i : Int, V.str (tx a) = .int i ∧ i.natAbs.log2 < 1920 ∧ Q (.str (toString i)) H := .inl ⟨_, rfl, by rw [tx_len]; exact small6 l, q⟩
theorem w_fmtI {n : Nat} (h : n < 10 ^ 45) (q : Q (.str (tx (nL n))) H) : (∃ y : Str, V.int (n : Int) = .str y ∧ y.length ≤ sizeLine ∧ Q (.str y) H) ∨ ∃ i : Int, V.int (n : Int) = .int i ∧ i.natAbs.log2 < 1920 ∧ Q (.str (toString i)) H := .inr ⟨_, rfl, log40 h, by rw [show (toString (n : Int) : Str) = tx (nL n) from tx_num n]; exact q⟩
/-! the parts of an f-string -/
def tJ (ts : List TE) (acc : List Nat) (σ : L2.St) (H : Hp) (Q : Str → Hp → Prop) : Prop := tJs ts (tx acc) σ H Q
variable {QT : Str → Hp → Prop}
theorem w_js {ts : List TE} (h : tJ ts [] σ H fun out H1 => Q (.str out) H1) : tJs ts Str.empty σ H fun out H1 => Q (.str out) H1 := h
theorem w_jnil {acc : List Nat} (q : QT (tx acc) H) : tJ [] acc σ H QT := q
def JQ (ts : List TE) (acc : List Nat) (σ : L2.St) (QT : Str → Hp → Prop) : VK := fun x H1 => ∃ y : Str, x = .str y ∧ (tx acc ++ y).length ≤ sizeLine ∧ tJs ts (tx acc ++ y) σ H1 QT
theorem w_jcons {t : TE} {ts : List TE} {acc : List Nat} (h : t σ H (JQ ts acc σ QT)) : tJ (t :: ts) acc σ H QT := h
theorem w_jq {ts : List TE} {acc a : List Nat} (l : acc.length + a.length ≤ 15000000) (h : tJ ts (acc ++ a) σ H QT) : JQ ts acc σ QT (.str (tx a)) H := ⟨_, rfl, by rw [tx_cat, tx_len, List.length_append]; exact small6 l, by rw [tx_cat]; exact h⟩
theorem w_jqs {ts : List TE} {acc a : List Nat} {s : String} (e : s.toList.map Char.toNat = a) (l : acc.length + a.length ≤ 15000000) (h : tJ ts (acc ++ a) σ H QT) : JQ ts acc σ QT (.str (Str.ofString s)) H := by rw [tx_of, e]; exact w_jq l h
/-! splitting, parting, joining -/
theorem w_m0 {r : V → List V → Hp → VK → Prop} {to : TE} (h : to σ H fun x H1 => (∃ a, x = .str a) ∧ r x [] H1 Q) : tM0 r to σ H Q := h
theorem w_m1 {r : V → List V → Hp → VK → Prop} {to te : TE} (h : to σ H fun x H1 => (∃ a, x = .str a) ∧ te σ H1 fun y H2 => r x [y] H2 Q) : tM1 r to te σ H Q := h
theorem w_istr {te : TE} {R : It → Hp → Prop} (h : te σ H fun v H1 => ∃ x, v = .str x ∧ R (Its x) H1) : iStr te σ H R := h
theorem tru_txt {K : PySem.W.Frag} {a : List Nat} {k : Bool} (l : a.length ≤ 15000000) (e : ((a.length : Int) != 0) = k) : TruV K (.str (tx a)) H k := ⟨by rw [tx_len]; exact small6 l, by rw [tx_len]; exact e.symm⟩
theorem cut_tx (a : List Nat) (lo hi : Option Int) : cutS (tx a) lo hi = tx ((a.drop (HT.sIx a.length 0 lo)).take (HT.sIx a.length a.length hi - HT.sIx a.length 0 lo)) := by
  unfold cutS
  rw [tx_len]
theorem cut_fromX (a : List Nat) (n : Nat) (h : n ≤ a.length) : cutS (tx a) (some (n : Int)) none = tx (a.drop n) := by
  rw [cut_tx, HT.sIx_none, HT.sIx_nat, Nat.min_eq_left h, List.take_of_length_le (by rw [List.length_drop]; exact Nat.le_refl _)]
theorem cut_toX (a : List Nat) (n : Nat) : cutS (tx a) none (some (n : Int)) = tx (a.take n) := by
  rw [cut_tx, HT.sIx_none, HT.sIx_nat, List.drop_zero, Nat.sub_zero]
  by_cases c : n ≤ a.length
  · rw [Nat.min_eq_left c]
  · rw [Nat.min_eq_right (by omega), List.take_of_length_le (Nat.le_refl _), List.take_of_length_le (by omega)]
theorem cut_twoX (a : List Nat) (n m : Nat) (h : n ≤ a.length) (hm : n + m ≤ a.length) : cutS (tx a) (some (n : Int)) (some ((n + m : Nat) : Int)) = tx ((a.drop n).take m) := by
  rw [cut_tx, HT.sIx_nat, HT.sIx_nat, Nat.min_eq_left h, Nat.min_eq_left hm, show n + m - n = m by omega]
end
end Ct

/-! what is written of deeds, pushes, what was shown, and shows -/
namespace Ct
open PySem PySem.Spec PyProof.Rows L2
def wayT (w : Int) : List Nat := if w = 1 then [43] else [45]
def shT (s : Int) : List Nat := if s = 1 then [61, 49] else if s = 0 then [61, 48] else [61, 45, 49]
def noneT : List Nat := [110, 111, 110, 101]
def listT (ts : List (List Nat)) : List Nat := if ts = [] then noneT else TL.joinL [32] ts
def ShT (s : Int) : Prop := s = 1 ∨ s = 0 ∨ s = -1
def M40 : Nat := 10 ^ 40
def ElT : Nat → PyData → List Nat → Prop
  | 0, d, t => ∃ (i k : Nat) (w : Int), i < M40 ∧ k < M40 ∧ Sign w ∧ d = .tuple [.int i, .int w, .int k] ∧ t = nL i ++ wayT w ++ nL k
  | 1, d, t => ∃ (i : Nat) (w : Int), i < M40 ∧ Sign w ∧ d = .tuple [.int i, .int w] ∧ t = nL i ++ wayT w
  | 2, d, t => ∃ (i : Nat) (w s : Int), i < M40 ∧ Sign w ∧ ShT s ∧ d = .tuple [.int i, .int w, .int s] ∧ t = nL i ++ wayT w ++ shT s
  | _, d, t => ∃ (w s : Int), Sign w ∧ ShT s ∧ d = .tuple [.int w, .int s] ∧ t = wayT w ++ shT s
theorem nL_len {n : Nat} (h : n < M40) : (nL n).length ≤ 40 := TL.numL_len (by decide) h
theorem nL_pos (n : Nat) : 1 ≤ (nL n).length := by
  cases e : nL n with
  | nil => exact absurd e (TL.numL_ne n)
  | cons => exact Nat.succ_le_succ (Nat.zero_le _)
theorem nL_dig {n c : Nat} (h : c ∈ nL n) : 48 ≤ c ∧ c ≤ 57 := by
  have := TL.numL_free (n := n) (s := c)
  by_cases z : c < 48 ∨ 57 < c
  · exact absurd h (this z)
  · omega
theorem wayT_len (w : Int) : (wayT w).length = 1 := by unfold wayT; split <;> rfl
theorem shT_len (s : Int) : (shT s).length ≤ 3 := by unfold shT; split; decide; split <;> decide
theorem wayT_mem {w : Int} {c : Nat} (h : c ∈ wayT w) : c = 43 ∨ c = 45 := by
  unfold wayT at h
  split at h
  · exact .inl (List.mem_singleton.mp h)
  · exact .inr (List.mem_singleton.mp h)
theorem shT_mem {s : Int} {c : Nat} (h : c ∈ shT s) : 45 ≤ c ∧ c ≤ 61 := by
  unfold shT at h
  split at h
  · simp at h; omega
  · split at h
    · simp at h; omega
    · simp at h; omega
theorem elT_free : ∀ {k : Nat} {d : PyData} {t : List Nat}, ElT k d t → ∀ c ∈ t, 43 ≤ c ∧ c ≤ 61
  | 0, _, _, ⟨i, n, w, _, _, _, _, e⟩, c, hc => by
    subst e
    rcases List.mem_append.mp hc with hc | hc
    · rcases List.mem_append.mp hc with hc | hc
      · have := nL_dig hc; omega
      · have := wayT_mem hc; omega
    · have := nL_dig hc; omega
  | 1, _, _, ⟨i, w, _, _, _, e⟩, c, hc => by
    subst e
    rcases List.mem_append.mp hc with hc | hc
    · have := nL_dig hc; omega
    · have := wayT_mem hc; omega
  | 2, _, _, ⟨i, w, s, _, _, _, _, e⟩, c, hc => by
    subst e
    rcases List.mem_append.mp hc with hc | hc
    · rcases List.mem_append.mp hc with hc | hc
      · have := nL_dig hc; omega
      · have := wayT_mem hc; omega
    · have := shT_mem hc; omega
  | n + 3, _, _, h, c, hc => by
    obtain ⟨w, s, _, _, _, e⟩ := (show ∃ (w s : Int), Sign w ∧ ShT s ∧ _ = PyData.tuple [.int w, .int s] ∧ _ = wayT w ++ shT s from h)
    subst e
    rcases List.mem_append.mp hc with hc | hc
    · have := wayT_mem hc; omega
    · have := shT_mem hc; omega
theorem elT_len : ∀ {k : Nat} {d : PyData} {t : List Nat}, ElT k d t → 1 ≤ t.length ∧ t.length ≤ 90
  | 0, _, _, ⟨i, n, w, h1, h2, _, _, e⟩ => by
    subst e
    have := nL_len h1; have := nL_len h2; have := nL_pos i; have := wayT_len w
    rw [List.length_append, List.length_append]; omega
  | 1, _, _, ⟨i, w, h1, _, _, e⟩ => by
    subst e
    have := nL_len h1; have := nL_pos i; have := wayT_len w
    rw [List.length_append]; omega
  | 2, _, _, ⟨i, w, s, h1, _, _, _, e⟩ => by
    subst e
    have := nL_len h1; have := nL_pos i; have := wayT_len w; have := shT_len s
    rw [List.length_append, List.length_append]; omega
  | n + 3, _, _, h => by
    obtain ⟨w, s, _, _, _, e⟩ := (show ∃ (w s : Int), Sign w ∧ ShT s ∧ _ = PyData.tuple [.int w, .int s] ∧ _ = wayT w ++ shT s from h)
    subst e
    have := wayT_len w; have := shT_len s
    rw [List.length_append]; omega
abbrev ElsT (k : Nat) : List PyData → List (List Nat) → Prop := Paired (ElT k)
theorem paired_getT {α β : Type} {R : α → β → Prop} : ∀ {l : List α} {m : List β} {i : Nat} {a : α}, Paired R l m → l[i]? = some a → ∃ b, m[i]? = some b ∧ R a b
  | _, _, _, _, .nil, e => by simp at e
  | _, _, 0, _, .cons h _, e => by
    cases Option.some.inj e
    exact ⟨_, rfl, h⟩
  | _, _, i + 1, _, .cons _ t, e => paired_getT (i := i) t e
theorem paired_memT {α β : Type} {R : α → β → Prop} : ∀ {l : List α} {m : List β} {b : β}, Paired R l m → b ∈ m → ∃ a, R a b
  | _, _, _, .nil, h => by cases h
  | _, _, _, .cons h t, e => by
    rcases List.mem_cons.mp e with rfl | e
    · exact ⟨_, h⟩
    · exact paired_memT t e
theorem elsT_free {k : Nat} {ds : List PyData} {ts : List (List Nat)} (h : ElsT k ds ts) : ∀ t ∈ ts, 32 ∉ t := fun t ht z => by
  obtain ⟨d, hd⟩ := paired_memT h ht
  have := elT_free hd 32 z
  omega
theorem joinT_len {m : Nat} : ∀ {ts : List (List Nat)}, (∀ t ∈ ts, t.length ≤ m) → (TL.joinL [32] ts).length ≤ (m + 1) * ts.length
  | [], _ => Nat.zero_le _
  | [t], h => by
    have := h t List.mem_cons_self
    show t.length ≤ (m + 1) * 1
    omega
  | t :: u :: r, h => by
    have h1 := h t List.mem_cons_self
    have ih := joinT_len (ts := u :: r) fun x hx => h x (List.mem_cons_of_mem _ hx)
    show (t ++ ([32] ++ TL.joinL [32] (u :: r))).length ≤ (m + 1) * ((u :: r).length + 1)
    rw [List.length_append, List.length_append, Nat.mul_succ]
    show t.length + (1 + _) ≤ _
    omega
theorem listT_len {m : Nat} {ts : List (List Nat)} (h : ∀ t ∈ ts, t.length ≤ m) : (listT ts).length ≤ (m + 1) * ts.length + 4 := by
  unfold listT
  split
  · exact Nat.le_add_left _ _
  · exact Nat.le_trans (joinT_len h) (Nat.le_add_right _ _)
theorem elsT_len {k : Nat} {ds : List PyData} {ts : List (List Nat)} (h : ElsT k ds ts) : ∀ t ∈ ts, t.length ≤ 90 := fun t ht => by
  obtain ⟨d, hd⟩ := paired_memT h ht
  exact (elT_len hd).2
theorem join_none {ts : List (List Nat)} (ne : ts ≠ []) (h : ∀ t ∈ ts, 1 ≤ t.length ∧ ∀ c ∈ t, c ≤ 61) : TL.joinL [32] ts ≠ noneT := fun e => by
  cases ts with
  | nil => exact ne rfl
  | cons t r =>
    obtain ⟨h1, h2⟩ := h t List.mem_cons_self
    cases t with
    | nil => cases h1
    | cons c q =>
      have hc := h2 c List.mem_cons_self
      have : (TL.joinL [32] ((c :: q) :: r)).head? = some c := by cases r <;> rfl
      rw [e] at this
      cases (Option.some.inj this)
      omega
theorem elsT_none {k : Nat} {ds : List PyData} {ts : List (List Nat)} (h : ElsT k ds ts) (ne : ts ≠ []) : listT ts ≠ noneT := by
  unfold listT
  rw [if_neg ne]
  refine join_none ne fun t ht => ?_
  obtain ⟨d, hd⟩ := paired_memT h ht
  exact ⟨(elT_len hd).1, fun c hc => (elT_free hd c hc).2⟩
theorem splitT {ts : List (List Nat)} (ne : ts ≠ []) (h : ∀ t ∈ ts, 32 ∉ t) : Txt.split (tx (TL.joinL [32] ts)) (Str.ofString " ") = ts.map tx := by
  rw [tx_of, show (" ".toList.map Char.toNat) = [32] by decide, SX.split_S (by decide) (by decide), SX.spl_join ne h]
theorem joinT (s : String) {sep : List Nat} (e : s.toList.map Char.toNat = sep) (ts : List (List Nat)) : Txt.join (Str.ofString s) (ts.map tx) = tx (TL.joinL sep ts) := by
  rw [tx_of, e, SX.join_S]
/-- a number from one on begins with no nought -/
theorem nL_head : ∀ n : Nat, 1 ≤ n → (nL n).head? ≠ some 48 := fun n => by
  induction n using Nat.strongRecOn with
  | _ n ih =>
    intro h e
    by_cases c : n < 10
    · rw [show nL n = [48 + n] from TL.numL_lt c] at e
      have := Option.some.inj e
      omega
    · have st : nL n = nL (n / 10) ++ [48 + n % 10] := TL.numL_step (by omega)
      rw [st] at e
      have := ih (n / 10) (by omega) (by omega)
      cases z : nL (n / 10) with
      | nil => exact TL.numL_ne _ z
      | cons a r =>
        rw [z] at e this
        exact this e
theorem nL_zero {n : Nat} (h : (nL n).head? = some 48) : (nL n).length = 1 := by
  by_cases z : n = 0
  · rw [z]; decide
  · exact absurd h (nL_head n (by omega))
theorem figs : (Str.ofString "0123456789").cps.toList = [48, 49, 50, 51, 52, 53, 54, 55, 56, 57] := by decide +kernel
theorem in_figs (c : Nat) : decide (c ∈ (Str.ofString "0123456789").cps.toList) = decide (48 ≤ c ∧ c ≤ 57) := by
  rw [figs]
  refine decide_eq_decide.mpr ⟨fun h => ?_, fun h => ?_⟩
  · simp at h; omega
  · simp; omega
theorem int_nL {n : Nat} (h : n < M40) : PySem.intText? (tx (nL n)) = some (n : Int) := by
  rw [← tx_num]
  exact TL.int_num (Nat.le_trans (nL_len h) (by decide))
theorem dpi_inv {K : PySem.W.Frag} {H : Hp} {v : V} {is : List Int} (h : Dp K H v (.tuple (is.map PyData.int))) : ∃ p, v = .ref p ∧ SqT K H p (is.map V.int) := by
  obtain ⟨a, xs, rfl, hs, ht⟩ := tup_inv h
  exact ⟨a, rfl, by rw [← dpAll_ints_inv is ht]; exact hs⟩
theorem shT_say {s : Int} (h : ShT s) : ∃ t : Str, (toString s : Str) = t ∧ t = tx ((shT s).drop 1) := by
  refine ⟨_, rfl, ?_⟩
  rcases h with rfl | rfl | rfl
  · exact (tx_of "1").trans (by decide)
  · exact (tx_of "0").trans (by decide)
  · exact (tx_of "-1").trans (by decide)
theorem w_fmtSh {H : Hp} {Q : VK} {s : Int} (h : ShT s) (q : Q (.str (tx ((shT s).drop 1))) H) : (∃ y : Str, V.int s = .str y ∧ y.length ≤ sizeLine ∧ Q (.str y) H) ∨ ∃ i : Int, V.int s = .int i ∧ i.natAbs.log2 < 1920 ∧ Q (.str (toString i)) H := by
  obtain ⟨t, e1, e2⟩ := shT_say h
  refine .inr ⟨_, rfl, ?_, by rw [show (toString s : Str) = _ from e1, e2]; exact q⟩
  rcases h with rfl | rfl | rfl <;> decide
theorem shT_cons (s : Int) : shT s = 61 :: (shT s).drop 1 := by unfold shT; split; rfl; split <;> rfl
theorem sumT_len {m : Nat} : ∀ {ts : List (List Nat)}, (∀ t ∈ ts, t.length ≤ m) → ((ts.map tx).map (·.length)).sum ≤ m * ts.length
  | [], _ => Nat.zero_le _
  | t :: r, h => by
    have h1 := h t List.mem_cons_self
    have ih := sumT_len (ts := r) fun x hx => h x (List.mem_cons_of_mem _ hx)
    show (tx t).length + ((r.map tx).map (·.length)).sum ≤ m * (r.length + 1)
    rw [tx_len, Nat.mul_succ]
    omega
theorem fitT {ts : List (List Nat)} {s : Str} (h : ∀ t ∈ ts, t.length ≤ 2000) (l : ts.length ≤ 2000) (hs : s.length ≤ 1) : ((ts.map tx).map (·.length)).sum + (ts.map tx).length * s.length ≤ 16777216 := by
  have a := sumT_len h
  have b : 2000 * ts.length ≤ 2000 * 2000 := Nat.mul_le_mul_left _ l
  have c : (ts.map tx).length * s.length ≤ 2000 * 1 := by rw [List.length_map]; exact Nat.mul_le_mul l hs
  omega
theorem atX {c : Nat} {l : List Nat} {i : Nat} (h : l[i]? = some c) : atI (tx l).cps.toList (i : Int) = some c := atI_nat (j := i) h
mutual
/-- data without lists -/
inductive TDT : PyData → Prop
  | int (i : Int) : TDT (.int i)
  | str (x : Str) : TDT (.str x)
  | tup {ds : List PyData} : TDTs ds → TDT (.tuple ds)
inductive TDTs : List PyData → Prop
  | nil : TDTs []
  | cons {d : PyData} {ds : List PyData} : TDT d → TDTs ds → TDTs (d :: ds)
end
theorem tdT_ints : ∀ is : List Int, TDTs (is.map PyData.int)
  | [] => .nil
  | i :: r => .cons (.int i) (tdT_ints r)
theorem tdT_of : ∀ {ds : List PyData}, (∀ d ∈ ds, TDT d) → TDTs ds
  | [], _ => .nil
  | d :: r, h => .cons (h d List.mem_cons_self) (tdT_of fun x hx => h x (List.mem_cons_of_mem _ hx))
mutual
theorem dp_updT {K : PySem.W.Frag} {H : Hp} {l : Addr} {vs ws : List V} (hl : H l = some (.lst vs)) : ∀ {d : PyData}, TDT d → ∀ {v : V}, Dp K H v d → Dp K (upd H l (.lst ws)) v d
  | _, .int _, _, h => by cases h; exact .int _
  | _, .str _, _, h => by cases h; exact .str _
  | _, .tup ts, _, h => by
    obtain ⟨c, xs, rfl, hs, ha⟩ := tup_inv h
    exact .tup (sqT_upd hs hl) (dpAll_updT hl ts ha)
theorem dpAll_updT {K : PySem.W.Frag} {H : Hp} {l : Addr} {vs ws : List V} (hl : H l = some (.lst vs)) : ∀ {ds : List PyData}, TDTs ds → ∀ {xs : List V}, DpAll K H xs ds → DpAll K (upd H l (.lst ws)) xs ds
  | _, .nil, _, h => by cases h; exact .nil
  | _, .cons d ds, _, h => by
    cases h with
    | cons h1 h2 => exact .cons (dp_updT hl d h1) (dpAll_updT hl ds h2)
end
theorem elT_tdT : ∀ {k : Nat} {d : PyData} {t : List Nat}, ElT k d t → TDT d
  | 0, _, _, ⟨i, n, w, _, _, _, e, _⟩ => by subst e; exact .tup (tdT_ints [(i : Int), w, (n : Int)])
  | 1, _, _, ⟨i, w, _, _, e, _⟩ => by subst e; exact .tup (tdT_ints [(i : Int), w])
  | 2, _, _, ⟨i, w, s, _, _, _, e, _⟩ => by subst e; exact .tup (tdT_ints [(i : Int), w, s])
  | n + 3, _, _, h => by
    obtain ⟨w, s, _, _, e, _⟩ := (show ∃ (w s : Int), Sign w ∧ ShT s ∧ _ = PyData.tuple [.int w, .int s] ∧ _ = wayT w ++ shT s from h)
    subst e
    exact .tup (tdT_ints [w, s])
theorem elsT_tdT {k : Nat} {ds : List PyData} {ts : List (List Nat)} (h : ElsT k ds ts) : ∀ d ∈ ds, TDT d := fun d hd => by
  obtain ⟨i, hi⟩ := List.getElem?_of_mem hd
  obtain ⟨t, _, el⟩ := paired_getT h hi
  exact elT_tdT el
theorem splT {ts : List (List Nat)} (e : ts ≠ []) (h : ∀ t ∈ ts, 32 ∉ t) : Txt.split (tx (listT ts)) (Str.ofString " ") = ts.map tx := by
  unfold listT
  rw [if_neg e]
  exact splitT e h
theorem ok_tx {l : List Nat} (h : ∀ c ∈ l, c < 1000) : (PyData.str (tx l)).canLay0 = true ∧ (PyData.str (tx l)).depth ≤ 0 := by
  refine ⟨?_, Nat.le_refl _⟩
  show (tx l).cps.all (· < 0x110000) = true
  rw [Array.all_eq_true_iff_forall_mem]
  intro c hc
  have : c ∈ l := by simpa using hc
  exact decide_eq_true (Nat.lt_trans (h c this) (by decide))
theorem dpAll_strs {K : PySem.W.Frag} {H : Hp} : ∀ ss : List Str, DpAll K H (ss.map V.str) (ss.map PyData.str)
  | [] => .nil
  | s :: r => .cons (.str s) (dpAll_strs r)
theorem lay_txs {ts : List (List Nat)} (h : ∀ t ∈ ts, ∀ c ∈ t, c < 1000) : (PyData.list ((ts.map tx).map PyData.str)).canLay0 = true ∧ (PyData.list ((ts.map tx).map PyData.str)).depth ≤ 1 := lay_lst fun d hd => by
  obtain ⟨s, hs, rfl⟩ := List.mem_map.mp hd
  obtain ⟨t, ht, rfl⟩ := List.mem_map.mp hs
  exact ok_tx (h t ht)
/-- a list of texts against the empty one -/
theorem w_emptyS {K : PySem.W.Frag} {H : Hp} {Q : VK} {a b : Addr} {ts : List (List Nat)} (ha : SqL K H a ((ts.map tx).map V.str)) (hb : H b = some (.lst [])) (h : ∀ t ∈ ts, ∀ c ∈ t, c < 1000) (q : Q (.bl ts.isEmpty) H) : rEqD K (.ref a) (.ref b) H Q := by
  refine ⟨_, .list [], .lst ha (dpAll_strs _), .lst (.of hb) .nil, shaped_of (lay_txs h) (by decide), by decide, ?_⟩
  have : PyData.eqv (.list ((ts.map tx).map PyData.str)) (.list []) = ts.isEmpty := by
    cases ts with
    | nil => rfl
    | cons t r => rfl
  rw [this]
  exact q
theorem w_strSh {H : Hp} {Q : VK} {s : Int} (h : ShT s) (q : Q (.str (tx ((shT s).drop 1))) H) : rStrI [.int s] H Q := by
  obtain ⟨t, e1, e2⟩ := shT_say h
  refine ⟨_, rfl, ?_, by rw [show (toString s : Str) = _ from e1, e2]; exact q⟩
  rcases h with rfl | rfl | rfl <;> decide
/-- the sign of a way, picked out of a text -/
theorem w_waySg {H : Hp} {Q : VK} {w : Int} (hw : Sign w) (q : Q (.str (tx (wayT w))) H) : rIxS (.str (Str.ofString "+-")) (.int (if decide (w < 0) = true then 1 else 0)) H Q := by
  have e : Str.ofString "+-" = tx [43, 45] := tx_of "+-"
  have sz : (Str.ofString "+-").length ≤ sizeLine := by rw [e, tx_len]; decide
  rcases hw with rfl | rfl
  · exact ⟨_, _, 43, rfl, rfl, sz, by rw [e]; rfl, q⟩
  · exact ⟨_, _, 45, rfl, rfl, sz, by rw [e]; rfl, q⟩
theorem w_slTd {K : PySem.W.Frag} {H : Hp} {Q : VK} {g : Addr} {xs : List V} {n : Nat} (h : SqT K H g xs) (hn : n ≤ xs.length) (q : ∀ p H', Same H H' → SqT K H' p (xs.drop n) → Q (.ref p) H') : rSlA K (.ref g) (some (n : Int)) none H Q := by
  have cut : cutV xs (some (n : Int)) none = xs.drop n := by
    unfold cutV
    rw [HT.sIx_none, HT.sIx_nat, Nat.min_eq_left hn]
    exact List.take_of_length_le (by rw [List.length_drop]; exact Nat.le_refl _)
  refine ⟨g, _, rfl, h, fun whole => ?_, fun _ p np => ?_⟩
  · refine q g H (Same.refl H) ?_
    rw [← cut, show cutV xs (some (n : Int)) none = xs by unfold cutV; rw [whole.1, whole.2, List.drop_zero, Nat.sub_zero, List.take_length]]
    exact h
  · exact q p _ (same_upd np) (.of (by rw [upd_same, cut]))
theorem w_slTu {K : PySem.W.Frag} {H : Hp} {Q : VK} {g : Addr} {xs : List V} {n : Nat} (h : SqT K H g xs) (hn : n ≤ xs.length) (q : ∀ p H', Same H H' → SqT K H' p (xs.take n) → Q (.ref p) H') : rSlA K (.ref g) none (some (n : Int)) H Q := by
  have cut : cutV xs none (some (n : Int)) = xs.take n := by
    unfold cutV
    rw [HT.sIx_none, HT.sIx_nat, Nat.min_eq_left hn, List.drop_zero, Nat.sub_zero]
  refine ⟨g, _, rfl, h, fun whole => ?_, fun _ p np => ?_⟩
  · refine q g H (Same.refl H) ?_
    rw [← cut, show cutV xs none (some (n : Int)) = xs by unfold cutV; rw [whole.1, whole.2, List.drop_zero, Nat.sub_zero, List.take_length]]
    exact h
  · exact q p _ (same_upd np) (.of (by rw [upd_same, cut]))
theorem joinE (ts : List (List Nat)) : Txt.join (Str.ofString "") (ts.map tx) = tx ts.flatten := by
  rw [tx_of, show ("".toList.map Char.toNat) = [] from rfl, SX.join_S]
  congr 1
  induction ts with
  | nil => rfl
  | cons t r ih =>
    cases r with
    | nil => show t = t ++ []; rw [List.append_nil]
    | cons u s =>
      show t ++ ([] ++ TL.joinL [] (u :: s)) = t ++ (u :: s).flatten
      rw [List.nil_append, ih]
theorem flat_oneT : ∀ {rs : List Nat}, rs.length ≤ 1 → (∀ r ∈ rs, r < M40) → (rs.map nL).flatten.length ≤ 40
  | [], _, _ => Nat.zero_le _
  | [r], _, h => by
    have := nL_len (h r List.mem_cons_self)
    show ((nL r) ++ []).length ≤ 40
    rw [List.append_nil]
    exact this
  | _ :: _ :: _, h, _ => absurd h (by simp)
theorem allT_true : ∀ n : Nat, (List.replicate n true).all id = true
  | 0 => rfl
  | n + 1 => by rw [List.replicate_succ, List.all_cons, allT_true n]; rfl
theorem elT_ints : ∀ {k : Nat} {d : PyData} {t : List Nat}, ElT k d t → ∃ is : List Int, d = .tuple (is.map PyData.int) ∧ is.length ≤ 3
  | 0, _, _, ⟨i, n, w, _, _, _, e, _⟩ => ⟨[(i : Int), w, (n : Int)], e, Nat.le_refl 3⟩
  | 1, _, _, ⟨i, w, _, _, e, _⟩ => ⟨[(i : Int), w], e, (show 2 ≤ 3 by decide)⟩
  | 2, _, _, ⟨i, w, s, _, _, _, e, _⟩ => ⟨[(i : Int), w, s], e, Nat.le_refl 3⟩
  | n + 3, _, _, h => by
    obtain ⟨w, s, _, _, e, _⟩ := (show ∃ (w s : Int), Sign w ∧ ShT s ∧ _ = PyData.tuple [.int w, .int s] ∧ _ = wayT w ++ shT s from h)
    exact ⟨[w, s], e, (show 2 ≤ 3 by decide)⟩
theorem elsT_lay {k : Nat} {ds : List PyData} {ts : List (List Nat)} (h : ElsT k ds ts) : (PyData.list ds).canLay0 = true ∧ (PyData.list ds).depth ≤ 2 := lay_lst (n := 1) fun d hd => by
  obtain ⟨i, hi⟩ := List.getElem?_of_mem hd
  obtain ⟨t, _, el⟩ := paired_getT h hi
  obtain ⟨is, rfl, _⟩ := elT_ints el
  exact lay_tup (lay_ints is 0)
/-! lists of such things, handed about -/
def LsT (K : PySem.W.Frag) (H : Hp) (i : Nat) (a : Addr) (d : List PyData) (t : List (List Nat)) : Prop := ∃ xs, H a = some (.lst xs) ∧ DpAll K H xs d ∧ ElsT i d t ∧ t.length ≤ 1000
theorem LsT.same {K : PySem.W.Frag} {H H' : Hp} {i : Nat} {a : Addr} {d : List PyData} {t : List (List Nat)} (h : LsT K H i a d t) (s : Same H H') : LsT K H' i a d t := by
  obtain ⟨xs, h1, h2, h3, h4⟩ := h
  exact ⟨xs, s _ _ h1, dpAll_same s h2, h3, h4⟩
theorem LsT.put {K : PySem.W.Frag} {H : Hp} {i : Nat} {a S : Addr} {d : List PyData} {t : List (List Nat)} {vs ws : List V} (h : LsT K H i a d t) (n : a ≠ S) (hS : H S = some (.lst vs)) : LsT K (upd H S (.lst ws)) i a d t := by
  obtain ⟨xs, h1, h2, h3, h4⟩ := h
  exact ⟨xs, by rw [upd_ne n]; exact h1, dpAll_updT hS (tdT_of (elsT_tdT h3)) h2, h3, h4⟩
structure FourT (K : PySem.W.Frag) (H : Hp) (q S : Addr) (d : Nat → List PyData) (t : Nat → List (List Nat)) : Prop where
  ne : q ≠ S
  at_ : ∃ as : Nat → Addr, H q = some (.lst [.ref (as 0), .ref (as 1), .ref (as 2), .ref (as 3)]) ∧ ∀ i, i < 4 → as i ≠ S ∧ LsT K H i (as i) (d i) (t i)
theorem FourT.same {K : PySem.W.Frag} {H H' : Hp} {q S : Addr} {d : Nat → List PyData} {t : Nat → List (List Nat)} (h : FourT K H q S d t) (s : Same H H') : FourT K H' q S d t := by
  obtain ⟨n, as, h1, h2⟩ := h
  exact ⟨n, as, s _ _ h1, fun i hi => ⟨(h2 i hi).1, (h2 i hi).2.same s⟩⟩
theorem FourT.put {K : PySem.W.Frag} {H : Hp} {q S : Addr} {d : Nat → List PyData} {t : Nat → List (List Nat)} {vs ws : List V} (h : FourT K H q S d t) (hS : H S = some (.lst vs)) : FourT K (upd H S (.lst ws)) q S d t := by
  obtain ⟨n, as, h1, h2⟩ := h
  exact ⟨n, as, by rw [upd_ne n]; exact h1, fun i hi => ⟨(h2 i hi).1, (h2 i hi).2.put (h2 i hi).1 hS⟩⟩
theorem FourT.pick {K : PySem.W.Frag} {H : Hp} {q S : Addr} {d : Nat → List PyData} {t : Nat → List (List Nat)} (h : FourT K H q S d t) {i : Nat} (hi : i < 4) : ∃ xs a, H q = some (.lst xs) ∧ atI xs (i : Int) = some (.ref a) ∧ LsT K H i a (d i) (t i) := by
  obtain ⟨n, as, h1, h2⟩ := h
  have : i = 0 ∨ i = 1 ∨ i = 2 ∨ i = 3 := by omega
  rcases this with rfl | rfl | rfl | rfl
  · exact ⟨_, as 0, h1, rfl, (h2 0 hi).2⟩
  · exact ⟨_, as 1, h1, rfl, (h2 1 hi).2⟩
  · exact ⟨_, as 2, h1, rfl, (h2 2 hi).2⟩
  · exact ⟨_, as 3, h1, rfl, (h2 3 hi).2⟩
theorem FourT.dp {K : PySem.W.Frag} {H : Hp} {q S : Addr} {d : Nat → List PyData} {t : Nat → List (List Nat)} (h : FourT K H q S d t) : Dp K H (.ref q) (.list [.list (d 0), .list (d 1), .list (d 2), .list (d 3)]) := by
  obtain ⟨n, as, h1, h2⟩ := h
  have one : ∀ i, i < 4 → Dp K H (.ref (as i)) (.list (d i)) := fun i hi => by
    obtain ⟨_, xs, e1, e2, _⟩ := h2 i hi
    exact .lst (.of e1) e2
  exact .lst (.of h1) (.cons (one 0 (by decide)) (.cons (one 1 (by decide)) (.cons (one 2 (by decide)) (.cons (one 3 (by decide)) .nil))))
theorem dpAll_takeT {K : PySem.W.Frag} {H : Hp} : ∀ (n : Nat) {vs : List V} {ds : List PyData}, DpAll K H vs ds → DpAll K H (vs.take n) (ds.take n)
  | 0, _, _, _ => .nil
  | n + 1, _, _, .nil => .nil
  | n + 1, _, _, .cons h t => .cons h (dpAll_takeT n t)
theorem paired_takeT {α β : Type} {R : α → β → Prop} : ∀ (n : Nat) {l : List α} {m : List β}, Paired R l m → Paired R (l.take n) (m.take n)
  | 0, _, _, _ => .nil
  | n + 1, _, _, .nil => .nil
  | n + 1, _, _, .cons h t => .cons h (paired_takeT n t)
theorem paired_appT {α β : Type} {R : α → β → Prop} : ∀ {l : List α} {m : List β} {l' : List α} {m' : List β}, Paired R l m → Paired R l' m' → Paired R (l ++ l') (m ++ m')
  | _, _, _, _, .nil, h => h
  | _, _, _, _, .cons h t, g => .cons h (paired_appT t g)
theorem dpAll_repT {K : PySem.W.Frag} {H : Hp} {vs : List V} {ds : List PyData} (h : DpAll K H vs ds) : ∀ n : Nat, DpAll K H (List.replicate n vs).flatten (List.replicate n ds).flatten
  | 0 => .nil
  | n + 1 => by
    rw [List.replicate_succ, List.replicate_succ, List.flatten_cons, List.flatten_cons]
    exact dpAll_app h (dpAll_repT h n)
theorem paired_repT {α β : Type} {R : α → β → Prop} {l : List α} {m : List β} (h : Paired R l m) : ∀ n : Nat, Paired R (List.replicate n l).flatten (List.replicate n m).flatten
  | 0 => .nil
  | n + 1 => by
    rw [List.replicate_succ, List.replicate_succ, List.flatten_cons, List.flatten_cons]
    exact paired_appT h (paired_repT h n)
/-- so many times over, and cut off -/
theorem LsT.over {K : PySem.W.Frag} {H : Hp} {i n k : Nat} {b : Addr} {xs : List V} {d : List PyData} {t : List (List Nat)} (hk : k ≤ 1000) (dx : DpAll K H xs d) (els : ElsT i d t) (hb : H b = some (.lst ((List.replicate n xs).flatten.take k))) : LsT K H i b ((List.replicate n d).flatten.take k) ((List.replicate n t).flatten.take k) :=
  ⟨_, hb, dpAll_takeT k (dpAll_repT dx n), paired_takeT k (paired_repT els n), by rw [List.length_take]; omega⟩
end Ct

/-! all, any over the signs of a text -/
namespace Ct
open PySem PySem.Spec PyProof.Rows L2
theorem gb_str {P : Addr} {st : Bool} (l : List Nat) {g : TG} {te : TE} {vs : List Nat} {σ : L2.St} {H : Hp} {Q : VK} (Pv : Nat → Hp → Prop) (hT : H P = some (TabX P)) (h0 : Pv 0 H)
    (hs : ∀ i c H1, l[i]? = some c → Pv i H1 → g (.str (tx [c])) (wipe σ vs) H1 fun σ3 H3 => wipe σ3 vs = wipe σ vs ∧ te σ3 H3 fun y H4 => ∃ b, y = .bl b ∧ if b = st then Q (.bl st) H4 else Pv (i + 1) H4) (hd : ∀ H1, Pv l.length H1 → Q (.bl (!st)) H1) : GB P st (Its (tx l)) g te vs σ H Q := by
  have n : (tx l).cps.size = l.length := tx_len l
  refine gb_it (walk_str (z := tx l)) Pv hT h0 (fun _ _ _ _ => trivial) (fun i x H1 H2 hi p y => ?_) (fun H1 p => hd H1 (by rw [← n]; exact p))
  obtain ⟨rfl, c, hc, rfl⟩ := y
  exact hs i c _ (by rw [← List.getElem?_toArray]; exact hc) p
end Ct

/-! such lists where draws are kept -/
namespace Ct
open PySem PySem.Spec PyProof.Rows L2
theorem Dr.over {H H' H2 : Hp} {D : Addr} {c : Nat} (g : Dr D c H' H2) (s : Same H H') (n : H D = none) : Same H H2 := fun b o e => g.1 b o (fun z => by rw [z, n] at e; cases e) (s b o e)
theorem LsT.dr {K : PySem.W.Frag} {H H' : Hp} {i c c' : Nat} {a D : Addr} {d : List PyData} {t : List (List Nat)} (h : LsT K H i a d t) (g : Dr D c' H H') (hD : H D = some (DrO D c)) : LsT K H' i a d t := by
  obtain ⟨xs, h1, h2, h3, h4⟩ := h
  exact ⟨xs, g.at hD h1, g.all hD h2, h3, h4⟩
theorem FourT.dr {K : PySem.W.Frag} {H H' : Hp} {q S D : Addr} {c c' : Nat} {d : Nat → List PyData} {t : Nat → List (List Nat)} (h : FourT K H q S d t) (g : Dr D c' H H') (hD : H D = some (DrO D c)) : FourT K H' q S d t := by
  obtain ⟨n, as, h1, h2⟩ := h
  exact ⟨n, as, g.at hD h1, fun i hi => ⟨(h2 i hi).1, (h2 i hi).2.dr g hD⟩⟩
end Ct

local macro_rules | `(tactic| walk_at "ct") => `(tactic| repeat (first
  | with_reducible refine Ct.w_seq ?_ | with_reducible refine Ct.w_gen ?_ | with_reducible refine Ct.w_asg ?_ | with_reducible refine Ct.w_ret ?_ | with_reducible refine Ct.w_ifS ?_ | with_reducible refine Ct.w_drop ?_ | with_reducible refine Ct.w_next ?_
  | with_reducible refine Ct.w_op ?_ | with_reducible refine Ct.w_c ?_ | with_reducible refine Ct.w_chain ?_ | with_reducible refine Ct.w_un ?_ | with_reducible refine Ct.w_test ?_ | with_reducible refine Ct.w_B ?_ | with_reducible refine Ct.w_and ?_ | with_reducible refine Ct.w_or ?_ | with_reducible refine Ct.w_not ?_ | with_reducible refine Ct.w_if ?_
  | with_reducible refine Ct.w_andV ?_ | with_reducible refine Ct.w_orV ?_ | with_reducible refine Ct.w_notV ?_
  | with_reducible refine Ct.w_nil ?_ | with_reducible refine Ct.w_cons ?_ | with_reducible refine Ct.w_cb ?_ | with_reducible refine Ct.w_call ?_ | with_reducible refine Ct.w_tup ?_ | with_reducible refine Ct.w_lst ?_ | with_reducible refine Ct.w_bm ?_
  | with_reducible refine Ct.w_knotin ?_ | with_reducible refine Ct.w_kget ?_ | with_reducible refine Ct.w_callE ?_ | with_reducible refine Ct.w_fmt ?_ | with_reducible refine Ct.w_js ?_ | with_reducible refine Ct.w_jnil ?_ | with_reducible refine Ct.w_jcons ?_ | with_reducible refine Ct.w_m0 ?_ | with_reducible refine Ct.w_m1 ?_ | with_reducible refine Ct.w_istr ?_ | with_reducible refine Ct.w_lock ?_
  | with_reducible refine Ct.w_for ?_ | with_reducible refine Ct.w_rng1 ?_ | with_reducible refine Ct.w_rng2 ?_ | with_reducible refine Ct.w_ilist ?_ | with_reducible refine Ct.w_itup ?_ | with_reducible refine Ct.w_im ?_ | with_reducible refine Ct.w_enum ?_ | with_reducible refine Ct.w_irev ?_ | with_reducible refine Ct.w_dcT ?_ | with_reducible refine Ct.w_bm0 ?_ | with_reducible refine Ct.w_dnewT ?_ | with_reducible refine Ct.w_dnotin ?_ | with_reducible refine Ct.w_dget ?_ | with_reducible refine Ct.w_dput ?_ | with_reducible refine Ct.w_lc ?_ | with_reducible refine Ct.w_lc2 ?_ | with_reducible refine Ct.w_star ?_ | with_reducible refine Ct.w_revL ?_ | with_reducible refine Ct.w_yes ?_
  | with_reducible refine Ct.w_gcons ?_ | with_reducible refine Ct.w_gnil ?_ | with_reducible refine Ct.w_gsub ?_ | with_reducible refine Ct.w_sl ?_ | with_reducible refine Ct.w_nopart ?_ | with_reducible refine Ct.w_part ?_
  | with_reducible refine Ct.w_rI0 ?_ | with_reducible refine Ct.w_rU ?_ | with_reducible refine Ct.w_rEqI ?_ | with_reducible refine Ct.w_rNeI ?_ | with_reducible refine Ct.w_ipI ?_ | with_reducible refine Ct.w_bl ?_ | with_reducible refine Ct.w_in ?_ | with_reducible refine Ct.w_break ?_ | with_reducible refine Ct.w_cont ?_ | with_reducible refine Ct.w_nT ?_ | with_reducible refine Ct.w_nF ?_ | with_reducible refine L2.iteT ?_ | with_reducible refine L2.iteF ?_
  | ((with_reducible refine Ct.w_rEqS (b := true) ?ceq ?_); (case ceq => decide +kernel)) | ((with_reducible refine Ct.w_rEqS (b := false) ?ceq ?_); (case ceq => decide +kernel))
  | with_reducible refine Ct.w_var rfl ?_
  | ((with_reducible refine' Ct.w_ixT ?cas ?cix ?_); (case cas => assumption); (case cix => first | exact Ct.at0 | exact Ct.at1 | exact Ct.at2 | exact rfl))
  | ((with_reducible refine' Ct.w_name ?cnm ?_); (case cnm => simp only [L2.wipe, List.map, List.set_cons_zero, List.set_cons_succ]; exact rfl)) ))
local macro_rules | `(tactic| walk_at "cq") => `(tactic| repeat (first
  | with_reducible refine Ct.w_gen ?_ | with_reducible refine Ct.w_asg ?_ | with_reducible refine Ct.w_ret ?_ | with_reducible refine Ct.w_ifS ?_ | with_reducible refine Ct.w_drop ?_ | with_reducible refine Ct.w_next ?_
  | with_reducible refine Ct.w_op ?_ | with_reducible refine Ct.w_c ?_ | with_reducible refine Ct.w_chain ?_ | with_reducible refine Ct.w_un ?_ | with_reducible refine Ct.w_test ?_ | with_reducible refine Ct.w_B ?_ | with_reducible refine Ct.w_and ?_ | with_reducible refine Ct.w_or ?_ | with_reducible refine Ct.w_not ?_ | with_reducible refine Ct.w_if ?_
  | with_reducible refine Ct.w_andV ?_ | with_reducible refine Ct.w_orV ?_ | with_reducible refine Ct.w_notV ?_
  | with_reducible refine Ct.w_nil ?_ | with_reducible refine Ct.w_cons ?_ | with_reducible refine Ct.w_cb ?_ | with_reducible refine Ct.w_call ?_ | with_reducible refine Ct.w_tup ?_ | with_reducible refine Ct.w_lst ?_ | with_reducible refine Ct.w_bm ?_
  | with_reducible refine Ct.w_knotin ?_ | with_reducible refine Ct.w_kget ?_ | with_reducible refine Ct.w_callE ?_ | with_reducible refine Ct.w_fmt ?_ | with_reducible refine Ct.w_js ?_ | with_reducible refine Ct.w_jnil ?_ | with_reducible refine Ct.w_jcons ?_ | with_reducible refine Ct.w_m0 ?_ | with_reducible refine Ct.w_m1 ?_ | with_reducible refine Ct.w_istr ?_ | with_reducible refine Ct.w_lock ?_
  | with_reducible refine Ct.w_for ?_ | with_reducible refine Ct.w_rng1 ?_ | with_reducible refine Ct.w_rng2 ?_ | with_reducible refine Ct.w_ilist ?_ | with_reducible refine Ct.w_itup ?_ | with_reducible refine Ct.w_im ?_ | with_reducible refine Ct.w_enum ?_ | with_reducible refine Ct.w_irev ?_ | with_reducible refine Ct.w_dcT ?_ | with_reducible refine Ct.w_bm0 ?_ | with_reducible refine Ct.w_dnewT ?_ | with_reducible refine Ct.w_dnotin ?_ | with_reducible refine Ct.w_dget ?_ | with_reducible refine Ct.w_dput ?_ | with_reducible refine Ct.w_lc ?_ | with_reducible refine Ct.w_lc2 ?_ | with_reducible refine Ct.w_star ?_ | with_reducible refine Ct.w_revL ?_ | with_reducible refine Ct.w_yes ?_
  | with_reducible refine Ct.w_gcons ?_ | with_reducible refine Ct.w_gnil ?_ | with_reducible refine Ct.w_gsub ?_ | with_reducible refine Ct.w_sl ?_ | with_reducible refine Ct.w_nopart ?_ | with_reducible refine Ct.w_part ?_
  | with_reducible refine Ct.w_rI0 ?_ | with_reducible refine Ct.w_rU ?_ | with_reducible refine Ct.w_rEqI ?_ | with_reducible refine Ct.w_rNeI ?_ | with_reducible refine Ct.w_ipI ?_ | with_reducible refine Ct.w_bl ?_ | with_reducible refine Ct.w_in ?_ | with_reducible refine Ct.w_break ?_ | with_reducible refine Ct.w_cont ?_ | with_reducible refine Ct.w_nT ?_ | with_reducible refine Ct.w_nF ?_ | with_reducible refine L2.iteT ?_ | with_reducible refine L2.iteF ?_
  | ((with_reducible refine Ct.w_rEqS (b := true) ?ceq ?_); (case ceq => decide +kernel)) | ((with_reducible refine Ct.w_rEqS (b := false) ?ceq ?_); (case ceq => decide +kernel))
  | with_reducible refine Ct.w_var rfl ?_
  | ((with_reducible refine' Ct.w_ixT ?cas ?cix ?_); (case cas => assumption); (case cix => first | exact Ct.at0 | exact Ct.at1 | exact Ct.at2 | exact rfl))
  | ((with_reducible refine' Ct.w_name ?cnm ?_); (case cnm => simp only [L2.wipe, List.map, List.set_cons_zero, List.set_cons_succ]; exact rfl)) ))

local macro_rules | `(tactic| walk_at "sf") => `(tactic| (first
  | assumption
  | ((refine L2.Same.trans (by assumption) ?_); (walk_at "sf"))))
local macro_rules | `(tactic| walk_at "sb") => `(tactic| (first
  | assumption
  | ((refine L2.Same.trans ?_ (by assumption)); (walk_at "sb"))))
local macro_rules | `(tactic| walk_at "sm") => `(tactic| (first
  | assumption
  | exact L2.Same.refl _
  | (walk_at "sf")
  | (walk_at "sb")))
local macro_rules | `(tactic| walk_at "mv") => `(tactic| (first
  | assumption
  | ((with_reducible refine Ct.mv_get ?_ (by assumption)); (walk_at "sm"))
  | (with_reducible refine L2.SqL.of (by assumption))
  | (with_reducible refine L2.SqT.of (by assumption))
  | ((with_reducible refine Ct.mv_lst ?_ (by assumption)); (walk_at "sm"))
  | ((with_reducible refine Ct.mv_tup ?_ (by assumption)); (walk_at "sm"))
  | ((with_reducible refine Ct.mv_sql ?_ (by assumption)); (walk_at "sm"))
  | ((with_reducible refine Ct.mv_sqt ?_ (by assumption)); (walk_at "sm"))
  | ((with_reducible refine Ct.mv_dp ?_ (by assumption)); (walk_at "sm"))
  | ((with_reducible refine Ct.mv_dpa ?_ (by assumption)); (walk_at "sm"))
  | ((with_reducible refine Ct.mv_train ?_ (by assumption)); (walk_at "sm"))
  | ((with_reducible refine Ct.mv_free ?_ (by assumption)); (walk_at "sm"))
  | ((with_reducible refine Ct.TrS.same (by assumption) ?_); (walk_at "sm"))
  | (refine L2.SqL.of (by assumption))
  | (refine L2.SqT.of (by assumption))
  | ((refine Ct.mv_lst ?_ (by assumption)); (walk_at "sm"))
  | ((refine Ct.mv_tup ?_ (by assumption)); (walk_at "sm"))
  | ((refine Ct.mv_sql ?_ (by assumption)); (walk_at "sm"))
  | ((refine Ct.mv_sqt ?_ (by assumption)); (walk_at "sm"))
  | (walk_at "sm")))

namespace My
open PySem PySem.Spec PyProof.Rows L2 Ct
def topS (i : Nat) : Stmt := PySem.Challenge.pw_clicktrain_k72_rows_and_shows_as_texts.main.body.getD i (.Pass ⟨0, 0, 0, 0⟩)
section
variable {P : Program} {w : World} {K : PySem.W.Frag} {mg : Str → Option Value} {base : Heap}
abbrev S_show_way : Stmt := topS 8
theorem sc_show_way : FnScope ["way"] ["way"] (defScope S_show_way) := ⟨rfl, rfl, rfl, by decide +kernel, rfl, by decide +kernel, by decide +kernel⟩
def sp_show_way (K : PySem.W.Frag) : Sp := fun vs H Q _ => ∃ w : Int, vs = [.int w] ∧ Sign w ∧ Q (.str (tx (wayT w))) H
theorem ok_show_way {f : Addr} {fd : FuncData} (F : Fun K "show_way" "show_way" S_show_way f fd) :
    FnOk P w K mg base CX0 1 f fd ["way"] (sp_show_way K) := by
  refine F.ok sc_show_way (fun vs H Q E h => ?_) (fun cdv A outer s H vs Q E hr h => ?_)
  ·
    obtain ⟨w, rfl, _⟩ := h
    rfl
  ·
    obtain ⟨w, rfl, hw, q⟩ := h
    refine ⟨_, (pss_one (ps_ret (pe_ifExp (pt_cmpR op_eq (pv 0) pe_int (nomark _)) pe_str pe_str))), ?_⟩
    refine w_st (σ' := [some (.int w)]) rfl ?_
    walk_at "ct"
    refine w_ite (fun e => ?_) (fun e => ?_)
    · walk_at "ct"
      unfold wayT at q
      rw [if_pos e] at q
      exact q
    · walk_at "ct"
      unfold wayT at q
      rw [if_neg e] at q
      exact q
abbrev S_show_list : Stmt := topS 9
theorem sc_show_list : FnScope ["things", "show_one", "thing"] ["things", "show_one"] (defScope S_show_list) := ⟨rfl, rfl, rfl, by decide +kernel, rfl, by decide +kernel, by decide +kernel⟩
def sp_show_list (K : PySem.W.Frag) (R : Addr → Sp → Prop) : Sp := fun vs H Q _ => ∃ (a f : Addr) (sp : Sp) (xs : List V) (ts : List (List Nat)), vs = [.ref a, .ref f] ∧ R f sp ∧ SqL K H a xs ∧ xs.length = ts.length ∧ (∀ (i : Nat) (x : V) (t : List Nat), xs[i]? = some x → ts[i]? = some t → ∀ (H1 : Hp) (Q1 : VK), Same H H1 → (∀ H2, Same H1 H2 → Q1 (.str (tx t)) H2) → sp [x] H1 Q1 L2.E0) ∧ (∀ t ∈ ts, t.length ≤ 2000) ∧ ts.length ≤ 2000 ∧ ∀ H', Same H H' → Q (.str (tx (listT ts))) H'
theorem ok_show_list {f : Addr} {fd : FuncData} {R : Addr → Sp → Prop} (F : Fun K "show_list" "show_list" S_show_list f fd)
    (HR : ∀ f sp, R f sp → Held P w K mg base 12 f sp) :
    FnOk P w K mg base CX0 13 f fd ["things", "show_one"] (sp_show_list K R) := by
  refine F.ok sc_show_list (fun vs H Q E h => ?_) (fun cdv A outer s H vs Q E hr h => ?_)
  ·
    obtain ⟨a, f, sp, xs, ts, rfl, _⟩ := h
    rfl
  ·
    obtain ⟨a, f, sp, xs, ts, rfl, r, hxs, len, one, l1, l2, q⟩ := h
    refine ⟨_, (pss_cons (ps_if (pt_not (pt_truth (pv 0) (by intro _; rfl))) (pss_one (ps_ret pe_str)) pss_nil)
      (pss_one (ps_ret (pe_join pe_str (pe_lc (own := [("thing", 2)]) (g := gName 2)  rfl sc_show_list.nd  (pi_list (pv 0)) (blkOk_by (own := [("thing", 2)]) (N := ["things", "show_one", "thing"]) (sc := defScope S_show_list) (by decide +kernel)) (fun _ _ _ _ _ => pg_name (i := 2) sc_show_list.nd rfl (Or.inl rfl)) (fun _ _ _ _ _ => pts_nil) (fun _ _ _ _ _ => (pe_callR (i := 1) (R := R) HR (hr.mono (by decide)) (by rfl) (by first | exact Or.inl rfl | exact Or.inr (Or.inl rfl) | exact Or.inr (Or.inr rfl)) (pa_cons (pv 2) pa_nil)))))))), ?_⟩
    refine w_st (σ' := [some (.ref a), some (.ref f), none]) rfl ?_
    walk_at "ct"
    refine ⟨!xs.isEmpty, .inl ⟨xs, hxs, rfl⟩, ?_⟩
    cases ts with
    | nil =>
      cases xs with
      | cons x r => cases len
      | nil =>
        refine L2.iteT ?_
        walk_at "ct"
        rw [tx_of]
        exact q H (Same.refl H)
    | cons t0 tr =>
      cases xs with
      | nil => cases len
      | cons x0 xr =>
        refine L2.iteF ?_
        walk_at "ct"
        refine ⟨⟨_, rfl⟩, ?_⟩
        walk_at "ct"
        refine w_IL hxs ?_
        refine lb_list (x0 :: xr) (fun D i J => Same H J ∧ J D = some (.lst ((((t0 :: tr).take i).map tx).map V.str))) (fun D nD => ⟨same_upd nD, upd_same⟩) (fun D nD i J _ h => h.1.seq hxs) ?_ ?_
        · rintro D nD i x J hx ⟨sJ, hD⟩
          have hi : i < (x0 :: xr).length := (List.getElem?_eq_some_iff.mp hx).1
          obtain ⟨t, ht⟩ : ∃ t, (t0 :: tr)[i]? = some t := ⟨_, List.getElem?_eq_getElem (by omega)⟩
          walk_at "ct"
          refine ⟨rfl, ?_⟩
          walk_at "ct"
          refine w_callR (f := f) rfl r ?_
          walk_at "ct"
          refine one i x t hx ht _ _ sJ fun J2 s2 => ?_
          refine ⟨_, s2 _ _ hD, by rw [List.length_map, List.length_map, List.length_take]; exact Nat.lt_of_le_of_lt (show _ ≤ 2000 by omega) (by decide), same_new (sJ.trans s2) nD, ?_⟩
          rw [upd_same, List.take_add_one, ht, List.map_append, List.map_append]
          rfl
        rintro D nD J ⟨sJ, hD⟩
        rw [len, List.take_of_length_le (Nat.le_refl _)] at hD
        refine ⟨_, D, _, rfl, rfl, .inl (.of hD), ?_, ?_⟩
        · exact fitT l1 l2 (by decide)
        · rw [joinT " " (sep := [32]) (by decide)]
          have := q J sJ
          unfold listT at this
          rw [if_neg (fun z => nomatch z)] at this
          exact this
abbrev S_show_deed : Stmt := topS 10
theorem sc_show_deed : FnScope ["deed", "i", "way", "times"] ["deed"] (defScope S_show_deed) := ⟨rfl, rfl, rfl, by decide +kernel, rfl, by decide +kernel, by decide +kernel⟩
def sp_show_deed (K : PySem.W.Frag) : Sp := fun vs H Q _ => ∃ (v : V) (d : PyData) (t : List Nat), vs = [v] ∧ Dp K H v d ∧ ElT 0 d t ∧ Q (.str (tx t)) H
theorem ok_show_deed {f : Addr} {fd : FuncData} {f_show_way : Addr} {fd_show_way : FuncData} (F : Fun K "show_deed" "show_deed" S_show_deed f fd)
    (F_show_way : Fun K "show_way" "show_way" S_show_way f_show_way fd_show_way) (b_show_way : Binds K fd_show_way ["way"] []) (g_show_way : mg "show_way" = some (.ref f_show_way)) (G_show_way : FnOk P w K mg base CX0 1 f_show_way fd_show_way ["way"] (sp_show_way K)) :
    FnOk P w K mg base CX0 2 f fd ["deed"] (sp_show_deed K) := by
  refine F.ok sc_show_deed (fun vs H Q E h => ?_) (fun cdv A outer s H vs Q E hr h => ?_)
  ·
    obtain ⟨v, d, t, rfl, _⟩ := h
    rfl
  ·
    obtain ⟨v, d, t, rfl, hv, ⟨i, k, w, hi, hk, hw, rfl, rfl⟩, q⟩ := h
    refine ⟨_, (pss_cons (ps_asg (pv 0) (pg_tup rfl (pgs_cons (pg_name (i := 1) sc_show_deed.nd rfl (.inl rfl)) (pgs_cons (pg_name (i := 2) sc_show_deed.nd rfl (.inl rfl)) (pgs_cons (pg_name (i := 3) sc_show_deed.nd rfl (.inl rfl)) pgs_nil)))))
      (pss_one (ps_ret (pe_joined (.cons (pe_fmt (pv 1)) (.cons (pe_fmt (pe_call G_show_way (hr.mono (by decide)) (by rfl) g_show_way F_show_way.kp b_show_way .nil pass0 (pa_cons (pv 2) pa_nil))) (.cons (pe_fmt (pv 3)) .nil))))))), ?_⟩
    refine w_st (σ' := [some v, none, none, none]) rfl ?_
    obtain ⟨a, rfl, hs⟩ := dpi_inv (is := [(i : Int), w, (k : Int)]) hv
    have hs : SqT K H a [.int (i : Int), .int w, .int (k : Int)] := hs
    walk_at "ct"
    refine w_gtup hs rfl ?_
    walk_at "ct"
    refine w_fmtI (Nat.lt_trans hi (by decide)) ?_
    have l1 := nL_len hi
    have l2 := nL_len hk
    have l3 := wayT_len w
    refine w_jq (by show 0 + _ ≤ _; omega) ?_
    walk_at "ct"
    refine ⟨w, rfl, hw, ?_⟩
    refine w_fmtS (by omega) ?_
    refine w_jq (by rw [List.nil_append]; omega) ?_
    walk_at "ct"
    refine w_fmtI (Nat.lt_trans hk (by decide)) ?_
    refine w_jq (by rw [List.nil_append, List.length_append]; omega) ?_
    walk_at "ct"
    exact q
abbrev S_show_row : Stmt := topS 11
theorem sc_show_row : FnScope ["row"] ["row"] (defScope S_show_row) := ⟨rfl, rfl, rfl, by decide +kernel, rfl, by decide +kernel, by decide +kernel⟩
def sp_show_row (K : PySem.W.Frag) : Sp := fun vs H Q _ => ∃ (a : Addr) (xs : List V) (ds : List PyData) (ts : List (List Nat)), vs = [.ref a] ∧ SqL K H a xs ∧ DpAll K H xs ds ∧ ElsT 0 ds ts ∧ ts.length ≤ 2000 ∧ ∀ H', Same H H' → Q (.str (tx (listT ts))) H'
theorem ok_show_row {f : Addr} {fd : FuncData} {f_show_list : Addr} {fd_show_list : FuncData} {f_show_deed : Addr} {fd_show_deed : FuncData} (F : Fun K "show_row" "show_row" S_show_row f fd)
    (F_show_list : Fun K "show_list" "show_list" S_show_list f_show_list fd_show_list) (b_show_list : Binds K fd_show_list ["things", "show_one"] []) (g_show_list : mg "show_list" = some (.ref f_show_list)) (G_show_list : ∀ R, (∀ f sp, R f sp → Held P w K mg base 12 f sp) → FnOk P w K mg base CX0 13 f_show_list fd_show_list ["things", "show_one"] (sp_show_list K R))
    (F_show_deed : Fun K "show_deed" "show_deed" S_show_deed f_show_deed fd_show_deed) (b_show_deed : Binds K fd_show_deed ["deed"] []) (g_show_deed : mg "show_deed" = some (.ref f_show_deed)) (G_show_deed : FnOk P w K mg base CX0 2 f_show_deed fd_show_deed ["deed"] (sp_show_deed K)) :
    FnOk P w K mg base CX0 14 f fd ["row"] (sp_show_row K) := by
  refine F.ok sc_show_row (fun vs H Q E h => ?_) (fun cdv A outer s H vs Q E hr h => ?_)
  ·
    obtain ⟨a, xs, ds, ts, rfl, _⟩ := h
    rfl
  ·
    obtain ⟨a, xs, ds, ts, rfl, hxs, hds, els, l2, q⟩ := h
    refine ⟨_, (pss_one (ps_ret (pe_call (G_show_list (fun (f : Addr) (sp : Sp) => (f = f_show_deed ∧ sp = (sp_show_deed K)) ∨ (fun (_ : Addr) (_ : Sp) => False) f sp) (held_cons (held_at (k := 12) G_show_deed (by decide) F_show_deed.kp b_show_deed) held_nil)) (hr.mono (by decide)) (by rfl) g_show_list F_show_list.kp b_show_list .nil pass0 (pa_cons (pv 0) (pa_cons (pe_glob (v := .ref f_show_deed) (by rfl) g_show_deed rfl) pa_nil))))), ?_⟩
    refine w_st (σ' := [some (.ref a)]) rfl ?_
    walk_at "ct"
    refine ⟨a, f_show_deed, _, xs, ts, rfl, .inl ⟨rfl, rfl⟩, hxs, by rw [dpAll_len hds, Paired.length els], fun i x t hx ht H1 Q1 s1 q1 => ?_, fun t ht => Nat.le_trans (elsT_len els t ht) (by decide), l2, q⟩
    have hi := (List.getElem?_eq_some_iff.mp hx).1
    obtain ⟨d, hd⟩ : ∃ d, ds[i]? = some d := ⟨_, List.getElem?_eq_getElem (by rw [← dpAll_len hds]; exact hi)⟩
    obtain ⟨x', hx', dx⟩ := dpAll_get hds hd
    cases Option.some.inj (hx.symm.trans hx')
    obtain ⟨t', ht', el⟩ := paired_getT els hd
    cases Option.some.inj (ht.symm.trans ht')
    exact ⟨x, d, t, rfl, dp_same s1 dx, el, q1 H1 (Same.refl _)⟩
abbrev S_show_push : Stmt := topS 12
theorem sc_show_push : FnScope ["push", "i", "way"] ["push"] (defScope S_show_push) := ⟨rfl, rfl, rfl, by decide +kernel, rfl, by decide +kernel, by decide +kernel⟩
def sp_show_push (K : PySem.W.Frag) : Sp := fun vs H Q _ => ∃ (v : V) (d : PyData) (t : List Nat), vs = [v] ∧ Dp K H v d ∧ ElT 1 d t ∧ Q (.str (tx t)) H
theorem ok_show_push {f : Addr} {fd : FuncData} {f_show_way : Addr} {fd_show_way : FuncData} (F : Fun K "show_push" "show_push" S_show_push f fd)
    (F_show_way : Fun K "show_way" "show_way" S_show_way f_show_way fd_show_way) (b_show_way : Binds K fd_show_way ["way"] []) (g_show_way : mg "show_way" = some (.ref f_show_way)) (G_show_way : FnOk P w K mg base CX0 1 f_show_way fd_show_way ["way"] (sp_show_way K)) :
    FnOk P w K mg base CX0 2 f fd ["push"] (sp_show_push K) := by
  refine F.ok sc_show_push (fun vs H Q E h => ?_) (fun cdv A outer s H vs Q E hr h => ?_)
  ·
    obtain ⟨v, d, t, rfl, _⟩ := h
    rfl
  ·
    obtain ⟨v, d, t, rfl, hv, ⟨i, w, hi, hw, rfl, rfl⟩, q⟩ := h
    refine ⟨_, (pss_cons (ps_asg (pv 0) (pg_tup rfl (pgs_cons (pg_name (i := 1) sc_show_push.nd rfl (.inl rfl)) (pgs_cons (pg_name (i := 2) sc_show_push.nd rfl (.inl rfl)) pgs_nil))))
      (pss_one (ps_ret (pe_joined (.cons (pe_fmt (pv 1)) (.cons (pe_fmt (pe_call G_show_way (hr.mono (by decide)) (by rfl) g_show_way F_show_way.kp b_show_way .nil pass0 (pa_cons (pv 2) pa_nil))) .nil)))))), ?_⟩
    refine w_st (σ' := [some v, none, none]) rfl ?_
    obtain ⟨a, rfl, hs⟩ := dpi_inv (is := [(i : Int), w]) hv
    have hs : SqT K H a [.int (i : Int), .int w] := hs
    walk_at "ct"
    refine w_gtup hs rfl ?_
    walk_at "ct"
    refine w_fmtI (Nat.lt_trans hi (by decide)) ?_
    have l1 := nL_len hi
    have l3 := wayT_len w
    refine w_jq (by show 0 + _ ≤ _; omega) ?_
    walk_at "ct"
    refine ⟨w, rfl, hw, ?_⟩
    refine w_fmtS (by omega) ?_
    refine w_jq (by rw [List.nil_append]; omega) ?_
    walk_at "ct"
    exact q
abbrev S_show_pushes : Stmt := topS 13
theorem sc_show_pushes : FnScope ["pushes"] ["pushes"] (defScope S_show_pushes) := ⟨rfl, rfl, rfl, by decide +kernel, rfl, by decide +kernel, by decide +kernel⟩
def sp_show_pushes (K : PySem.W.Frag) : Sp := fun vs H Q _ => ∃ (a : Addr) (xs : List V) (ds : List PyData) (ts : List (List Nat)), vs = [.ref a] ∧ SqL K H a xs ∧ DpAll K H xs ds ∧ ElsT 1 ds ts ∧ ts.length ≤ 2000 ∧ ∀ H', Same H H' → Q (.str (tx (listT ts))) H'
theorem ok_show_pushes {f : Addr} {fd : FuncData} {f_show_list : Addr} {fd_show_list : FuncData} {f_show_push : Addr} {fd_show_push : FuncData} (F : Fun K "show_pushes" "show_pushes" S_show_pushes f fd)
    (F_show_list : Fun K "show_list" "show_list" S_show_list f_show_list fd_show_list) (b_show_list : Binds K fd_show_list ["things", "show_one"] []) (g_show_list : mg "show_list" = some (.ref f_show_list)) (G_show_list : ∀ R, (∀ f sp, R f sp → Held P w K mg base 12 f sp) → FnOk P w K mg base CX0 13 f_show_list fd_show_list ["things", "show_one"] (sp_show_list K R))
    (F_show_push : Fun K "show_push" "show_push" S_show_push f_show_push fd_show_push) (b_show_push : Binds K fd_show_push ["push"] []) (g_show_push : mg "show_push" = some (.ref f_show_push)) (G_show_push : FnOk P w K mg base CX0 2 f_show_push fd_show_push ["push"] (sp_show_push K)) :
    FnOk P w K mg base CX0 14 f fd ["pushes"] (sp_show_pushes K) := by
  refine F.ok sc_show_pushes (fun vs H Q E h => ?_) (fun cdv A outer s H vs Q E hr h => ?_)
  ·
    obtain ⟨a, xs, ds, ts, rfl, _⟩ := h
    rfl
  ·
    obtain ⟨a, xs, ds, ts, rfl, hxs, hds, els, l2, q⟩ := h
    refine ⟨_, (pss_one (ps_ret (pe_call (G_show_list (fun (f : Addr) (sp : Sp) => (f = f_show_push ∧ sp = (sp_show_push K)) ∨ (fun (_ : Addr) (_ : Sp) => False) f sp) (held_cons (held_at (k := 12) G_show_push (by decide) F_show_push.kp b_show_push) held_nil)) (hr.mono (by decide)) (by rfl) g_show_list F_show_list.kp b_show_list .nil pass0 (pa_cons (pv 0) (pa_cons (pe_glob (v := .ref f_show_push) (by rfl) g_show_push rfl) pa_nil))))), ?_⟩
    refine w_st (σ' := [some (.ref a)]) rfl ?_
    walk_at "ct"
    refine ⟨a, f_show_push, _, xs, ts, rfl, .inl ⟨rfl, rfl⟩, hxs, by rw [dpAll_len hds, Paired.length els], fun i x t hx ht H1 Q1 s1 q1 => ?_, fun t ht => Nat.le_trans (elsT_len els t ht) (by decide), l2, q⟩
    have hi := (List.getElem?_eq_some_iff.mp hx).1
    obtain ⟨d, hd⟩ : ∃ d, ds[i]? = some d := ⟨_, List.getElem?_eq_getElem (by rw [← dpAll_len hds]; exact hi)⟩
    obtain ⟨x', hx', dx⟩ := dpAll_get hds hd
    cases Option.some.inj (hx.symm.trans hx')
    obtain ⟨t', ht', el⟩ := paired_getT els hd
    cases Option.some.inj (ht.symm.trans ht')
    exact ⟨x, d, t, rfl, dp_same s1 dx, el, q1 H1 (Same.refl _)⟩
abbrev S_show_shown_push : Stmt := topS 14
theorem sc_show_shown_push : FnScope ["push", "i", "way", "shown"] ["push"] (defScope S_show_shown_push) := ⟨rfl, rfl, rfl, by decide +kernel, rfl, by decide +kernel, by decide +kernel⟩
def sp_show_shown_push (K : PySem.W.Frag) : Sp := fun vs H Q _ => ∃ (v : V) (d : PyData) (t : List Nat), vs = [v] ∧ Dp K H v d ∧ ElT 2 d t ∧ Q (.str (tx t)) H
theorem ok_show_shown_push {f : Addr} {fd : FuncData} {f_show_way : Addr} {fd_show_way : FuncData} (F : Fun K "show_shown_push" "show_shown_push" S_show_shown_push f fd)
    (F_show_way : Fun K "show_way" "show_way" S_show_way f_show_way fd_show_way) (b_show_way : Binds K fd_show_way ["way"] []) (g_show_way : mg "show_way" = some (.ref f_show_way)) (G_show_way : FnOk P w K mg base CX0 1 f_show_way fd_show_way ["way"] (sp_show_way K)) :
    FnOk P w K mg base CX0 2 f fd ["push"] (sp_show_shown_push K) := by
  refine F.ok sc_show_shown_push (fun vs H Q E h => ?_) (fun cdv A outer s H vs Q E hr h => ?_)
  ·
    obtain ⟨v, d, t, rfl, _⟩ := h
    rfl
  ·
    obtain ⟨v, d, t, rfl, hv, ⟨i, w, s, hi, hw, hs3, rfl, rfl⟩, q⟩ := h
    refine ⟨_, (pss_cons (ps_asg (pv 0) (pg_tup rfl (pgs_cons (pg_name (i := 1) sc_show_shown_push.nd rfl (.inl rfl)) (pgs_cons (pg_name (i := 2) sc_show_shown_push.nd rfl (.inl rfl)) (pgs_cons (pg_name (i := 3) sc_show_shown_push.nd rfl (.inl rfl)) pgs_nil)))))
      (pss_one (ps_ret (pe_joined (.cons (pe_fmt (pv 1)) (.cons (pe_fmt (pe_call G_show_way (hr.mono (by decide)) (by rfl) g_show_way F_show_way.kp b_show_way .nil pass0 (pa_cons (pv 2) pa_nil))) (.cons pe_str (.cons (pe_fmt (pv 3)) .nil)))))))), ?_⟩
    refine w_st (σ' := [some v, none, none, none]) rfl ?_
    obtain ⟨a, rfl, hs⟩ := dpi_inv (is := [(i : Int), w, s]) hv
    have hs : SqT K H a [.int (i : Int), .int w, .int s] := hs
    walk_at "ct"
    refine w_gtup hs rfl ?_
    walk_at "ct"
    refine w_fmtI (Nat.lt_trans hi (by decide)) ?_
    have l1 := nL_len hi
    have l3 := wayT_len w
    have l4 := shT_len s
    have l5 : ((shT s).drop 1).length ≤ 3 := by rw [List.length_drop]; omega
    refine w_jq (by show 0 + _ ≤ _; omega) ?_
    walk_at "ct"
    refine ⟨w, rfl, hw, ?_⟩
    refine w_fmtS (by omega) ?_
    refine w_jq (by rw [List.nil_append]; omega) ?_
    walk_at "ct"
    refine w_jqs (a := [61]) (by decide) (by rw [List.nil_append, List.length_append]; show _ + 1 ≤ _; omega) ?_
    walk_at "ct"
    refine w_fmtSh hs3 ?_
    refine w_jq (by rw [List.nil_append, List.length_append, List.length_append]; show _ + _ + 1 + _ ≤ _; omega) ?_
    walk_at "ct"
    rw [shT_cons s] at q
    rw [List.nil_append, List.append_assoc _ [61]]
    exact q
abbrev S_show_shown : Stmt := topS 15
theorem sc_show_shown : FnScope ["shown"] ["shown"] (defScope S_show_shown) := ⟨rfl, rfl, rfl, by decide +kernel, rfl, by decide +kernel, by decide +kernel⟩
def sp_show_shown (K : PySem.W.Frag) : Sp := fun vs H Q _ => ∃ (a : Addr) (xs : List V) (ds : List PyData) (ts : List (List Nat)), vs = [.ref a] ∧ SqL K H a xs ∧ DpAll K H xs ds ∧ ElsT 2 ds ts ∧ ts.length ≤ 2000 ∧ ∀ H', Same H H' → Q (.str (tx (listT ts))) H'
theorem ok_show_shown {f : Addr} {fd : FuncData} {f_show_list : Addr} {fd_show_list : FuncData} {f_show_shown_push : Addr} {fd_show_shown_push : FuncData} (F : Fun K "show_shown" "show_shown" S_show_shown f fd)
    (F_show_list : Fun K "show_list" "show_list" S_show_list f_show_list fd_show_list) (b_show_list : Binds K fd_show_list ["things", "show_one"] []) (g_show_list : mg "show_list" = some (.ref f_show_list)) (G_show_list : ∀ R, (∀ f sp, R f sp → Held P w K mg base 12 f sp) → FnOk P w K mg base CX0 13 f_show_list fd_show_list ["things", "show_one"] (sp_show_list K R))
    (F_show_shown_push : Fun K "show_shown_push" "show_shown_push" S_show_shown_push f_show_shown_push fd_show_shown_push) (b_show_shown_push : Binds K fd_show_shown_push ["push"] []) (g_show_shown_push : mg "show_shown_push" = some (.ref f_show_shown_push)) (G_show_shown_push : FnOk P w K mg base CX0 2 f_show_shown_push fd_show_shown_push ["push"] (sp_show_shown_push K)) :
    FnOk P w K mg base CX0 14 f fd ["shown"] (sp_show_shown K) := by
  refine F.ok sc_show_shown (fun vs H Q E h => ?_) (fun cdv A outer s H vs Q E hr h => ?_)
  ·
    obtain ⟨a, xs, ds, ts, rfl, _⟩ := h
    rfl
  ·
    obtain ⟨a, xs, ds, ts, rfl, hxs, hds, els, l2, q⟩ := h
    refine ⟨_, (pss_one (ps_ret (pe_call (G_show_list (fun (f : Addr) (sp : Sp) => (f = f_show_shown_push ∧ sp = (sp_show_shown_push K)) ∨ (fun (_ : Addr) (_ : Sp) => False) f sp) (held_cons (held_at (k := 12) G_show_shown_push (by decide) F_show_shown_push.kp b_show_shown_push) held_nil)) (hr.mono (by decide)) (by rfl) g_show_list F_show_list.kp b_show_list .nil pass0 (pa_cons (pv 0) (pa_cons (pe_glob (v := .ref f_show_shown_push) (by rfl) g_show_shown_push rfl) pa_nil))))), ?_⟩
    refine w_st (σ' := [some (.ref a)]) rfl ?_
    walk_at "ct"
    refine ⟨a, f_show_shown_push, _, xs, ts, rfl, .inl ⟨rfl, rfl⟩, hxs, by rw [dpAll_len hds, Paired.length els], fun i x t hx ht H1 Q1 s1 q1 => ?_, fun t ht => Nat.le_trans (elsT_len els t ht) (by decide), l2, q⟩
    have hi := (List.getElem?_eq_some_iff.mp hx).1
    obtain ⟨d, hd⟩ : ∃ d, ds[i]? = some d := ⟨_, List.getElem?_eq_getElem (by rw [← dpAll_len hds]; exact hi)⟩
    obtain ⟨x', hx', dx⟩ := dpAll_get hds hd
    cases Option.some.inj (hx.symm.trans hx')
    obtain ⟨t', ht', el⟩ := paired_getT els hd
    cases Option.some.inj (ht.symm.trans ht')
    exact ⟨x, d, t, rfl, dp_same s1 dx, el, q1 H1 (Same.refl _)⟩
abbrev S_show_show : Stmt := topS 16
theorem sc_show_show : FnScope ["show", "way", "shown"] ["show"] (defScope S_show_show) := ⟨rfl, rfl, rfl, by decide +kernel, rfl, by decide +kernel, by decide +kernel⟩
def sp_show_show (K : PySem.W.Frag) : Sp := fun vs H Q _ => ∃ (v : V) (d : PyData) (t : List Nat), vs = [v] ∧ Dp K H v d ∧ ElT 3 d t ∧ Q (.str (tx t)) H
theorem ok_show_show {f : Addr} {fd : FuncData} {f_show_way : Addr} {fd_show_way : FuncData} (F : Fun K "show_show" "show_show" S_show_show f fd)
    (F_show_way : Fun K "show_way" "show_way" S_show_way f_show_way fd_show_way) (b_show_way : Binds K fd_show_way ["way"] []) (g_show_way : mg "show_way" = some (.ref f_show_way)) (G_show_way : FnOk P w K mg base CX0 1 f_show_way fd_show_way ["way"] (sp_show_way K)) :
    FnOk P w K mg base CX0 2 f fd ["show"] (sp_show_show K) := by
  refine F.ok sc_show_show (fun vs H Q E h => ?_) (fun cdv A outer s H vs Q E hr h => ?_)
  ·
    obtain ⟨v, d, t, rfl, _⟩ := h
    rfl
  ·
    obtain ⟨v, d, t, rfl, hv, ⟨w, s, hw, hs3, rfl, rfl⟩, q⟩ := h
    refine ⟨_, (pss_cons (ps_asg (pv 0) (pg_tup rfl (pgs_cons (pg_name (i := 1) sc_show_show.nd rfl (.inl rfl)) (pgs_cons (pg_name (i := 2) sc_show_show.nd rfl (.inl rfl)) pgs_nil))))
      (pss_one (ps_ret (pe_joined (.cons (pe_fmt (pe_call G_show_way (hr.mono (by decide)) (by rfl) g_show_way F_show_way.kp b_show_way .nil pass0 (pa_cons (pv 1) pa_nil))) (.cons pe_str (.cons (pe_fmt (pv 2)) .nil))))))), ?_⟩
    refine w_st (σ' := [some v, none, none]) rfl ?_
    obtain ⟨a, rfl, hs⟩ := dpi_inv (is := [w, s]) hv
    have hs : SqT K H a [.int w, .int s] := hs
    walk_at "ct"
    refine w_gtup hs rfl ?_
    walk_at "ct"
    have l3 := wayT_len w
    have l4 := shT_len s
    have l5 : ((shT s).drop 1).length ≤ 3 := by rw [List.length_drop]; omega
    refine ⟨w, rfl, hw, ?_⟩
    refine w_fmtS (by omega) ?_
    refine w_jq (by show 0 + _ ≤ _; omega) ?_
    walk_at "ct"
    refine w_jqs (a := [61]) (by decide) (by rw [List.nil_append]; show _ + 1 ≤ _; omega) ?_
    walk_at "ct"
    refine w_fmtSh hs3 ?_
    refine w_jq (by rw [List.nil_append, List.length_append]; show _ + 1 + _ ≤ _; omega) ?_
    walk_at "ct"
    rw [shT_cons s] at q
    rw [List.nil_append, List.append_assoc _ [61]]
    exact q
abbrev S_show_shows : Stmt := topS 17
theorem sc_show_shows : FnScope ["shows"] ["shows"] (defScope S_show_shows) := ⟨rfl, rfl, rfl, by decide +kernel, rfl, by decide +kernel, by decide +kernel⟩
def sp_show_shows (K : PySem.W.Frag) : Sp := fun vs H Q _ => ∃ (a : Addr) (xs : List V) (ds : List PyData) (ts : List (List Nat)), vs = [.ref a] ∧ SqL K H a xs ∧ DpAll K H xs ds ∧ ElsT 3 ds ts ∧ ts.length ≤ 2000 ∧ ∀ H', Same H H' → Q (.str (tx (listT ts))) H'
theorem ok_show_shows {f : Addr} {fd : FuncData} {f_show_list : Addr} {fd_show_list : FuncData} {f_show_show : Addr} {fd_show_show : FuncData} (F : Fun K "show_shows" "show_shows" S_show_shows f fd)
    (F_show_list : Fun K "show_list" "show_list" S_show_list f_show_list fd_show_list) (b_show_list : Binds K fd_show_list ["things", "show_one"] []) (g_show_list : mg "show_list" = some (.ref f_show_list)) (G_show_list : ∀ R, (∀ f sp, R f sp → Held P w K mg base 12 f sp) → FnOk P w K mg base CX0 13 f_show_list fd_show_list ["things", "show_one"] (sp_show_list K R))
    (F_show_show : Fun K "show_show" "show_show" S_show_show f_show_show fd_show_show) (b_show_show : Binds K fd_show_show ["show"] []) (g_show_show : mg "show_show" = some (.ref f_show_show)) (G_show_show : FnOk P w K mg base CX0 2 f_show_show fd_show_show ["show"] (sp_show_show K)) :
    FnOk P w K mg base CX0 14 f fd ["shows"] (sp_show_shows K) := by
  refine F.ok sc_show_shows (fun vs H Q E h => ?_) (fun cdv A outer s H vs Q E hr h => ?_)
  ·
    obtain ⟨a, xs, ds, ts, rfl, _⟩ := h
    rfl
  ·
    obtain ⟨a, xs, ds, ts, rfl, hxs, hds, els, l2, q⟩ := h
    refine ⟨_, (pss_one (ps_ret (pe_call (G_show_list (fun (f : Addr) (sp : Sp) => (f = f_show_show ∧ sp = (sp_show_show K)) ∨ (fun (_ : Addr) (_ : Sp) => False) f sp) (held_cons (held_at (k := 12) G_show_show (by decide) F_show_show.kp b_show_show) held_nil)) (hr.mono (by decide)) (by rfl) g_show_list F_show_list.kp b_show_list .nil pass0 (pa_cons (pv 0) (pa_cons (pe_glob (v := .ref f_show_show) (by rfl) g_show_show rfl) pa_nil))))), ?_⟩
    refine w_st (σ' := [some (.ref a)]) rfl ?_
    walk_at "ct"
    refine ⟨a, f_show_show, _, xs, ts, rfl, .inl ⟨rfl, rfl⟩, hxs, by rw [dpAll_len hds, Paired.length els], fun i x t hx ht H1 Q1 s1 q1 => ?_, fun t ht => Nat.le_trans (elsT_len els t ht) (by decide), l2, q⟩
    have hi := (List.getElem?_eq_some_iff.mp hx).1
    obtain ⟨d, hd⟩ : ∃ d, ds[i]? = some d := ⟨_, List.getElem?_eq_getElem (by rw [← dpAll_len hds]; exact hi)⟩
    obtain ⟨x', hx', dx⟩ := dpAll_get hds hd
    cases Option.some.inj (hx.symm.trans hx')
    obtain ⟨t', ht', el⟩ := paired_getT els hd
    cases Option.some.inj (ht.symm.trans ht')
    exact ⟨x, d, t, rfl, dp_same s1 dx, el, q1 H1 (Same.refl _)⟩
abbrev S_read_number : Stmt := topS 18
theorem sc_read_number : FnScope ["text", "sign"] ["text"] (defScope S_read_number) := ⟨rfl, rfl, rfl, by decide +kernel, rfl, by decide +kernel, by decide +kernel⟩
def sp_read_number (K : PySem.W.Frag) (T : List Addr) : Sp := fun vs H Q _ => ∃ n : Nat, vs = [.str (tx (nL n))] ∧ n < M40 ∧ Tb T H ∧ ∀ H', Same H H' → Q (.int (n : Int)) H'
theorem ok_read_number {f : Addr} {fd : FuncData} {tk_FIGURES : Tok} {tk_MOST_FIGURES : Tok} {T : List Addr} {cT PT : Addr} (F : Fun K "read_number" "read_number" S_read_number f fd) (m_any : mg "any" = none) (m_int : mg "int" = none) (m_len : mg "len" = none) (g_FIGURES : mg "FIGURES" = some (.str "0123456789" tk_FIGURES)) (g_MOST_FIGURES : mg "MOST_FIGURES" = some (.int 40 tk_MOST_FIGURES))
    (TB_read_number : GxR.TabB base mg cT PT) (HC_read_number : fd.code = .ref cT) (tm : PT ∈ T) :
    FnOk P w K mg base CX0 2 f fd ["text"] (sp_read_number K T) := by
  refine okC F sc_read_number (fun vs H Q E h => ?_) (fun A outer s H vs Q E hr h => ?_)
  ·
    obtain ⟨n, rfl, _⟩ := h
    rfl
  ·
    obtain ⟨n, rfl, hn, hTb, q⟩ := h
    refine ⟨_, (pss_cons (ps_if (PW.pt (pw_or (pt_cmpR op_eq (pe_callB (r := rLenX) call_lenX (by rfl) m_len (by decide +kernel) (pa_cons (pv 0) pa_nil)) pe_int (nomark _)) (pw_or (pt_cmpR op_gt (pe_callB (r := rLenX) call_lenX (by rfl) m_len (by decide +kernel) (pa_cons (pv 0) pa_nil)) (pe_glob (v := .int 40) (by rfl) g_MOST_FIGURES ⟨_, rfl⟩) (nomark _)) (pw_or1 (PW.pt (pw_and (pt_cmpR op_eq (pe_ix (r := rIxS) ix_str (pv 0) pe_int (fun _ _ => rfl)) pe_str (nomark _)) (pw_and1 (pt_cmpR op_gt (pe_callB (r := rLenX) call_lenX (by rfl) m_len (by decide +kernel) (pa_cons (pv 0) pa_nil)) pe_int (nomark _))))))))) (pss_one ps_never) pss_nil)
      (pss_cons (ps_if (pt_val (pe_anyX (own := [("sign", 1)]) (g := (gName 1)) hr (by rfl) m_any rfl sc_read_number.nd TB_read_number HC_read_number (pi_str (pv 0)) (blkOk_by (own := [("sign", 1)]) (N := ["text", "sign"]) (sc := defScope S_read_number) (by decide +kernel)) (by decide +kernel) rfl (by decide +kernel) (fun _ _ _ _ _ _ _ _ => (pg_name (i := 1) sc_read_number.nd rfl (Or.inl rfl))) (fun _ _ _ _ _ _ _ _ hr => (pe_cmpR (r := rInSg true) op_notInSg (pv 1) (pe_glob (v := .str "0123456789") (by rfl) g_FIGURES ⟨_, rfl⟩) (by rfl))))) (pss_one ps_never) pss_nil)
      (pss_one (ps_ret (pe_callTy (r := rIntS) call_intS (by rfl) m_int (by decide +kernel) (pa_cons (pv 0) pa_nil)))))), ?_⟩
    refine w_st (σ' := [some (.str (tx (nL n))), none]) rfl ?_
    have l1 := nL_len hn
    have l0 := nL_pos n
    have sz : (tx (nL n)).length ≤ sizeLine := by rw [tx_len]; exact small6 (by omega)
    obtain ⟨c, r, e⟩ : ∃ c r, nL n = c :: r := by
      cases z : nL n with
      | nil => exact absurd z (TL.numL_ne n)
      | cons c r => exact ⟨c, r, rfl⟩
    walk_at "cq"
    with_reducible refine w_join (fun σ G => σ = [some (.str (tx (nL n))), none] ∧ H = G) ?_ ?_
    · rintro σ G ⟨rfl, rfl⟩
      walk_at "ct"
      refine ⟨_, rfl, ?_⟩
      refine gb_str (nL n) (fun i G => Same H G) (hTb _ tm) (Same.refl _) ?_ ?_
      · rintro i d G hd sG
        have dig := nL_dig (List.mem_of_getElem? hd)
        walk_at "ct"
        refine ⟨rfl, ?_⟩
        walk_at "ct"
        refine ⟨d, _, rfl, rfl, ?_⟩
        rw [if_pos rfl, in_figs, decide_eq_true dig]
        walk_at "ct"
        exact sG
      intro G sG
      walk_at "ct"
      exact ⟨_, n, rfl, int_nL hn, by rw [tx_len]; omega, q G sG⟩
    intro N hN
    walk_at "ct"
    refine ⟨tx (nL n), rfl, sz, ?_⟩
    rw [tx_len]
    walk_at "ct"
    refine w_ite (fun z => absurd z (by omega)) (fun _ => ?_)
    walk_at "ct"
    refine ⟨tx (nL n), rfl, sz, ?_⟩
    rw [tx_len]
    walk_at "ct"
    refine w_ite (fun z => absurd z (by omega)) (fun _ => ?_)
    walk_at "ct"
    refine ⟨_, _, c, rfl, rfl, sz, atX (i := 0) (by rw [e]; rfl), ?_⟩
    walk_at "ct"
    refine w_eqXs (s := "0") (a := [c]) (b := [48]) (by decide) ?_
    walk_at "ct"
    by_cases z : [c] = [48]
    · rw [decide_eq_true z]
      walk_at "ct"
      refine ⟨tx (nL n), rfl, sz, ?_⟩
      have one : (nL n).length = 1 := nL_zero (by rw [e, (List.cons.inj z).1]; rfl)
      rw [tx_len, one]
      walk_at "ct"
      refine L2.iteF ?_
      walk_at "ct"
      exact hN _ _ ⟨rfl, rfl⟩
    · rw [decide_eq_false z]
      walk_at "ct"
      exact hN _ _ ⟨rfl, rfl⟩
abbrev S_read_way : Stmt := topS 19
theorem sc_read_way : FnScope ["text"] ["text"] (defScope S_read_way) := ⟨rfl, rfl, rfl, by decide +kernel, rfl, by decide +kernel, by decide +kernel⟩
def sp_read_way (K : PySem.W.Frag) : Sp := fun vs H Q _ => ∃ w : Int, vs = [.str (tx (wayT w))] ∧ Sign w ∧ Q (.int w) H
theorem ok_read_way {f : Addr} {fd : FuncData} {q0_WAY_OF_SIGN : Addr} (F : Fun K "read_way" "read_way" S_read_way f fd) (g_WAY_OF_SIGN : mg "WAY_OF_SIGN" = some (.ref q0_WAY_OF_SIGN)) (D_WAY_OF_SIGN : KDict P w K q0_WAY_OF_SIGN [(Sum.inr "+", V.int (1)), (Sum.inr "-", V.int (-1))]) :
    FnOk P w K mg base CX0 1 f fd ["text"] (sp_read_way K) := by
  refine F.ok sc_read_way (fun vs H Q E h => ?_) (fun cdv A outer s H vs Q E hr h => ?_)
  ·
    obtain ⟨w, rfl, _⟩ := h
    rfl
  ·
    obtain ⟨w, rfl, hw, q⟩ := h
    refine ⟨_, (pss_cons (ps_if (pt_cmp (pc_knotin D_WAY_OF_SIGN (pv 0) (pe_glob (v := .ref q0_WAY_OF_SIGN) (by rfl) g_WAY_OF_SIGN rfl))) (pss_one ps_never) pss_nil)
      (pss_one (ps_ret (pe_kget D_WAY_OF_SIGN (pe_glob (v := .ref q0_WAY_OF_SIGN) (by rfl) g_WAY_OF_SIGN rfl) (pv 0) (fun _ _ => rfl))))), ?_⟩
    refine w_st (σ' := [some (.str (tx (wayT w)))]) rfl ?_
    obtain ⟨k, ek, ev⟩ : ∃ k : Key, V.str (tx (wayT w)) = kV k ∧ valV [(Sum.inr (Str.ofString "+"), V.int (1)), (Sum.inr (Str.ofString "-"), V.int (-1))] k = some (.int w) := by
      rcases hw with rfl | rfl
      · exact ⟨Sum.inr (Str.ofString "+"), congrArg V.str ((tx_of "+").symm), by decide +kernel⟩
      · exact ⟨Sum.inr (Str.ofString "-"), congrArg V.str ((tx_of "-").symm), by decide +kernel⟩
    walk_at "ct"
    refine ⟨rfl, k, ek, ?_⟩
    walk_at "ct"
    rw [ev]
    refine L2.iteF ?_
    walk_at "ct"
    exact ⟨rfl, k, .int w, ek, ev, q⟩
abbrev S_read_after_way : Stmt := topS 20
theorem sc_read_after_way : FnScope ["text"] ["text"] (defScope S_read_after_way) := ⟨rfl, rfl, rfl, by decide +kernel, rfl, by decide +kernel, by decide +kernel⟩
def sp_read_after_way (K : PySem.W.Frag) : Sp := fun vs H Q _ => ∃ s : Int, vs = [.str (tx (shT s))] ∧ ShT s ∧ Q (.int s) H
theorem ok_read_after_way {f : Addr} {fd : FuncData} {q0_SHOWN_OF_TEXT : Addr} (F : Fun K "read_after_way" "read_after_way" S_read_after_way f fd) (g_SHOWN_OF_TEXT : mg "SHOWN_OF_TEXT" = some (.ref q0_SHOWN_OF_TEXT)) (D_SHOWN_OF_TEXT : KDict P w K q0_SHOWN_OF_TEXT [(Sum.inr "=1", V.int (1)), (Sum.inr "=-1", V.int (-1)), (Sum.inr "=0", V.int (0))]) :
    FnOk P w K mg base CX0 1 f fd ["text"] (sp_read_after_way K) := by
  refine F.ok sc_read_after_way (fun vs H Q E h => ?_) (fun cdv A outer s H vs Q E hr h => ?_)
  ·
    obtain ⟨s, rfl, _⟩ := h
    rfl
  ·
    obtain ⟨s, rfl, hs, q⟩ := h
    refine ⟨_, (pss_cons (ps_if (pt_cmp (pc_knotin D_SHOWN_OF_TEXT (pv 0) (pe_glob (v := .ref q0_SHOWN_OF_TEXT) (by rfl) g_SHOWN_OF_TEXT rfl))) (pss_one ps_never) pss_nil)
      (pss_one (ps_ret (pe_kget D_SHOWN_OF_TEXT (pe_glob (v := .ref q0_SHOWN_OF_TEXT) (by rfl) g_SHOWN_OF_TEXT rfl) (pv 0) (fun _ _ => rfl))))), ?_⟩
    refine w_st (σ' := [some (.str (tx (shT s)))]) rfl ?_
    obtain ⟨k, ek, ev⟩ : ∃ k : Key, V.str (tx (shT s)) = kV k ∧ valV [(Sum.inr (Str.ofString "=1"), V.int (1)), (Sum.inr (Str.ofString "=-1"), V.int (-1)), (Sum.inr (Str.ofString "=0"), V.int (0))] k = some (.int s) := by
      rcases hs with rfl | rfl | rfl
      · exact ⟨Sum.inr (Str.ofString "=1"), congrArg V.str ((tx_of "=1").symm), by decide +kernel⟩
      · exact ⟨Sum.inr (Str.ofString "=0"), congrArg V.str ((tx_of "=0").symm), by decide +kernel⟩
      · exact ⟨Sum.inr (Str.ofString "=-1"), congrArg V.str ((tx_of "=-1").symm), by decide +kernel⟩
    walk_at "ct"
    refine ⟨rfl, k, ek, ?_⟩
    walk_at "ct"
    rw [ev]
    refine L2.iteF ?_
    walk_at "ct"
    exact ⟨rfl, k, .int s, ek, ev, q⟩
abbrev S_read_list : Stmt := topS 21
theorem sc_read_list : FnScope ["text", "read_one", "word"] ["text", "read_one"] (defScope S_read_list) := ⟨rfl, rfl, rfl, by decide +kernel, rfl, by decide +kernel, by decide +kernel⟩
def sp_read_list (K : PySem.W.Frag) (R : Addr → Sp → Prop) : Sp := fun vs H Q _ => ∃ (f : Addr) (sp : Sp) (ds : List PyData) (ts : List (List Nat)), vs = [.str (tx (listT ts)), .ref f] ∧ R f sp ∧ ds.length = ts.length ∧ (∀ (i : Nat) (d : PyData) (t : List Nat), ds[i]? = some d → ts[i]? = some t → ∀ (H1 : Hp) (Q1 : VK), Same H H1 → (∀ v H2, Same H1 H2 → Dp K H2 v d → Q1 v H2) → sp [.str (tx t)] H1 Q1 L2.E0) ∧ (∀ d ∈ ds, TDT d) ∧ (∀ t ∈ ts, 32 ∉ t ∧ t.length ≤ 2000) ∧ ts.length ≤ 2000 ∧ (ts ≠ [] → listT ts ≠ noneT) ∧ ∀ l xs H', Same H H' → H l = none → H' l = some (.lst xs) → DpAll K H' xs ds → Q (.ref l) H'
theorem ok_read_list {f : Addr} {fd : FuncData} {R : Addr → Sp → Prop} (F : Fun K "read_list" "read_list" S_read_list f fd)
    (HR : ∀ f sp, R f sp → Held P w K mg base 12 f sp) :
    FnOk P w K mg base CX0 13 f fd ["text", "read_one"] (sp_read_list K R) := by
  refine F.ok sc_read_list (fun vs H Q E h => ?_) (fun cdv A outer s H vs Q E hr h => ?_)
  ·
    obtain ⟨f, sp, ds, ts, rfl, _⟩ := h
    rfl
  ·
    obtain ⟨f, sp, ds, ts, rfl, r, len, one, tup, l1, l2, nn, q⟩ := h
    refine ⟨_, (pss_cons (ps_if (pt_cmpR op_eq (pv 0) pe_str (nomark _)) (pss_one (ps_ret (pe_lst pa_nil))) pss_nil)
      (pss_one (ps_ret (pe_lc (own := [("word", 2)]) (g := gName 2)  rfl sc_read_list.nd  (pi_list (pe_split (pv 0) pe_str)) (blkOk_by (own := [("word", 2)]) (N := ["text", "read_one", "word"]) (sc := defScope S_read_list) (by decide +kernel)) (fun _ _ _ _ _ => pg_name (i := 2) sc_read_list.nd rfl (Or.inl rfl)) (fun _ _ _ _ _ => pts_nil) (fun _ _ _ _ _ => (pe_callR (i := 1) (R := R) HR (hr.mono (by decide)) (by rfl) (by first | exact Or.inl rfl | exact Or.inr (Or.inl rfl) | exact Or.inr (Or.inr rfl)) (pa_cons (pv 2) pa_nil))))))), ?_⟩
    refine w_st (σ' := [some (.str (tx (listT ts))), some (.ref f), none]) rfl ?_
    walk_at "ct"
    refine w_eqXs (s := "none") (b := noneT) (by decide) ?_
    walk_at "ct"
    by_cases e : ts = []
    · subst e
      have : listT [] = noneT := rfl
      rw [this, decide_eq_true rfl]
      walk_at "ct"
      refine ⟨len2 rfl, fun l n_l => ?_⟩
      generalize h_G : upd _ l _ = G
      obtain ⟨s_G, e_l⟩ := Ct.upd_new h_G n_l
      clear h_G
      have e0 : ds = [] := List.eq_nil_of_length_eq_zero len
      subst e0
      exact q l [] G s_G n_l e_l .nil
    rw [decide_eq_false (nn e)]
    walk_at "ct"
    have ll := listT_len (m := 2000) fun t ht => (l1 t ht).2
    have ll2 : (2000 + 1) * ts.length ≤ (2000 + 1) * 2000 := Nat.mul_le_mul_left _ l2
    refine ⟨⟨_, rfl⟩, ?_⟩
    walk_at "ct"
    refine ⟨_, _, rfl, rfl, by decide, by rw [tx_len]; exact small6 (by omega), fun p n_p => ?_⟩
    rw [splT e fun t ht => (l1 t ht).1]
    generalize h_G : upd _ p _ = G
    obtain ⟨s_G, e_p⟩ := Ct.upd_new h_G n_p
    clear h_G
    walk_at "ct"
    refine w_IL (.of e_p) ?_
    refine lb_list ((ts.map tx).map V.str) (fun D i J => ∃ xs, Same G J ∧ J D = some (.lst xs) ∧ xs.length = i ∧ DpAll K J xs (ds.take i)) (fun D nD => ⟨[], same_upd nD, upd_same, rfl, .nil⟩) (fun D nD i J _ h => by obtain ⟨xs, sJ, _⟩ := h; exact .of (sJ _ _ e_p)) ?_ ?_
    · rintro D nD i x J hx ⟨xs, sJ, hD, xl, dxs⟩
      have hi : i < ts.length := by
        have := (List.getElem?_eq_some_iff.mp hx).1
        rw [List.length_map, List.length_map] at this
        exact this
      obtain ⟨t, ht⟩ : ∃ t, ts[i]? = some t := ⟨_, List.getElem?_eq_getElem hi⟩
      obtain ⟨d, hd⟩ : ∃ d, ds[i]? = some d := ⟨_, List.getElem?_eq_getElem (by omega)⟩
      have : x = .str (tx t) := by
        rw [List.getElem?_map, List.getElem?_map, ht] at hx
        exact (Option.some.inj hx).symm
      subst this
      walk_at "ct"
      refine ⟨rfl, ?_⟩
      walk_at "ct"
      refine w_callR (f := f) rfl r ?_
      walk_at "ct"
      refine one i d t hd ht _ _ (s_G.trans sJ) fun v J2 s2 dv => ?_
      have hD2 := s2 _ _ hD
      refine ⟨xs, hD2, Nat.lt_of_le_of_lt (show xs.length ≤ 2000 by omega) (by decide), xs ++ [v], same_new (sJ.trans s2) nD, upd_same, by rw [List.length_append, xl]; rfl, ?_⟩
      rw [List.take_add_one, hd]
      have td : TDTs (ds.take i ++ [d]) := tdT_of fun z hz => by
        rcases List.mem_append.mp hz with hz | hz
        · exact tup z (List.mem_of_mem_take hz)
        · rw [List.mem_singleton.mp hz]; exact tup d (List.mem_of_getElem? hd)
      exact dpAll_updT hD2 td (dpAll_app (dpAll_same s2 dxs) (.cons dv .nil))
    rintro D nD J ⟨xs, sJ, hD, xl, dxs⟩
    rw [List.length_map, List.length_map, ← len, List.take_of_length_le (Nat.le_refl _)] at dxs
    exact q D xs J (s_G.trans sJ) (s_G.free nD) hD dxs
abbrev S_split_push : Stmt := topS 22
theorem sc_split_push : FnScope ["text", "at"] ["text"] (defScope S_split_push) := ⟨rfl, rfl, rfl, by decide +kernel, rfl, by decide +kernel, by decide +kernel⟩
def sp_split_push (K : PySem.W.Frag) (T : List Addr) : Sp := fun vs H Q _ => ∃ (i : Nat) (w : Int) (r : List Nat), vs = [.str (tx (nL i ++ wayT w ++ r))] ∧ i < M40 ∧ Sign w ∧ r.length ≤ 2000 ∧ Tb T H ∧ ∀ q H', Same H H' → H' q = some (.tup [.int (i : Int), .int w, .str (tx r)]) → Q (.ref q) H'
theorem ok_split_push {f : Addr} {fd : FuncData} {f_read_way : Addr} {fd_read_way : FuncData} {f_read_number : Addr} {fd_read_number : FuncData} {tk_FIGURES : Tok} {T : List Addr} (F : Fun K "split_push" "split_push" S_split_push f fd)
    (F_read_way : Fun K "read_way" "read_way" S_read_way f_read_way fd_read_way) (b_read_way : Binds K fd_read_way ["text"] []) (g_read_way : mg "read_way" = some (.ref f_read_way)) (G_read_way : FnOk P w K mg base CX0 1 f_read_way fd_read_way ["text"] (sp_read_way K))
    (F_read_number : Fun K "read_number" "read_number" S_read_number f_read_number fd_read_number) (b_read_number : Binds K fd_read_number ["text"] []) (g_read_number : mg "read_number" = some (.ref f_read_number)) (G_read_number : FnOk P w K mg base CX0 2 f_read_number fd_read_number ["text"] (sp_read_number K T)) (m_len : mg "len" = none) (g_FIGURES : mg "FIGURES" = some (.str "0123456789" tk_FIGURES)) :
    FnOk P w K mg base CX0 3 f fd ["text"] (sp_split_push K T) := by
  refine F.ok sc_split_push (fun vs H Q E h => ?_) (fun cdv A outer s H vs Q E hr h => ?_)
  ·
    obtain ⟨i, w, r, rfl, _⟩ := h
    rfl
  ·
    obtain ⟨i, w, r, rfl, hi, hw, lr, hTb, q⟩ := h
    refine ⟨_, (pss_cons (ps_set (i := 1) sc_split_push.nd rfl (.inl rfl) pe_int)
      (pss_cons (ps_while PassesOwn.never (PW.pt (pw_and (pt_cmpR op_lt (pv 1) (pe_callB (r := rLenX) call_lenX (by rfl) m_len (by decide +kernel) (pa_cons (pv 0) pa_nil)) (nomark _)) (pw_and1 (pt_cmpR (r := rInSg false) op_inSg (pe_ix (r := rIxS) ix_str (pv 0) (pv 1) (fun _ _ => rfl)) (pe_glob (v := .str "0123456789") (by rfl) g_FIGURES ⟨_, rfl⟩) (by rfl))))) (pss_one (ps_aug (i := 1) sc_split_push.nd rfl (.inl rfl) pe_int ip_add)))
      (pss_one (ps_ret (pe_tup (pa_cons (pe_call G_read_number (hr.mono (by decide)) (by rfl) g_read_number F_read_number.kp b_read_number .nil pass0 (pa_cons (pe_slice (r := rSlS) sl_str (pv 0) po_none (po_some (pv 1))) pa_nil)) (pa_cons (pe_call G_read_way (hr.mono (by decide)) (by rfl) g_read_way F_read_way.kp b_read_way .nil pass0 (pa_cons (pe_slice (r := rSlS) sl_str (pv 0) (po_some (pv 1)) (po_some (pe_op op_add (pv 1) pe_int))) pa_nil)) (pa_cons (pe_slice (r := rSlS) sl_str (pv 0) (po_some (pe_op op_add (pv 1) pe_int)) po_none) pa_nil)))))))), ?_⟩
    obtain ⟨l, hl⟩ : ∃ l, nL i ++ wayT w ++ r = l := ⟨_, rfl⟩
    have l1 := nL_len hi
    have l0 := nL_pos i
    have lw := wayT_len w
    have ll : l.length = (nL i).length + 1 + r.length := by rw [← hl, List.length_append, List.length_append, lw]
    rw [hl]
    have sz : (tx l).length ≤ sizeLine := by rw [tx_len]; exact small6 (by omega)
    refine w_st (σ' := [some (.str (tx l)), none]) rfl ?_
    walk_at "ct"
    refine ⟨fun mm σ J => ∃ k : Nat, σ = [some (.str (tx l)), some (.int (k : Int))] ∧ J = H ∧ k ≤ (nL i).length ∧ mm = (nL i).length - k, ⟨_, 0, rfl, rfl, Nat.zero_le _, rfl⟩, ?_⟩
    rintro mm σ J ⟨k, rfl, rfl, kl, rfl⟩
    walk_at "ct"
    refine ⟨tx l, rfl, sz, ?_⟩
    rw [tx_len]
    walk_at "ct"
    rw [decide_eq_true (show (k : Int) < (l.length : Int) by omega)]
    walk_at "ct"
    obtain ⟨c, hc⟩ : ∃ c, l[k]? = some c := ⟨_, List.getElem?_eq_getElem (by omega)⟩
    refine ⟨_, _, c, rfl, rfl, sz, atX hc, ?_⟩
    walk_at "ct"
    refine ⟨c, _, rfl, rfl, ?_⟩
    rw [if_neg Bool.false_ne_true, in_figs]
    walk_at "ct"
    by_cases e : k < (nL i).length
    · have dig : 48 ≤ c ∧ c ≤ 57 := by
        rw [← hl, List.append_assoc, List.getElem?_append_left e] at hc
        exact nL_dig (List.mem_of_getElem? hc)
      rw [decide_eq_true dig]
      refine L2.iteT ?_
      refine ⟨_, fun _ _ h => h, ?_⟩
      walk_at "ct"
      refine w_aug rfl ?_
      walk_at "ct"
      exact ⟨(nL i).length - (k + 1), by omega, k + 1, rfl, rfl, by omega, rfl⟩
    have ek : k = (nL i).length := by omega
    subst ek
    have nd : ¬ (48 ≤ c ∧ c ≤ 57) := by
      rw [← hl, List.append_assoc, List.getElem?_append_right (Nat.le_refl _), Nat.sub_self] at hc
      have : c ∈ wayT w := by
        cases z : wayT w with
        | nil => rw [z] at lw; cases lw
        | cons a b =>
          rw [z] at hc
          cases Option.some.inj hc
          exact List.mem_cons_self
      have := wayT_mem this
      omega
    rw [decide_eq_false nd]
    refine L2.iteF ?_
    walk_at "ct"
    have t1 : l.take (nL i).length = nL i := by rw [← hl, List.append_assoc, List.take_left]
    have t2 : (l.drop (nL i).length).take 1 = wayT w := by rw [← hl, List.append_assoc, List.drop_left, List.take_append_of_le_length (by omega), List.take_of_length_le (by omega)]
    have t3 : l.drop ((nL i).length + 1) = r := by rw [← hl, ← lw, ← List.length_append, List.drop_left]
    refine ⟨_, rfl, sz, ?_⟩
    rw [cut_toX, t1]
    walk_at "ct"
    refine ⟨i, rfl, hi, hTb, fun H1 s1 => ?_⟩
    walk_at "ct"
    rw [show ((nL i).length : Int) + 1 = (((nL i).length + 1 : Nat) : Int) by omega]
    refine ⟨_, rfl, sz, ?_⟩
    rw [cut_twoX _ _ _ (by omega) (by omega), t2]
    walk_at "ct"
    refine ⟨w, rfl, hw, ?_⟩
    walk_at "ct"
    rw [show ((nL i).length : Int) + 1 = (((nL i).length + 1 : Nat) : Int) by omega]
    refine ⟨_, rfl, sz, ?_⟩
    rw [cut_fromX _ _ (by omega), t3]
    walk_at "ct"
    refine ⟨len2 rfl, fun p n_p => ?_⟩
    generalize h_G : upd _ p _ = G
    obtain ⟨s_G, e_p⟩ := Ct.upd_new h_G n_p
    clear h_G
    exact q p G (s1.trans s_G) e_p
abbrev S_read_deed : Stmt := topS 23
theorem sc_read_deed : FnScope ["text", "i", "way", "times"] ["text"] (defScope S_read_deed) := ⟨rfl, rfl, rfl, by decide +kernel, rfl, by decide +kernel, by decide +kernel⟩
def sp_read_deed (K : PySem.W.Frag) (T : List Addr) : Sp := fun vs H Q _ => ∃ (d : PyData) (t : List Nat), vs = [.str (tx t)] ∧ ElT 0 d t ∧ Tb T H ∧ ∀ v H', Same H H' → Dp K H' v d → Q v H'
theorem ok_read_deed {f : Addr} {fd : FuncData} {f_read_number : Addr} {fd_read_number : FuncData} {f_split_push : Addr} {fd_split_push : FuncData} {T : List Addr} (F : Fun K "read_deed" "read_deed" S_read_deed f fd)
    (F_read_number : Fun K "read_number" "read_number" S_read_number f_read_number fd_read_number) (b_read_number : Binds K fd_read_number ["text"] []) (g_read_number : mg "read_number" = some (.ref f_read_number)) (G_read_number : FnOk P w K mg base CX0 2 f_read_number fd_read_number ["text"] (sp_read_number K T))
    (F_split_push : Fun K "split_push" "split_push" S_split_push f_split_push fd_split_push) (b_split_push : Binds K fd_split_push ["text"] []) (g_split_push : mg "split_push" = some (.ref f_split_push)) (G_split_push : FnOk P w K mg base CX0 3 f_split_push fd_split_push ["text"] (sp_split_push K T)) :
    FnOk P w K mg base CX0 4 f fd ["text"] (sp_read_deed K T) := by
  refine F.ok sc_read_deed (fun vs H Q E h => ?_) (fun cdv A outer s H vs Q E hr h => ?_)
  ·
    obtain ⟨d, t, rfl, _⟩ := h
    rfl
  ·
    obtain ⟨d, t, rfl, ⟨i, k, w, hi, hk, hw, rfl, rfl⟩, hTb, q⟩ := h
    refine ⟨_, (pss_cons (ps_asg (pe_call G_split_push (hr.mono (by decide)) (by rfl) g_split_push F_split_push.kp b_split_push .nil pass0 (pa_cons (pv 0) pa_nil)) (pg_tup rfl (pgs_cons (pg_name (i := 1) sc_read_deed.nd rfl (.inl rfl)) (pgs_cons (pg_name (i := 2) sc_read_deed.nd rfl (.inl rfl)) (pgs_cons (pg_name (i := 3) sc_read_deed.nd rfl (.inl rfl)) pgs_nil)))))
      (pss_one (ps_ret (pe_tup (pa_cons (pv 1) (pa_cons (pv 2) (pa_cons (pe_call G_read_number (hr.mono (by decide)) (by rfl) g_read_number F_read_number.kp b_read_number .nil pass0 (pa_cons (pv 3) pa_nil)) pa_nil))))))), ?_⟩
    obtain ⟨t, ht⟩ : ∃ t, nL i ++ wayT w ++ nL k = t := ⟨_, rfl⟩
    rw [ht]
    refine w_st (σ' := [some (.str (tx t)), none, none, none]) rfl ?_
    have lr := nL_len hk
    walk_at "ct"
    refine ⟨i, w, nL k, (by rw [← ht]; rfl), hi, hw, by omega, hTb, fun p1 H1 s1 e_p1 => ?_⟩
    refine w_gtup (.of e_p1) rfl ?_
    walk_at "ct"
    refine ⟨k, rfl, hk, hTb.same s1, fun H2 s2 => ?_⟩
    walk_at "ct"
    refine ⟨len2 rfl, fun p n_p => ?_⟩
    generalize h_G : upd _ p _ = G
    obtain ⟨s_G, e_p⟩ := Ct.upd_new h_G n_p
    clear h_G
    exact q (.ref p) G ((s1.trans s2).trans s_G) (.tup (.of e_p) (dpAll_ints [(i : Int), w, (k : Int)]))
abbrev S_read_row : Stmt := topS 24
theorem sc_read_row : FnScope ["text"] ["text"] (defScope S_read_row) := ⟨rfl, rfl, rfl, by decide +kernel, rfl, by decide +kernel, by decide +kernel⟩
def sp_read_row (K : PySem.W.Frag) (T : List Addr) : Sp := fun vs H Q _ => ∃ (ds : List PyData) (ts : List (List Nat)), vs = [.str (tx (listT ts))] ∧ ElsT 0 ds ts ∧ ts.length ≤ 2000 ∧ Tb T H ∧ ∀ l xs H', Same H H' → H l = none → H' l = some (.lst xs) → DpAll K H' xs ds → Q (.ref l) H'
theorem ok_read_row {f : Addr} {fd : FuncData} {f_read_list : Addr} {fd_read_list : FuncData} {f_read_deed : Addr} {fd_read_deed : FuncData} {T : List Addr} (F : Fun K "read_row" "read_row" S_read_row f fd)
    (F_read_list : Fun K "read_list" "read_list" S_read_list f_read_list fd_read_list) (b_read_list : Binds K fd_read_list ["text", "read_one"] []) (g_read_list : mg "read_list" = some (.ref f_read_list)) (G_read_list : ∀ R, (∀ f sp, R f sp → Held P w K mg base 12 f sp) → FnOk P w K mg base CX0 13 f_read_list fd_read_list ["text", "read_one"] (sp_read_list K R))
    (F_read_deed : Fun K "read_deed" "read_deed" S_read_deed f_read_deed fd_read_deed) (b_read_deed : Binds K fd_read_deed ["text"] []) (g_read_deed : mg "read_deed" = some (.ref f_read_deed)) (G_read_deed : FnOk P w K mg base CX0 4 f_read_deed fd_read_deed ["text"] (sp_read_deed K T)) :
    FnOk P w K mg base CX0 14 f fd ["text"] (sp_read_row K T) := by
  refine F.ok sc_read_row (fun vs H Q E h => ?_) (fun cdv A outer s H vs Q E hr h => ?_)
  ·
    obtain ⟨ds, ts, rfl, _⟩ := h
    rfl
  ·
    obtain ⟨ds, ts, rfl, els, l2, hTb, q⟩ := h
    refine ⟨_, (pss_one (ps_ret (pe_call (G_read_list (fun (f : Addr) (sp : Sp) => (f = f_read_deed ∧ sp = (sp_read_deed K T)) ∨ (fun (_ : Addr) (_ : Sp) => False) f sp) (held_cons (held_at (k := 12) G_read_deed (by decide) F_read_deed.kp b_read_deed) held_nil)) (hr.mono (by decide)) (by rfl) g_read_list F_read_list.kp b_read_list .nil pass0 (pa_cons (pv 0) (pa_cons (pe_glob (v := .ref f_read_deed) (by rfl) g_read_deed rfl) pa_nil))))), ?_⟩
    refine w_st (σ' := [some (.str (tx (listT ts)))]) rfl ?_
    walk_at "ct"
    refine ⟨f_read_deed, _, ds, ts, rfl, .inl ⟨rfl, rfl⟩, Paired.length els, fun i d t hd ht H1 Q1 s1 q1 => ?_, elsT_tdT els, fun t ht => ⟨elsT_free els t ht, Nat.le_trans (elsT_len els t ht) (by decide)⟩, l2, elsT_none els, q⟩
    obtain ⟨t', ht', el⟩ := paired_getT els hd
    cases Option.some.inj (ht.symm.trans ht')
    exact ⟨d, t, rfl, el, hTb.same s1, fun v H2 s2 dv => q1 v H2 s2 dv⟩
abbrev S_read_push : Stmt := topS 25
theorem sc_read_push : FnScope ["text", "i", "way", "behind"] ["text"] (defScope S_read_push) := ⟨rfl, rfl, rfl, by decide +kernel, rfl, by decide +kernel, by decide +kernel⟩
def sp_read_push (K : PySem.W.Frag) (T : List Addr) : Sp := fun vs H Q _ => ∃ (d : PyData) (t : List Nat), vs = [.str (tx t)] ∧ ElT 1 d t ∧ Tb T H ∧ ∀ v H', Same H H' → Dp K H' v d → Q v H'
theorem ok_read_push {f : Addr} {fd : FuncData} {f_split_push : Addr} {fd_split_push : FuncData} {T : List Addr} (F : Fun K "read_push" "read_push" S_read_push f fd)
    (F_split_push : Fun K "split_push" "split_push" S_split_push f_split_push fd_split_push) (b_split_push : Binds K fd_split_push ["text"] []) (g_split_push : mg "split_push" = some (.ref f_split_push)) (G_split_push : FnOk P w K mg base CX0 3 f_split_push fd_split_push ["text"] (sp_split_push K T)) :
    FnOk P w K mg base CX0 4 f fd ["text"] (sp_read_push K T) := by
  refine F.ok sc_read_push (fun vs H Q E h => ?_) (fun cdv A outer s H vs Q E hr h => ?_)
  ·
    obtain ⟨d, t, rfl, _⟩ := h
    rfl
  ·
    obtain ⟨d, t, rfl, ⟨i, w, hi, hw, rfl, rfl⟩, hTb, q⟩ := h
    refine ⟨_, (pss_cons (ps_asg (pe_call G_split_push (hr.mono (by decide)) (by rfl) g_split_push F_split_push.kp b_split_push .nil pass0 (pa_cons (pv 0) pa_nil)) (pg_tup rfl (pgs_cons (pg_name (i := 1) sc_read_push.nd rfl (.inl rfl)) (pgs_cons (pg_name (i := 2) sc_read_push.nd rfl (.inl rfl)) (pgs_cons (pg_name (i := 3) sc_read_push.nd rfl (.inl rfl)) pgs_nil)))))
      (pss_cons (ps_if (pt_cmpR op_ne (pv 3) pe_str (nomark _)) (pss_one ps_never) pss_nil)
      (pss_one (ps_ret (pe_tup (pa_cons (pv 1) (pa_cons (pv 2) pa_nil))))))), ?_⟩
    obtain ⟨t, ht⟩ : ∃ t, nL i ++ wayT w = t := ⟨_, rfl⟩
    rw [ht]
    refine w_st (σ' := [some (.str (tx t)), none, none, none]) rfl ?_
    have lr : ([] : List Nat).length ≤ 3 := by decide
    walk_at "ct"
    refine ⟨i, w, [], (by show [V.str (tx t)] = _; rw [← ht, List.append_nil]), hi, hw, by omega, hTb, fun p1 H1 s1 e_p1 => ?_⟩
    refine w_gtup (.of e_p1) rfl ?_
    walk_at "ct"
    refine w_neXs (s := "") (a := []) (b := []) (by decide) ?_
    rw [decide_eq_true rfl]
    walk_at "ct"
    refine ⟨len2 rfl, fun p n_p => ?_⟩
    generalize h_G : upd _ p _ = G
    obtain ⟨s_G, e_p⟩ := Ct.upd_new h_G n_p
    clear h_G
    exact q (.ref p) G (s1.trans s_G) (.tup (.of e_p) (dpAll_ints [(i : Int), w]))
abbrev S_read_pushes : Stmt := topS 26
theorem sc_read_pushes : FnScope ["text"] ["text"] (defScope S_read_pushes) := ⟨rfl, rfl, rfl, by decide +kernel, rfl, by decide +kernel, by decide +kernel⟩
def sp_read_pushes (K : PySem.W.Frag) (T : List Addr) : Sp := fun vs H Q _ => ∃ (ds : List PyData) (ts : List (List Nat)), vs = [.str (tx (listT ts))] ∧ ElsT 1 ds ts ∧ ts.length ≤ 2000 ∧ Tb T H ∧ ∀ l xs H', Same H H' → H l = none → H' l = some (.lst xs) → DpAll K H' xs ds → Q (.ref l) H'
theorem ok_read_pushes {f : Addr} {fd : FuncData} {f_read_list : Addr} {fd_read_list : FuncData} {f_read_push : Addr} {fd_read_push : FuncData} {T : List Addr} (F : Fun K "read_pushes" "read_pushes" S_read_pushes f fd)
    (F_read_list : Fun K "read_list" "read_list" S_read_list f_read_list fd_read_list) (b_read_list : Binds K fd_read_list ["text", "read_one"] []) (g_read_list : mg "read_list" = some (.ref f_read_list)) (G_read_list : ∀ R, (∀ f sp, R f sp → Held P w K mg base 12 f sp) → FnOk P w K mg base CX0 13 f_read_list fd_read_list ["text", "read_one"] (sp_read_list K R))
    (F_read_push : Fun K "read_push" "read_push" S_read_push f_read_push fd_read_push) (b_read_push : Binds K fd_read_push ["text"] []) (g_read_push : mg "read_push" = some (.ref f_read_push)) (G_read_push : FnOk P w K mg base CX0 4 f_read_push fd_read_push ["text"] (sp_read_push K T)) :
    FnOk P w K mg base CX0 14 f fd ["text"] (sp_read_pushes K T) := by
  refine F.ok sc_read_pushes (fun vs H Q E h => ?_) (fun cdv A outer s H vs Q E hr h => ?_)
  ·
    obtain ⟨ds, ts, rfl, _⟩ := h
    rfl
  ·
    obtain ⟨ds, ts, rfl, els, l2, hTb, q⟩ := h
    refine ⟨_, (pss_one (ps_ret (pe_call (G_read_list (fun (f : Addr) (sp : Sp) => (f = f_read_push ∧ sp = (sp_read_push K T)) ∨ (fun (_ : Addr) (_ : Sp) => False) f sp) (held_cons (held_at (k := 12) G_read_push (by decide) F_read_push.kp b_read_push) held_nil)) (hr.mono (by decide)) (by rfl) g_read_list F_read_list.kp b_read_list .nil pass0 (pa_cons (pv 0) (pa_cons (pe_glob (v := .ref f_read_push) (by rfl) g_read_push rfl) pa_nil))))), ?_⟩
    refine w_st (σ' := [some (.str (tx (listT ts)))]) rfl ?_
    walk_at "ct"
    refine ⟨f_read_push, _, ds, ts, rfl, .inl ⟨rfl, rfl⟩, Paired.length els, fun i d t hd ht H1 Q1 s1 q1 => ?_, elsT_tdT els, fun t ht => ⟨elsT_free els t ht, Nat.le_trans (elsT_len els t ht) (by decide)⟩, l2, elsT_none els, q⟩
    obtain ⟨t', ht', el⟩ := paired_getT els hd
    cases Option.some.inj (ht.symm.trans ht')
    exact ⟨d, t, rfl, el, hTb.same s1, fun v H2 s2 dv => q1 v H2 s2 dv⟩
abbrev S_read_shown_push : Stmt := topS 27
theorem sc_read_shown_push : FnScope ["text", "i", "way", "behind"] ["text"] (defScope S_read_shown_push) := ⟨rfl, rfl, rfl, by decide +kernel, rfl, by decide +kernel, by decide +kernel⟩
def sp_read_shown_push (K : PySem.W.Frag) (T : List Addr) : Sp := fun vs H Q _ => ∃ (d : PyData) (t : List Nat), vs = [.str (tx t)] ∧ ElT 2 d t ∧ Tb T H ∧ ∀ v H', Same H H' → Dp K H' v d → Q v H'
theorem ok_read_shown_push {f : Addr} {fd : FuncData} {f_read_after_way : Addr} {fd_read_after_way : FuncData} {f_split_push : Addr} {fd_split_push : FuncData} {T : List Addr} (F : Fun K "read_shown_push" "read_shown_push" S_read_shown_push f fd)
    (F_read_after_way : Fun K "read_after_way" "read_after_way" S_read_after_way f_read_after_way fd_read_after_way) (b_read_after_way : Binds K fd_read_after_way ["text"] []) (g_read_after_way : mg "read_after_way" = some (.ref f_read_after_way)) (G_read_after_way : FnOk P w K mg base CX0 1 f_read_after_way fd_read_after_way ["text"] (sp_read_after_way K))
    (F_split_push : Fun K "split_push" "split_push" S_split_push f_split_push fd_split_push) (b_split_push : Binds K fd_split_push ["text"] []) (g_split_push : mg "split_push" = some (.ref f_split_push)) (G_split_push : FnOk P w K mg base CX0 3 f_split_push fd_split_push ["text"] (sp_split_push K T)) :
    FnOk P w K mg base CX0 4 f fd ["text"] (sp_read_shown_push K T) := by
  refine F.ok sc_read_shown_push (fun vs H Q E h => ?_) (fun cdv A outer s H vs Q E hr h => ?_)
  ·
    obtain ⟨d, t, rfl, _⟩ := h
    rfl
  ·
    obtain ⟨d, t, rfl, ⟨i, w, s, hi, hw, hs, rfl, rfl⟩, hTb, q⟩ := h
    refine ⟨_, (pss_cons (ps_asg (pe_call G_split_push (hr.mono (by decide)) (by rfl) g_split_push F_split_push.kp b_split_push .nil pass0 (pa_cons (pv 0) pa_nil)) (pg_tup rfl (pgs_cons (pg_name (i := 1) sc_read_shown_push.nd rfl (.inl rfl)) (pgs_cons (pg_name (i := 2) sc_read_shown_push.nd rfl (.inl rfl)) (pgs_cons (pg_name (i := 3) sc_read_shown_push.nd rfl (.inl rfl)) pgs_nil)))))
      (pss_one (ps_ret (pe_tup (pa_cons (pv 1) (pa_cons (pv 2) (pa_cons (pe_call G_read_after_way (hr.mono (by decide)) (by rfl) g_read_after_way F_read_after_way.kp b_read_after_way .nil pass0 (pa_cons (pv 3) pa_nil)) pa_nil))))))), ?_⟩
    obtain ⟨t, ht⟩ : ∃ t, nL i ++ wayT w ++ shT s = t := ⟨_, rfl⟩
    rw [ht]
    refine w_st (σ' := [some (.str (tx t)), none, none, none]) rfl ?_
    have lr := shT_len s
    walk_at "ct"
    refine ⟨i, w, shT s, (by rw [← ht]; rfl), hi, hw, by omega, hTb, fun p1 H1 s1 e_p1 => ?_⟩
    refine w_gtup (.of e_p1) rfl ?_
    walk_at "ct"
    refine ⟨s, rfl, hs, ?_⟩
    walk_at "ct"
    refine ⟨len2 rfl, fun p n_p => ?_⟩
    generalize h_G : upd _ p _ = G
    obtain ⟨s_G, e_p⟩ := Ct.upd_new h_G n_p
    clear h_G
    exact q (.ref p) G (s1.trans s_G) (.tup (.of e_p) (dpAll_ints [(i : Int), w, s]))
abbrev S_read_shown : Stmt := topS 28
theorem sc_read_shown : FnScope ["text"] ["text"] (defScope S_read_shown) := ⟨rfl, rfl, rfl, by decide +kernel, rfl, by decide +kernel, by decide +kernel⟩
def sp_read_shown (K : PySem.W.Frag) (T : List Addr) : Sp := fun vs H Q _ => ∃ (ds : List PyData) (ts : List (List Nat)), vs = [.str (tx (listT ts))] ∧ ElsT 2 ds ts ∧ ts.length ≤ 2000 ∧ Tb T H ∧ ∀ l xs H', Same H H' → H l = none → H' l = some (.lst xs) → DpAll K H' xs ds → Q (.ref l) H'
theorem ok_read_shown {f : Addr} {fd : FuncData} {f_read_list : Addr} {fd_read_list : FuncData} {f_read_shown_push : Addr} {fd_read_shown_push : FuncData} {T : List Addr} (F : Fun K "read_shown" "read_shown" S_read_shown f fd)
    (F_read_list : Fun K "read_list" "read_list" S_read_list f_read_list fd_read_list) (b_read_list : Binds K fd_read_list ["text", "read_one"] []) (g_read_list : mg "read_list" = some (.ref f_read_list)) (G_read_list : ∀ R, (∀ f sp, R f sp → Held P w K mg base 12 f sp) → FnOk P w K mg base CX0 13 f_read_list fd_read_list ["text", "read_one"] (sp_read_list K R))
    (F_read_shown_push : Fun K "read_shown_push" "read_shown_push" S_read_shown_push f_read_shown_push fd_read_shown_push) (b_read_shown_push : Binds K fd_read_shown_push ["text"] []) (g_read_shown_push : mg "read_shown_push" = some (.ref f_read_shown_push)) (G_read_shown_push : FnOk P w K mg base CX0 4 f_read_shown_push fd_read_shown_push ["text"] (sp_read_shown_push K T)) :
    FnOk P w K mg base CX0 14 f fd ["text"] (sp_read_shown K T) := by
  refine F.ok sc_read_shown (fun vs H Q E h => ?_) (fun cdv A outer s H vs Q E hr h => ?_)
  ·
    obtain ⟨ds, ts, rfl, _⟩ := h
    rfl
  ·
    obtain ⟨ds, ts, rfl, els, l2, hTb, q⟩ := h
    refine ⟨_, (pss_one (ps_ret (pe_call (G_read_list (fun (f : Addr) (sp : Sp) => (f = f_read_shown_push ∧ sp = (sp_read_shown_push K T)) ∨ (fun (_ : Addr) (_ : Sp) => False) f sp) (held_cons (held_at (k := 12) G_read_shown_push (by decide) F_read_shown_push.kp b_read_shown_push) held_nil)) (hr.mono (by decide)) (by rfl) g_read_list F_read_list.kp b_read_list .nil pass0 (pa_cons (pv 0) (pa_cons (pe_glob (v := .ref f_read_shown_push) (by rfl) g_read_shown_push rfl) pa_nil))))), ?_⟩
    refine w_st (σ' := [some (.str (tx (listT ts)))]) rfl ?_
    walk_at "ct"
    refine ⟨f_read_shown_push, _, ds, ts, rfl, .inl ⟨rfl, rfl⟩, Paired.length els, fun i d t hd ht H1 Q1 s1 q1 => ?_, elsT_tdT els, fun t ht => ⟨elsT_free els t ht, Nat.le_trans (elsT_len els t ht) (by decide)⟩, l2, elsT_none els, q⟩
    obtain ⟨t', ht', el⟩ := paired_getT els hd
    cases Option.some.inj (ht.symm.trans ht')
    exact ⟨d, t, rfl, el, hTb.same s1, fun v H2 s2 dv => q1 v H2 s2 dv⟩
abbrev S_read_show : Stmt := topS 29
theorem sc_read_show : FnScope ["text"] ["text"] (defScope S_read_show) := ⟨rfl, rfl, rfl, by decide +kernel, rfl, by decide +kernel, by decide +kernel⟩
def sp_read_show (K : PySem.W.Frag) : Sp := fun vs H Q _ => ∃ (d : PyData) (t : List Nat), vs = [.str (tx t)] ∧ ElT 3 d t ∧ ∀ v H', Same H H' → Dp K H' v d → Q v H'
theorem ok_read_show {f : Addr} {fd : FuncData} {f_read_after_way : Addr} {fd_read_after_way : FuncData} {f_read_way : Addr} {fd_read_way : FuncData} (F : Fun K "read_show" "read_show" S_read_show f fd)
    (F_read_after_way : Fun K "read_after_way" "read_after_way" S_read_after_way f_read_after_way fd_read_after_way) (b_read_after_way : Binds K fd_read_after_way ["text"] []) (g_read_after_way : mg "read_after_way" = some (.ref f_read_after_way)) (G_read_after_way : FnOk P w K mg base CX0 1 f_read_after_way fd_read_after_way ["text"] (sp_read_after_way K))
    (F_read_way : Fun K "read_way" "read_way" S_read_way f_read_way fd_read_way) (b_read_way : Binds K fd_read_way ["text"] []) (g_read_way : mg "read_way" = some (.ref f_read_way)) (G_read_way : FnOk P w K mg base CX0 1 f_read_way fd_read_way ["text"] (sp_read_way K)) :
    FnOk P w K mg base CX0 2 f fd ["text"] (sp_read_show K) := by
  refine F.ok sc_read_show (fun vs H Q E h => ?_) (fun cdv A outer s H vs Q E hr h => ?_)
  ·
    obtain ⟨d, t, rfl, _⟩ := h
    rfl
  ·
    obtain ⟨d, t, rfl, ⟨w, s, hw, hs, rfl, rfl⟩, q⟩ := h
    refine ⟨_, (pss_one (ps_ret (pe_tup (pa_cons (pe_call G_read_way (hr.mono (by decide)) (by rfl) g_read_way F_read_way.kp b_read_way .nil pass0 (pa_cons (pe_slice (r := rSlS) sl_str (pv 0) po_none (po_some pe_int)) pa_nil)) (pa_cons (pe_call G_read_after_way (hr.mono (by decide)) (by rfl) g_read_after_way F_read_after_way.kp b_read_after_way .nil pass0 (pa_cons (pe_slice (r := rSlS) sl_str (pv 0) (po_some pe_int) po_none) pa_nil)) pa_nil))))), ?_⟩
    obtain ⟨t, ht⟩ : ∃ t, wayT w ++ shT s = t := ⟨_, rfl⟩
    rw [ht]
    refine w_st (σ' := [some (.str (tx t))]) rfl ?_
    have lr := shT_len s
    have lw := wayT_len w
    have lt : t.length = 1 + (shT s).length := by rw [← ht, List.length_append, lw]
    have sz : (tx t).length ≤ sizeLine := by rw [tx_len]; exact small6 (by omega)
    walk_at "ct"
    refine ⟨_, rfl, sz, ?_⟩
    rw [show (1 : Int) = ((1 : Nat) : Int) from rfl, cut_toX, show t.take 1 = wayT w by rw [← ht, ← lw, List.take_left]]
    walk_at "ct"
    refine ⟨w, rfl, hw, ?_⟩
    walk_at "ct"
    refine ⟨_, rfl, sz, ?_⟩
    rw [cut_fromX _ _ (by omega), show t.drop 1 = shT s by rw [← ht, ← lw, List.drop_left]]
    walk_at "ct"
    refine ⟨s, rfl, hs, ?_⟩
    walk_at "ct"
    refine ⟨len2 rfl, fun p n_p => ?_⟩
    generalize h_G : upd _ p _ = G
    obtain ⟨s_G, e_p⟩ := Ct.upd_new h_G n_p
    clear h_G
    exact q (.ref p) G s_G (.tup (.of e_p) (dpAll_ints [w, s]))
abbrev S_read_shows : Stmt := topS 30
theorem sc_read_shows : FnScope ["text"] ["text"] (defScope S_read_shows) := ⟨rfl, rfl, rfl, by decide +kernel, rfl, by decide +kernel, by decide +kernel⟩
def sp_read_shows (K : PySem.W.Frag) : Sp := fun vs H Q _ => ∃ (ds : List PyData) (ts : List (List Nat)), vs = [.str (tx (listT ts))] ∧ ElsT 3 ds ts ∧ ts.length ≤ 2000 ∧ ∀ l xs H', Same H H' → H l = none → H' l = some (.lst xs) → DpAll K H' xs ds → Q (.ref l) H'
theorem ok_read_shows {f : Addr} {fd : FuncData} {f_read_list : Addr} {fd_read_list : FuncData} {f_read_show : Addr} {fd_read_show : FuncData} (F : Fun K "read_shows" "read_shows" S_read_shows f fd)
    (F_read_list : Fun K "read_list" "read_list" S_read_list f_read_list fd_read_list) (b_read_list : Binds K fd_read_list ["text", "read_one"] []) (g_read_list : mg "read_list" = some (.ref f_read_list)) (G_read_list : ∀ R, (∀ f sp, R f sp → Held P w K mg base 12 f sp) → FnOk P w K mg base CX0 13 f_read_list fd_read_list ["text", "read_one"] (sp_read_list K R))
    (F_read_show : Fun K "read_show" "read_show" S_read_show f_read_show fd_read_show) (b_read_show : Binds K fd_read_show ["text"] []) (g_read_show : mg "read_show" = some (.ref f_read_show)) (G_read_show : FnOk P w K mg base CX0 2 f_read_show fd_read_show ["text"] (sp_read_show K)) :
    FnOk P w K mg base CX0 14 f fd ["text"] (sp_read_shows K) := by
  refine F.ok sc_read_shows (fun vs H Q E h => ?_) (fun cdv A outer s H vs Q E hr h => ?_)
  ·
    obtain ⟨ds, ts, rfl, _⟩ := h
    rfl
  ·
    obtain ⟨ds, ts, rfl, els, l2, q⟩ := h
    refine ⟨_, (pss_one (ps_ret (pe_call (G_read_list (fun (f : Addr) (sp : Sp) => (f = f_read_show ∧ sp = (sp_read_show K)) ∨ (fun (_ : Addr) (_ : Sp) => False) f sp) (held_cons (held_at (k := 12) G_read_show (by decide) F_read_show.kp b_read_show) held_nil)) (hr.mono (by decide)) (by rfl) g_read_list F_read_list.kp b_read_list .nil pass0 (pa_cons (pv 0) (pa_cons (pe_glob (v := .ref f_read_show) (by rfl) g_read_show rfl) pa_nil))))), ?_⟩
    refine w_st (σ' := [some (.str (tx (listT ts)))]) rfl ?_
    walk_at "ct"
    refine ⟨f_read_show, _, ds, ts, rfl, .inl ⟨rfl, rfl⟩, Paired.length els, fun i d t hd ht H1 Q1 s1 q1 => ?_, elsT_tdT els, fun t ht => ⟨elsT_free els t ht, Nat.le_trans (elsT_len els t ht) (by decide)⟩, l2, elsT_none els, q⟩
    obtain ⟨t', ht', el⟩ := paired_getT els hd
    cases Option.some.inj (ht.symm.trans ht')
    exact ⟨d, t, rfl, el, fun v H2 s2 dv => q1 v H2 s2 dv⟩
abbrev S__law_draws : Stmt := topS 32
theorem sc__law_draws : FnScope ["_law_cell"] ["_law_cell"] (defScope S__law_draws) := ⟨rfl, rfl, rfl, by decide +kernel, rfl, by decide +kernel, by decide +kernel⟩
def sp__law_draws (K : PySem.W.Frag) : Sp := fun vs H Q _ => ∃ c : Int, vs = [.int c] ∧ ∀ D H', Same H H' → H D = none → H' D = some (DrO D 0) → Q (.ref D) H'
theorem ok__law_draws {f : Addr} {fd : FuncData} (F : Fun K "_law_draws" "_law_draws" S__law_draws f fd) :
    FnOk P w K mg base CX0 1 f fd ["_law_cell"] (sp__law_draws K) := by
  refine F.ok sc__law_draws (fun vs H Q E h => ?_) (fun cdv A outer s H vs Q E hr h => ?_)
  ·
    obtain ⟨c, rfl, _⟩ := h
    rfl
  ·
    obtain ⟨c, rfl, q⟩ := h
    refine ⟨_, (pss_cons (ps_if (pt_cmpR op_lt (pv 0) (pe_op op_powB pe_int pe_int) (nomark _)) (pss_one (ps_ret (pe_lstDr (pa_cons (pv 0) (pa_cons pe_int (pa_cons pe_bl pa_nil)))))) pss_nil)
      (pss_one (ps_ret (pe_lstDr (pa_cons (pe_op op_mod (pv 0) (pe_op op_powB (pe_op op_powB (pe_op op_powB pe_int pe_int) pe_int) pe_int)) (pa_cons pe_int (pa_cons pe_bl pa_nil))))))), ?_⟩
    refine w_st (σ' := [some (.int c)]) rfl ?_
    walk_at "ct"
    refine w_rIv (.int 1000000000000000000) ⟨by decide, by decide⟩ rfl ?_
    walk_at "ct"
    refine w_ite (fun e => ?_) (fun e => ?_)
    · walk_at "ct"
      refine w_lstDr ?_
      walk_at "ct"
      exact ⟨c, 0, false, rfl, fun p np => q p _ (same_upd np) np upd_same⟩
    · walk_at "ct"
      refine w_lstDr ?_
      walk_at "ct"
      refine w_rI ⟨by decide, by decide +kernel⟩ ?_
      walk_at "ct"
      refine w_rI ⟨by decide, by decide +kernel⟩ ?_
      walk_at "ct"
      refine w_rI ⟨by decide, by decide +kernel⟩ ?_
      refine w_mod (Int.pow_pos (Int.pow_pos (Int.pow_pos (by decide)))) fun r _ _ => ?_
      walk_at "ct"
      exact ⟨r, 0, true, rfl, fun p np => q p _ (same_upd np) np upd_same⟩
abbrev S__law_next : Stmt := topS 33
theorem sc__law_next : FnScope ["_law_draws_here", "_law_k", "_law_number_here"] ["_law_draws_here"] (defScope S__law_next) := ⟨rfl, rfl, rfl, by decide +kernel, rfl, by decide +kernel, by decide +kernel⟩
def sp__law_next (K : PySem.W.Frag) : Sp := fun vs H Q _ => ∃ (D : Addr) (c : Nat), vs = [.ref D] ∧ H D = some (DrO D c) ∧ c < 1000000 ∧ ∀ n : Int, 0 ≤ n → n < 2147483648 → Q (.int n) (upd H D (DrO D (c + 1)))
theorem ok__law_next {f : Addr} {fd : FuncData} (F : Fun K "_law_next" "_law_next" S__law_next f fd) :
    FnOk P w K mg base CX0 1 f fd ["_law_draws_here"] (sp__law_next K) := by
  refine F.ok sc__law_next (fun vs H Q E h => ?_) (fun cdv A outer s H vs Q E hr h => ?_)
  ·
    obtain ⟨D, c, rfl, _⟩ := h
    rfl
  ·
    obtain ⟨D, c, rfl, hD, hc, q⟩ := h
    refine ⟨_, (pss_cons (ps_asg (pe_op op_add (pe_ix (r := rIxDr) ix_dr (pv 0) pe_int (fun _ _ => rfl)) pe_int) (pg_sub (pv 0) pe_int set_dr))
      (pss_cons (ps_set (i := 1) sc__law_next.nd rfl (.inl rfl) (pe_ix (r := rIxDr) ix_dr (pv 0) pe_int (fun _ _ => rfl)))
      (pss_cons (ps_if (pt_val (pe_ix (r := rIxDr) ix_dr (pv 0) pe_int (fun _ _ => rfl))) (pss_cons (ps_set (i := 2) sc__law_next.nd rfl (.inl rfl) (pe_op op_mod (pe_ix (r := rIxDr) ix_dr (pv 0) pe_int (fun _ _ => rfl)) (pe_op op_powB pe_int pe_int)))
      (pss_cons (ps_asg (pe_op op_fdivW (pe_ix (r := rIxDr) ix_dr (pv 0) pe_int (fun _ _ => rfl)) (pe_op op_powB pe_int pe_int)) (pg_sub (pv 0) pe_int set_dr))
      (pss_one (ps_ret (pv 2))))) pss_nil)
      (pss_cons (ps_set (i := 2) sc__law_next.nd rfl (.inl rfl) (pe_op op_mod (pe_op op_mulW (pe_op op_add (pe_op op_add (pe_op op_mod (pe_ix (r := rIxDr) ix_dr (pv 0) pe_int (fun _ _ => rfl)) pe_int) (pe_op op_mulW (pe_op op_mulW (pv 1) (pv 1)) pe_int)) (pv 1)) pe_int) pe_int))
      (pss_cons (ps_set (i := 2) sc__law_next.nd rfl (.inl rfl) (pe_op op_mod (pe_op op_mulW (pv 2) (pv 2)) pe_int))
      (pss_one (ps_ret (pe_op op_fdivW (pe_op op_mod (pe_op op_mulW (pv 2) (pe_op op_add (pv 2) pe_int)) pe_int) pe_int)))))))), ?_⟩
    refine w_st (σ' := [some (.ref D), none, none]) rfl ?_
    walk_at "ct"
    refine w_dr1 hD ?_
    walk_at "ct"
    refine ⟨D, 1, c, rfl, rfl, hD, .inr ⟨rfl, c + 1, by rw [show ((c + 1 : Nat) : Int) = (c : Int) + 1 by omega], ?_⟩⟩
    have h1 : (upd H D (DrO D (c + 1))) D = some (DrO D (c + 1)) := upd_same
    have e2 : upd (upd H D (DrO D (c + 1))) D (DrO D (c + 1)) = upd H D (DrO D (c + 1)) := by
      funext a
      by_cases z : a = D
      · rw [z, upd_same, upd_same]
      · rw [upd_ne z]
    generalize upd H D (DrO D (c + 1)) = H1 at *
    walk_at "ct"
    refine w_dr1 h1 ?_
    walk_at "ct"
    refine w_dr2 h1 fun b => ?_
    obtain ⟨k, hk⟩ : ∃ k : Int, ((c + 1 : Nat) : Int) = k := ⟨_, rfl⟩
    have k0 : 0 ≤ k := by omega
    have k1 : k ≤ 1000000 := by omega
    rw [hk]
    cases b with
    | true =>
      walk_at "ct"
      refine w_dr0 h1 fun n => ?_
      walk_at "ct"
      refine w_rIv (.int 1000000) ⟨by decide, by decide⟩ rfl ?_
      refine w_mod (by decide) fun r r0 r1 => ?_
      walk_at "ct"
      refine w_dr0 h1 fun n2 => ?_
      walk_at "ct"
      refine w_rIv (.int 1000000) ⟨by decide, by decide⟩ rfl ?_
      refine w_div (div_ok (by decide) (by decide)) fun r' => ?_
      walk_at "ct"
      refine ⟨D, 0, c + 1, rfl, rfl, h1, .inl ⟨rfl, ⟨_, rfl⟩, ?_⟩⟩
      rw [e2]
      walk_at "ct"
      exact q r r0 (by omega)
    | false =>
      walk_at "ct"
      refine w_dr0 h1 fun n => ?_
      walk_at "ct"
      refine w_mod (by decide) fun r0 a0 a1 => ?_
      walk_at "ct"
      have kk : 0 ≤ k * k ∧ k * k ≤ 1000000 * 1000000 := ⟨Int.mul_nonneg k0 k0, Int.mul_le_mul k1 k1 k0 (by decide)⟩
      refine w_rI (mul_ok (by omega) (by omega) (by omega) (by omega)) ?_
      walk_at "ct"
      refine w_rI (mul_ok (by omega) (by omega) (by omega) (by omega)) ?_
      walk_at "ct"
      refine w_rI (mul_ok (by omega) (by omega) (by omega) (by omega)) ?_
      walk_at "ct"
      refine w_mod (by decide) fun r1 b0 b1 => ?_
      walk_at "ct"
      refine w_rI (mul_ok (by omega) (by omega) (by omega) (by omega)) ?_
      walk_at "ct"
      refine w_mod (by decide) fun r2 c0 c1 => ?_
      walk_at "ct"
      refine w_rI (mul_ok (by omega) (by omega) (by omega) (by omega)) ?_
      walk_at "ct"
      refine w_mod (by decide) fun r3 d0 d1 => ?_
      walk_at "ct"
      refine w_rI (div_ok (by decide) (by decide)) ?_
      exact q _ (by omega) (by omega)
abbrev S__law_whole : Stmt := topS 34
theorem sc__law_whole : FnScope ["_law_found"] ["_law_found"] (defScope S__law_whole) := ⟨rfl, rfl, rfl, by decide +kernel, rfl, by decide +kernel, by decide +kernel⟩
def sp__law_whole (K : PySem.W.Frag) : Sp := fun vs H Q _ => ∃ (v : V) (d : PyData), vs = [v] ∧ Dp K H v d ∧ Q (.bl (isW d)) H
theorem ok__law_whole {f : Addr} {fd : FuncData} (F : Fun K "_law_whole" "_law_whole" S__law_whole f fd) (m_isinstance : mg "isinstance" = none) (m_int : mg "int" = none) (m_bool : mg "bool" = none) :
    FnOk P w K mg base CX0 1 f fd ["_law_found"] (sp__law_whole K) := by
  refine F.ok sc__law_whole (fun vs H Q E h => ?_) (fun cdv A outer s H vs Q E hr h => ?_)
  ·
    obtain ⟨v, d, rfl, _⟩ := h
    rfl
  ·
    obtain ⟨v, d, rfl, hd, q⟩ := h
    refine ⟨_, (pss_one (ps_ret (pe_and (pe_callB (r := rIsi K) call_isi (by rfl) m_isinstance (by decide +kernel) (pa_cons (pv 0) (pa_cons (pe_bltn (v := .ty "int") (u := .type "int") (by rfl) m_int (by decide +kernel) rfl) pa_nil))) (pe_one (pe_not (pe_callB (r := rIsi K) call_isi (by rfl) m_isinstance (by decide +kernel) (pa_cons (pv 0) (pa_cons (pe_bltn (v := .ty "bool") (u := .type "bool") (by rfl) m_bool (by decide +kernel) rfl) pa_nil)))))))), ?_⟩
    refine w_st (σ' := [some v]) rfl ?_
    walk_at "ct"
    cases hd with
    | non =>
      refine w_isi (b := false) (.base .non) (kit_ty (by decide +kernel)) ?_
      walk_at "ct"
      exact q
    | bl b =>
      refine w_isi (b := true) (.base (.bl b)) (kit_ty (by decide +kernel)) ?_
      walk_at "ct"
      refine w_isi (b := true) (.base (.bl b)) (kit_ty (by decide +kernel)) ?_
      walk_at "ct"
      exact q
    | int i =>
      refine w_isi (b := true) (.base (.int i)) (kit_ty (by decide +kernel)) ?_
      walk_at "ct"
      refine w_isi (b := false) (.base (.int i)) (kit_ty (by decide +kernel)) ?_
      walk_at "ct"
      exact q
    | str x =>
      refine w_isi (b := false) (.base (.str x)) (kit_ty (by decide +kernel)) ?_
      walk_at "ct"
      exact q
    | lst hs ht =>
      refine w_isi (b := false) (tyx_L hs) (kit_ty (by decide +kernel)) ?_
      walk_at "ct"
      exact q
    | tup hs ht =>
      refine w_isi (b := false) (tyx_T hs) (kit_ty (by decide +kernel)) ?_
      walk_at "ct"
      exact q
abbrev S__law_number : Stmt := topS 35
theorem sc__law_number : FnScope ["_law_draws_here", "_law_wide", "_law_number_here", "_law_turn"] ["_law_draws_here"] (defScope S__law_number) := ⟨rfl, rfl, rfl, by decide +kernel, rfl, by decide +kernel, by decide +kernel⟩
def sp__law_number (K : PySem.W.Frag) : Sp := fun vs H Q _ => ∃ (D : Addr) (c : Nat), vs = [.ref D] ∧ H D = some (DrO D c) ∧ c ≤ 900000 ∧ ∀ (n c' : Nat) H', Dr D c' H H' → c' ≤ c + 9 → n < M40 → Q (.int (n : Int)) H'
theorem ok__law_number {f : Addr} {fd : FuncData} {f__law_next : Addr} {fd__law_next : FuncData} (F : Fun K "_law_number" "_law_number" S__law_number f fd)
    (F__law_next : Fun K "_law_next" "_law_next" S__law_next f__law_next fd__law_next) (b__law_next : Binds K fd__law_next ["_law_draws_here"] []) (g__law_next : mg "_law_next" = some (.ref f__law_next)) (G__law_next : FnOk P w K mg base CX0 1 f__law_next fd__law_next ["_law_draws_here"] (sp__law_next K)) (m_range : mg "range" = none) :
    FnOk P w K mg base CX0 2 f fd ["_law_draws_here"] (sp__law_number K) := by
  refine F.ok sc__law_number (fun vs H Q E h => ?_) (fun cdv A outer s H vs Q E hr h => ?_)
  ·
    obtain ⟨D, c, rfl, _⟩ := h
    rfl
  ·
    obtain ⟨D, c, rfl, hD, hc, q⟩ := h
    refine ⟨_, (pss_cons (ps_set (i := 1) sc__law_number.nd rfl (.inl rfl) (pe_op op_mod (pe_call G__law_next (hr.mono (by decide)) (by rfl) g__law_next F__law_next.kp b__law_next .nil pass0 (pa_cons (pv 0) pa_nil)) pe_int))
      (pss_cons (ps_set (i := 2) sc__law_number.nd rfl (.inl rfl) (pe_op op_mod (pe_call G__law_next (hr.mono (by decide)) (by rfl) g__law_next F__law_next.kp b__law_next .nil pass0 (pa_cons (pv 0) pa_nil)) (pe_ix (r := rIxL K) ix_list (pe_lst (pa_cons pe_int (pa_cons pe_int (pa_cons pe_int (pa_cons (pe_op op_powB pe_int pe_int) pa_nil))))) (pv 1) (fun _ _ => rfl))))
      (pss_cons (ps_if (pt_cmpR op_eq (pe_op op_mod (pe_call G__law_next (hr.mono (by decide)) (by rfl) g__law_next F__law_next.kp b__law_next .nil pass0 (pa_cons (pv 0) pa_nil)) pe_int) pe_int (nomark _)) (pss_cons (ps_for PassesOwn.never rfl (pi_range1 (by rfl) m_range (pa_cons pe_int pa_nil)) (pg_name (i := 3) sc__law_number.nd rfl (.inl rfl))
      (pss_one (ps_set (i := 2) sc__law_number.nd rfl (.inl rfl) (pe_op op_add (pe_op op_mulW (pv 2) (pe_op op_powB pe_int pe_int)) (pe_op op_mod (pe_call G__law_next (hr.mono (by decide)) (by rfl) g__law_next F__law_next.kp b__law_next .nil pass0 (pa_cons (pv 0) pa_nil)) (pe_op op_powB pe_int pe_int))))))
      (pss_one (ps_set (i := 2) sc__law_number.nd rfl (.inl rfl) (pe_op op_mod (pv 2) (pe_op op_powB pe_int pe_int))))) pss_nil)
      (pss_one (ps_ret (pv 2)))))), ?_⟩
    refine w_st (σ' := [some (.ref D), none, none, none]) rfl ?_
    have d0 := Dr.refl hD
    walk_at "ct"
    refine ⟨D, c, rfl, hD, by omega, fun n1 _ _ => ?_⟩
    have d1 := d0.next (c + 1)
    generalize upd H D _ = H1 at *
    walk_at "ct"
    refine w_mod (by decide) fun wd wd0 wd1 => ?_
    walk_at "ct"
    refine ⟨D, c + 1, rfl, d1.2, by omega, fun n2 _ _ => ?_⟩
    have d2 := d1.next (c + 2)
    generalize upd H1 D _ = H2 at *
    walk_at "ct"
    refine w_rIv (.int 1000000) ⟨by decide, by decide⟩ rfl ?_
    walk_at "ct"
    refine ⟨len2 rfl, fun g n_g => ?_⟩
    generalize h_H3 : upd _ g _ = H3
    obtain ⟨s_H3, e_g⟩ := Ct.upd_new h_H3 n_g
    clear h_H3
    have d3 := d2.same s_H3
    walk_at "ct"
    obtain ⟨top, htop, t0, t1⟩ : ∃ top : Int, atI [V.int 3, .int 30, .int 1000, .int 1000000] wd = some (.int top) ∧ 1 ≤ top ∧ top ≤ 1000000 := by
      have : wd = 0 ∨ wd = 1 ∨ wd = 2 ∨ wd = 3 := by omega
      rcases this with rfl | rfl | rfl | rfl
      · exact ⟨3, at0, by decide, by decide⟩
      · exact ⟨30, at1, by decide, by decide⟩
      · exact ⟨1000, at2, by decide, by decide⟩
      · exact ⟨1000000, rfl, by decide, by decide⟩
    refine w_ixL (.of e_g) htop ?_
    refine w_mod (by omega) fun n n0 n9 => ?_
    walk_at "ct"
    refine ⟨D, c + 2, rfl, d3.2, by omega, fun n3 _ _ => ?_⟩
    have d4 := d3.next (c + 3)
    generalize upd H3 D _ = H4 at *
    walk_at "ct"
    refine w_mod (by decide) fun r8 _ _ => ?_
    walk_at "ct"
    refine w_ite (fun e => ?_) (fun e => ?_)
    · walk_at "ct"
      refine w_RG1 (by decide) (by decide) ?_
      refine fb_range (fun i σ G => ∃ (k : Nat) (y : Option V), σ = [some (.ref D), some (.int wd), some (.int (k : Int)), y] ∧ Dr D (c + 3 + i) H G ∧ k < 1000000 * 1000000 ^ i) ⟨n.toNat, _, by rw [Int.toNat_of_nonneg n0], d4, by show n.toNat < 1000000 * 1; omega⟩ ?_ ?_
      · rintro i σ G hi ⟨k, y, rfl, dG, kb⟩
        have hi6 : i < 6 := hi
        have pw : 1000000 * 1000000 ^ i ≤ 1000000 * 1000000 ^ 5 := Nat.mul_le_mul_left _ (Nat.pow_le_pow_right (by decide) (by omega))
        have pv : 1000000 * 1000000 ^ 5 = 10 ^ 36 := by decide
        obtain ⟨B, hB⟩ : ∃ B, 1000000 * 1000000 ^ i = B := ⟨_, rfl⟩
        rw [hB] at kb pw
        have kz : (k : Int) < 2 ^ 200 := by
          have : k < 10 ^ 36 := by omega
          have : (10 : Nat) ^ 36 ≤ 2 ^ 200 := by decide
          have h2 : k < 2 ^ 200 := by omega
          exact_mod_cast h2
        walk_at "ct"
        refine w_rIv (.int 1000000) ⟨by decide, by decide⟩ rfl ?_
        walk_at "ct"
        refine w_rI (mul_ok (by omega) (by omega) (by decide) (by decide)) ?_
        walk_at "ct"
        refine ⟨D, c + 3 + i, rfl, dG.2, by omega, fun n4 _ _ => ?_⟩
        have dG2 := dG.next (c + 3 + i + 1)
        walk_at "ct"
        refine w_rIv (.int 1000000) ⟨by decide, by decide⟩ rfl ?_
        refine w_mod (by decide) fun r r0 r1 => ?_
        walk_at "ct"
        refine ⟨k * 1000000 + r.toNat, _, by rw [show ((k * 1000000 + r.toNat : Nat) : Int) = (k : Int) * 1000000 + r by omega], dG2, ?_⟩
        rw [Nat.pow_succ, ← Nat.mul_assoc, hB]
        omega
      rintro σ G ⟨k, y, rfl, dG, kb⟩
      walk_at "ct"
      refine w_rIv (.int (10 ^ 40)) ⟨by decide, by decide⟩ rfl ?_
      refine w_rIv (.int ((k % M40 : Nat) : Int)) (show (0 : Int) < 10 ^ 40 by decide) (by rw [Int.natCast_emod]; rfl) ?_
      walk_at "ct"
      exact q _ _ G dG (by show c + 3 + 6 ≤ _; omega) (Nat.mod_lt _ (by decide))
    · walk_at "ct"
      rw [show n = ((n.toNat : Nat) : Int) by omega]
      refine q _ _ H4 d4 (by omega) (Nat.lt_of_lt_of_le (show n.toNat < 1000000 by omega) (by decide))
abbrev S__law_ways : Stmt := topS 36
theorem sc__law_ways : FnScope ["_law_draws_here", "_law_many", "_law_k"] ["_law_draws_here", "_law_many"] (defScope S__law_ways) := ⟨rfl, rfl, rfl, by decide +kernel, rfl, by decide +kernel, by decide +kernel⟩
def sp__law_ways (K : PySem.W.Frag) : Sp := fun vs H Q _ => ∃ (D : Addr) (c m : Nat), vs = [.ref D, .int (m : Int)] ∧ H D = some (DrO D c) ∧ c ≤ 900000 ∧ 1 ≤ m ∧ m ≤ 1000 ∧ ∀ l (ws : List Int) c' H', Dr D c' H H' → c' ≤ c + 1 + m → H l = none → H' l = some (.lst (ws.map V.int)) → (∀ w ∈ ws, Sign w) → ws.length < m → Q (.ref l) H'
theorem ok__law_ways {f : Addr} {fd : FuncData} {f__law_next : Addr} {fd__law_next : FuncData} (F : Fun K "_law_ways" "_law_ways" S__law_ways f fd)
    (F__law_next : Fun K "_law_next" "_law_next" S__law_next f__law_next fd__law_next) (b__law_next : Binds K fd__law_next ["_law_draws_here"] []) (g__law_next : mg "_law_next" = some (.ref f__law_next)) (G__law_next : FnOk P w K mg base CX0 1 f__law_next fd__law_next ["_law_draws_here"] (sp__law_next K)) (m_range : mg "range" = none) :
    FnOk P w K mg base CX0 2 f fd ["_law_draws_here", "_law_many"] (sp__law_ways K) := by
  refine F.ok sc__law_ways (fun vs H Q E h => ?_) (fun cdv A outer s H vs Q E hr h => ?_)
  ·
    obtain ⟨D, c, m, rfl, _⟩ := h
    rfl
  ·
    obtain ⟨D, c, m, rfl, hD, hc, m1, m2, q⟩ := h
    refine ⟨_, (pss_one (ps_ret (pe_lc (own := [("_law_k", 2)]) (g := gName 2)  rfl sc__law_ways.nd  (pi_range1 (by rfl) m_range (pa_cons (pe_op op_mod (pe_call G__law_next (hr.mono (by decide)) (by rfl) g__law_next F__law_next.kp b__law_next .nil pass0 (pa_cons (pv 0) pa_nil)) (pv 1)) pa_nil)) (blkOk_by (own := [("_law_k", 2)]) (N := ["_law_draws_here", "_law_many", "_law_k"]) (sc := defScope S__law_ways) (by decide +kernel)) (fun _ _ _ _ _ => pg_name (i := 2) sc__law_ways.nd rfl (Or.inl rfl)) (fun _ _ _ _ _ => pts_nil) (fun _ _ _ _ _ => (pe_ix (r := rIxL K) ix_list (pe_lst (pa_cons pe_int (pa_cons (pe_op op_sub pe_int pe_int) pa_nil))) (pe_op op_mod (pe_call G__law_next (hr.mono (by decide)) (by rfl) g__law_next F__law_next.kp b__law_next .nil pass0 (pa_cons (pv 0) pa_nil)) pe_int) (fun _ _ => rfl)))))), ?_⟩
    refine w_st (σ' := [some (.ref D), some (.int (m : Int)), none]) rfl ?_
    have d0 := Dr.refl hD
    walk_at "ct"
    refine ⟨D, c, rfl, hD, by omega, fun n1 _ _ => ?_⟩
    have d1 := d0.next (c + 1)
    generalize upd H D _ = H1 at *
    walk_at "ct"
    refine w_mod (by omega) fun k k0 k1 => ?_
    walk_at "ct"
    refine w_RG1 (by omega) (by omega) ?_
    refine lb_range (fun L i G => ∃ ws : List Int, Dr D (c + 1 + i) H1 G ∧ G L = some (.lst (ws.map V.int)) ∧ ws.length = i ∧ ∀ w ∈ ws, Sign w) (fun L nL => ⟨[], (Dr.refl d1.2).same (same_upd nL), upd_same, rfl, fun w h => by cases h⟩) ?_ ?_
    · rintro L nL i G hi ⟨ws, dG, hL, wl, sg⟩
      walk_at "ct"
      refine ⟨rfl, ?_⟩
      walk_at "ct"
      refine ⟨len2 rfl, fun g n_g => ?_⟩
      generalize h_G2 : upd _ g _ = G2
      obtain ⟨s_G2, e_g⟩ := Ct.upd_new h_G2 n_g
      clear h_G2
      walk_at "ct"
      refine ⟨D, c + 1 + i, rfl, s_G2 _ _ dG.2, by omega, fun n2 _ _ => ?_⟩
      have dG2 := dG.same s_G2
      have st := Dr.step dG2.2 (c + 1 + i + 1)
      have hL3 := st.at dG2.2 (s_G2 _ _ hL)
      have hg3 := st.at dG2.2 e_g
      have dG3 := dG2.trans st
      clear st
      generalize upd G2 D _ = G3 at *
      walk_at "ct"
      refine w_mod (by decide) fun r r0 r1 => ?_
      obtain ⟨w, hw, sw⟩ : ∃ w : Int, atI [V.int 1, .int (0 - 1)] r = some (.int w) ∧ Sign w := by
        have : r = 0 ∨ r = 1 := by omega
        rcases this with rfl | rfl
        · exact ⟨1, at0, .inl rfl⟩
        · exact ⟨-1, at1, .inr rfl⟩
      walk_at "ct"
      refine w_ixL (.of hg3) hw ?_
      refine ⟨_, hL3, by rw [List.length_map]; exact small1000 (by omega), ws ++ [w], dG3.put nL hL3, ?_, by rw [List.length_append, wl]; rfl, fun x hx => ?_⟩
      · rw [upd_same, List.map_append]
        rfl
      · rcases List.mem_append.mp hx with hx | hx
        · exact sg x hx
        · rw [List.mem_singleton.mp hx]; exact sw
    rintro L nL G ⟨ws, dG, hL, wl, sg⟩
    exact q L ws _ G (d1.trans dG) (by omega) (d1.free nL) hL sg (by omega)
abbrev S__law_row : Stmt := topS 37
theorem sc__law_row : FnScope ["_law_draws_here", "_law_many", "_law_way"] ["_law_draws_here", "_law_many"] (defScope S__law_row) := ⟨rfl, rfl, rfl, by decide +kernel, rfl, by decide +kernel, by decide +kernel⟩
def sp__law_row (K : PySem.W.Frag) : Sp := fun vs H Q _ => ∃ (D : Addr) (c m : Nat), vs = [.ref D, .int (m : Int)] ∧ H D = some (DrO D c) ∧ c ≤ 800000 ∧ 1 ≤ m ∧ m ≤ 1000 ∧ ∀ l xs (ds : List PyData) (ts : List (List Nat)) c' H', Dr D c' H H' → c' ≤ c + 1 + 21 * m → H l = none → H' l = some (.lst xs) → DpAll K H' xs ds → ElsT 0 ds ts → xs.length < m → Q (.ref l) H'
theorem ok__law_row {f : Addr} {fd : FuncData} {f__law_ways : Addr} {fd__law_ways : FuncData} {f__law_number : Addr} {fd__law_number : FuncData} (F : Fun K "_law_row" "_law_row" S__law_row f fd)
    (F__law_ways : Fun K "_law_ways" "_law_ways" S__law_ways f__law_ways fd__law_ways) (b__law_ways : Binds K fd__law_ways ["_law_draws_here", "_law_many"] []) (g__law_ways : mg "_law_ways" = some (.ref f__law_ways)) (G__law_ways : FnOk P w K mg base CX0 2 f__law_ways fd__law_ways ["_law_draws_here", "_law_many"] (sp__law_ways K))
    (F__law_number : Fun K "_law_number" "_law_number" S__law_number f__law_number fd__law_number) (b__law_number : Binds K fd__law_number ["_law_draws_here"] []) (g__law_number : mg "_law_number" = some (.ref f__law_number)) (G__law_number : FnOk P w K mg base CX0 2 f__law_number fd__law_number ["_law_draws_here"] (sp__law_number K)) :
    FnOk P w K mg base CX0 3 f fd ["_law_draws_here", "_law_many"] (sp__law_row K) := by
  refine F.ok sc__law_row (fun vs H Q E h => ?_) (fun cdv A outer s H vs Q E hr h => ?_)
  ·
    obtain ⟨D, c, m, rfl, _⟩ := h
    rfl
  ·
    obtain ⟨D, c, m, rfl, hD, hc, m1, m2, q⟩ := h
    refine ⟨_, (pss_one (ps_ret (pe_lc (own := [("_law_way", 2)]) (g := gName 2)  rfl sc__law_row.nd  (pi_list (pe_call G__law_ways (hr.mono (by decide)) (by rfl) g__law_ways F__law_ways.kp b__law_ways .nil pass0 (pa_cons (pv 0) (pa_cons (pv 1) pa_nil)))) (blkOk_by (own := [("_law_way", 2)]) (N := ["_law_draws_here", "_law_many", "_law_way"]) (sc := defScope S__law_row) (by decide +kernel)) (fun _ _ _ _ _ => pg_name (i := 2) sc__law_row.nd rfl (Or.inl rfl)) (fun _ _ _ _ _ => pts_nil) (fun _ _ _ _ _ => (pe_tup (pa_cons (pe_call G__law_number (hr.mono (by decide)) (by rfl) g__law_number F__law_number.kp b__law_number .nil pass0 (pa_cons (pv 0) pa_nil)) (pa_cons (pv 2) (pa_cons (pe_call G__law_number (hr.mono (by decide)) (by rfl) g__law_number F__law_number.kp b__law_number .nil pass0 (pa_cons (pv 0) pa_nil)) pa_nil)))))))), ?_⟩
    refine w_st (σ' := [some (.ref D), some (.int (m : Int)), none]) rfl ?_
    walk_at "ct"
    refine ⟨D, c, m, rfl, hD, by omega, m1, m2, fun lw ws c1 H1 d1 c1l n_lw h_lw sg wl => ?_⟩
    walk_at "ct"
    refine w_IL (.of h_lw) ?_
    refine lb_list (ws.map V.int) (fun L i G => ∃ (xs : List V) (ds : List PyData) (ts : List (List Nat)) (ci : Nat), Dr D ci H1 G ∧ ci ≤ c1 + 20 * i ∧ G lw = some (.lst (ws.map V.int)) ∧ G L = some (.lst xs) ∧ DpAll K G xs ds ∧ ElsT 0 ds ts ∧ xs.length = i ∧ L ≠ lw) (fun L fL => ⟨[], [], [], c1, (Dr.refl d1.2).same (same_upd fL), Nat.le_refl _, same_upd fL _ _ h_lw, upd_same, .nil, .nil, rfl, fun z => by rw [z, h_lw] at fL; cases fL⟩) (fun L fL i G _ h => by obtain ⟨xs, ds, ts, ci, _, _, h, _⟩ := h; exact .of h) ?_ ?_
    · rintro L fL i x G hx ⟨xs, ds, ts, ci, dG, cil, hlw, hL, dxs, els, xl, ne⟩
      have hi : i < ws.length := by
        have := (List.getElem?_eq_some_iff.mp hx).1
        rw [List.length_map] at this
        exact this
      rw [List.getElem?_map] at hx
      obtain ⟨w, hw, rfl⟩ := Option.map_eq_some_iff.mp hx
      have sw := sg w (List.mem_of_getElem? hw)
      walk_at "ct"
      refine ⟨rfl, ?_⟩
      walk_at "ct"
      refine ⟨D, ci, rfl, dG.2, by omega, fun n1 c2 G2 d2 c2l lt1 => ?_⟩
      walk_at "ct"
      refine ⟨D, c2, rfl, d2.2, by omega, fun n2 c3 G3 d3 c3l lt2 => ?_⟩
      walk_at "ct"
      refine ⟨len2 rfl, fun p n_p => ?_⟩
      generalize h_G4 : upd _ p _ = G4
      obtain ⟨s_G4, e_p⟩ := Ct.upd_new h_G4 n_p
      clear h_G4
      have dT : Dp K G4 (.ref p) (.tuple ([(n1 : Int), w, (n2 : Int)].map PyData.int)) := .tup (.of e_p) (dpAll_ints [(n1 : Int), w, (n2 : Int)])
      have hlw' := s_G4 _ _ (d3.at d2.2 (d2.at dG.2 hlw))
      have hL' := s_G4 _ _ (d3.at d2.2 (d2.at dG.2 hL))
      have dxs' := dpAll_same s_G4 (d3.all d2.2 (d2.all dG.2 dxs))
      have dG' := ((dG.trans d2).trans d3).same s_G4
      have els' : ElsT 0 (ds ++ [.tuple ([(n1 : Int), w, (n2 : Int)].map PyData.int)]) (ts ++ [nL n1 ++ wayT w ++ nL n2]) := Paired.snoc els ⟨n1, n2, w, lt1, lt2, sw, rfl, rfl⟩
      refine ⟨_, hL', Nat.lt_of_le_of_lt (show xs.length ≤ 1000 by omega) (by decide), xs ++ [.ref p], _, _, _, dG'.put fL hL', by omega, by rw [upd_ne ne.symm]; exact hlw', upd_same, dpAll_updT hL' (tdT_of (elsT_tdT els')) (dpAll_app dxs' (.cons dT .nil)), els', by rw [List.length_append, xl]; rfl, ne⟩
    rintro L fL G ⟨xs, ds, ts, ci, dG, cil, hlw, hL, dxs, els, xl, ne⟩
    rw [List.length_map] at cil xl
    refine q L xs ds ts ci G (d1.trans dG) ?_ (d1.free fL) hL dxs els (by omega)
    have : 20 * ws.length ≤ 20 * m - 20 := by omega
    omega
abbrev S__law_pushes : Stmt := topS 38
theorem sc__law_pushes : FnScope ["_law_draws_here", "_law_many", "_law_way"] ["_law_draws_here", "_law_many"] (defScope S__law_pushes) := ⟨rfl, rfl, rfl, by decide +kernel, rfl, by decide +kernel, by decide +kernel⟩
def sp__law_pushes (K : PySem.W.Frag) : Sp := fun vs H Q _ => ∃ (D : Addr) (c m : Nat), vs = [.ref D, .int (m : Int)] ∧ H D = some (DrO D c) ∧ c ≤ 800000 ∧ 1 ≤ m ∧ m ≤ 1000 ∧ ∀ l xs (ds : List PyData) (ts : List (List Nat)) c' H', Dr D c' H H' → c' ≤ c + 1 + 21 * m → H l = none → H' l = some (.lst xs) → DpAll K H' xs ds → ElsT 1 ds ts → xs.length < m → Q (.ref l) H'
theorem ok__law_pushes {f : Addr} {fd : FuncData} {f__law_ways : Addr} {fd__law_ways : FuncData} {f__law_number : Addr} {fd__law_number : FuncData} (F : Fun K "_law_pushes" "_law_pushes" S__law_pushes f fd)
    (F__law_ways : Fun K "_law_ways" "_law_ways" S__law_ways f__law_ways fd__law_ways) (b__law_ways : Binds K fd__law_ways ["_law_draws_here", "_law_many"] []) (g__law_ways : mg "_law_ways" = some (.ref f__law_ways)) (G__law_ways : FnOk P w K mg base CX0 2 f__law_ways fd__law_ways ["_law_draws_here", "_law_many"] (sp__law_ways K))
    (F__law_number : Fun K "_law_number" "_law_number" S__law_number f__law_number fd__law_number) (b__law_number : Binds K fd__law_number ["_law_draws_here"] []) (g__law_number : mg "_law_number" = some (.ref f__law_number)) (G__law_number : FnOk P w K mg base CX0 2 f__law_number fd__law_number ["_law_draws_here"] (sp__law_number K)) :
    FnOk P w K mg base CX0 3 f fd ["_law_draws_here", "_law_many"] (sp__law_pushes K) := by
  refine F.ok sc__law_pushes (fun vs H Q E h => ?_) (fun cdv A outer s H vs Q E hr h => ?_)
  ·
    obtain ⟨D, c, m, rfl, _⟩ := h
    rfl
  ·
    obtain ⟨D, c, m, rfl, hD, hc, m1, m2, q⟩ := h
    refine ⟨_, (pss_one (ps_ret (pe_lc (own := [("_law_way", 2)]) (g := gName 2)  rfl sc__law_pushes.nd  (pi_list (pe_call G__law_ways (hr.mono (by decide)) (by rfl) g__law_ways F__law_ways.kp b__law_ways .nil pass0 (pa_cons (pv 0) (pa_cons (pv 1) pa_nil)))) (blkOk_by (own := [("_law_way", 2)]) (N := ["_law_draws_here", "_law_many", "_law_way"]) (sc := defScope S__law_pushes) (by decide +kernel)) (fun _ _ _ _ _ => pg_name (i := 2) sc__law_pushes.nd rfl (Or.inl rfl)) (fun _ _ _ _ _ => pts_nil) (fun _ _ _ _ _ => (pe_tup (pa_cons (pe_call G__law_number (hr.mono (by decide)) (by rfl) g__law_number F__law_number.kp b__law_number .nil pass0 (pa_cons (pv 0) pa_nil)) (pa_cons (pv 2) pa_nil))))))), ?_⟩
    refine w_st (σ' := [some (.ref D), some (.int (m : Int)), none]) rfl ?_
    walk_at "ct"
    refine ⟨D, c, m, rfl, hD, by omega, m1, m2, fun lw ws c1 H1 d1 c1l n_lw h_lw sg wl => ?_⟩
    walk_at "ct"
    refine w_IL (.of h_lw) ?_
    refine lb_list (ws.map V.int) (fun L i G => ∃ (xs : List V) (ds : List PyData) (ts : List (List Nat)) (ci : Nat), Dr D ci H1 G ∧ ci ≤ c1 + 20 * i ∧ G lw = some (.lst (ws.map V.int)) ∧ G L = some (.lst xs) ∧ DpAll K G xs ds ∧ ElsT 1 ds ts ∧ xs.length = i ∧ L ≠ lw) (fun L fL => ⟨[], [], [], c1, (Dr.refl d1.2).same (same_upd fL), Nat.le_refl _, same_upd fL _ _ h_lw, upd_same, .nil, .nil, rfl, fun z => by rw [z, h_lw] at fL; cases fL⟩) (fun L fL i G _ h => by obtain ⟨xs, ds, ts, ci, _, _, h, _⟩ := h; exact .of h) ?_ ?_
    · rintro L fL i x G hx ⟨xs, ds, ts, ci, dG, cil, hlw, hL, dxs, els, xl, ne⟩
      have hi : i < ws.length := by
        have := (List.getElem?_eq_some_iff.mp hx).1
        rw [List.length_map] at this
        exact this
      rw [List.getElem?_map] at hx
      obtain ⟨w, hw, rfl⟩ := Option.map_eq_some_iff.mp hx
      have sw := sg w (List.mem_of_getElem? hw)
      walk_at "ct"
      refine ⟨rfl, ?_⟩
      walk_at "ct"
      refine ⟨D, ci, rfl, dG.2, by omega, fun n1 c2 G2 d2 c2l lt1 => ?_⟩
      walk_at "ct"
      refine ⟨len2 rfl, fun p n_p => ?_⟩
      generalize h_G4 : upd _ p _ = G4
      obtain ⟨s_G4, e_p⟩ := Ct.upd_new h_G4 n_p
      clear h_G4
      have dT : Dp K G4 (.ref p) (.tuple ([(n1 : Int), w].map PyData.int)) := .tup (.of e_p) (dpAll_ints [(n1 : Int), w])
      have hlw' := s_G4 _ _ (d2.at dG.2 hlw)
      have hL' := s_G4 _ _ (d2.at dG.2 hL)
      have dxs' := dpAll_same s_G4 (d2.all dG.2 dxs)
      have dG' := (dG.trans d2).same s_G4
      have els' : ElsT 1 (ds ++ [.tuple ([(n1 : Int), w].map PyData.int)]) (ts ++ [nL n1 ++ wayT w]) := Paired.snoc els ⟨n1, w, lt1, sw, rfl, rfl⟩
      refine ⟨_, hL', Nat.lt_of_le_of_lt (show xs.length ≤ 1000 by omega) (by decide), xs ++ [.ref p], _, _, _, dG'.put fL hL', by omega, by rw [upd_ne ne.symm]; exact hlw', upd_same, dpAll_updT hL' (tdT_of (elsT_tdT els')) (dpAll_app dxs' (.cons dT .nil)), els', by rw [List.length_append, xl]; rfl, ne⟩
    rintro L fL G ⟨xs, ds, ts, ci, dG, cil, hlw, hL, dxs, els, xl, ne⟩
    rw [List.length_map] at cil xl
    refine q L xs ds ts ci G (d1.trans dG) ?_ (d1.free fL) hL dxs els (by omega)
    have : 20 * ws.length ≤ 20 * m - 20 := by omega
    omega
abbrev S__law_seen : Stmt := topS 39
theorem sc__law_seen : FnScope ["_law_draws_here", "_law_many", "_law_way"] ["_law_draws_here", "_law_many"] (defScope S__law_seen) := ⟨rfl, rfl, rfl, by decide +kernel, rfl, by decide +kernel, by decide +kernel⟩
def sp__law_seen (K : PySem.W.Frag) : Sp := fun vs H Q _ => ∃ (D : Addr) (c m : Nat), vs = [.ref D, .int (m : Int)] ∧ H D = some (DrO D c) ∧ c ≤ 800000 ∧ 1 ≤ m ∧ m ≤ 1000 ∧ ∀ l xs (ds : List PyData) (ts : List (List Nat)) c' H', Dr D c' H H' → c' ≤ c + 1 + 21 * m → H l = none → H' l = some (.lst xs) → DpAll K H' xs ds → ElsT 2 ds ts → xs.length < m → Q (.ref l) H'
theorem ok__law_seen {f : Addr} {fd : FuncData} {f__law_ways : Addr} {fd__law_ways : FuncData} {f__law_next : Addr} {fd__law_next : FuncData} {f__law_number : Addr} {fd__law_number : FuncData} (F : Fun K "_law_seen" "_law_seen" S__law_seen f fd)
    (F__law_ways : Fun K "_law_ways" "_law_ways" S__law_ways f__law_ways fd__law_ways) (b__law_ways : Binds K fd__law_ways ["_law_draws_here", "_law_many"] []) (g__law_ways : mg "_law_ways" = some (.ref f__law_ways)) (G__law_ways : FnOk P w K mg base CX0 2 f__law_ways fd__law_ways ["_law_draws_here", "_law_many"] (sp__law_ways K))
    (F__law_next : Fun K "_law_next" "_law_next" S__law_next f__law_next fd__law_next) (b__law_next : Binds K fd__law_next ["_law_draws_here"] []) (g__law_next : mg "_law_next" = some (.ref f__law_next)) (G__law_next : FnOk P w K mg base CX0 1 f__law_next fd__law_next ["_law_draws_here"] (sp__law_next K))
    (F__law_number : Fun K "_law_number" "_law_number" S__law_number f__law_number fd__law_number) (b__law_number : Binds K fd__law_number ["_law_draws_here"] []) (g__law_number : mg "_law_number" = some (.ref f__law_number)) (G__law_number : FnOk P w K mg base CX0 2 f__law_number fd__law_number ["_law_draws_here"] (sp__law_number K)) :
    FnOk P w K mg base CX0 3 f fd ["_law_draws_here", "_law_many"] (sp__law_seen K) := by
  refine F.ok sc__law_seen (fun vs H Q E h => ?_) (fun cdv A outer s H vs Q E hr h => ?_)
  ·
    obtain ⟨D, c, m, rfl, _⟩ := h
    rfl
  ·
    obtain ⟨D, c, m, rfl, hD, hc, m1, m2, q⟩ := h
    refine ⟨_, (pss_one (ps_ret (pe_lc (own := [("_law_way", 2)]) (g := gName 2)  rfl sc__law_seen.nd  (pi_list (pe_call G__law_ways (hr.mono (by decide)) (by rfl) g__law_ways F__law_ways.kp b__law_ways .nil pass0 (pa_cons (pv 0) (pa_cons (pv 1) pa_nil)))) (blkOk_by (own := [("_law_way", 2)]) (N := ["_law_draws_here", "_law_many", "_law_way"]) (sc := defScope S__law_seen) (by decide +kernel)) (fun _ _ _ _ _ => pg_name (i := 2) sc__law_seen.nd rfl (Or.inl rfl)) (fun _ _ _ _ _ => pts_nil) (fun _ _ _ _ _ => (pe_tup (pa_cons (pe_call G__law_number (hr.mono (by decide)) (by rfl) g__law_number F__law_number.kp b__law_number .nil pass0 (pa_cons (pv 0) pa_nil)) (pa_cons (pv 2) (pa_cons (pe_op op_sub (pe_op op_mod (pe_call G__law_next (hr.mono (by decide)) (by rfl) g__law_next F__law_next.kp b__law_next .nil pass0 (pa_cons (pv 0) pa_nil)) pe_int) pe_int) pa_nil)))))))), ?_⟩
    refine w_st (σ' := [some (.ref D), some (.int (m : Int)), none]) rfl ?_
    walk_at "ct"
    refine ⟨D, c, m, rfl, hD, by omega, m1, m2, fun lw ws c1 H1 d1 c1l n_lw h_lw sg wl => ?_⟩
    walk_at "ct"
    refine w_IL (.of h_lw) ?_
    refine lb_list (ws.map V.int) (fun L i G => ∃ (xs : List V) (ds : List PyData) (ts : List (List Nat)) (ci : Nat), Dr D ci H1 G ∧ ci ≤ c1 + 20 * i ∧ G lw = some (.lst (ws.map V.int)) ∧ G L = some (.lst xs) ∧ DpAll K G xs ds ∧ ElsT 2 ds ts ∧ xs.length = i ∧ L ≠ lw) (fun L fL => ⟨[], [], [], c1, (Dr.refl d1.2).same (same_upd fL), Nat.le_refl _, same_upd fL _ _ h_lw, upd_same, .nil, .nil, rfl, fun z => by rw [z, h_lw] at fL; cases fL⟩) (fun L fL i G _ h => by obtain ⟨xs, ds, ts, ci, _, _, h, _⟩ := h; exact .of h) ?_ ?_
    · rintro L fL i x G hx ⟨xs, ds, ts, ci, dG, cil, hlw, hL, dxs, els, xl, ne⟩
      have hi : i < ws.length := by
        have := (List.getElem?_eq_some_iff.mp hx).1
        rw [List.length_map] at this
        exact this
      rw [List.getElem?_map] at hx
      obtain ⟨w, hw, rfl⟩ := Option.map_eq_some_iff.mp hx
      have sw := sg w (List.mem_of_getElem? hw)
      walk_at "ct"
      refine ⟨rfl, ?_⟩
      walk_at "ct"
      refine ⟨D, ci, rfl, dG.2, by omega, fun n1 c2 G2 d2 c2l lt1 => ?_⟩
      walk_at "ct"
      refine ⟨D, c2, rfl, d2.2, by omega, fun n9 _ _ => ?_⟩
      have d3 := Dr.step d2.2 (c2 + 1)
      generalize upd G2 D _ = G3 at *
      walk_at "ct"
      refine w_mod (by decide) fun r r0 r1 => ?_
      walk_at "ct"
      have sr : ShT (r - 1) := by unfold ShT; omega
      refine ⟨len2 rfl, fun p n_p => ?_⟩
      generalize h_G4 : upd _ p _ = G4
      obtain ⟨s_G4, e_p⟩ := Ct.upd_new h_G4 n_p
      clear h_G4
      have dT : Dp K G4 (.ref p) (.tuple ([(n1 : Int), w, r - 1].map PyData.int)) := .tup (.of e_p) (dpAll_ints [(n1 : Int), w, r - 1])
      have hlw' := s_G4 _ _ (d3.at d2.2 (d2.at dG.2 hlw))
      have hL' := s_G4 _ _ (d3.at d2.2 (d2.at dG.2 hL))
      have dxs' := dpAll_same s_G4 (d3.all d2.2 (d2.all dG.2 dxs))
      have dG' := ((dG.trans d2).trans d3).same s_G4
      have els' : ElsT 2 (ds ++ [.tuple ([(n1 : Int), w, r - 1].map PyData.int)]) (ts ++ [nL n1 ++ wayT w ++ shT (r - 1)]) := Paired.snoc els ⟨n1, w, r - 1, lt1, sw, sr, rfl, rfl⟩
      refine ⟨_, hL', Nat.lt_of_le_of_lt (show xs.length ≤ 1000 by omega) (by decide), xs ++ [.ref p], _, _, _, dG'.put fL hL', by omega, by rw [upd_ne ne.symm]; exact hlw', upd_same, dpAll_updT hL' (tdT_of (elsT_tdT els')) (dpAll_app dxs' (.cons dT .nil)), els', by rw [List.length_append, xl]; rfl, ne⟩
    rintro L fL G ⟨xs, ds, ts, ci, dG, cil, hlw, hL, dxs, els, xl, ne⟩
    rw [List.length_map] at cil xl
    refine q L xs ds ts ci G (d1.trans dG) ?_ (d1.free fL) hL dxs els (by omega)
    have : 20 * ws.length ≤ 20 * m - 20 := by omega
    omega
abbrev S__law_shows : Stmt := topS 40
theorem sc__law_shows : FnScope ["_law_draws_here", "_law_many", "_law_way"] ["_law_draws_here", "_law_many"] (defScope S__law_shows) := ⟨rfl, rfl, rfl, by decide +kernel, rfl, by decide +kernel, by decide +kernel⟩
def sp__law_shows (K : PySem.W.Frag) : Sp := fun vs H Q _ => ∃ (D : Addr) (c m : Nat), vs = [.ref D, .int (m : Int)] ∧ H D = some (DrO D c) ∧ c ≤ 800000 ∧ 1 ≤ m ∧ m ≤ 1000 ∧ ∀ l xs (ds : List PyData) (ts : List (List Nat)) c' H', Dr D c' H H' → c' ≤ c + 1 + 21 * m → H l = none → H' l = some (.lst xs) → DpAll K H' xs ds → ElsT 3 ds ts → xs.length < m → Q (.ref l) H'
theorem ok__law_shows {f : Addr} {fd : FuncData} {f__law_ways : Addr} {fd__law_ways : FuncData} {f__law_next : Addr} {fd__law_next : FuncData} (F : Fun K "_law_shows" "_law_shows" S__law_shows f fd)
    (F__law_ways : Fun K "_law_ways" "_law_ways" S__law_ways f__law_ways fd__law_ways) (b__law_ways : Binds K fd__law_ways ["_law_draws_here", "_law_many"] []) (g__law_ways : mg "_law_ways" = some (.ref f__law_ways)) (G__law_ways : FnOk P w K mg base CX0 2 f__law_ways fd__law_ways ["_law_draws_here", "_law_many"] (sp__law_ways K))
    (F__law_next : Fun K "_law_next" "_law_next" S__law_next f__law_next fd__law_next) (b__law_next : Binds K fd__law_next ["_law_draws_here"] []) (g__law_next : mg "_law_next" = some (.ref f__law_next)) (G__law_next : FnOk P w K mg base CX0 1 f__law_next fd__law_next ["_law_draws_here"] (sp__law_next K)) :
    FnOk P w K mg base CX0 3 f fd ["_law_draws_here", "_law_many"] (sp__law_shows K) := by
  refine F.ok sc__law_shows (fun vs H Q E h => ?_) (fun cdv A outer s H vs Q E hr h => ?_)
  ·
    obtain ⟨D, c, m, rfl, _⟩ := h
    rfl
  ·
    obtain ⟨D, c, m, rfl, hD, hc, m1, m2, q⟩ := h
    refine ⟨_, (pss_one (ps_ret (pe_lc (own := [("_law_way", 2)]) (g := gName 2)  rfl sc__law_shows.nd  (pi_list (pe_call G__law_ways (hr.mono (by decide)) (by rfl) g__law_ways F__law_ways.kp b__law_ways .nil pass0 (pa_cons (pv 0) (pa_cons (pv 1) pa_nil)))) (blkOk_by (own := [("_law_way", 2)]) (N := ["_law_draws_here", "_law_many", "_law_way"]) (sc := defScope S__law_shows) (by decide +kernel)) (fun _ _ _ _ _ => pg_name (i := 2) sc__law_shows.nd rfl (Or.inl rfl)) (fun _ _ _ _ _ => pts_nil) (fun _ _ _ _ _ => (pe_tup (pa_cons (pv 2) (pa_cons (pe_op op_sub (pe_op op_mod (pe_call G__law_next (hr.mono (by decide)) (by rfl) g__law_next F__law_next.kp b__law_next .nil pass0 (pa_cons (pv 0) pa_nil)) pe_int) pe_int) pa_nil))))))), ?_⟩
    refine w_st (σ' := [some (.ref D), some (.int (m : Int)), none]) rfl ?_
    walk_at "ct"
    refine ⟨D, c, m, rfl, hD, by omega, m1, m2, fun lw ws c1 H1 d1 c1l n_lw h_lw sg wl => ?_⟩
    walk_at "ct"
    refine w_IL (.of h_lw) ?_
    refine lb_list (ws.map V.int) (fun L i G => ∃ (xs : List V) (ds : List PyData) (ts : List (List Nat)) (ci : Nat), Dr D ci H1 G ∧ ci ≤ c1 + 20 * i ∧ G lw = some (.lst (ws.map V.int)) ∧ G L = some (.lst xs) ∧ DpAll K G xs ds ∧ ElsT 3 ds ts ∧ xs.length = i ∧ L ≠ lw) (fun L fL => ⟨[], [], [], c1, (Dr.refl d1.2).same (same_upd fL), Nat.le_refl _, same_upd fL _ _ h_lw, upd_same, .nil, .nil, rfl, fun z => by rw [z, h_lw] at fL; cases fL⟩) (fun L fL i G _ h => by obtain ⟨xs, ds, ts, ci, _, _, h, _⟩ := h; exact .of h) ?_ ?_
    · rintro L fL i x G hx ⟨xs, ds, ts, ci, dG, cil, hlw, hL, dxs, els, xl, ne⟩
      have hi : i < ws.length := by
        have := (List.getElem?_eq_some_iff.mp hx).1
        rw [List.length_map] at this
        exact this
      rw [List.getElem?_map] at hx
      obtain ⟨w, hw, rfl⟩ := Option.map_eq_some_iff.mp hx
      have sw := sg w (List.mem_of_getElem? hw)
      walk_at "ct"
      refine ⟨rfl, ?_⟩
      walk_at "ct"
      refine ⟨D, ci, rfl, dG.2, by omega, fun n9 _ _ => ?_⟩
      have d3 := Dr.step dG.2 (ci + 1)
      generalize upd G D _ = G3 at d3 ⊢
      walk_at "ct"
      refine w_mod (by decide) fun r r0 r1 => ?_
      walk_at "ct"
      have sr : ShT (r - 1) := by unfold ShT; omega
      refine ⟨len2 rfl, fun p n_p => ?_⟩
      generalize h_G4 : upd _ p _ = G4
      obtain ⟨s_G4, e_p⟩ := Ct.upd_new h_G4 n_p
      clear h_G4
      have dT : Dp K G4 (.ref p) (.tuple ([w, r - 1].map PyData.int)) := .tup (.of e_p) (dpAll_ints [w, r - 1])
      have hlw' := s_G4 _ _ (d3.at dG.2 hlw)
      have hL' := s_G4 _ _ (d3.at dG.2 hL)
      have dxs' := dpAll_same s_G4 (d3.all dG.2 dxs)
      have dG' := (dG.trans d3).same s_G4
      have els' : ElsT 3 (ds ++ [.tuple ([w, r - 1].map PyData.int)]) (ts ++ [wayT w ++ shT (r - 1)]) := Paired.snoc els ⟨w, r - 1, sw, sr, rfl, rfl⟩
      refine ⟨_, hL', Nat.lt_of_le_of_lt (show xs.length ≤ 1000 by omega) (by decide), xs ++ [.ref p], _, _, _, dG'.put fL hL', by omega, by rw [upd_ne ne.symm]; exact hlw', upd_same, dpAll_updT hL' (tdT_of (elsT_tdT els')) (dpAll_app dxs' (.cons dT .nil)), els', by rw [List.length_append, xl]; rfl, ne⟩
    rintro L fL G ⟨xs, ds, ts, ci, dG, cil, hlw, hL, dxs, els, xl, ne⟩
    rw [List.length_map] at cil xl
    refine q L xs ds ts ci G (d1.trans dG) ?_ (d1.free fL) hL dxs els (by omega)
    have : 20 * ws.length ≤ 20 * m - 20 := by omega
    omega
abbrev S__law_list_text : Stmt := topS 41
theorem sc__law_list_text : FnScope ["_law_words"] ["_law_words"] (defScope S__law_list_text) := ⟨rfl, rfl, rfl, by decide +kernel, rfl, by decide +kernel, by decide +kernel⟩
def sp__law_list_text (K : PySem.W.Frag) : Sp := fun vs H Q _ => ∃ (a : Addr) (ts : List (List Nat)), vs = [.ref a] ∧ SqL K H a ((ts.map tx).map V.str) ∧ (∀ t ∈ ts, t.length ≤ 2000 ∧ ∀ c ∈ t, c < 1000) ∧ ts.length ≤ 2000 ∧ ∀ H', Same H H' → Q (.str (tx (listT ts))) H'
theorem ok__law_list_text {f : Addr} {fd : FuncData} (F : Fun K "_law_list_text" "_law_list_text" S__law_list_text f fd) (m_int : mg "int" = none) :
    FnOk P w K mg base CX0 1 f fd ["_law_words"] (sp__law_list_text K) := by
  refine F.ok sc__law_list_text (fun vs H Q E h => ?_) (fun cdv A outer s H vs Q E hr h => ?_)
  ·
    obtain ⟨a, ts, rfl, _⟩ := h
    rfl
  ·
    obtain ⟨a, ts, rfl, ha, hts, l2, q⟩ := h
    refine ⟨_, (pss_one (ps_ret (pe_op (r := rAddS) op_addS (pe_join pe_str (pv 0)) (pe_op (r := rMulS) op_mulS pe_str (pe_callTy call_int1 (by rfl) m_int (by decide +kernel) (pa_cons (pe_cmpR (r := rEqD K) (op_eqD hr.units) (pv 0) (pe_lst pa_nil) (nomark _)) pa_nil)))))), ?_⟩
    refine w_st (σ' := [some (.ref a)]) rfl ?_
    have l1 : ∀ t ∈ ts, t.length ≤ 2000 := fun t ht => (hts t ht).1
    walk_at "ct"
    refine ⟨⟨_, rfl⟩, ?_⟩
    walk_at "ct"
    refine ⟨_, a, _, rfl, rfl, .inl ha, fitT l1 l2 (by decide), ?_⟩
    rw [joinT " " (sep := [32]) (by decide)]
    walk_at "ct"
    refine ⟨len2 rfl, fun e0 n_e0 => ?_⟩
    generalize h_G : upd _ e0 _ = G
    obtain ⟨s_G, e_e0⟩ := Ct.upd_new h_G n_e0
    clear h_G
    refine w_emptyS (s_G.seq ha) e_e0 (fun t ht => (hts t ht).2) ?_
    walk_at "ct"
    refine .inr ⟨_, rfl, ?_⟩
    have jl := joinT_len l1
    have jl2 : (2000 + 1) * ts.length ≤ (2000 + 1) * 2000 := Nat.mul_le_mul_left _ l2
    cases ts with
    | nil =>
      refine ⟨_, _, rfl, rfl, .inr rfl, ?_⟩
      rw [tx_of]
      refine w_addS (by show 0 + 4 ≤ _; decide) ?_
      exact q G s_G
    | cons t r =>
      refine ⟨_, _, rfl, rfl, .inl rfl, ?_⟩
      refine w_addS (a := TL.joinL [32] (t :: r)) (b := []) (by show _ + 0 ≤ _; omega) ?_
      rw [List.append_nil]
      have := q G s_G
      unfold listT at this
      rw [if_neg (fun z => nomatch z)] at this
      exact this
abbrev S__law_step_text : Stmt := topS 42
theorem sc__law_step_text : FnScope ["_law_step", "_law_times"] ["_law_step"] (defScope S__law_step_text) := ⟨rfl, rfl, rfl, by decide +kernel, rfl, by decide +kernel, by decide +kernel⟩
def sp__law_step_text (K : PySem.W.Frag) : Sp := fun vs H Q _ => ∃ (a : Addr) (i : Nat) (w : Int) (rs : List Nat), vs = [.ref a] ∧ SqT K H a (.int (i : Int) :: .int w :: rs.map fun n : Nat => V.int (n : Int)) ∧ i < M40 ∧ Sign w ∧ (∀ r ∈ rs, r < M40) ∧ rs.length ≤ 1 ∧ ∀ H', Same H H' → Q (.str (tx (nL i ++ wayT w ++ (rs.map nL).flatten))) H'
theorem ok__law_step_text {f : Addr} {fd : FuncData} (F : Fun K "_law_step_text" "_law_step_text" S__law_step_text f fd) (m_str : mg "str" = none) (m_int : mg "int" = none) :
    FnOk P w K mg base CX0 1 f fd ["_law_step"] (sp__law_step_text K) := by
  refine F.ok sc__law_step_text (fun vs H Q E h => ?_) (fun cdv A outer s H vs Q E hr h => ?_)
  ·
    obtain ⟨a, i, w, rs, rfl, _⟩ := h
    rfl
  ·
    obtain ⟨a, i, w, rs, rfl, ha, hi, hw, hrs, l1, q⟩ := h
    refine ⟨_, (pss_one (ps_ret (pe_op (r := rAddS) op_addS (pe_op (r := rAddS) op_addS (pe_callTy (r := rStrI) call_strI (by rfl) m_str (by decide +kernel) (pa_cons (pe_ix (r := rIxT K) ix_tup (pv 0) pe_int (fun _ _ => rfl)) pa_nil)) (pe_ix (r := rIxS) ix_str pe_str (pe_callTy call_int1 (by rfl) m_int (by decide +kernel) (pa_cons (pe_cmpR op_lt (pe_ix (r := rIxT K) ix_tup (pv 0) pe_int (fun _ _ => rfl)) pe_int (nomark _)) pa_nil)) (fun _ _ => rfl))) (pe_join pe_str (pe_lc (own := [("_law_times", 1)]) (g := gName 1)  rfl sc__law_step_text.nd  (pi_tup (pe_slice (r := rSlA K) sl_tupA (pv 0) (po_some pe_int) po_none)) (blkOk_by (own := [("_law_times", 1)]) (N := ["_law_step", "_law_times"]) (sc := defScope S__law_step_text) (by decide +kernel)) (fun _ _ _ _ _ => pg_name (i := 1) sc__law_step_text.nd rfl (Or.inl rfl)) (fun _ _ _ _ _ => pts_nil) (fun _ _ _ _ _ => (pe_callTy (r := rStrI) call_strI (by rfl) m_str (by decide +kernel) (pa_cons (pv 1) pa_nil)))))))), ?_⟩
    refine w_st (σ' := [some (.ref a), none]) rfl ?_
    have li := nL_len hi
    have lw := wayT_len w
    walk_at "ct"
    refine w_strI (Nat.lt_trans hi (by decide)) ?_
    walk_at "ct"
    refine .inr ⟨_, rfl, ?_⟩
    refine w_waySg hw ?_
    walk_at "ct"
    refine w_addS (by omega) ?_
    walk_at "ct"
    refine ⟨⟨_, rfl⟩, ?_⟩
    walk_at "ct"
    refine w_slTd (n := 2) ha (by show 2 ≤ (rs.map _).length + 2; omega) fun p G s_G hp => ?_
    have hp : SqT K G p (rs.map fun n : Nat => V.int (n : Int)) := hp
    walk_at "ct"
    refine w_IT hp ?_
    refine lb_tup (rs.map fun n : Nat => V.int (n : Int)) (fun D j J => Same G J ∧ J D = some (.lst (((rs.map nL).take j).map fun t => V.str (tx t)))) (fun D nD => ⟨same_upd nD, upd_same⟩) (fun D nD j J _ h => Same.tup h.1 hp) ?_ ?_
    · rintro D nD j x J hx ⟨sJ, hD⟩
      rw [List.getElem?_map] at hx
      obtain ⟨r, hr, rfl⟩ := Option.map_eq_some_iff.mp hx
      have hj := (List.getElem?_eq_some_iff.mp hr).1
      walk_at "ct"
      refine ⟨rfl, ?_⟩
      walk_at "ct"
      refine w_strI (Nat.lt_trans (hrs r (List.mem_of_getElem? hr)) (by decide)) ?_
      refine ⟨_, hD, by rw [List.length_map, List.length_take, List.length_map]; exact small1000 (by omega), same_new sJ nD, ?_⟩
      rw [upd_same, List.take_add_one, List.getElem?_map, hr, List.map_append]
      rfl
    rintro D nD J ⟨sJ, hD⟩
    rw [List.length_map, List.take_of_length_le (by rw [List.length_map]; exact Nat.le_refl _)] at hD
    have hD : J D = some (.lst (((rs.map nL).map tx).map V.str)) := by rw [hD, List.map_map (f := tx)]; rfl
    have lr : ∀ t ∈ rs.map nL, t.length ≤ 2000 := fun t ht => by
      obtain ⟨r, hr, rfl⟩ := List.mem_map.mp ht
      exact Nat.le_trans (nL_len (hrs r hr)) (by decide)
    refine ⟨_, D, _, rfl, rfl, .inl (.of hD), fitT lr (by rw [List.length_map]; omega) (by decide), ?_⟩
    rw [joinE]
    have lf := flat_oneT l1 hrs
    refine w_addS (by rw [List.length_append]; omega) ?_
    exact q J (s_G.trans sJ)
abbrev S__law_steps_text : Stmt := topS 43
theorem sc__law_steps_text : FnScope ["_law_steps", "_law_step"] ["_law_steps"] (defScope S__law_steps_text) := ⟨rfl, rfl, rfl, by decide +kernel, rfl, by decide +kernel, by decide +kernel⟩
def sp__law_steps_text (K : PySem.W.Frag) : Sp := fun vs H Q _ => ∃ (a : Addr) (xs : List V) (k : Nat) (ds : List PyData) (ts : List (List Nat)), vs = [.ref a] ∧ SqL K H a xs ∧ DpAll K H xs ds ∧ (k = 0 ∨ k = 1) ∧ ElsT k ds ts ∧ ts.length ≤ 2000 ∧ ∀ H', Same H H' → Q (.str (tx (listT ts))) H'
theorem ok__law_steps_text {f : Addr} {fd : FuncData} {f__law_step_text : Addr} {fd__law_step_text : FuncData} {f__law_list_text : Addr} {fd__law_list_text : FuncData} (F : Fun K "_law_steps_text" "_law_steps_text" S__law_steps_text f fd)
    (F__law_step_text : Fun K "_law_step_text" "_law_step_text" S__law_step_text f__law_step_text fd__law_step_text) (b__law_step_text : Binds K fd__law_step_text ["_law_step"] []) (g__law_step_text : mg "_law_step_text" = some (.ref f__law_step_text)) (G__law_step_text : FnOk P w K mg base CX0 1 f__law_step_text fd__law_step_text ["_law_step"] (sp__law_step_text K))
    (F__law_list_text : Fun K "_law_list_text" "_law_list_text" S__law_list_text f__law_list_text fd__law_list_text) (b__law_list_text : Binds K fd__law_list_text ["_law_words"] []) (g__law_list_text : mg "_law_list_text" = some (.ref f__law_list_text)) (G__law_list_text : FnOk P w K mg base CX0 1 f__law_list_text fd__law_list_text ["_law_words"] (sp__law_list_text K)) :
    FnOk P w K mg base CX0 2 f fd ["_law_steps"] (sp__law_steps_text K) := by
  refine F.ok sc__law_steps_text (fun vs H Q E h => ?_) (fun cdv A outer s H vs Q E hr h => ?_)
  ·
    obtain ⟨a, xs, k, ds, ts, rfl, _⟩ := h
    rfl
  ·
    obtain ⟨a, xs, k, ds, ts, rfl, ha, dxs, k01, els, l2, q⟩ := h
    refine ⟨_, (pss_one (ps_ret (pe_call G__law_list_text (hr.mono (by decide)) (by rfl) g__law_list_text F__law_list_text.kp b__law_list_text .nil pass0 (pa_cons (pe_lc (own := [("_law_step", 1)]) (g := gName 1)  rfl sc__law_steps_text.nd  (pi_list (pv 0)) (blkOk_by (own := [("_law_step", 1)]) (N := ["_law_steps", "_law_step"]) (sc := defScope S__law_steps_text) (by decide +kernel)) (fun _ _ _ _ _ => pg_name (i := 1) sc__law_steps_text.nd rfl (Or.inl rfl)) (fun _ _ _ _ _ => pts_nil) (fun _ _ _ _ _ => (pe_call G__law_step_text (hr.mono (by decide)) (by rfl) g__law_step_text F__law_step_text.kp b__law_step_text .nil pass0 (pa_cons (pv 1) pa_nil)))) pa_nil)))), ?_⟩
    refine w_st (σ' := [some (.ref a), none]) rfl ?_
    have len : xs.length = ts.length := by rw [dpAll_len dxs, Paired.length els]
    walk_at "ct"
    refine w_IL ha ?_
    refine lb_list xs (fun D i J => Same H J ∧ J D = some (.lst (((ts.take i).map tx).map V.str))) (fun D nD => ⟨same_upd nD, upd_same⟩) (fun D nD i J _ h => h.1.seq ha) ?_ ?_
    · rintro D nD i x J hx ⟨sJ, hD⟩
      have hi := (List.getElem?_eq_some_iff.mp hx).1
      obtain ⟨d, hd⟩ : ∃ d, ds[i]? = some d := ⟨_, List.getElem?_eq_getElem (by rw [← dpAll_len dxs]; exact hi)⟩
      obtain ⟨x', hx', dx⟩ := dpAll_get dxs hd
      cases Option.some.inj (hx.symm.trans hx')
      obtain ⟨t, ht, el⟩ := paired_getT els hd
      obtain ⟨p, n1, w, rs, rfl, hp, h1, hw, hrs, l1, rfl⟩ : ∃ (p : Addr) (n1 : Nat) (w : Int) (rs : List Nat), x = .ref p ∧ SqT K H p (.int (n1 : Int) :: .int w :: rs.map fun n : Nat => V.int (n : Int)) ∧ n1 < M40 ∧ Sign w ∧ (∀ r ∈ rs, r < M40) ∧ rs.length ≤ 1 ∧ t = nL n1 ++ wayT w ++ (rs.map nL).flatten := by
        rcases k01 with rfl | rfl
        · obtain ⟨i, n, w, h1, h2, hw, rfl, rfl⟩ := el
          obtain ⟨p, rfl, hp⟩ := dpi_inv (is := [(i : Int), w, (n : Int)]) dx
          exact ⟨p, i, w, [n], rfl, hp, h1, hw, (fun r hr => by rw [List.mem_singleton.mp hr]; exact h2), Nat.le_refl _, by show _ = _ ++ (nL n ++ []); rw [List.append_nil]⟩
        · obtain ⟨i, w, h1, hw, rfl, rfl⟩ := el
          obtain ⟨p, rfl, hp⟩ := dpi_inv (is := [(i : Int), w]) dx
          exact ⟨p, i, w, [], rfl, hp, h1, hw, (fun r hr => by cases hr), Nat.zero_le _, by show _ = _ ++ []; rw [List.append_nil]⟩
      walk_at "ct"
      refine ⟨rfl, ?_⟩
      walk_at "ct"
      refine ⟨p, n1, w, rs, rfl, Same.tup sJ hp, h1, hw, hrs, l1, fun J2 s2 => ?_⟩
      refine ⟨_, s2 _ _ hD, by rw [List.length_map, List.length_map, List.length_take]; exact Nat.lt_of_le_of_lt (show _ ≤ 2000 by omega) (by decide), same_new (sJ.trans s2) nD, ?_⟩
      rw [upd_same, List.take_add_one, ht, List.map_append, List.map_append]
      rfl
    rintro D nD J ⟨sJ, hD⟩
    rw [len, List.take_of_length_le (Nat.le_refl _)] at hD
    refine ⟨D, ts, rfl, .of hD, fun t ht => ⟨Nat.le_trans (elsT_len els t ht) (by decide), fun c hc => ?_⟩, l2, fun J2 s2 => q J2 (sJ.trans s2)⟩
    obtain ⟨d, el⟩ := paired_memT els ht
    have := elT_free el c hc
    omega
abbrev S__law_seen_text : Stmt := topS 44
theorem sc__law_seen_text : FnScope ["_law_seen_here", "_law_one"] ["_law_seen_here"] (defScope S__law_seen_text) := ⟨rfl, rfl, rfl, by decide +kernel, rfl, by decide +kernel, by decide +kernel⟩
def sp__law_seen_text (K : PySem.W.Frag) : Sp := fun vs H Q _ => ∃ (a : Addr) (xs : List V) (ds : List PyData) (ts : List (List Nat)), vs = [.ref a] ∧ SqL K H a xs ∧ DpAll K H xs ds ∧ ElsT 2 ds ts ∧ ts.length ≤ 2000 ∧ ∀ H', Same H H' → Q (.str (tx (listT ts))) H'
theorem ok__law_seen_text {f : Addr} {fd : FuncData} {f__law_step_text : Addr} {fd__law_step_text : FuncData} {f__law_list_text : Addr} {fd__law_list_text : FuncData} (F : Fun K "_law_seen_text" "_law_seen_text" S__law_seen_text f fd)
    (F__law_step_text : Fun K "_law_step_text" "_law_step_text" S__law_step_text f__law_step_text fd__law_step_text) (b__law_step_text : Binds K fd__law_step_text ["_law_step"] []) (g__law_step_text : mg "_law_step_text" = some (.ref f__law_step_text)) (G__law_step_text : FnOk P w K mg base CX0 1 f__law_step_text fd__law_step_text ["_law_step"] (sp__law_step_text K))
    (F__law_list_text : Fun K "_law_list_text" "_law_list_text" S__law_list_text f__law_list_text fd__law_list_text) (b__law_list_text : Binds K fd__law_list_text ["_law_words"] []) (g__law_list_text : mg "_law_list_text" = some (.ref f__law_list_text)) (G__law_list_text : FnOk P w K mg base CX0 1 f__law_list_text fd__law_list_text ["_law_words"] (sp__law_list_text K)) (m_str : mg "str" = none) :
    FnOk P w K mg base CX0 2 f fd ["_law_seen_here"] (sp__law_seen_text K) := by
  refine F.ok sc__law_seen_text (fun vs H Q E h => ?_) (fun cdv A outer s H vs Q E hr h => ?_)
  ·
    obtain ⟨a, xs, ds, ts, rfl, _⟩ := h
    rfl
  ·
    obtain ⟨a, xs, ds, ts, rfl, ha, dxs, els, l2, q⟩ := h
    refine ⟨_, (pss_one (ps_ret (pe_call G__law_list_text (hr.mono (by decide)) (by rfl) g__law_list_text F__law_list_text.kp b__law_list_text .nil pass0 (pa_cons (pe_lc (own := [("_law_one", 1)]) (g := gName 1)  rfl sc__law_seen_text.nd  (pi_list (pv 0)) (blkOk_by (own := [("_law_one", 1)]) (N := ["_law_seen_here", "_law_one"]) (sc := defScope S__law_seen_text) (by decide +kernel)) (fun _ _ _ _ _ => pg_name (i := 1) sc__law_seen_text.nd rfl (Or.inl rfl)) (fun _ _ _ _ _ => pts_nil) (fun _ _ _ _ _ => (pe_op (r := rAddS) op_addS (pe_op (r := rAddS) op_addS (pe_call G__law_step_text (hr.mono (by decide)) (by rfl) g__law_step_text F__law_step_text.kp b__law_step_text .nil pass0 (pa_cons (pe_slice (r := rSlA K) sl_tupA (pv 1) po_none (po_some pe_int)) pa_nil)) pe_str) (pe_callTy (r := rStrI) call_strI (by rfl) m_str (by decide +kernel) (pa_cons (pe_ix (r := rIxT K) ix_tup (pv 1) pe_int (fun _ _ => rfl)) pa_nil))))) pa_nil)))), ?_⟩
    refine w_st (σ' := [some (.ref a), none]) rfl ?_
    have len : xs.length = ts.length := by rw [dpAll_len dxs, Paired.length els]
    walk_at "ct"
    refine w_IL ha ?_
    refine lb_list xs (fun D i J => Same H J ∧ J D = some (.lst (((ts.take i).map tx).map V.str))) (fun D nD => ⟨same_upd nD, upd_same⟩) (fun D nD i J _ h => h.1.seq ha) ?_ ?_
    · rintro D nD i x J hx ⟨sJ, hD⟩
      have hi := (List.getElem?_eq_some_iff.mp hx).1
      obtain ⟨d, hd⟩ : ∃ d, ds[i]? = some d := ⟨_, List.getElem?_eq_getElem (by rw [← dpAll_len dxs]; exact hi)⟩
      obtain ⟨x', hx', dx⟩ := dpAll_get dxs hd
      cases Option.some.inj (hx.symm.trans hx')
      obtain ⟨t, ht, el⟩ := paired_getT els hd
      obtain ⟨n1, w, s, h1, hw, hs, rfl, rfl⟩ := el
      obtain ⟨p, rfl, hp⟩ := dpi_inv (is := [(n1 : Int), w, s]) dx
      have hp : SqT K H p [.int (n1 : Int), .int w, .int s] := hp
      have l1 := nL_len h1
      have lw := wayT_len w
      have ls := shT_len s
      have ld : ((shT s).drop 1).length ≤ 3 := by rw [List.length_drop]; omega
      walk_at "ct"
      refine ⟨rfl, ?_⟩
      walk_at "ct"
      refine w_slTu (n := 2) (Same.tup sJ hp) (show 2 ≤ 3 by decide) fun p2 J2 s2 hp2 => ?_
      walk_at "ct"
      refine ⟨p2, n1, w, [], rfl, hp2, h1, hw, (fun r hr => by cases hr), Nat.zero_le _, fun J3 s3 => ?_⟩
      rw [show (([] : List Nat).map nL).flatten = [] from rfl, List.append_nil]
      walk_at "ct"
      rw [show Str.ofString "=" = tx [61] from tx_of "="]
      refine w_addS (by rw [List.length_append]; show _ + _ + 1 ≤ _; omega) ?_
      walk_at "ct"
      refine w_ixT (Same.tup ((sJ.trans s2).trans s3) hp) at2 ?_
      walk_at "ct"
      refine w_strSh hs ?_
      refine w_addS (by rw [List.length_append, List.length_append]; show _ + _ + 1 + _ ≤ _; omega) ?_
      rw [List.append_assoc _ [61], show [61] ++ (shT s).drop 1 = shT s from (shT_cons s).symm]
      have s23 := s2.trans s3
      refine ⟨_, s23 _ _ hD, by rw [List.length_map, List.length_map, List.length_take]; exact Nat.lt_of_le_of_lt (show _ ≤ 2000 by omega) (by decide), same_new (sJ.trans s23) nD, ?_⟩
      rw [upd_same, List.take_add_one, ht, List.map_append, List.map_append]
      rfl
    rintro D nD J ⟨sJ, hD⟩
    rw [len, List.take_of_length_le (Nat.le_refl _)] at hD
    refine ⟨D, ts, rfl, .of hD, fun t ht => ⟨Nat.le_trans (elsT_len els t ht) (by decide), fun c hc => ?_⟩, l2, fun J2 s2 => q J2 (sJ.trans s2)⟩
    obtain ⟨d, el⟩ := paired_memT els ht
    have := elT_free el c hc
    omega
abbrev S__law_shows_text : Stmt := topS 45
theorem sc__law_shows_text : FnScope ["_law_shows_here", "_law_way", "_law_shown"] ["_law_shows_here"] (defScope S__law_shows_text) := ⟨rfl, rfl, rfl, by decide +kernel, rfl, by decide +kernel, by decide +kernel⟩
def sp__law_shows_text (K : PySem.W.Frag) : Sp := fun vs H Q _ => ∃ (a : Addr) (xs : List V) (ds : List PyData) (ts : List (List Nat)), vs = [.ref a] ∧ SqL K H a xs ∧ DpAll K H xs ds ∧ ElsT 3 ds ts ∧ ts.length ≤ 2000 ∧ ∀ H', Same H H' → Q (.str (tx (listT ts))) H'
theorem ok__law_shows_text {f : Addr} {fd : FuncData} {f__law_list_text : Addr} {fd__law_list_text : FuncData} (F : Fun K "_law_shows_text" "_law_shows_text" S__law_shows_text f fd)
    (F__law_list_text : Fun K "_law_list_text" "_law_list_text" S__law_list_text f__law_list_text fd__law_list_text) (b__law_list_text : Binds K fd__law_list_text ["_law_words"] []) (g__law_list_text : mg "_law_list_text" = some (.ref f__law_list_text)) (G__law_list_text : FnOk P w K mg base CX0 1 f__law_list_text fd__law_list_text ["_law_words"] (sp__law_list_text K)) (m_str : mg "str" = none) (m_int : mg "int" = none) :
    FnOk P w K mg base CX0 2 f fd ["_law_shows_here"] (sp__law_shows_text K) := by
  refine F.ok sc__law_shows_text (fun vs H Q E h => ?_) (fun cdv A outer s H vs Q E hr h => ?_)
  ·
    obtain ⟨a, xs, ds, ts, rfl, _⟩ := h
    rfl
  ·
    obtain ⟨a, xs, ds, ts, rfl, ha, dxs, els, l2, q⟩ := h
    refine ⟨_, (pss_one (ps_ret (pe_call G__law_list_text (hr.mono (by decide)) (by rfl) g__law_list_text F__law_list_text.kp b__law_list_text .nil pass0 (pa_cons (pe_lc (own := [("_law_way", 1), ("_law_shown", 2)]) (g := gTup K 2 (gCons (gName 1) (gCons (gName 2) gNil)))  rfl sc__law_shows_text.nd  (pi_list (pv 0)) (blkOk_by (own := [("_law_way", 1), ("_law_shown", 2)]) (N := ["_law_shows_here", "_law_way", "_law_shown"]) (sc := defScope S__law_shows_text) (by decide +kernel)) (fun _ _ _ _ _ => pg_tup rfl (pgs_cons (pg_name (i := 1) sc__law_shows_text.nd rfl (Or.inl rfl)) (pgs_cons (pg_name (i := 2) sc__law_shows_text.nd rfl (Or.inl rfl)) pgs_nil))) (fun _ _ _ _ _ => pts_nil) (fun _ _ _ _ _ => (pe_op (r := rAddS) op_addS (pe_op (r := rAddS) op_addS (pe_ix (r := rIxS) ix_str pe_str (pe_callTy call_int1 (by rfl) m_int (by decide +kernel) (pa_cons (pe_cmpR op_lt (pv 1) pe_int (nomark _)) pa_nil)) (fun _ _ => rfl)) pe_str) (pe_callTy (r := rStrI) call_strI (by rfl) m_str (by decide +kernel) (pa_cons (pv 2) pa_nil))))) pa_nil)))), ?_⟩
    refine w_st (σ' := [some (.ref a), none, none]) rfl ?_
    have len : xs.length = ts.length := by rw [dpAll_len dxs, Paired.length els]
    walk_at "ct"
    refine w_IL ha ?_
    refine lb_list xs (fun D i J => Same H J ∧ J D = some (.lst (((ts.take i).map tx).map V.str))) (fun D nD => ⟨same_upd nD, upd_same⟩) (fun D nD i J _ h => h.1.seq ha) ?_ ?_
    · rintro D nD i x J hx ⟨sJ, hD⟩
      have hi := (List.getElem?_eq_some_iff.mp hx).1
      obtain ⟨d, hd⟩ : ∃ d, ds[i]? = some d := ⟨_, List.getElem?_eq_getElem (by rw [← dpAll_len dxs]; exact hi)⟩
      obtain ⟨x', hx', dx⟩ := dpAll_get dxs hd
      cases Option.some.inj (hx.symm.trans hx')
      obtain ⟨t, ht, el⟩ := paired_getT els hd
      obtain ⟨w, s, hw, hs, rfl, rfl⟩ := el
      obtain ⟨p, rfl, hp⟩ := dpi_inv (is := [w, s]) dx
      have hp : SqT K H p [.int w, .int s] := hp
      have lw := wayT_len w
      have ls := shT_len s
      have ld : ((shT s).drop 1).length ≤ 3 := by rw [List.length_drop]; omega
      refine w_gtup (Same.tup sJ hp) rfl ?_
      walk_at "ct"
      refine ⟨rfl, ?_⟩
      walk_at "ct"
      refine .inr ⟨_, rfl, ?_⟩
      refine w_waySg hw ?_
      walk_at "ct"
      rw [show Str.ofString "=" = tx [61] from tx_of "="]
      refine w_addS (by show _ + 1 ≤ _; omega) ?_
      walk_at "ct"
      refine w_strSh hs ?_
      refine w_addS (by rw [List.length_append]; show _ + 1 + _ ≤ _; omega) ?_
      rw [List.append_assoc _ [61], show [61] ++ (shT s).drop 1 = shT s from (shT_cons s).symm]
      refine ⟨_, hD, by rw [List.length_map, List.length_map, List.length_take]; exact Nat.lt_of_le_of_lt (show _ ≤ 2000 by omega) (by decide), same_new sJ nD, ?_⟩
      rw [upd_same, List.take_add_one, ht, List.map_append, List.map_append]
      rfl
    rintro D nD J ⟨sJ, hD⟩
    rw [len, List.take_of_length_le (Nat.le_refl _)] at hD
    refine ⟨D, ts, rfl, .of hD, fun t ht => ⟨Nat.le_trans (elsT_len els t ht) (by decide), fun c hc => ?_⟩, l2, fun J2 s2 => q J2 (sJ.trans s2)⟩
    obtain ⟨d, el⟩ := paired_memT els ht
    have := elT_free el c hc
    omega
abbrev S__law_well : Stmt := topS 46
theorem sc__law_well : FnScope ["_law_way", "_law_some", "_law_handed", "_law_text", "_law_found", "_law_turn", "_law_told", "_law_one", "_law_number_here"] ["_law_way", "_law_some"] (defScope S__law_well) := ⟨rfl, rfl, rfl, by decide +kernel, rfl, by decide +kernel, by decide +kernel⟩
def sp__law_well (K : PySem.W.Frag) (T : List Addr) : Sp := fun vs H Q _ => ∃ (k : Nat) (a : Addr) (xs : List V) (ds : List PyData) (ts : List (List Nat)), vs = [.int (k : Int), .ref a] ∧ k < 4 ∧ SqL K H a xs ∧ DpAll K H xs ds ∧ ElsT k ds ts ∧ ts.length ≤ 1000 ∧ Tb T H ∧ ∀ H', Same H H' → Q (.bl true) H'
theorem ok__law_well {f : Addr} {fd : FuncData} {f__law_whole : Addr} {fd__law_whole : FuncData} {f_read_shows : Addr} {fd_read_shows : FuncData} {f_read_shown : Addr} {fd_read_shown : FuncData} {f_read_pushes : Addr} {fd_read_pushes : FuncData} {f_read_row : Addr} {fd_read_row : FuncData} {f_show_shows : Addr} {fd_show_shows : FuncData} {f_show_shown : Addr} {fd_show_shown : FuncData} {f_show_pushes : Addr} {fd_show_pushes : FuncData} {f_show_row : Addr} {fd_show_row : FuncData} {f__law_shows_text : Addr} {fd__law_shows_text : FuncData} {f__law_seen_text : Addr} {fd__law_seen_text : FuncData} {f__law_steps_text : Addr} {fd__law_steps_text : FuncData} {T : List Addr} (F : Fun K "_law_well" "_law_well" S__law_well f fd)
    (F__law_whole : Fun K "_law_whole" "_law_whole" S__law_whole f__law_whole fd__law_whole) (b__law_whole : Binds K fd__law_whole ["_law_found"] []) (g__law_whole : mg "_law_whole" = some (.ref f__law_whole)) (G__law_whole : FnOk P w K mg base CX0 1 f__law_whole fd__law_whole ["_law_found"] (sp__law_whole K))
    (F_read_shows : Fun K "read_shows" "read_shows" S_read_shows f_read_shows fd_read_shows) (b_read_shows : Binds K fd_read_shows ["text"] []) (g_read_shows : mg "read_shows" = some (.ref f_read_shows)) (G_read_shows : FnOk P w K mg base CX0 14 f_read_shows fd_read_shows ["text"] (sp_read_shows K))
    (F_read_shown : Fun K "read_shown" "read_shown" S_read_shown f_read_shown fd_read_shown) (b_read_shown : Binds K fd_read_shown ["text"] []) (g_read_shown : mg "read_shown" = some (.ref f_read_shown)) (G_read_shown : FnOk P w K mg base CX0 14 f_read_shown fd_read_shown ["text"] (sp_read_shown K T))
    (F_read_pushes : Fun K "read_pushes" "read_pushes" S_read_pushes f_read_pushes fd_read_pushes) (b_read_pushes : Binds K fd_read_pushes ["text"] []) (g_read_pushes : mg "read_pushes" = some (.ref f_read_pushes)) (G_read_pushes : FnOk P w K mg base CX0 14 f_read_pushes fd_read_pushes ["text"] (sp_read_pushes K T))
    (F_read_row : Fun K "read_row" "read_row" S_read_row f_read_row fd_read_row) (b_read_row : Binds K fd_read_row ["text"] []) (g_read_row : mg "read_row" = some (.ref f_read_row)) (G_read_row : FnOk P w K mg base CX0 14 f_read_row fd_read_row ["text"] (sp_read_row K T))
    (F_show_shows : Fun K "show_shows" "show_shows" S_show_shows f_show_shows fd_show_shows) (b_show_shows : Binds K fd_show_shows ["shows"] []) (g_show_shows : mg "show_shows" = some (.ref f_show_shows)) (G_show_shows : FnOk P w K mg base CX0 14 f_show_shows fd_show_shows ["shows"] (sp_show_shows K))
    (F_show_shown : Fun K "show_shown" "show_shown" S_show_shown f_show_shown fd_show_shown) (b_show_shown : Binds K fd_show_shown ["shown"] []) (g_show_shown : mg "show_shown" = some (.ref f_show_shown)) (G_show_shown : FnOk P w K mg base CX0 14 f_show_shown fd_show_shown ["shown"] (sp_show_shown K))
    (F_show_pushes : Fun K "show_pushes" "show_pushes" S_show_pushes f_show_pushes fd_show_pushes) (b_show_pushes : Binds K fd_show_pushes ["pushes"] []) (g_show_pushes : mg "show_pushes" = some (.ref f_show_pushes)) (G_show_pushes : FnOk P w K mg base CX0 14 f_show_pushes fd_show_pushes ["pushes"] (sp_show_pushes K))
    (F_show_row : Fun K "show_row" "show_row" S_show_row f_show_row fd_show_row) (b_show_row : Binds K fd_show_row ["row"] []) (g_show_row : mg "show_row" = some (.ref f_show_row)) (G_show_row : FnOk P w K mg base CX0 14 f_show_row fd_show_row ["row"] (sp_show_row K))
    (F__law_shows_text : Fun K "_law_shows_text" "_law_shows_text" S__law_shows_text f__law_shows_text fd__law_shows_text) (b__law_shows_text : Binds K fd__law_shows_text ["_law_shows_here"] []) (g__law_shows_text : mg "_law_shows_text" = some (.ref f__law_shows_text)) (G__law_shows_text : FnOk P w K mg base CX0 2 f__law_shows_text fd__law_shows_text ["_law_shows_here"] (sp__law_shows_text K))
    (F__law_seen_text : Fun K "_law_seen_text" "_law_seen_text" S__law_seen_text f__law_seen_text fd__law_seen_text) (b__law_seen_text : Binds K fd__law_seen_text ["_law_seen_here"] []) (g__law_seen_text : mg "_law_seen_text" = some (.ref f__law_seen_text)) (G__law_seen_text : FnOk P w K mg base CX0 2 f__law_seen_text fd__law_seen_text ["_law_seen_here"] (sp__law_seen_text K))
    (F__law_steps_text : Fun K "_law_steps_text" "_law_steps_text" S__law_steps_text f__law_steps_text fd__law_steps_text) (b__law_steps_text : Binds K fd__law_steps_text ["_law_steps"] []) (g__law_steps_text : mg "_law_steps_text" = some (.ref f__law_steps_text)) (G__law_steps_text : FnOk P w K mg base CX0 2 f__law_steps_text fd__law_steps_text ["_law_steps"] (sp__law_steps_text K)) (m_list : mg "list" = none) (m_range : mg "range" = none) (m_isinstance : mg "isinstance" = none) (m_str : mg "str" = none) (m_all : mg "all" = none) (m_tuple : mg "tuple" = none) :
    FnOk P w K mg base CX0 21 f fd ["_law_way", "_law_some"] (sp__law_well K T) := by
  refine F.ok sc__law_well (fun vs H Q E h => ?_) (fun cdv A outer s H vs Q E hr h => ?_)
  ·
    obtain ⟨k, a, xs, ds, ts, rfl, _⟩ := h
    rfl
  ·
    obtain ⟨k, a, xs, ds, ts, rfl, hk, ha, dxs, els, l2, hTb, q⟩ := h
    refine ⟨_, (pss_cons (ps_set (i := 2) sc__law_well.nd rfl (.inl rfl) (pe_callTy call_list_of (by rfl) m_list (by decide +kernel) (pa_cons (pv 1) pa_nil)))
      (pss_cons (ps_set (i := 3) sc__law_well.nd rfl (.inl rfl) (pe_callE (R := (fun (f : Addr) (sp : Sp) => (f = f__law_steps_text ∧ sp = (sp__law_steps_text K)) ∨ (fun (f : Addr) (sp : Sp) => (f = f__law_steps_text ∧ sp = (sp__law_steps_text K)) ∨ (fun (f : Addr) (sp : Sp) => (f = f__law_seen_text ∧ sp = (sp__law_seen_text K)) ∨ (fun (f : Addr) (sp : Sp) => (f = f__law_shows_text ∧ sp = (sp__law_shows_text K)) ∨ (fun (_ : Addr) (_ : Sp) => False) f sp) f sp) f sp) f sp)) (held_cons (held_at (k := 20) G__law_steps_text (by decide) F__law_steps_text.kp b__law_steps_text) (held_cons (held_at (k := 20) G__law_steps_text (by decide) F__law_steps_text.kp b__law_steps_text) (held_cons (held_at (k := 20) G__law_seen_text (by decide) F__law_seen_text.kp b__law_seen_text) (held_cons (held_at (k := 20) G__law_shows_text (by decide) F__law_shows_text.kp b__law_shows_text) held_nil)))) (hr.mono (by decide)) (pe_ix (r := rIxL K) ix_list (pe_lst (pa_cons (pe_glob (v := .ref f__law_steps_text) (by rfl) g__law_steps_text rfl) (pa_cons (pe_glob (v := .ref f__law_steps_text) (by rfl) g__law_steps_text rfl) (pa_cons (pe_glob (v := .ref f__law_seen_text) (by rfl) g__law_seen_text rfl) (pa_cons (pe_glob (v := .ref f__law_shows_text) (by rfl) g__law_shows_text rfl) pa_nil))))) (pv 0) (fun _ _ => rfl)) (pa_cons (pv 1) pa_nil)))
      (pss_cons (ps_set (i := 4) sc__law_well.nd rfl (.inl rfl) (pe_callE (R := (fun (f : Addr) (sp : Sp) => (f = f_show_row ∧ sp = (sp_show_row K)) ∨ (fun (f : Addr) (sp : Sp) => (f = f_show_pushes ∧ sp = (sp_show_pushes K)) ∨ (fun (f : Addr) (sp : Sp) => (f = f_show_shown ∧ sp = (sp_show_shown K)) ∨ (fun (f : Addr) (sp : Sp) => (f = f_show_shows ∧ sp = (sp_show_shows K)) ∨ (fun (_ : Addr) (_ : Sp) => False) f sp) f sp) f sp) f sp)) (held_cons (held_at (k := 20) G_show_row (by decide) F_show_row.kp b_show_row) (held_cons (held_at (k := 20) G_show_pushes (by decide) F_show_pushes.kp b_show_pushes) (held_cons (held_at (k := 20) G_show_shown (by decide) F_show_shown.kp b_show_shown) (held_cons (held_at (k := 20) G_show_shows (by decide) F_show_shows.kp b_show_shows) held_nil)))) (hr.mono (by decide)) (pe_ix (r := rIxL K) ix_list (pe_lst (pa_cons (pe_glob (v := .ref f_show_row) (by rfl) g_show_row rfl) (pa_cons (pe_glob (v := .ref f_show_pushes) (by rfl) g_show_pushes rfl) (pa_cons (pe_glob (v := .ref f_show_shown) (by rfl) g_show_shown rfl) (pa_cons (pe_glob (v := .ref f_show_shows) (by rfl) g_show_shows rfl) pa_nil))))) (pv 0) (fun _ _ => rfl)) (pa_cons (pv 2) pa_nil)))
      (pss_cons (ps_if (PW.pt (pw_or (pt_not (pt_val (pe_callB (r := rIsi K) call_isi (by rfl) m_isinstance (by decide +kernel) (pa_cons (pv 4) (pa_cons (pe_bltn (v := .ty "str") (u := .type "str") (by rfl) m_str (by decide +kernel) rfl) pa_nil))))) (pw_or (pt_cmpR op_ne (pv 4) (pv 3) (nomark _)) (pw_or1 (pt_cmpR (r := rNeD K) (op_neD hr.units) (pv 2) (pv 1) (nomark _)))))) (pss_one (ps_ret pe_bl)) pss_nil)
      (pss_cons (ps_for PassesOwn.never rfl (pi_range1 (by rfl) m_range (pa_cons pe_int pa_nil)) (pg_name (i := 5) sc__law_well.nd rfl (.inl rfl))
      (pss_cons (ps_set (i := 6) sc__law_well.nd rfl (.inl rfl) (pe_callE (R := (fun (f : Addr) (sp : Sp) => (f = f_read_row ∧ sp = (sp_read_row K T)) ∨ (fun (f : Addr) (sp : Sp) => (f = f_read_pushes ∧ sp = (sp_read_pushes K T)) ∨ (fun (f : Addr) (sp : Sp) => (f = f_read_shown ∧ sp = (sp_read_shown K T)) ∨ (fun (f : Addr) (sp : Sp) => (f = f_read_shows ∧ sp = (sp_read_shows K)) ∨ (fun (_ : Addr) (_ : Sp) => False) f sp) f sp) f sp) f sp)) (held_cons (held_at (k := 20) G_read_row (by decide) F_read_row.kp b_read_row) (held_cons (held_at (k := 20) G_read_pushes (by decide) F_read_pushes.kp b_read_pushes) (held_cons (held_at (k := 20) G_read_shown (by decide) F_read_shown.kp b_read_shown) (held_cons (held_at (k := 20) G_read_shows (by decide) F_read_shows.kp b_read_shows) held_nil)))) (hr.mono (by decide)) (pe_ix (r := rIxL K) ix_list (pe_lst (pa_cons (pe_glob (v := .ref f_read_row) (by rfl) g_read_row rfl) (pa_cons (pe_glob (v := .ref f_read_pushes) (by rfl) g_read_pushes rfl) (pa_cons (pe_glob (v := .ref f_read_shown) (by rfl) g_read_shown rfl) (pa_cons (pe_glob (v := .ref f_read_shows) (by rfl) g_read_shows rfl) pa_nil))))) (pv 0) (fun _ _ => rfl)) (pa_cons (pv 3) pa_nil)))
      (pss_cons (ps_if (PW.pt (pw_or (pt_not (pt_val (pe_callB (r := rIsi K) call_isi (by rfl) m_isinstance (by decide +kernel) (pa_cons (pv 6) (pa_cons (pe_bltn (v := .ty "list") (u := .type "list") (by rfl) m_list (by decide +kernel) rfl) pa_nil))))) (pw_or1 (pt_cmpR (r := rNeD K) (op_neD hr.units) (pv 6) (pv 1) (nomark _))))) (pss_one (ps_ret pe_bl)) pss_nil)
      (pss_cons (ps_if (pt_not (pt_val (pe_callB (r := rAll K) (cr_all rfl) (by rfl) m_all (by decide +kernel) (pa_cons (pe_lc (own := [("_law_one", 7)]) (g := gName 7)  rfl sc__law_well.nd  (pi_list (pv 6)) (blkOk_by (own := [("_law_one", 7)]) (N := ["_law_way", "_law_some", "_law_handed", "_law_text", "_law_found", "_law_turn", "_law_told", "_law_one", "_law_number_here"]) (sc := defScope S__law_well) (by decide +kernel)) (fun _ _ _ _ _ => pg_name (i := 7) sc__law_well.nd rfl (Or.inl rfl)) (fun _ _ _ _ _ => pts_nil) (fun _ _ _ _ _ => (pe_and (pe_callB (r := rIsi K) call_isi (by rfl) m_isinstance (by decide +kernel) (pa_cons (pv 7) (pa_cons (pe_bltn (v := .ty "tuple") (u := .type "tuple") (by rfl) m_tuple (by decide +kernel) rfl) pa_nil))) (pe_one (pe_callB (r := rAll K) (cr_all rfl) (by rfl) m_all (by decide +kernel) (pa_cons (pe_lc (wi := iTup K (tVar 7)) (own := [("_law_number_here", 8)]) (g := gName 8)  rfl sc__law_well.nd  (pi_tup (pv 7)) (blkOk_by (own := [("_law_number_here", 8)]) (N := ["_law_way", "_law_some", "_law_handed", "_law_text", "_law_found", "_law_turn", "_law_told", "_law_one", "_law_number_here"]) (sc := _) (by rfl)) (fun _ _ _ _ _ => pg_name (i := 8) sc__law_well.nd rfl (Or.inl rfl)) (fun _ _ _ _ _ => pts_nil) (fun _ _ _ _ _ => (pe_call G__law_whole (hr.mono (by decide)) (by rfl) g__law_whole F__law_whole.kp b__law_whole .nil pass0 (pa_cons (pv 8) pa_nil)))) pa_nil)))))) pa_nil)))) (pss_one (ps_ret pe_bl)) pss_nil)
      (pss_one (ps_expr (pe_bm PySem.F.plainAttrs_list PySem.F.slot_list_append PySem.F.type_list_append mt_append (pv 6) (pa_cons pe_non pa_nil))))))))
      (pss_one (ps_ret pe_bl))))))), ?_⟩
    refine w_st (σ' := [some (.int (k : Int)), some (.ref a), none, none, none, none, none, none, none]) rfl ?_
    have len : xs.length = ts.length := by rw [dpAll_len dxs, Paired.length els]
    have lay := elsT_lay els
    have k4 : k = 0 ∨ k = 1 ∨ k = 2 ∨ k = 3 := by omega
    obtain ⟨f1, sp1, at1_, r1, use1⟩ : ∃ (f1 : Addr) (sp1 : Sp), atI [V.ref f__law_steps_text, .ref f__law_steps_text, .ref f__law_seen_text, .ref f__law_shows_text] (k : Int) = some (.ref f1) ∧ ((f1 = f__law_steps_text ∧ sp1 = sp__law_steps_text K) ∨ (f1 = f__law_steps_text ∧ sp1 = sp__law_steps_text K) ∨ (f1 = f__law_seen_text ∧ sp1 = sp__law_seen_text K) ∨ (f1 = f__law_shows_text ∧ sp1 = sp__law_shows_text K) ∨ False) ∧ ∀ (J : Hp) (Q1 : VK), SqL K J a xs → DpAll K J xs ds → (∀ J', Same J J' → Q1 (.str (tx (listT ts))) J') → sp1 [.ref a] J Q1 L2.E0 := by
      rcases k4 with rfl | rfl | rfl | rfl
      · exact ⟨_, _, rfl, .inl ⟨rfl, rfl⟩, fun J Q1 h1 h2 q1 => ⟨a, xs, 0, ds, ts, rfl, h1, h2, .inl rfl, els, Nat.le_trans l2 (by decide), q1⟩⟩
      · exact ⟨_, _, rfl, .inl ⟨rfl, rfl⟩, fun J Q1 h1 h2 q1 => ⟨a, xs, 1, ds, ts, rfl, h1, h2, .inr rfl, els, Nat.le_trans l2 (by decide), q1⟩⟩
      · exact ⟨_, _, rfl, .inr (.inr (.inl ⟨rfl, rfl⟩)), fun J Q1 h1 h2 q1 => ⟨a, xs, ds, ts, rfl, h1, h2, els, Nat.le_trans l2 (by decide), q1⟩⟩
      · exact ⟨_, _, rfl, .inr (.inr (.inr (.inl ⟨rfl, rfl⟩))), fun J Q1 h1 h2 q1 => ⟨a, xs, ds, ts, rfl, h1, h2, els, Nat.le_trans l2 (by decide), q1⟩⟩
    obtain ⟨f2, sp2, at2_, r2, use2⟩ : ∃ (f2 : Addr) (sp2 : Sp), atI [V.ref f_show_row, .ref f_show_pushes, .ref f_show_shown, .ref f_show_shows] (k : Int) = some (.ref f2) ∧ ((f2 = f_show_row ∧ sp2 = sp_show_row K) ∨ (f2 = f_show_pushes ∧ sp2 = sp_show_pushes K) ∨ (f2 = f_show_shown ∧ sp2 = sp_show_shown K) ∨ (f2 = f_show_shows ∧ sp2 = sp_show_shows K) ∨ False) ∧ ∀ (J : Hp) (b : Addr) (Q1 : VK), SqL K J b xs → DpAll K J xs ds → (∀ J', Same J J' → Q1 (.str (tx (listT ts))) J') → sp2 [.ref b] J Q1 L2.E0 := by
      rcases k4 with rfl | rfl | rfl | rfl
      · exact ⟨_, _, rfl, .inl ⟨rfl, rfl⟩, fun J b Q1 h1 h2 q1 => ⟨b, xs, ds, ts, rfl, h1, h2, els, Nat.le_trans l2 (by decide), q1⟩⟩
      · exact ⟨_, _, rfl, .inr (.inl ⟨rfl, rfl⟩), fun J b Q1 h1 h2 q1 => ⟨b, xs, ds, ts, rfl, h1, h2, els, Nat.le_trans l2 (by decide), q1⟩⟩
      · exact ⟨_, _, rfl, .inr (.inr (.inl ⟨rfl, rfl⟩)), fun J b Q1 h1 h2 q1 => ⟨b, xs, ds, ts, rfl, h1, h2, els, Nat.le_trans l2 (by decide), q1⟩⟩
      · exact ⟨_, _, rfl, .inr (.inr (.inr (.inl ⟨rfl, rfl⟩))), fun J b Q1 h1 h2 q1 => ⟨b, xs, ds, ts, rfl, h1, h2, els, Nat.le_trans l2 (by decide), q1⟩⟩
    obtain ⟨f3, sp3, at3_, r3, use3⟩ : ∃ (f3 : Addr) (sp3 : Sp), atI [V.ref f_read_row, .ref f_read_pushes, .ref f_read_shown, .ref f_read_shows] (k : Int) = some (.ref f3) ∧ ((f3 = f_read_row ∧ sp3 = sp_read_row K T) ∨ (f3 = f_read_pushes ∧ sp3 = sp_read_pushes K T) ∨ (f3 = f_read_shown ∧ sp3 = sp_read_shown K T) ∨ (f3 = f_read_shows ∧ sp3 = sp_read_shows K) ∨ False) ∧ ∀ (J : Hp) (Q1 : VK), Tb T J → (∀ l ys J', Same J J' → J l = none → J' l = some (.lst ys) → DpAll K J' ys ds → Q1 (.ref l) J') → sp3 [.str (tx (listT ts))] J Q1 L2.E0 := by
      rcases k4 with rfl | rfl | rfl | rfl
      · exact ⟨_, _, rfl, .inl ⟨rfl, rfl⟩, fun J Q1 t1 q1 => ⟨ds, ts, rfl, els, Nat.le_trans l2 (by decide), t1, q1⟩⟩
      · exact ⟨_, _, rfl, .inr (.inl ⟨rfl, rfl⟩), fun J Q1 t1 q1 => ⟨ds, ts, rfl, els, Nat.le_trans l2 (by decide), t1, q1⟩⟩
      · exact ⟨_, _, rfl, .inr (.inr (.inl ⟨rfl, rfl⟩)), fun J Q1 t1 q1 => ⟨ds, ts, rfl, els, Nat.le_trans l2 (by decide), t1, q1⟩⟩
      · exact ⟨_, _, rfl, .inr (.inr (.inr (.inl ⟨rfl, rfl⟩))), fun J Q1 t1 q1 => ⟨ds, ts, rfl, els, Nat.le_trans l2 (by decide), q1⟩⟩
    walk_at "ct"
    refine ⟨a, xs, rfl, .inl ha, fun hd n_hd => ?_⟩
    generalize h_G1 : upd _ hd _ = G1
    obtain ⟨s_G1, e_hd⟩ := Ct.upd_new h_G1 n_hd
    clear h_G1
    walk_at "ct"
    refine ⟨len2 rfl, fun fs n_fs => ?_⟩
    generalize h_G2 : upd _ fs _ = G2
    obtain ⟨s_G2, e_fs⟩ := Ct.upd_new h_G2 n_fs
    clear h_G2
    walk_at "ct"
    refine w_ixL (.of e_fs) at1_ ?_
    refine ⟨f1, sp1, rfl, r1, ?_⟩
    walk_at "ct"
    have s12 := s_G1.trans s_G2
    refine use1 G2 _ (s12.seq ha) (dpAll_same s12 dxs) fun G3 s3 => ?_
    walk_at "ct"
    refine ⟨len2 rfl, fun fs2 n_fs2 => ?_⟩
    generalize h_G4 : upd _ fs2 _ = G4
    obtain ⟨s_G4, e_fs2⟩ := Ct.upd_new h_G4 n_fs2
    clear h_G4
    walk_at "ct"
    refine w_ixL (.of e_fs2) at2_ ?_
    refine ⟨f2, sp2, rfl, r2, ?_⟩
    walk_at "ct"
    have s24 := (s_G2.trans s3).trans s_G4
    have s14 := s_G1.trans s24
    refine use2 G4 hd _ (.of (s24 _ _ e_hd)) (dpAll_same s14 dxs) fun G5 s5 => ?_
    walk_at "ct"
    refine w_isi (b := true) (.base (.str _)) (kit_ty (by decide +kernel)) ?_
    walk_at "ct"
    refine w_neX ?_
    rw [decide_eq_true rfl]
    walk_at "ct"
    have s15 := s14.trans s5
    refine w_neSame (.list ds) (.lst (.of ((s24.trans s5) _ _ e_hd)) (dpAll_same s15 dxs)) (.lst (s15.seq ha) (dpAll_same s15 dxs)) lay (by decide) ?_
    walk_at "ct"
    refine w_RG1 (by decide) (by decide) ?_
    refine fb_range (fun i σ J => ∃ (y5 y6 y7 y8 : Option V), σ = [some (.int (k : Int)), some (.ref a), some (.ref hd), some (.str (tx (listT ts))), some (.str (tx (listT ts))), y5, y6, y7, y8] ∧ Same G5 J) ⟨_, _, _, _, rfl, Same.refl _⟩ ?_ ?_
    · rintro i σ J hi ⟨y5, y6, y7, y8, rfl, sJ⟩
      have s1J := s15.trans sJ
      walk_at "ct"
      refine ⟨len2 rfl, fun fs3 n_fs3 => ?_⟩
      generalize h_J1 : upd _ fs3 _ = J1
      obtain ⟨s_J1, e_fs3⟩ := Ct.upd_new h_J1 n_fs3
      clear h_J1
      walk_at "ct"
      refine w_ixL (.of e_fs3) at3_ ?_
      refine ⟨f3, sp3, rfl, r3, ?_⟩
      walk_at "ct"
      refine use3 J1 _ (hTb.same (s1J.trans s_J1)) fun l ys J2 s2 n_l h_l dys => ?_
      have s1J2 := (s1J.trans s_J1).trans s2
      walk_at "ct"
      refine w_isi (b := true) (tyx_L (.of h_l)) (kit_ty (by decide +kernel)) ?_
      walk_at "ct"
      refine w_neSame (.list ds) (.lst (.of h_l) dys) (.lst (s1J2.seq ha) (dpAll_same s1J2 dxs)) lay (by decide) ?_
      walk_at "ct"
      refine w_IL (.of h_l) ?_
      have yl : ys.length = ds.length := dpAll_len dys
      have dl : ds.length ≤ 1000 := by rw [← dpAll_len dxs]; omega
      refine lb_list ys (fun D j J3 => Same J2 J3 ∧ J3 D = some (.lst ((List.replicate j true).map V.bl))) (fun D nD => ⟨same_upd nD, upd_same⟩) (fun D nD j J3 _ h => .of (h.1 _ _ h_l)) ?_ ?_
      · rintro D nD j y J3 hy ⟨sJ3, hD⟩
        have hj : j < ys.length := (List.getElem?_eq_some_iff.mp hy).1
        obtain ⟨d, hd2⟩ : ∃ d, ds[j]? = some d := ⟨_, List.getElem?_eq_getElem (by omega)⟩
        obtain ⟨y', hy', dy⟩ := dpAll_get dys hd2
        cases Option.some.inj (hy.symm.trans hy')
        obtain ⟨t, ht, el⟩ := paired_getT els hd2
        obtain ⟨is, rfl, il⟩ := elT_ints el
        obtain ⟨p, rfl, hp⟩ := dpi_inv dy
        walk_at "ct"
        refine ⟨rfl, ?_⟩
        walk_at "ct"
        refine w_isi (b := true) (tyx_T (Same.tup sJ3 hp)) (kit_ty (by decide +kernel)) ?_
        walk_at "ct"
        refine w_IT (Same.tup sJ3 hp) ?_
        refine lb_tup (is.map V.int) (fun D2 m J4 => Same J3 J4 ∧ J4 D2 = some (.lst ((List.replicate m true).map V.bl))) (fun D2 nD2 => ⟨same_upd nD2, upd_same⟩) (fun D2 nD2 m J4 _ h => Same.tup (sJ3.trans h.1) hp) ?_ ?_
        · rintro D2 nD2 m x J4 hx ⟨sJ4, hD2⟩
          have hm : m < is.length := by
            have := (List.getElem?_eq_some_iff.mp hx).1
            rw [List.length_map] at this
            exact this
          rw [List.getElem?_map] at hx
          obtain ⟨z, hz, rfl⟩ := Option.map_eq_some_iff.mp hx
          walk_at "ct"
          refine ⟨rfl, ?_⟩
          walk_at "ct"
          refine ⟨_, .int z, rfl, .int z, ?_⟩
          refine ⟨_, hD2, by rw [List.length_map, List.length_replicate]; exact small1000 (by omega), same_new sJ4 nD2, ?_⟩
          rw [upd_same, List.replicate_succ', List.map_append]
          rfl
        rintro D2 nD2 J4 ⟨sJ4, hD2⟩
        refine ⟨D2, _, rfl, .of hD2, ?_⟩
        rw [allT_true]
        refine ⟨_, sJ4 _ _ hD, by rw [List.length_map, List.length_replicate]; exact small1000 (by omega), same_new (sJ3.trans sJ4) nD, ?_⟩
        rw [upd_same, List.replicate_succ', List.map_append]
        rfl
      rintro D nD J3 ⟨sJ3, hD⟩
      refine ⟨D, _, rfl, .of hD, ?_⟩
      rw [allT_true]
      walk_at "ct"
      have h_l3 := sJ3 _ _ h_l
      refine ⟨ty_list h_l3, ?_⟩
      walk_at "ct"
      refine w_append h_l3 (small1000 (by omega)) ?_
      walk_at "ct"
      exact ⟨_, _, _, _, rfl, same_new (((sJ.trans s_J1).trans s2).trans sJ3) ((sJ.trans s_J1).free n_l)⟩
    rintro σ J ⟨y5, y6, y7, y8, rfl, sJ⟩
    walk_at "ct"
    exact q J (s15.trans sJ)
abbrev S_law : Stmt := topS 47
theorem sc_law : FnScope ["_law_script", "_law_draws_here", "_law_long", "_law_way", "_law_cell", "_law_some", "_law_k", "_law_first", "_law_lists"] ["_law_script"] (defScope S_law) := ⟨rfl, rfl, rfl, by decide +kernel, rfl, by decide +kernel, by decide +kernel⟩
def sp_law (K : PySem.W.Frag) (T : List Addr) : Sp := fun vs H Q _ => ∃ (a : Addr) (ns : List Int), vs = [.ref a] ∧ SqE K H a (ns.map V.int) ∧ ns.length ≤ 63 ∧ Tb T H ∧ ∀ H', Same H H' → Q (.bl true) H'
theorem ok_law {f : Addr} {fd : FuncData} {f__law_well : Addr} {fd__law_well : FuncData} {f__law_shows_text : Addr} {fd__law_shows_text : FuncData} {f_read_shows : Addr} {fd_read_shows : FuncData} {f__law_seen_text : Addr} {fd__law_seen_text : FuncData} {f_read_shown : Addr} {fd_read_shown : FuncData} {f__law_steps_text : Addr} {fd__law_steps_text : FuncData} {f_read_pushes : Addr} {fd_read_pushes : FuncData} {f_read_row : Addr} {fd_read_row : FuncData} {f__law_shows : Addr} {fd__law_shows : FuncData} {f__law_seen : Addr} {fd__law_seen : FuncData} {f__law_pushes : Addr} {fd__law_pushes : FuncData} {f__law_row : Addr} {fd__law_row : FuncData} {f__law_draws : Addr} {fd__law_draws : FuncData} {T : List Addr} (F : Fun K "law" "law" S_law f fd)
    (F__law_well : Fun K "_law_well" "_law_well" S__law_well f__law_well fd__law_well) (b__law_well : Binds K fd__law_well ["_law_way", "_law_some"] []) (g__law_well : mg "_law_well" = some (.ref f__law_well)) (G__law_well : FnOk P w K mg base CX0 21 f__law_well fd__law_well ["_law_way", "_law_some"] (sp__law_well K T))
    (F__law_shows_text : Fun K "_law_shows_text" "_law_shows_text" S__law_shows_text f__law_shows_text fd__law_shows_text) (b__law_shows_text : Binds K fd__law_shows_text ["_law_shows_here"] []) (g__law_shows_text : mg "_law_shows_text" = some (.ref f__law_shows_text)) (G__law_shows_text : FnOk P w K mg base CX0 2 f__law_shows_text fd__law_shows_text ["_law_shows_here"] (sp__law_shows_text K))
    (F_read_shows : Fun K "read_shows" "read_shows" S_read_shows f_read_shows fd_read_shows) (b_read_shows : Binds K fd_read_shows ["text"] []) (g_read_shows : mg "read_shows" = some (.ref f_read_shows)) (G_read_shows : FnOk P w K mg base CX0 14 f_read_shows fd_read_shows ["text"] (sp_read_shows K))
    (F__law_seen_text : Fun K "_law_seen_text" "_law_seen_text" S__law_seen_text f__law_seen_text fd__law_seen_text) (b__law_seen_text : Binds K fd__law_seen_text ["_law_seen_here"] []) (g__law_seen_text : mg "_law_seen_text" = some (.ref f__law_seen_text)) (G__law_seen_text : FnOk P w K mg base CX0 2 f__law_seen_text fd__law_seen_text ["_law_seen_here"] (sp__law_seen_text K))
    (F_read_shown : Fun K "read_shown" "read_shown" S_read_shown f_read_shown fd_read_shown) (b_read_shown : Binds K fd_read_shown ["text"] []) (g_read_shown : mg "read_shown" = some (.ref f_read_shown)) (G_read_shown : FnOk P w K mg base CX0 14 f_read_shown fd_read_shown ["text"] (sp_read_shown K T))
    (F__law_steps_text : Fun K "_law_steps_text" "_law_steps_text" S__law_steps_text f__law_steps_text fd__law_steps_text) (b__law_steps_text : Binds K fd__law_steps_text ["_law_steps"] []) (g__law_steps_text : mg "_law_steps_text" = some (.ref f__law_steps_text)) (G__law_steps_text : FnOk P w K mg base CX0 2 f__law_steps_text fd__law_steps_text ["_law_steps"] (sp__law_steps_text K))
    (F_read_pushes : Fun K "read_pushes" "read_pushes" S_read_pushes f_read_pushes fd_read_pushes) (b_read_pushes : Binds K fd_read_pushes ["text"] []) (g_read_pushes : mg "read_pushes" = some (.ref f_read_pushes)) (G_read_pushes : FnOk P w K mg base CX0 14 f_read_pushes fd_read_pushes ["text"] (sp_read_pushes K T))
    (F_read_row : Fun K "read_row" "read_row" S_read_row f_read_row fd_read_row) (b_read_row : Binds K fd_read_row ["text"] []) (g_read_row : mg "read_row" = some (.ref f_read_row)) (G_read_row : FnOk P w K mg base CX0 14 f_read_row fd_read_row ["text"] (sp_read_row K T))
    (F__law_shows : Fun K "_law_shows" "_law_shows" S__law_shows f__law_shows fd__law_shows) (b__law_shows : Binds K fd__law_shows ["_law_draws_here", "_law_many"] []) (g__law_shows : mg "_law_shows" = some (.ref f__law_shows)) (G__law_shows : FnOk P w K mg base CX0 3 f__law_shows fd__law_shows ["_law_draws_here", "_law_many"] (sp__law_shows K))
    (F__law_seen : Fun K "_law_seen" "_law_seen" S__law_seen f__law_seen fd__law_seen) (b__law_seen : Binds K fd__law_seen ["_law_draws_here", "_law_many"] []) (g__law_seen : mg "_law_seen" = some (.ref f__law_seen)) (G__law_seen : FnOk P w K mg base CX0 3 f__law_seen fd__law_seen ["_law_draws_here", "_law_many"] (sp__law_seen K))
    (F__law_pushes : Fun K "_law_pushes" "_law_pushes" S__law_pushes f__law_pushes fd__law_pushes) (b__law_pushes : Binds K fd__law_pushes ["_law_draws_here", "_law_many"] []) (g__law_pushes : mg "_law_pushes" = some (.ref f__law_pushes)) (G__law_pushes : FnOk P w K mg base CX0 3 f__law_pushes fd__law_pushes ["_law_draws_here", "_law_many"] (sp__law_pushes K))
    (F__law_row : Fun K "_law_row" "_law_row" S__law_row f__law_row fd__law_row) (b__law_row : Binds K fd__law_row ["_law_draws_here", "_law_many"] []) (g__law_row : mg "_law_row" = some (.ref f__law_row)) (G__law_row : FnOk P w K mg base CX0 3 f__law_row fd__law_row ["_law_draws_here", "_law_many"] (sp__law_row K))
    (F__law_draws : Fun K "_law_draws" "_law_draws" S__law_draws f__law_draws fd__law_draws) (b__law_draws : Binds K fd__law_draws ["_law_cell"] []) (g__law_draws : mg "_law_draws" = some (.ref f__law_draws)) (G__law_draws : FnOk P w K mg base CX0 1 f__law_draws fd__law_draws ["_law_cell"] (sp__law_draws K)) (m_range : mg "range" = none) :
    FnOk P w K mg base CX0 22 f fd ["_law_script"] (sp_law K T) := by
  refine F.ok sc_law (fun vs H Q E h => ?_) (fun cdv A outer s H vs Q E hr h => ?_)
  ·
    obtain ⟨a, ns, rfl, _⟩ := h
    rfl
  ·
    obtain ⟨a, ns, rfl, hE, hlen, hTb, q⟩ := h
    have hS := hE.sql
    refine ⟨_, (pss_cons (ps_set (i := 1) sc_law.nd rfl (.inl rfl) (pe_call G__law_draws (hr.mono (by decide)) (by rfl) g__law_draws F__law_draws.kp b__law_draws .nil pass0 (pa_cons (pe_ix (r := rIxL K) ix_list (pe_op (r := rCatE K) op_catE (pv 0) (pe_lst (pa_cons pe_int pa_nil))) pe_int (fun _ _ => rfl)) pa_nil)))
      (pss_cons (ps_set (i := 2) sc_law.nd rfl (.inl rfl) (pe_lst (pa_cons (pe_slice (r := rSlL K) sl_list (pe_op op_rep (pe_call G__law_row (hr.mono (by decide)) (by rfl) g__law_row F__law_row.kp b__law_row .nil pass0 (pa_cons (pv 1) (pa_cons pe_int pa_nil))) pe_int) po_none (po_some pe_int)) (pa_cons (pe_slice (r := rSlL K) sl_list (pe_op op_rep (pe_call G__law_pushes (hr.mono (by decide)) (by rfl) g__law_pushes F__law_pushes.kp b__law_pushes .nil pass0 (pa_cons (pv 1) (pa_cons pe_int pa_nil))) pe_int) po_none (po_some pe_int)) pa_nil))))
      (pss_cons (ps_set (i := 2) sc_law.nd rfl (.inl rfl) (pe_op op_cat (pv 2) (pe_lst (pa_cons (pe_slice (r := rSlL K) sl_list (pe_op op_rep (pe_call G__law_seen (hr.mono (by decide)) (by rfl) g__law_seen F__law_seen.kp b__law_seen .nil pass0 (pa_cons (pv 1) (pa_cons pe_int pa_nil))) pe_int) po_none (po_some pe_int)) (pa_cons (pe_slice (r := rSlL K) sl_list (pe_op op_rep (pe_call G__law_shows (hr.mono (by decide)) (by rfl) g__law_shows F__law_shows.kp b__law_shows .nil pass0 (pa_cons (pv 1) (pa_cons pe_int pa_nil))) pe_int) po_none (po_some pe_int)) pa_nil)))))
      (pss_cons (ps_for PassesOwn.never rfl (pi_range1 (by rfl) m_range (pa_cons pe_int pa_nil)) (pg_name (i := 3) sc_law.nd rfl (.inl rfl))
      (pss_one (ps_if (pt_not (pt_val (pe_call G__law_well (hr.mono (by decide)) (by rfl) g__law_well F__law_well.kp b__law_well .nil pass0 (pa_cons (pv 3) (pa_cons (pe_ix (r := rIxL K) ix_list (pv 2) (pv 3) (fun _ _ => rfl)) pa_nil))))) (pss_one (ps_ret pe_bl)) pss_nil)))
      (pss_cons (ps_for PassesOwn.never rfl (pi_list (pe_op op_cat (pe_slice (r := rSlL K) sl_list (pv 0) po_none (po_some pe_int)) (pe_lst (pa_cons pe_int pa_nil)))) (pg_name (i := 4) sc_law.nd rfl (.inl rfl))
      (pss_cons (ps_set (i := 1) sc_law.nd rfl (.inl rfl) (pe_call G__law_draws (hr.mono (by decide)) (by rfl) g__law_draws F__law_draws.kp b__law_draws .nil pass0 (pa_cons (pv 4) pa_nil)))
      (pss_cons (ps_set (i := 5) sc_law.nd rfl (.inl rfl) (pe_lst pa_nil))
      (pss_cons (ps_for PassesOwn.never rfl (pi_range1 (by rfl) m_range (pa_cons pe_int pa_nil)) (pg_name (i := 6) sc_law.nd rfl (.inl rfl))
      (pss_one (ps_expr (pe_bm PySem.F.plainAttrs_list PySem.F.slot_list_append PySem.F.type_list_append mt_append (pv 5) (pa_cons (pe_lst (pa_cons (pe_call G__law_row (hr.mono (by decide)) (by rfl) g__law_row F__law_row.kp b__law_row .nil pass0 (pa_cons (pv 1) (pa_cons pe_int pa_nil))) (pa_cons (pe_call G__law_pushes (hr.mono (by decide)) (by rfl) g__law_pushes F__law_pushes.kp b__law_pushes .nil pass0 (pa_cons (pv 1) (pa_cons pe_int pa_nil))) (pa_cons (pe_call G__law_seen (hr.mono (by decide)) (by rfl) g__law_seen F__law_seen.kp b__law_seen .nil pass0 (pa_cons (pv 1) (pa_cons pe_int pa_nil))) (pa_cons (pe_call G__law_shows (hr.mono (by decide)) (by rfl) g__law_shows F__law_shows.kp b__law_shows .nil pass0 (pa_cons (pv 1) (pa_cons pe_int pa_nil))) pa_nil))))) pa_nil)))))
      (pss_cons (ps_set (i := 7) sc_law.nd rfl (.inl rfl) (pe_lst (pa_cons (pe_call G_read_row (hr.mono (by decide)) (by rfl) g_read_row F_read_row.kp b_read_row .nil pass0 (pa_cons (pe_call G__law_steps_text (hr.mono (by decide)) (by rfl) g__law_steps_text F__law_steps_text.kp b__law_steps_text .nil pass0 (pa_cons (pe_ix (r := rIxL K) ix_list (pe_ix (r := rIxL K) ix_list (pv 5) pe_int (fun _ _ => rfl)) pe_int (fun _ _ => rfl)) pa_nil)) pa_nil)) (pa_cons (pe_call G_read_pushes (hr.mono (by decide)) (by rfl) g_read_pushes F_read_pushes.kp b_read_pushes .nil pass0 (pa_cons (pe_call G__law_steps_text (hr.mono (by decide)) (by rfl) g__law_steps_text F__law_steps_text.kp b__law_steps_text .nil pass0 (pa_cons (pe_ix (r := rIxL K) ix_list (pe_ix (r := rIxL K) ix_list (pv 5) pe_int (fun _ _ => rfl)) pe_int (fun _ _ => rfl)) pa_nil)) pa_nil)) pa_nil))))
      (pss_cons (ps_set (i := 7) sc_law.nd rfl (.inl rfl) (pe_op op_cat (pv 7) (pe_lst (pa_cons (pe_call G_read_shown (hr.mono (by decide)) (by rfl) g_read_shown F_read_shown.kp b_read_shown .nil pass0 (pa_cons (pe_call G__law_seen_text (hr.mono (by decide)) (by rfl) g__law_seen_text F__law_seen_text.kp b__law_seen_text .nil pass0 (pa_cons (pe_ix (r := rIxL K) ix_list (pe_ix (r := rIxL K) ix_list (pv 5) pe_int (fun _ _ => rfl)) pe_int (fun _ _ => rfl)) pa_nil)) pa_nil)) (pa_cons (pe_call G_read_shows (hr.mono (by decide)) (by rfl) g_read_shows F_read_shows.kp b_read_shows .nil pass0 (pa_cons (pe_call G__law_shows_text (hr.mono (by decide)) (by rfl) g__law_shows_text F__law_shows_text.kp b__law_shows_text .nil pass0 (pa_cons (pe_ix (r := rIxL K) ix_list (pe_ix (r := rIxL K) ix_list (pv 5) pe_int (fun _ _ => rfl)) pe_int (fun _ _ => rfl)) pa_nil)) pa_nil)) pa_nil)))))
      (pss_cons (ps_for PassesOwn.never rfl (pi_list (pe_lst (pa_cons (pe_ix (r := rIxL K) ix_list (pv 5) pe_int (fun _ _ => rfl)) (pa_cons (pe_ix (r := rIxL K) ix_list (pv 5) pe_int (fun _ _ => rfl)) pa_nil)))) (pg_name (i := 8) sc_law.nd rfl (.inl rfl))
      (pss_one (ps_for PassesOwn.never rfl (pi_range1 (by rfl) m_range (pa_cons pe_int pa_nil)) (pg_name (i := 3) sc_law.nd rfl (.inl rfl))
      (pss_one (ps_if (pt_not (pt_val (pe_call G__law_well (hr.mono (by decide)) (by rfl) g__law_well F__law_well.kp b__law_well .nil pass0 (pa_cons (pv 3) (pa_cons (pe_ix (r := rIxL K) ix_list (pv 8) (pv 3) (fun _ _ => rfl)) pa_nil))))) (pss_one (ps_ret pe_bl)) pss_nil)))))
      (pss_one (ps_if (pt_cmpR (r := rNeD K) (op_neD hr.units) (pv 7) (pe_ix (r := rIxL K) ix_list (pv 5) pe_int (fun _ _ => rfl)) (nomark _)) (pss_one (ps_ret pe_bl)) pss_nil)))))))))
      (pss_one (ps_ret pe_bl))))))), ?_⟩
    refine w_st (σ' := [some (.ref a), none, none, none, none, none, none, none, none]) rfl ?_
    walk_at "ct"
    refine ⟨len2 rfl, fun z0 n_z0 => ?_⟩
    generalize h_H1 : upd _ z0 _ = H1
    obtain ⟨s_H1, e_z0⟩ := Ct.upd_new h_H1 n_z0
    clear h_H1
    refine ⟨a, z0, _, _, rfl, rfl, hE.same s_H1, e_z0, by rw [List.length_map]; exact Nat.le_of_lt (small1000 (show ns.length + 1 ≤ 1000 by omega)), fun z1 n_z1 => ?_⟩
    generalize h_H2 : upd _ z1 _ = H2
    obtain ⟨s_H2, e_z1⟩ := Ct.upd_new h_H2 n_z1
    clear h_H2
    walk_at "ct"
    obtain ⟨c, hc⟩ : ∃ c : Int, atI (ns.map V.int ++ [V.int 0]) 0 = some (.int c) := by
      cases ns with
      | nil => exact ⟨0, at0⟩
      | cons n r => exact ⟨n, at0⟩
    refine w_ixL (.of e_z1) hc ?_
    walk_at "ct"
    refine ⟨c, rfl, fun D H3 s3 n_D hD => ?_⟩
    walk_at "ct"
    refine ⟨D, 0, 12, rfl, hD, by omega, by decide, by decide, fun l0 xs0 ds0 ts0 c0 A0 d0 c0l n_l0 h_l0 dx0 el0 xl0 => ?_⟩
    walk_at "ct"
    refine ⟨l0, 16, xs0, rfl, rfl, h_l0, by decide, by decide, Nat.le_trans (Nat.mul_le_mul (show xs0.length ≤ 20 by omega) (Nat.le_refl _)) (by decide), fun r0 n_r0 => ?_⟩
    generalize h_B0 : upd _ r0 _ = B0
    obtain ⟨s_B0, e_r0⟩ := Ct.upd_new h_B0 n_r0
    clear h_B0
    walk_at "ct"
    refine w_slL (.of e_r0) fun q0 n_q0 => ?_
    generalize h_C0 : upd _ q0 _ = C0
    obtain ⟨s_C0, e_q0⟩ := Ct.upd_new h_C0 n_q0
    clear h_C0
    have e_q0 : C0 q0 = some (.lst ((List.replicate 16 xs0).flatten.take 16)) := by rw [e_q0, show (some (16 : Int)) = some (((16 : Nat)) : Int) from rfl, cut_toB]; rfl
    have L0 : LsT K C0 0 q0 _ _ := LsT.over (by decide) (dpAll_same (s_B0.trans s_C0) dx0) el0 e_q0
    have D0 : Dr D c0 H3 C0 := (d0.same s_B0).same s_C0
    walk_at "ct"
    refine ⟨D, c0, 12, rfl, D0.2, by omega, by decide, by decide, fun l1 xs1 ds1 ts1 c1 A1 d1 c1l n_l1 h_l1 dx1 el1 xl1 => ?_⟩
    walk_at "ct"
    refine ⟨l1, 500, xs1, rfl, rfl, h_l1, by decide, by decide, Nat.le_trans (Nat.mul_le_mul (show xs1.length ≤ 20 by omega) (Nat.le_refl _)) (by decide), fun r1 n_r1 => ?_⟩
    generalize h_B1 : upd _ r1 _ = B1
    obtain ⟨s_B1, e_r1⟩ := Ct.upd_new h_B1 n_r1
    clear h_B1
    walk_at "ct"
    refine w_slL (.of e_r1) fun q1 n_q1 => ?_
    generalize h_C1 : upd _ q1 _ = C1
    obtain ⟨s_C1, e_q1⟩ := Ct.upd_new h_C1 n_q1
    clear h_C1
    have e_q1 : C1 q1 = some (.lst ((List.replicate 500 xs1).flatten.take 500)) := by rw [e_q1, show (some (500 : Int)) = some (((500 : Nat)) : Int) from rfl, cut_toB]; rfl
    have L1 : LsT K C1 1 q1 _ _ := LsT.over (by decide) (dpAll_same (s_B1.trans s_C1) dx1) el1 e_q1
    have D1 : Dr D c1 C0 C1 := (d1.same s_B1).same s_C1
    walk_at "ct"
    have L0 := L0.dr D1 D0.2
    refine ⟨len2 rfl, fun lg n_lg => ?_⟩
    generalize h_G1 : upd _ lg _ = G1
    obtain ⟨s_G1, e_lg⟩ := Ct.upd_new h_G1 n_lg
    clear h_G1
    walk_at "ct"
    refine ⟨D, c1, 12, rfl, (s_G1 _ _ D1.2), by omega, by decide, by decide, fun l2 xs2 ds2 ts2 c2 A2 d2 c2l n_l2 h_l2 dx2 el2 xl2 => ?_⟩
    walk_at "ct"
    refine ⟨l2, 300, xs2, rfl, rfl, h_l2, by decide, by decide, Nat.le_trans (Nat.mul_le_mul (show xs2.length ≤ 20 by omega) (Nat.le_refl _)) (by decide), fun r2 n_r2 => ?_⟩
    generalize h_B2 : upd _ r2 _ = B2
    obtain ⟨s_B2, e_r2⟩ := Ct.upd_new h_B2 n_r2
    clear h_B2
    walk_at "ct"
    refine w_slL (.of e_r2) fun q2 n_q2 => ?_
    generalize h_C2 : upd _ q2 _ = C2
    obtain ⟨s_C2, e_q2⟩ := Ct.upd_new h_C2 n_q2
    clear h_C2
    have e_q2 : C2 q2 = some (.lst ((List.replicate 300 xs2).flatten.take 300)) := by rw [e_q2, show (some (300 : Int)) = some (((300 : Nat)) : Int) from rfl, cut_toB]; rfl
    have L2 : LsT K C2 2 q2 _ _ := LsT.over (by decide) (dpAll_same (s_B2.trans s_C2) dx2) el2 e_q2
    have D2 : Dr D c2 G1 C2 := (d2.same s_B2).same s_C2
    walk_at "ct"
    refine ⟨D, c2, 20, rfl, D2.2, by omega, by decide, by decide, fun l3 xs3 ds3 ts3 c3 A3 d3 c3l n_l3 h_l3 dx3 el3 xl3 => ?_⟩
    walk_at "ct"
    refine ⟨l3, 300, xs3, rfl, rfl, h_l3, by decide, by decide, Nat.le_trans (Nat.mul_le_mul (show xs3.length ≤ 20 by omega) (Nat.le_refl _)) (by decide), fun r3 n_r3 => ?_⟩
    generalize h_B3 : upd _ r3 _ = B3
    obtain ⟨s_B3, e_r3⟩ := Ct.upd_new h_B3 n_r3
    clear h_B3
    walk_at "ct"
    refine w_slL (.of e_r3) fun q3 n_q3 => ?_
    generalize h_C3 : upd _ q3 _ = C3
    obtain ⟨s_C3, e_q3⟩ := Ct.upd_new h_C3 n_q3
    clear h_C3
    have e_q3 : C3 q3 = some (.lst ((List.replicate 300 xs3).flatten.take 300)) := by rw [e_q3, show (some (300 : Int)) = some (((300 : Nat)) : Int) from rfl, cut_toB]; rfl
    have L3 : LsT K C3 3 q3 _ _ := LsT.over (by decide) (dpAll_same (s_B3.trans s_C3) dx3) el3 e_q3
    have D3 : Dr D c3 C2 C3 := (d3.same s_B3).same s_C3
    walk_at "ct"
    refine ⟨len2 rfl, fun lh n_lh => ?_⟩
    generalize h_G3 : upd _ lh _ = G3
    obtain ⟨s_G3, e_lh⟩ := Ct.upd_new h_G3 n_lh
    clear h_G3
    have dA : Dr D c3 G1 C3 := D2.trans D3
    have e_lg3 := s_G3 _ _ (dA.at (s_G1 _ _ D1.2) e_lg)
    refine w_cat e_lg3 e_lh (show 2 + 2 ≤ sizeLine by decide) fun lf G4 n_lf s_G4 e_lf => ?_
    have s34 := s_G3.trans s_G4
    have M0 := ((L0.same s_G1).dr dA (s_G1 _ _ D1.2)).same s34
    have M1 := ((L1.same s_G1).dr dA (s_G1 _ _ D1.2)).same s34
    have M2 := (L2.dr D3 D2.2).same s34
    have M3 := L3.same s34
    have n_D0 : H D = none := (s_H1.trans s_H2).free n_D
    have sHC1 : Same H C1 := (D0.trans D1).over ((s_H1.trans s_H2).trans s3) n_D0
    have sHG4 : Same H G4 := (dA.over (sHC1.trans s_G1) n_D0).trans s34
    clear L0 L1 L2 L3 dA
    walk_at "ct"
    refine w_RG1 (by decide) (by decide) ?_
    refine fb_range (fun i σ J => ∃ y3, σ = [some (.ref a), some (.ref D), some (.ref lf), y3, none, none, none, none, none] ∧ Same G4 J) ⟨_, rfl, Same.refl _⟩ ?_ ?_
    · rintro i σ J hi ⟨y3, rfl, sJ⟩
      have hi4 : i < 4 := hi
      rw [Int.zero_add]
      walk_at "ct"
      obtain ⟨b, d, t, hb, hL⟩ : ∃ b d t, atI ([V.ref q0, .ref q1] ++ [.ref q2, .ref q3]) (i : Int) = some (.ref b) ∧ LsT K G4 i b d t := by
        have : i = 0 ∨ i = 1 ∨ i = 2 ∨ i = 3 := by omega
        rcases this with rfl | rfl | rfl | rfl
        · exact ⟨q0, _, _, rfl, M0⟩
        · exact ⟨q1, _, _, rfl, M1⟩
        · exact ⟨q2, _, _, rfl, M2⟩
        · exact ⟨q3, _, _, rfl, M3⟩
      refine w_ixL (.of (sJ _ _ e_lf)) hb ?_
      obtain ⟨ys, g1, g2, g3, g4⟩ := hL.same sJ
      walk_at "ct"
      refine ⟨i, b, ys, d, t, rfl, hi4, .of g1, g2, g3, g4, hTb.same (sHG4.trans sJ), fun J2 s2 => ?_⟩
      walk_at "ct"
      exact ⟨_, rfl, sJ.trans s2⟩
    rintro σ J0 ⟨y3, rfl, sJ0⟩
    have sHJ0 := sHG4.trans sJ0
    walk_at "ct"
    refine w_slL (sHJ0.seq hS) fun u5 n_u5 => ?_
    generalize h_U1 : upd _ u5 _ = U1
    obtain ⟨s_U1, e_u5⟩ := Ct.upd_new h_U1 n_u5
    clear h_U1
    walk_at "ct"
    refine ⟨len2 rfl, fun u6 n_u6 => ?_⟩
    generalize h_U2 : upd _ u6 _ = U2
    obtain ⟨s_U2, e_u6⟩ := Ct.upd_new h_U2 n_u6
    clear h_U2
    obtain ⟨cs, hcs, cl⟩ : ∃ cs : List Int, cutV (ns.map V.int) none (some 6) = cs.map V.int ∧ cs.length ≤ 63 := by
      refine ⟨_, cutV_map ns none (some 6), ?_⟩
      have := cutV_length (ns.map V.int) none (some 6)
      rw [cutV_map, List.length_map, List.length_map] at this
      omega
    rw [hcs] at e_u5
    refine w_cat (show U2 u5 = some (.lst (cs.map V.int)) from s_U2 _ _ e_u5) e_u6 (by rw [List.length_map]; exact Nat.le_of_lt (small1000 (show cs.length + 1 ≤ 1000 by omega))) fun u7 U3 n_u7 s_U3 e_u7 => ?_
    rw [show (cs.map V.int ++ [V.int 0]) = (cs ++ [0]).map V.int by rw [List.map_append]; rfl] at e_u7
    have sHU := ((sHJ0.trans s_U1).trans s_U2).trans s_U3
    walk_at "ct"
    refine w_IL (.of e_u7) ?_
    refine fb_list ((cs ++ [0]).map V.int) (fun n σ J => ∃ y1 y2 y3 y4 y5 y6 y7 y8, σ = [some (.ref a), y1, y2, y3, y4, y5, y6, y7, y8] ∧ Same U3 J) ⟨_, _, _, _, _, _, _, _, rfl, Same.refl _⟩ ?_ ?_ ?_
    · rintro n σ J hn ⟨y1, y2, y3, y4, y5, y6, y7, y8, rfl, sm⟩
      exact .of (sm _ _ e_u7)
    · rintro n x σ J hx ⟨y1, y2, y3, y4, y5, y6, y7, y8, rfl, s_J⟩
      obtain ⟨c, rfl⟩ : ∃ c : Int, x = .int c := by
        obtain ⟨k, _, rfl⟩ := List.mem_map.mp (List.mem_of_getElem? hx)
        exact ⟨k, rfl⟩
      have sHJ := sHU.trans s_J
      walk_at "ct"
      refine ⟨c, rfl, fun E J1 s_J1 n_E hE2 => ?_⟩
      walk_at "ct"
      refine ⟨len2 rfl, fun S n_S => ?_⟩
      generalize h_J2 : upd _ S _ = J2
      obtain ⟨s_J2, e_S⟩ := Ct.upd_new h_J2 n_S
      clear h_J2
      walk_at "ct"
      refine w_RG1 (by decide) (by decide) ?_
      refine fb_range (fun k σ I => ∃ (y6 : Option V) (ci : Nat) (vs : List V), σ = [some (.ref a), some (.ref E), y2, y3, some (.int c), some (.ref S), y6, y7, y8] ∧ Dr E ci J1 I ∧ ci ≤ 2000 * k ∧ I S = some (.lst vs) ∧ vs.length = k ∧ ∀ v ∈ vs, ∃ q d t, v = V.ref q ∧ FourT K I q S d t) ⟨_, 0, [], rfl, (Dr.refl hE2).same s_J2, Nat.le_refl _, e_S, rfl, fun v hv => by cases hv⟩ ?_ ?_
      · rintro k σ I hk ⟨y6, ci, vs, rfl, dI, cil, hSI, vl, four⟩
        have hk2 : k < 2 := hk
        walk_at "ct"
        refine ⟨ty_list hSI, ?_⟩
        walk_at "ct"
        refine ⟨E, ci, 12, rfl, dI.2, by omega, by decide, by decide, fun l0 xs0 ds0 ts0 c0 A0 d0 c0l n0 h0 dx0 el0 xl0 => ?_⟩
        have hS0 := d0.at dI.2 hSI
        walk_at "ct"
        refine ⟨E, c0, 12, rfl, d0.2, by omega, by decide, by decide, fun l1 xs1 ds1 ts1 c1 A1 d1 c1l n1 h1 dx1 el1 xl1 => ?_⟩
        have hS1 := d1.at d0.2 hS0
        walk_at "ct"
        refine ⟨E, c1, 12, rfl, d1.2, by omega, by decide, by decide, fun l2 xs2 ds2 ts2 c2 A2 d2 c2l n2 h2 dx2 el2 xl2 => ?_⟩
        have hS2 := d2.at d1.2 hS1
        walk_at "ct"
        refine ⟨E, c2, 20, rfl, d2.2, by omega, by decide, by decide, fun l3 xs3 ds3 ts3 c3 A3 d3 c3l n3 h3 dx3 el3 xl3 => ?_⟩
        have hS3 := d3.at d2.2 hS2
        walk_at "ct"
        refine ⟨len2 rfl, fun q0 n_q0 => ?_⟩
        generalize h_A4 : upd _ q0 _ = A4
        obtain ⟨s_A4, e_q0⟩ := Ct.upd_new h_A4 n_q0
        clear h_A4
        have F : FourT K A4 q0 S (fun i => if i = 0 then ds0 else if i = 1 then ds1 else if i = 2 then ds2 else ds3) (fun i => if i = 0 then ts0 else if i = 1 then ts1 else if i = 2 then ts2 else ts3) := by
          have len : ∀ {xs : List V} {ds : List PyData} {ts : List (List Nat)} {G : Hp} {i : Nat}, DpAll K G xs ds → ElsT i ds ts → xs.length < 20 → ts.length ≤ 1000 := fun h1 h2 h3 => by
            have a := dpAll_len h1
            have b := Paired.length h2
            omega
          have K0 : LsT K A0 0 l0 ds0 ts0 := ⟨xs0, h0, dx0, el0, len dx0 el0 (by omega)⟩
          have K1 : LsT K A1 1 l1 ds1 ts1 := ⟨xs1, h1, dx1, el1, len dx1 el1 (by omega)⟩
          have K2 : LsT K A2 2 l2 ds2 ts2 := ⟨xs2, h2, dx2, el2, len dx2 el2 (by omega)⟩
          have K3 : LsT K A3 3 l3 ds3 ts3 := ⟨xs3, h3, dx3, el3, len dx3 el3 (by omega)⟩
          refine ⟨ne_new hS3 n_q0, fun i => if i = 0 then l0 else if i = 1 then l1 else if i = 2 then l2 else l3, e_q0, fun i hi => ?_⟩
          have : i = 0 ∨ i = 1 ∨ i = 2 ∨ i = 3 := by omega
          rcases this with rfl | rfl | rfl | rfl
          · exact ⟨ne_new hSI n0, (((K0.dr d1 d0.2).dr d2 d1.2).dr d3 d2.2).same s_A4⟩
          · exact ⟨ne_new hS0 n1, ((K1.dr d2 d1.2).dr d3 d2.2).same s_A4⟩
          · exact ⟨ne_new hS1 n2, (K2.dr d3 d2.2).same s_A4⟩
          · exact ⟨ne_new hS2 n3, K3.same s_A4⟩
        have dA := ((d0.trans d1).trans d2).trans d3
        have hS4 := s_A4 _ _ hS3
        walk_at "ct"
        refine w_append hS4 (small1000 (by omega)) ?_
        walk_at "ct"
        refine ⟨_, c3, vs ++ [.ref q0], rfl, ((dI.trans dA).same s_A4).put n_S hS4, by omega, upd_same, by rw [List.length_append, vl]; rfl, fun v hv => ?_⟩
        rcases List.mem_append.mp hv with hv | hv
        · obtain ⟨q, d, t, rfl, G⟩ := four v hv
          exact ⟨q, d, t, rfl, ((G.dr dA dI.2).same s_A4).put hS4⟩
        · rw [List.mem_singleton.mp hv]
          exact ⟨q0, _, _, rfl, F.put hS4⟩
      rintro σ I ⟨y6, ci, vs, rfl, dI, cil, hSI, vl, four⟩
      have sHI : Same H I := dI.over (sHJ.trans s_J1) (sHJ.free n_E)
      obtain ⟨qa, qb, da, ta, db, tb, hSI, Fa, Fb⟩ : ∃ qa qb da ta db tb, I S = some (.lst [.ref qa, .ref qb]) ∧ FourT K I qa S da ta ∧ FourT K I qb S db tb := by
        match vs, vl, four, hSI with
        | [u, v], _, four, hSI =>
          obtain ⟨qa, da, ta, rfl, Fa⟩ := four u List.mem_cons_self
          obtain ⟨qb, db, tb, rfl, Fb⟩ := four v (List.mem_cons_of_mem _ List.mem_cons_self)
          exact ⟨qa, qb, da, ta, db, tb, hSI, Fa, Fb⟩
      clear four
      walk_at "ct"
      have g9 : Same I I := Same.refl I
      refine w_ixL (.of (g9 _ _ hSI)) at0 ?_
      walk_at "ct"
      obtain ⟨ps0, a0, u0, i0, ⟨zs0, z0, dq0, e0, m0⟩⟩ := (Fa.same g9).pick (i := 0) (by decide)
      refine w_ixL (.of u0) i0 ?_
      walk_at "ct"
      refine ⟨a0, zs0, 0, da 0, ta 0, rfl, .of z0, dq0, .inl rfl, e0, Nat.le_trans m0 (by decide), fun X0 x0 => ?_⟩
      walk_at "ct"
      have v0 := g9.trans x0
      refine ⟨da 0, ta 0, rfl, e0, Nat.le_trans m0 (by decide), hTb.same (sHI.trans v0), fun r0 rs0 Y0 w0 _ h_r0 d_r0 => ?_⟩
      have g0 := v0.trans w0
      walk_at "ct"
      refine w_ixL (.of (g0 _ _ hSI)) at0 ?_
      walk_at "ct"
      obtain ⟨ps1, a1, u1, i1, ⟨zs1, z1, dq1, e1, m1⟩⟩ := (Fa.same g0).pick (i := 1) (by decide)
      refine w_ixL (.of u1) i1 ?_
      walk_at "ct"
      refine ⟨a1, zs1, 1, da 1, ta 1, rfl, .of z1, dq1, .inr rfl, e1, Nat.le_trans m1 (by decide), fun X1 x1 => ?_⟩
      walk_at "ct"
      have v1 := g0.trans x1
      refine ⟨da 1, ta 1, rfl, e1, Nat.le_trans m1 (by decide), hTb.same (sHI.trans v1), fun r1 rs1 Y1 w1 _ h_r1 d_r1 => ?_⟩
      have g1 := v1.trans w1
      walk_at "ct"
      refine ⟨len2 rfl, fun fa n_fa => ?_⟩
      generalize h_U5 : upd _ fa _ = U5
      obtain ⟨s_U5, e_fa⟩ := Ct.upd_new h_U5 n_fa
      clear h_U5
      have g5 := g1.trans s_U5
      walk_at "ct"
      refine w_ixL (.of (g5 _ _ hSI)) at0 ?_
      walk_at "ct"
      obtain ⟨ps2, a2, u2, i2, ⟨zs2, z2, dq2, e2, m2⟩⟩ := (Fa.same g5).pick (i := 2) (by decide)
      refine w_ixL (.of u2) i2 ?_
      walk_at "ct"
      refine ⟨a2, zs2, da 2, ta 2, rfl, .of z2, dq2, e2, Nat.le_trans m2 (by decide), fun X2 x2 => ?_⟩
      walk_at "ct"
      have v2 := g5.trans x2
      refine ⟨da 2, ta 2, rfl, e2, Nat.le_trans m2 (by decide), hTb.same (sHI.trans v2), fun r2 rs2 Y2 w2 _ h_r2 d_r2 => ?_⟩
      have g2 := v2.trans w2
      walk_at "ct"
      refine w_ixL (.of (g2 _ _ hSI)) at0 ?_
      walk_at "ct"
      obtain ⟨ps3, a3, u3, i3, ⟨zs3, z3, dq3, e3, m3⟩⟩ := (Fa.same g2).pick (i := 3) (by decide)
      refine w_ixL (.of u3) i3 ?_
      walk_at "ct"
      refine ⟨a3, zs3, da 3, ta 3, rfl, .of z3, dq3, e3, Nat.le_trans m3 (by decide), fun X3 x3 => ?_⟩
      walk_at "ct"
      have v3 := g2.trans x3
      refine ⟨da 3, ta 3, rfl, e3, Nat.le_trans m3 (by decide), fun r3 rs3 Y3 w3 _ h_r3 d_r3 => ?_⟩
      have g3 := v3.trans w3
      walk_at "ct"
      refine ⟨len2 rfl, fun fb n_fb => ?_⟩
      generalize h_U6 : upd _ fb _ = U6
      obtain ⟨s_U6, e_fb⟩ := Ct.upd_new h_U6 n_fb
      clear h_U6
      have g6 := g3.trans s_U6
      have tail5 : Same U5 U6 := ((x2.trans w2).trans (x3.trans w3)).trans s_U6
      refine w_cat (tail5 _ _ e_fa) e_fb (show 2 + 2 ≤ sizeLine by decide) fun ff U7 n_ff s_U7 e_ff => ?_
      have g7 := g6.trans s_U7
      have dF : Dp K U7 (.ref ff) (.list [.list (da 0), .list (da 1), .list (da 2), .list (da 3)]) := by
        have t57 := tail5.trans s_U7
        have t0 : Same Y0 U7 := ((x1.trans w1).trans s_U5).trans t57
        have t1 : Same Y1 U7 := s_U5.trans t57
        have t2 : Same Y2 U7 := ((x3.trans w3).trans s_U6).trans s_U7
        have t3 : Same Y3 U7 := s_U6.trans s_U7
        exact .lst (.of e_ff) (.cons (.lst (.of (t0 _ _ h_r0)) (dpAll_same t0 d_r0)) (.cons (.lst (.of (t1 _ _ h_r1)) (dpAll_same t1 d_r1)) (.cons (.lst (.of (t2 _ _ h_r2)) (dpAll_same t2 d_r2)) (.cons (.lst (.of (t3 _ _ h_r3)) (dpAll_same t3 d_r3)) .nil))))
      walk_at "ct"
      refine w_ixL (.of (g7 _ _ hSI)) at1 ?_
      walk_at "ct"
      refine w_ixL (.of (g7 _ _ hSI)) at0 ?_
      walk_at "ct"
      refine ⟨len2 rfl, fun lo n_lo => ?_⟩
      generalize h_U8 : upd _ lo _ = U8
      obtain ⟨s_U8, e_lo⟩ := Ct.upd_new h_U8 n_lo
      clear h_U8
      have g8 := g7.trans s_U8
      walk_at "ct"
      refine w_IL (.of e_lo) ?_
      refine fb_list [V.ref qb, .ref qa] (fun n σ J9 => ∃ (y3 y8 : Option V), σ = [some (.ref a), some (.ref E), y2, y3, some (.int c), some (.ref S), y6, some (.ref ff), y8] ∧ Same U8 J9) ⟨_, _, rfl, Same.refl _⟩ ?_ ?_ ?_
      · rintro n σ J9 _ ⟨y3, y8, rfl, s9⟩
        exact .of (s9 _ _ e_lo)
      · rintro n x σ J9 hx ⟨y3, y8, rfl, s9⟩
        obtain ⟨qq, dq, tq, rfl, Fq⟩ : ∃ qq dq tq, x = V.ref qq ∧ FourT K J9 qq S dq tq := by
          have hn : n < 2 := (List.getElem?_eq_some_iff.mp hx).1
          have : n = 0 ∨ n = 1 := by omega
          rcases this with rfl | rfl
          · cases Option.some.inj hx
            exact ⟨qb, db, tb, rfl, (Fb.same g8).same s9⟩
          · cases Option.some.inj hx
            exact ⟨qa, da, ta, rfl, (Fa.same g8).same s9⟩
        walk_at "ct"
        refine w_RG1 (by decide) (by decide) ?_
        refine fb_range (fun i σ J => ∃ y3, σ = [some (.ref a), some (.ref E), y2, y3, some (.int c), some (.ref S), y6, some (.ref ff), some (.ref qq)] ∧ Same J9 J) ⟨_, rfl, Same.refl _⟩ ?_ ?_
        · rintro i σ J hi ⟨y3, rfl, sJ⟩
          have hi4 : i < 4 := hi
          rw [Int.zero_add]
          walk_at "ct"
          obtain ⟨ps, b, u, hb, ⟨ys, g1', g2', g3', g4'⟩⟩ := (Fq.same sJ).pick hi4
          refine w_ixL (.of u) hb ?_
          walk_at "ct"
          refine ⟨i, b, ys, _, _, rfl, hi4, .of g1', g2', g3', g4', hTb.same (((sHI.trans g8).trans s9).trans sJ), fun J2' s2' => ?_⟩
          walk_at "ct"
          exact ⟨_, rfl, sJ.trans s2'⟩
        rintro σ J ⟨y3, rfl, sJ⟩
        exact ⟨_, _, rfl, s9.trans sJ⟩
      rintro σ J9 ⟨y3, y8, rfl, s9⟩
      walk_at "ct"
      have g89 := g8.trans s9
      refine w_ixL (.of (g89 _ _ hSI)) at0 ?_
      refine w_neSame (.list [.list (da 0), .list (da 1), .list (da 2), .list (da 3)]) (n := 3) (dp_same (s_U8.trans s9) dF) (Fa.same g89).dp (lay_lst (n := 2) fun d hd => ?_) (by decide) ?_
      · have e0' := elsT_lay e0
        have e1' := elsT_lay e1
        have e2' := elsT_lay e2
        have e3' := elsT_lay e3
        simp only [List.mem_cons, List.not_mem_nil, or_false] at hd
        rcases hd with rfl | rfl | rfl | rfl
        · exact e0'
        · exact e1'
        · exact e2'
        · exact e3'
      walk_at "ct"
      exact ⟨_, _, _, _, _, _, _, _, rfl, s_J.trans (((dI.over (s_J1) n_E)).trans g89)⟩
    rintro σ J ⟨y1, y2, y3, y4, y5, y6, y7, y8, rfl, sm⟩
    walk_at "ct"
    exact q J (sHU.trans sm)
end
theorem all_mk {l : PySem.W.OpenLaw} {w : World} {K : PySem.W.Frag} {h : Heap} {mg : Str → Option Value} {fa : Addr} (X : K.In h) (G : h.Ns mainGlobals mg) (hfa : mg "law" = some (.ref fa))
    {f_show_way : Addr} {od0 an0 : Option Addr} {sl0 : Array (Option Value)} {oc0 kV0 dc0 pm0 cd0 ct0 : Value}
    (a0 : PySem.W.nsIn K mainGlobals "show_way" = some (some (.ref f_show_way))) (l0 : K.lookup f_show_way = some ⟨oc0, od0, .func (PySem.W.fnOf "show_way" "show_way" (defArgs S_show_way) (defBody S_show_way) (defScope S_show_way) .none kV0 dc0 pm0 an0 cd0 ct0), sl0⟩) (c0 : PySem.W.codeIn K cd0 "show_way" = true) (k0 : PySem.W.keepIn K (.ref f_show_way) = true)
    {f_show_list : Addr} {od1 an1 : Option Addr} {sl1 : Array (Option Value)} {oc1 kV1 dc1 pm1 cd1 ct1 : Value}
    (a1 : PySem.W.nsIn K mainGlobals "show_list" = some (some (.ref f_show_list))) (l1 : K.lookup f_show_list = some ⟨oc1, od1, .func (PySem.W.fnOf "show_list" "show_list" (defArgs S_show_list) (defBody S_show_list) (defScope S_show_list) .none kV1 dc1 pm1 an1 cd1 ct1), sl1⟩) (c1 : PySem.W.codeIn K cd1 "show_list" = true) (k1 : PySem.W.keepIn K (.ref f_show_list) = true)
    {f_show_deed : Addr} {od2 an2 : Option Addr} {sl2 : Array (Option Value)} {oc2 kV2 dc2 pm2 cd2 ct2 : Value}
    (a2 : PySem.W.nsIn K mainGlobals "show_deed" = some (some (.ref f_show_deed))) (l2 : K.lookup f_show_deed = some ⟨oc2, od2, .func (PySem.W.fnOf "show_deed" "show_deed" (defArgs S_show_deed) (defBody S_show_deed) (defScope S_show_deed) .none kV2 dc2 pm2 an2 cd2 ct2), sl2⟩) (c2 : PySem.W.codeIn K cd2 "show_deed" = true) (k2 : PySem.W.keepIn K (.ref f_show_deed) = true)
    {f_show_row : Addr} {od3 an3 : Option Addr} {sl3 : Array (Option Value)} {oc3 kV3 dc3 pm3 cd3 ct3 : Value}
    (a3 : PySem.W.nsIn K mainGlobals "show_row" = some (some (.ref f_show_row))) (l3 : K.lookup f_show_row = some ⟨oc3, od3, .func (PySem.W.fnOf "show_row" "show_row" (defArgs S_show_row) (defBody S_show_row) (defScope S_show_row) .none kV3 dc3 pm3 an3 cd3 ct3), sl3⟩) (c3 : PySem.W.codeIn K cd3 "show_row" = true) (k3 : PySem.W.keepIn K (.ref f_show_row) = true)
    {f_show_push : Addr} {od4 an4 : Option Addr} {sl4 : Array (Option Value)} {oc4 kV4 dc4 pm4 cd4 ct4 : Value}
    (a4 : PySem.W.nsIn K mainGlobals "show_push" = some (some (.ref f_show_push))) (l4 : K.lookup f_show_push = some ⟨oc4, od4, .func (PySem.W.fnOf "show_push" "show_push" (defArgs S_show_push) (defBody S_show_push) (defScope S_show_push) .none kV4 dc4 pm4 an4 cd4 ct4), sl4⟩) (c4 : PySem.W.codeIn K cd4 "show_push" = true) (k4 : PySem.W.keepIn K (.ref f_show_push) = true)
    {f_show_pushes : Addr} {od5 an5 : Option Addr} {sl5 : Array (Option Value)} {oc5 kV5 dc5 pm5 cd5 ct5 : Value}
    (a5 : PySem.W.nsIn K mainGlobals "show_pushes" = some (some (.ref f_show_pushes))) (l5 : K.lookup f_show_pushes = some ⟨oc5, od5, .func (PySem.W.fnOf "show_pushes" "show_pushes" (defArgs S_show_pushes) (defBody S_show_pushes) (defScope S_show_pushes) .none kV5 dc5 pm5 an5 cd5 ct5), sl5⟩) (c5 : PySem.W.codeIn K cd5 "show_pushes" = true) (k5 : PySem.W.keepIn K (.ref f_show_pushes) = true)
    {f_show_shown_push : Addr} {od6 an6 : Option Addr} {sl6 : Array (Option Value)} {oc6 kV6 dc6 pm6 cd6 ct6 : Value}
    (a6 : PySem.W.nsIn K mainGlobals "show_shown_push" = some (some (.ref f_show_shown_push))) (l6 : K.lookup f_show_shown_push = some ⟨oc6, od6, .func (PySem.W.fnOf "show_shown_push" "show_shown_push" (defArgs S_show_shown_push) (defBody S_show_shown_push) (defScope S_show_shown_push) .none kV6 dc6 pm6 an6 cd6 ct6), sl6⟩) (c6 : PySem.W.codeIn K cd6 "show_shown_push" = true) (k6 : PySem.W.keepIn K (.ref f_show_shown_push) = true)
    {f_show_shown : Addr} {od7 an7 : Option Addr} {sl7 : Array (Option Value)} {oc7 kV7 dc7 pm7 cd7 ct7 : Value}
    (a7 : PySem.W.nsIn K mainGlobals "show_shown" = some (some (.ref f_show_shown))) (l7 : K.lookup f_show_shown = some ⟨oc7, od7, .func (PySem.W.fnOf "show_shown" "show_shown" (defArgs S_show_shown) (defBody S_show_shown) (defScope S_show_shown) .none kV7 dc7 pm7 an7 cd7 ct7), sl7⟩) (c7 : PySem.W.codeIn K cd7 "show_shown" = true) (k7 : PySem.W.keepIn K (.ref f_show_shown) = true)
    {f_show_show : Addr} {od8 an8 : Option Addr} {sl8 : Array (Option Value)} {oc8 kV8 dc8 pm8 cd8 ct8 : Value}
    (a8 : PySem.W.nsIn K mainGlobals "show_show" = some (some (.ref f_show_show))) (l8 : K.lookup f_show_show = some ⟨oc8, od8, .func (PySem.W.fnOf "show_show" "show_show" (defArgs S_show_show) (defBody S_show_show) (defScope S_show_show) .none kV8 dc8 pm8 an8 cd8 ct8), sl8⟩) (c8 : PySem.W.codeIn K cd8 "show_show" = true) (k8 : PySem.W.keepIn K (.ref f_show_show) = true)
    {f_show_shows : Addr} {od9 an9 : Option Addr} {sl9 : Array (Option Value)} {oc9 kV9 dc9 pm9 cd9 ct9 : Value}
    (a9 : PySem.W.nsIn K mainGlobals "show_shows" = some (some (.ref f_show_shows))) (l9 : K.lookup f_show_shows = some ⟨oc9, od9, .func (PySem.W.fnOf "show_shows" "show_shows" (defArgs S_show_shows) (defBody S_show_shows) (defScope S_show_shows) .none kV9 dc9 pm9 an9 cd9 ct9), sl9⟩) (c9 : PySem.W.codeIn K cd9 "show_shows" = true) (k9 : PySem.W.keepIn K (.ref f_show_shows) = true)
    {f_read_number : Addr} {od10 an10 : Option Addr} {sl10 : Array (Option Value)} {oc10 kV10 dc10 pm10 cd10 ct10 : Value}
    (a10 : PySem.W.nsIn K mainGlobals "read_number" = some (some (.ref f_read_number))) (l10 : K.lookup f_read_number = some ⟨oc10, od10, .func (PySem.W.fnOf "read_number" "read_number" (defArgs S_read_number) (defBody S_read_number) (defScope S_read_number) .none kV10 dc10 pm10 an10 cd10 ct10), sl10⟩) (c10 : PySem.W.codeIn K cd10 "read_number" = true) (k10 : PySem.W.keepIn K (.ref f_read_number) = true)
    {f_read_way : Addr} {od11 an11 : Option Addr} {sl11 : Array (Option Value)} {oc11 kV11 dc11 pm11 cd11 ct11 : Value}
    (a11 : PySem.W.nsIn K mainGlobals "read_way" = some (some (.ref f_read_way))) (l11 : K.lookup f_read_way = some ⟨oc11, od11, .func (PySem.W.fnOf "read_way" "read_way" (defArgs S_read_way) (defBody S_read_way) (defScope S_read_way) .none kV11 dc11 pm11 an11 cd11 ct11), sl11⟩) (c11 : PySem.W.codeIn K cd11 "read_way" = true) (k11 : PySem.W.keepIn K (.ref f_read_way) = true)
    {f_read_after_way : Addr} {od12 an12 : Option Addr} {sl12 : Array (Option Value)} {oc12 kV12 dc12 pm12 cd12 ct12 : Value}
    (a12 : PySem.W.nsIn K mainGlobals "read_after_way" = some (some (.ref f_read_after_way))) (l12 : K.lookup f_read_after_way = some ⟨oc12, od12, .func (PySem.W.fnOf "read_after_way" "read_after_way" (defArgs S_read_after_way) (defBody S_read_after_way) (defScope S_read_after_way) .none kV12 dc12 pm12 an12 cd12 ct12), sl12⟩) (c12 : PySem.W.codeIn K cd12 "read_after_way" = true) (k12 : PySem.W.keepIn K (.ref f_read_after_way) = true)
    {f_read_list : Addr} {od13 an13 : Option Addr} {sl13 : Array (Option Value)} {oc13 kV13 dc13 pm13 cd13 ct13 : Value}
    (a13 : PySem.W.nsIn K mainGlobals "read_list" = some (some (.ref f_read_list))) (l13 : K.lookup f_read_list = some ⟨oc13, od13, .func (PySem.W.fnOf "read_list" "read_list" (defArgs S_read_list) (defBody S_read_list) (defScope S_read_list) .none kV13 dc13 pm13 an13 cd13 ct13), sl13⟩) (c13 : PySem.W.codeIn K cd13 "read_list" = true) (k13 : PySem.W.keepIn K (.ref f_read_list) = true)
    {f_split_push : Addr} {od14 an14 : Option Addr} {sl14 : Array (Option Value)} {oc14 kV14 dc14 pm14 cd14 ct14 : Value}
    (a14 : PySem.W.nsIn K mainGlobals "split_push" = some (some (.ref f_split_push))) (l14 : K.lookup f_split_push = some ⟨oc14, od14, .func (PySem.W.fnOf "split_push" "split_push" (defArgs S_split_push) (defBody S_split_push) (defScope S_split_push) .none kV14 dc14 pm14 an14 cd14 ct14), sl14⟩) (c14 : PySem.W.codeIn K cd14 "split_push" = true) (k14 : PySem.W.keepIn K (.ref f_split_push) = true)
    {f_read_deed : Addr} {od15 an15 : Option Addr} {sl15 : Array (Option Value)} {oc15 kV15 dc15 pm15 cd15 ct15 : Value}
    (a15 : PySem.W.nsIn K mainGlobals "read_deed" = some (some (.ref f_read_deed))) (l15 : K.lookup f_read_deed = some ⟨oc15, od15, .func (PySem.W.fnOf "read_deed" "read_deed" (defArgs S_read_deed) (defBody S_read_deed) (defScope S_read_deed) .none kV15 dc15 pm15 an15 cd15 ct15), sl15⟩) (c15 : PySem.W.codeIn K cd15 "read_deed" = true) (k15 : PySem.W.keepIn K (.ref f_read_deed) = true)
    {f_read_row : Addr} {od16 an16 : Option Addr} {sl16 : Array (Option Value)} {oc16 kV16 dc16 pm16 cd16 ct16 : Value}
    (a16 : PySem.W.nsIn K mainGlobals "read_row" = some (some (.ref f_read_row))) (l16 : K.lookup f_read_row = some ⟨oc16, od16, .func (PySem.W.fnOf "read_row" "read_row" (defArgs S_read_row) (defBody S_read_row) (defScope S_read_row) .none kV16 dc16 pm16 an16 cd16 ct16), sl16⟩) (c16 : PySem.W.codeIn K cd16 "read_row" = true) (k16 : PySem.W.keepIn K (.ref f_read_row) = true)
    {f_read_push : Addr} {od17 an17 : Option Addr} {sl17 : Array (Option Value)} {oc17 kV17 dc17 pm17 cd17 ct17 : Value}
    (a17 : PySem.W.nsIn K mainGlobals "read_push" = some (some (.ref f_read_push))) (l17 : K.lookup f_read_push = some ⟨oc17, od17, .func (PySem.W.fnOf "read_push" "read_push" (defArgs S_read_push) (defBody S_read_push) (defScope S_read_push) .none kV17 dc17 pm17 an17 cd17 ct17), sl17⟩) (c17 : PySem.W.codeIn K cd17 "read_push" = true) (k17 : PySem.W.keepIn K (.ref f_read_push) = true)
    {f_read_pushes : Addr} {od18 an18 : Option Addr} {sl18 : Array (Option Value)} {oc18 kV18 dc18 pm18 cd18 ct18 : Value}
    (a18 : PySem.W.nsIn K mainGlobals "read_pushes" = some (some (.ref f_read_pushes))) (l18 : K.lookup f_read_pushes = some ⟨oc18, od18, .func (PySem.W.fnOf "read_pushes" "read_pushes" (defArgs S_read_pushes) (defBody S_read_pushes) (defScope S_read_pushes) .none kV18 dc18 pm18 an18 cd18 ct18), sl18⟩) (c18 : PySem.W.codeIn K cd18 "read_pushes" = true) (k18 : PySem.W.keepIn K (.ref f_read_pushes) = true)
    {f_read_shown_push : Addr} {od19 an19 : Option Addr} {sl19 : Array (Option Value)} {oc19 kV19 dc19 pm19 cd19 ct19 : Value}
    (a19 : PySem.W.nsIn K mainGlobals "read_shown_push" = some (some (.ref f_read_shown_push))) (l19 : K.lookup f_read_shown_push = some ⟨oc19, od19, .func (PySem.W.fnOf "read_shown_push" "read_shown_push" (defArgs S_read_shown_push) (defBody S_read_shown_push) (defScope S_read_shown_push) .none kV19 dc19 pm19 an19 cd19 ct19), sl19⟩) (c19 : PySem.W.codeIn K cd19 "read_shown_push" = true) (k19 : PySem.W.keepIn K (.ref f_read_shown_push) = true)
    {f_read_shown : Addr} {od20 an20 : Option Addr} {sl20 : Array (Option Value)} {oc20 kV20 dc20 pm20 cd20 ct20 : Value}
    (a20 : PySem.W.nsIn K mainGlobals "read_shown" = some (some (.ref f_read_shown))) (l20 : K.lookup f_read_shown = some ⟨oc20, od20, .func (PySem.W.fnOf "read_shown" "read_shown" (defArgs S_read_shown) (defBody S_read_shown) (defScope S_read_shown) .none kV20 dc20 pm20 an20 cd20 ct20), sl20⟩) (c20 : PySem.W.codeIn K cd20 "read_shown" = true) (k20 : PySem.W.keepIn K (.ref f_read_shown) = true)
    {f_read_show : Addr} {od21 an21 : Option Addr} {sl21 : Array (Option Value)} {oc21 kV21 dc21 pm21 cd21 ct21 : Value}
    (a21 : PySem.W.nsIn K mainGlobals "read_show" = some (some (.ref f_read_show))) (l21 : K.lookup f_read_show = some ⟨oc21, od21, .func (PySem.W.fnOf "read_show" "read_show" (defArgs S_read_show) (defBody S_read_show) (defScope S_read_show) .none kV21 dc21 pm21 an21 cd21 ct21), sl21⟩) (c21 : PySem.W.codeIn K cd21 "read_show" = true) (k21 : PySem.W.keepIn K (.ref f_read_show) = true)
    {f_read_shows : Addr} {od22 an22 : Option Addr} {sl22 : Array (Option Value)} {oc22 kV22 dc22 pm22 cd22 ct22 : Value}
    (a22 : PySem.W.nsIn K mainGlobals "read_shows" = some (some (.ref f_read_shows))) (l22 : K.lookup f_read_shows = some ⟨oc22, od22, .func (PySem.W.fnOf "read_shows" "read_shows" (defArgs S_read_shows) (defBody S_read_shows) (defScope S_read_shows) .none kV22 dc22 pm22 an22 cd22 ct22), sl22⟩) (c22 : PySem.W.codeIn K cd22 "read_shows" = true) (k22 : PySem.W.keepIn K (.ref f_read_shows) = true)
    {f__law_draws : Addr} {od23 an23 : Option Addr} {sl23 : Array (Option Value)} {oc23 kV23 dc23 pm23 cd23 ct23 : Value}
    (a23 : PySem.W.nsIn K mainGlobals "_law_draws" = some (some (.ref f__law_draws))) (l23 : K.lookup f__law_draws = some ⟨oc23, od23, .func (PySem.W.fnOf "_law_draws" "_law_draws" (defArgs S__law_draws) (defBody S__law_draws) (defScope S__law_draws) .none kV23 dc23 pm23 an23 cd23 ct23), sl23⟩) (c23 : PySem.W.codeIn K cd23 "_law_draws" = true) (k23 : PySem.W.keepIn K (.ref f__law_draws) = true)
    {f__law_next : Addr} {od24 an24 : Option Addr} {sl24 : Array (Option Value)} {oc24 kV24 dc24 pm24 cd24 ct24 : Value}
    (a24 : PySem.W.nsIn K mainGlobals "_law_next" = some (some (.ref f__law_next))) (l24 : K.lookup f__law_next = some ⟨oc24, od24, .func (PySem.W.fnOf "_law_next" "_law_next" (defArgs S__law_next) (defBody S__law_next) (defScope S__law_next) .none kV24 dc24 pm24 an24 cd24 ct24), sl24⟩) (c24 : PySem.W.codeIn K cd24 "_law_next" = true) (k24 : PySem.W.keepIn K (.ref f__law_next) = true)
    {f__law_whole : Addr} {od25 an25 : Option Addr} {sl25 : Array (Option Value)} {oc25 kV25 dc25 pm25 cd25 ct25 : Value}
    (a25 : PySem.W.nsIn K mainGlobals "_law_whole" = some (some (.ref f__law_whole))) (l25 : K.lookup f__law_whole = some ⟨oc25, od25, .func (PySem.W.fnOf "_law_whole" "_law_whole" (defArgs S__law_whole) (defBody S__law_whole) (defScope S__law_whole) .none kV25 dc25 pm25 an25 cd25 ct25), sl25⟩) (c25 : PySem.W.codeIn K cd25 "_law_whole" = true) (k25 : PySem.W.keepIn K (.ref f__law_whole) = true)
    {f__law_number : Addr} {od26 an26 : Option Addr} {sl26 : Array (Option Value)} {oc26 kV26 dc26 pm26 cd26 ct26 : Value}
    (a26 : PySem.W.nsIn K mainGlobals "_law_number" = some (some (.ref f__law_number))) (l26 : K.lookup f__law_number = some ⟨oc26, od26, .func (PySem.W.fnOf "_law_number" "_law_number" (defArgs S__law_number) (defBody S__law_number) (defScope S__law_number) .none kV26 dc26 pm26 an26 cd26 ct26), sl26⟩) (c26 : PySem.W.codeIn K cd26 "_law_number" = true) (k26 : PySem.W.keepIn K (.ref f__law_number) = true)
    {f__law_ways : Addr} {od27 an27 : Option Addr} {sl27 : Array (Option Value)} {oc27 kV27 dc27 pm27 cd27 ct27 : Value}
    (a27 : PySem.W.nsIn K mainGlobals "_law_ways" = some (some (.ref f__law_ways))) (l27 : K.lookup f__law_ways = some ⟨oc27, od27, .func (PySem.W.fnOf "_law_ways" "_law_ways" (defArgs S__law_ways) (defBody S__law_ways) (defScope S__law_ways) .none kV27 dc27 pm27 an27 cd27 ct27), sl27⟩) (c27 : PySem.W.codeIn K cd27 "_law_ways" = true) (k27 : PySem.W.keepIn K (.ref f__law_ways) = true)
    {f__law_row : Addr} {od28 an28 : Option Addr} {sl28 : Array (Option Value)} {oc28 kV28 dc28 pm28 cd28 ct28 : Value}
    (a28 : PySem.W.nsIn K mainGlobals "_law_row" = some (some (.ref f__law_row))) (l28 : K.lookup f__law_row = some ⟨oc28, od28, .func (PySem.W.fnOf "_law_row" "_law_row" (defArgs S__law_row) (defBody S__law_row) (defScope S__law_row) .none kV28 dc28 pm28 an28 cd28 ct28), sl28⟩) (c28 : PySem.W.codeIn K cd28 "_law_row" = true) (k28 : PySem.W.keepIn K (.ref f__law_row) = true)
    {f__law_pushes : Addr} {od29 an29 : Option Addr} {sl29 : Array (Option Value)} {oc29 kV29 dc29 pm29 cd29 ct29 : Value}
    (a29 : PySem.W.nsIn K mainGlobals "_law_pushes" = some (some (.ref f__law_pushes))) (l29 : K.lookup f__law_pushes = some ⟨oc29, od29, .func (PySem.W.fnOf "_law_pushes" "_law_pushes" (defArgs S__law_pushes) (defBody S__law_pushes) (defScope S__law_pushes) .none kV29 dc29 pm29 an29 cd29 ct29), sl29⟩) (c29 : PySem.W.codeIn K cd29 "_law_pushes" = true) (k29 : PySem.W.keepIn K (.ref f__law_pushes) = true)
    {f__law_seen : Addr} {od30 an30 : Option Addr} {sl30 : Array (Option Value)} {oc30 kV30 dc30 pm30 cd30 ct30 : Value}
    (a30 : PySem.W.nsIn K mainGlobals "_law_seen" = some (some (.ref f__law_seen))) (l30 : K.lookup f__law_seen = some ⟨oc30, od30, .func (PySem.W.fnOf "_law_seen" "_law_seen" (defArgs S__law_seen) (defBody S__law_seen) (defScope S__law_seen) .none kV30 dc30 pm30 an30 cd30 ct30), sl30⟩) (c30 : PySem.W.codeIn K cd30 "_law_seen" = true) (k30 : PySem.W.keepIn K (.ref f__law_seen) = true)
    {f__law_shows : Addr} {od31 an31 : Option Addr} {sl31 : Array (Option Value)} {oc31 kV31 dc31 pm31 cd31 ct31 : Value}
    (a31 : PySem.W.nsIn K mainGlobals "_law_shows" = some (some (.ref f__law_shows))) (l31 : K.lookup f__law_shows = some ⟨oc31, od31, .func (PySem.W.fnOf "_law_shows" "_law_shows" (defArgs S__law_shows) (defBody S__law_shows) (defScope S__law_shows) .none kV31 dc31 pm31 an31 cd31 ct31), sl31⟩) (c31 : PySem.W.codeIn K cd31 "_law_shows" = true) (k31 : PySem.W.keepIn K (.ref f__law_shows) = true)
    {f__law_list_text : Addr} {od32 an32 : Option Addr} {sl32 : Array (Option Value)} {oc32 kV32 dc32 pm32 cd32 ct32 : Value}
    (a32 : PySem.W.nsIn K mainGlobals "_law_list_text" = some (some (.ref f__law_list_text))) (l32 : K.lookup f__law_list_text = some ⟨oc32, od32, .func (PySem.W.fnOf "_law_list_text" "_law_list_text" (defArgs S__law_list_text) (defBody S__law_list_text) (defScope S__law_list_text) .none kV32 dc32 pm32 an32 cd32 ct32), sl32⟩) (c32 : PySem.W.codeIn K cd32 "_law_list_text" = true) (k32 : PySem.W.keepIn K (.ref f__law_list_text) = true)
    {f__law_step_text : Addr} {od33 an33 : Option Addr} {sl33 : Array (Option Value)} {oc33 kV33 dc33 pm33 cd33 ct33 : Value}
    (a33 : PySem.W.nsIn K mainGlobals "_law_step_text" = some (some (.ref f__law_step_text))) (l33 : K.lookup f__law_step_text = some ⟨oc33, od33, .func (PySem.W.fnOf "_law_step_text" "_law_step_text" (defArgs S__law_step_text) (defBody S__law_step_text) (defScope S__law_step_text) .none kV33 dc33 pm33 an33 cd33 ct33), sl33⟩) (c33 : PySem.W.codeIn K cd33 "_law_step_text" = true) (k33 : PySem.W.keepIn K (.ref f__law_step_text) = true)
    {f__law_steps_text : Addr} {od34 an34 : Option Addr} {sl34 : Array (Option Value)} {oc34 kV34 dc34 pm34 cd34 ct34 : Value}
    (a34 : PySem.W.nsIn K mainGlobals "_law_steps_text" = some (some (.ref f__law_steps_text))) (l34 : K.lookup f__law_steps_text = some ⟨oc34, od34, .func (PySem.W.fnOf "_law_steps_text" "_law_steps_text" (defArgs S__law_steps_text) (defBody S__law_steps_text) (defScope S__law_steps_text) .none kV34 dc34 pm34 an34 cd34 ct34), sl34⟩) (c34 : PySem.W.codeIn K cd34 "_law_steps_text" = true) (k34 : PySem.W.keepIn K (.ref f__law_steps_text) = true)
    {f__law_seen_text : Addr} {od35 an35 : Option Addr} {sl35 : Array (Option Value)} {oc35 kV35 dc35 pm35 cd35 ct35 : Value}
    (a35 : PySem.W.nsIn K mainGlobals "_law_seen_text" = some (some (.ref f__law_seen_text))) (l35 : K.lookup f__law_seen_text = some ⟨oc35, od35, .func (PySem.W.fnOf "_law_seen_text" "_law_seen_text" (defArgs S__law_seen_text) (defBody S__law_seen_text) (defScope S__law_seen_text) .none kV35 dc35 pm35 an35 cd35 ct35), sl35⟩) (c35 : PySem.W.codeIn K cd35 "_law_seen_text" = true) (k35 : PySem.W.keepIn K (.ref f__law_seen_text) = true)
    {f__law_shows_text : Addr} {od36 an36 : Option Addr} {sl36 : Array (Option Value)} {oc36 kV36 dc36 pm36 cd36 ct36 : Value}
    (a36 : PySem.W.nsIn K mainGlobals "_law_shows_text" = some (some (.ref f__law_shows_text))) (l36 : K.lookup f__law_shows_text = some ⟨oc36, od36, .func (PySem.W.fnOf "_law_shows_text" "_law_shows_text" (defArgs S__law_shows_text) (defBody S__law_shows_text) (defScope S__law_shows_text) .none kV36 dc36 pm36 an36 cd36 ct36), sl36⟩) (c36 : PySem.W.codeIn K cd36 "_law_shows_text" = true) (k36 : PySem.W.keepIn K (.ref f__law_shows_text) = true)
    {f__law_well : Addr} {od37 an37 : Option Addr} {sl37 : Array (Option Value)} {oc37 kV37 dc37 pm37 cd37 ct37 : Value}
    (a37 : PySem.W.nsIn K mainGlobals "_law_well" = some (some (.ref f__law_well))) (l37 : K.lookup f__law_well = some ⟨oc37, od37, .func (PySem.W.fnOf "_law_well" "_law_well" (defArgs S__law_well) (defBody S__law_well) (defScope S__law_well) .none kV37 dc37 pm37 an37 cd37 ct37), sl37⟩) (c37 : PySem.W.codeIn K cd37 "_law_well" = true) (k37 : PySem.W.keepIn K (.ref f__law_well) = true)
    {f_law : Addr} {od38 an38 : Option Addr} {sl38 : Array (Option Value)} {oc38 kV38 dc38 pm38 cd38 ct38 : Value}
    (a38 : PySem.W.nsIn K mainGlobals "law" = some (some (.ref f_law))) (l38 : K.lookup f_law = some ⟨oc38, od38, .func (PySem.W.fnOf "law" "law" (defArgs S_law) (defBody S_law) (defScope S_law) .none kV38 dc38 pm38 an38 cd38 ct38), sl38⟩) (c38 : PySem.W.codeIn K cd38 "law" = true) (k38 : PySem.W.keepIn K (.ref f_law) = true)
    (z0 : PySem.W.nsIn K mainGlobals "any" = some none)
    (z1 : PySem.W.nsIn K mainGlobals "int" = some none)
    (z2 : PySem.W.nsIn K mainGlobals "len" = some none)
    (z3 : PySem.W.nsIn K mainGlobals "isinstance" = some none)
    (z4 : PySem.W.nsIn K mainGlobals "bool" = some none)
    (z5 : PySem.W.nsIn K mainGlobals "range" = some none)
    (z6 : PySem.W.nsIn K mainGlobals "str" = some none)
    (z7 : PySem.W.nsIn K mainGlobals "list" = some none)
    (z8 : PySem.W.nsIn K mainGlobals "all" = some none)
    (z9 : PySem.W.nsIn K mainGlobals "tuple" = some none)
    {tk_FIGURES : Tok} (v_FIGURES : PySem.W.nsIn K mainGlobals "FIGURES" = some (some (.str "0123456789" tk_FIGURES)))
    {tk_MOST_FIGURES : Tok} (v_MOST_FIGURES : PySem.W.nsIn K mainGlobals "MOST_FIGURES" = some (some (.int 40 tk_MOST_FIGURES)))
    {q0_WAY_OF_SIGN : Addr} {ep_WAY_OF_SIGN : Nat} {tk0_WAY_OF_SIGN tv0_WAY_OF_SIGN : Tok} {tk1_WAY_OF_SIGN tv1_WAY_OF_SIGN : Tok} (v_WAY_OF_SIGN : PySem.W.nsIn K mainGlobals "WAY_OF_SIGN" = some (some (.ref q0_WAY_OF_SIGN)))
    (t_WAY_OF_SIGN : K.lookup q0_WAY_OF_SIGN = some ⟨.type "dict", none, .dict #[⟨hashStr w "+", .str "+" tk0_WAY_OF_SIGN, .int (1) tv0_WAY_OF_SIGN⟩, ⟨hashStr w "-", .str "-" tk1_WAY_OF_SIGN, .int (-1) tv1_WAY_OF_SIGN⟩] ep_WAY_OF_SIGN, #[]⟩) (sy_WAY_OF_SIGN : (q0_WAY_OF_SIGN == sysModules) = false)
    {q0_SHOWN_OF_TEXT : Addr} {ep_SHOWN_OF_TEXT : Nat} {tk0_SHOWN_OF_TEXT tv0_SHOWN_OF_TEXT : Tok} {tk1_SHOWN_OF_TEXT tv1_SHOWN_OF_TEXT : Tok} {tk2_SHOWN_OF_TEXT tv2_SHOWN_OF_TEXT : Tok} (v_SHOWN_OF_TEXT : PySem.W.nsIn K mainGlobals "SHOWN_OF_TEXT" = some (some (.ref q0_SHOWN_OF_TEXT)))
    (t_SHOWN_OF_TEXT : K.lookup q0_SHOWN_OF_TEXT = some ⟨.type "dict", none, .dict #[⟨hashStr w "=1", .str "=1" tk0_SHOWN_OF_TEXT, .int (1) tv0_SHOWN_OF_TEXT⟩, ⟨hashStr w "=-1", .str "=-1" tk1_SHOWN_OF_TEXT, .int (-1) tv1_SHOWN_OF_TEXT⟩, ⟨hashStr w "=0", .str "=0" tk2_SHOWN_OF_TEXT, .int (0) tv2_SHOWN_OF_TEXT⟩] ep_SHOWN_OF_TEXT, #[]⟩) (sy_SHOWN_OF_TEXT : (q0_SHOWN_OF_TEXT == sysModules) = false)
    (tb_read_number : tabOkB K cd10 = true)
    : LawAtX l w K 63 "_law_script" mg fa ["read_number"] := by
  have e := hfa.symm.trans (PySem.W.mg_of X G a38)
  cases e
  have F_show_way := fun_mk (st := S_show_way) l0 c0 k0
  have F_show_list := fun_mk (st := S_show_list) l1 c1 k1
  have F_show_deed := fun_mk (st := S_show_deed) l2 c2 k2
  have F_show_row := fun_mk (st := S_show_row) l3 c3 k3
  have F_show_push := fun_mk (st := S_show_push) l4 c4 k4
  have F_show_pushes := fun_mk (st := S_show_pushes) l5 c5 k5
  have F_show_shown_push := fun_mk (st := S_show_shown_push) l6 c6 k6
  have F_show_shown := fun_mk (st := S_show_shown) l7 c7 k7
  have F_show_show := fun_mk (st := S_show_show) l8 c8 k8
  have F_show_shows := fun_mk (st := S_show_shows) l9 c9 k9
  have F_read_number := fun_mk (st := S_read_number) l10 c10 k10
  have F_read_way := fun_mk (st := S_read_way) l11 c11 k11
  have F_read_after_way := fun_mk (st := S_read_after_way) l12 c12 k12
  have F_read_list := fun_mk (st := S_read_list) l13 c13 k13
  have F_split_push := fun_mk (st := S_split_push) l14 c14 k14
  have F_read_deed := fun_mk (st := S_read_deed) l15 c15 k15
  have F_read_row := fun_mk (st := S_read_row) l16 c16 k16
  have F_read_push := fun_mk (st := S_read_push) l17 c17 k17
  have F_read_pushes := fun_mk (st := S_read_pushes) l18 c18 k18
  have F_read_shown_push := fun_mk (st := S_read_shown_push) l19 c19 k19
  have F_read_shown := fun_mk (st := S_read_shown) l20 c20 k20
  have F_read_show := fun_mk (st := S_read_show) l21 c21 k21
  have F_read_shows := fun_mk (st := S_read_shows) l22 c22 k22
  have F__law_draws := fun_mk (st := S__law_draws) l23 c23 k23
  have F__law_next := fun_mk (st := S__law_next) l24 c24 k24
  have F__law_whole := fun_mk (st := S__law_whole) l25 c25 k25
  have F__law_number := fun_mk (st := S__law_number) l26 c26 k26
  have F__law_ways := fun_mk (st := S__law_ways) l27 c27 k27
  have F__law_row := fun_mk (st := S__law_row) l28 c28 k28
  have F__law_pushes := fun_mk (st := S__law_pushes) l29 c29 k29
  have F__law_seen := fun_mk (st := S__law_seen) l30 c30 k30
  have F__law_shows := fun_mk (st := S__law_shows) l31 c31 k31
  have F__law_list_text := fun_mk (st := S__law_list_text) l32 c32 k32
  have F__law_step_text := fun_mk (st := S__law_step_text) l33 c33 k33
  have F__law_steps_text := fun_mk (st := S__law_steps_text) l34 c34 k34
  have F__law_seen_text := fun_mk (st := S__law_seen_text) l35 c35 k35
  have F__law_shows_text := fun_mk (st := S__law_shows_text) l36 c36 k36
  have F__law_well := fun_mk (st := S__law_well) l37 c37 k37
  have F_law := fun_mk (st := S_law) l38 c38 k38
  have m_any := PySem.W.mg_none_of X G z0
  have m_int := PySem.W.mg_none_of X G z1
  have m_len := PySem.W.mg_none_of X G z2
  have m_isinstance := PySem.W.mg_none_of X G z3
  have m_bool := PySem.W.mg_none_of X G z4
  have m_range := PySem.W.mg_none_of X G z5
  have m_str := PySem.W.mg_none_of X G z6
  have m_list := PySem.W.mg_none_of X G z7
  have m_all := PySem.W.mg_none_of X G z8
  have m_tuple := PySem.W.mg_none_of X G z9
  have g_FIGURES := PySem.W.mg_of X G v_FIGURES
  have g_MOST_FIGURES := PySem.W.mg_of X G v_MOST_FIGURES
  have g_WAY_OF_SIGN := PySem.W.mg_of X G v_WAY_OF_SIGN
  have g_SHOWN_OF_TEXT := PySem.W.mg_of X G v_SHOWN_OF_TEXT
  have D_WAY_OF_SIGN : KDict l.prog w K q0_WAY_OF_SIGN [(Sum.inr "+", V.int (1)), (Sum.inr "-", V.int (-1))] := kdict_mk t_WAY_OF_SIGN sy_WAY_OF_SIGN (kd_cons "+" tk0_WAY_OF_SIGN (show RelV (V.int (1)) (Value.int (1) tv0_WAY_OF_SIGN) from ⟨_, rfl⟩) (kd_cons "-" tk1_WAY_OF_SIGN (show RelV (V.int (-1)) (Value.int (-1) tv1_WAY_OF_SIGN) from ⟨_, rfl⟩) kd_nil)) (by decide +kernel)
  have D_SHOWN_OF_TEXT : KDict l.prog w K q0_SHOWN_OF_TEXT [(Sum.inr "=1", V.int (1)), (Sum.inr "=-1", V.int (-1)), (Sum.inr "=0", V.int (0))] := kdict_mk t_SHOWN_OF_TEXT sy_SHOWN_OF_TEXT (kd_cons "=1" tk0_SHOWN_OF_TEXT (show RelV (V.int (1)) (Value.int (1) tv0_SHOWN_OF_TEXT) from ⟨_, rfl⟩) (kd_cons "=-1" tk1_SHOWN_OF_TEXT (show RelV (V.int (-1)) (Value.int (-1) tv1_SHOWN_OF_TEXT) from ⟨_, rfl⟩) (kd_cons "=0" tk2_SHOWN_OF_TEXT (show RelV (V.int (0)) (Value.int (0) tv2_SHOWN_OF_TEXT) from ⟨_, rfl⟩) kd_nil))) (by decide +kernel)
  have b_show_way := F_show_way.binds (ps := ["way"]) fun _ _ _ _ _ _ us hl => match us, hl with | [_], _ => rfl
  have g_show_way := PySem.W.mg_of X G a0
  have b_show_list := F_show_list.binds (ps := ["things", "show_one"]) fun _ _ _ _ _ _ us hl => match us, hl with | [_, _], _ => rfl
  have g_show_list := PySem.W.mg_of X G a1
  have b_show_deed := F_show_deed.binds (ps := ["deed"]) fun _ _ _ _ _ _ us hl => match us, hl with | [_], _ => rfl
  have g_show_deed := PySem.W.mg_of X G a2
  have b_show_row := F_show_row.binds (ps := ["row"]) fun _ _ _ _ _ _ us hl => match us, hl with | [_], _ => rfl
  have g_show_row := PySem.W.mg_of X G a3
  have b_show_push := F_show_push.binds (ps := ["push"]) fun _ _ _ _ _ _ us hl => match us, hl with | [_], _ => rfl
  have g_show_push := PySem.W.mg_of X G a4
  have b_show_pushes := F_show_pushes.binds (ps := ["pushes"]) fun _ _ _ _ _ _ us hl => match us, hl with | [_], _ => rfl
  have g_show_pushes := PySem.W.mg_of X G a5
  have b_show_shown_push := F_show_shown_push.binds (ps := ["push"]) fun _ _ _ _ _ _ us hl => match us, hl with | [_], _ => rfl
  have g_show_shown_push := PySem.W.mg_of X G a6
  have b_show_shown := F_show_shown.binds (ps := ["shown"]) fun _ _ _ _ _ _ us hl => match us, hl with | [_], _ => rfl
  have g_show_shown := PySem.W.mg_of X G a7
  have b_show_show := F_show_show.binds (ps := ["show"]) fun _ _ _ _ _ _ us hl => match us, hl with | [_], _ => rfl
  have g_show_show := PySem.W.mg_of X G a8
  have b_show_shows := F_show_shows.binds (ps := ["shows"]) fun _ _ _ _ _ _ us hl => match us, hl with | [_], _ => rfl
  have g_show_shows := PySem.W.mg_of X G a9
  have b_read_number := F_read_number.binds (ps := ["text"]) fun _ _ _ _ _ _ us hl => match us, hl with | [_], _ => rfl
  have g_read_number := PySem.W.mg_of X G a10
  have b_read_way := F_read_way.binds (ps := ["text"]) fun _ _ _ _ _ _ us hl => match us, hl with | [_], _ => rfl
  have g_read_way := PySem.W.mg_of X G a11
  have b_read_after_way := F_read_after_way.binds (ps := ["text"]) fun _ _ _ _ _ _ us hl => match us, hl with | [_], _ => rfl
  have g_read_after_way := PySem.W.mg_of X G a12
  have b_read_list := F_read_list.binds (ps := ["text", "read_one"]) fun _ _ _ _ _ _ us hl => match us, hl with | [_, _], _ => rfl
  have g_read_list := PySem.W.mg_of X G a13
  have b_split_push := F_split_push.binds (ps := ["text"]) fun _ _ _ _ _ _ us hl => match us, hl with | [_], _ => rfl
  have g_split_push := PySem.W.mg_of X G a14
  have b_read_deed := F_read_deed.binds (ps := ["text"]) fun _ _ _ _ _ _ us hl => match us, hl with | [_], _ => rfl
  have g_read_deed := PySem.W.mg_of X G a15
  have b_read_row := F_read_row.binds (ps := ["text"]) fun _ _ _ _ _ _ us hl => match us, hl with | [_], _ => rfl
  have g_read_row := PySem.W.mg_of X G a16
  have b_read_push := F_read_push.binds (ps := ["text"]) fun _ _ _ _ _ _ us hl => match us, hl with | [_], _ => rfl
  have g_read_push := PySem.W.mg_of X G a17
  have b_read_pushes := F_read_pushes.binds (ps := ["text"]) fun _ _ _ _ _ _ us hl => match us, hl with | [_], _ => rfl
  have g_read_pushes := PySem.W.mg_of X G a18
  have b_read_shown_push := F_read_shown_push.binds (ps := ["text"]) fun _ _ _ _ _ _ us hl => match us, hl with | [_], _ => rfl
  have g_read_shown_push := PySem.W.mg_of X G a19
  have b_read_shown := F_read_shown.binds (ps := ["text"]) fun _ _ _ _ _ _ us hl => match us, hl with | [_], _ => rfl
  have g_read_shown := PySem.W.mg_of X G a20
  have b_read_show := F_read_show.binds (ps := ["text"]) fun _ _ _ _ _ _ us hl => match us, hl with | [_], _ => rfl
  have g_read_show := PySem.W.mg_of X G a21
  have b_read_shows := F_read_shows.binds (ps := ["text"]) fun _ _ _ _ _ _ us hl => match us, hl with | [_], _ => rfl
  have g_read_shows := PySem.W.mg_of X G a22
  have b__law_draws := F__law_draws.binds (ps := ["_law_cell"]) fun _ _ _ _ _ _ us hl => match us, hl with | [_], _ => rfl
  have g__law_draws := PySem.W.mg_of X G a23
  have b__law_next := F__law_next.binds (ps := ["_law_draws_here"]) fun _ _ _ _ _ _ us hl => match us, hl with | [_], _ => rfl
  have g__law_next := PySem.W.mg_of X G a24
  have b__law_whole := F__law_whole.binds (ps := ["_law_found"]) fun _ _ _ _ _ _ us hl => match us, hl with | [_], _ => rfl
  have g__law_whole := PySem.W.mg_of X G a25
  have b__law_number := F__law_number.binds (ps := ["_law_draws_here"]) fun _ _ _ _ _ _ us hl => match us, hl with | [_], _ => rfl
  have g__law_number := PySem.W.mg_of X G a26
  have b__law_ways := F__law_ways.binds (ps := ["_law_draws_here", "_law_many"]) fun _ _ _ _ _ _ us hl => match us, hl with | [_, _], _ => rfl
  have g__law_ways := PySem.W.mg_of X G a27
  have b__law_row := F__law_row.binds (ps := ["_law_draws_here", "_law_many"]) fun _ _ _ _ _ _ us hl => match us, hl with | [_, _], _ => rfl
  have g__law_row := PySem.W.mg_of X G a28
  have b__law_pushes := F__law_pushes.binds (ps := ["_law_draws_here", "_law_many"]) fun _ _ _ _ _ _ us hl => match us, hl with | [_, _], _ => rfl
  have g__law_pushes := PySem.W.mg_of X G a29
  have b__law_seen := F__law_seen.binds (ps := ["_law_draws_here", "_law_many"]) fun _ _ _ _ _ _ us hl => match us, hl with | [_, _], _ => rfl
  have g__law_seen := PySem.W.mg_of X G a30
  have b__law_shows := F__law_shows.binds (ps := ["_law_draws_here", "_law_many"]) fun _ _ _ _ _ _ us hl => match us, hl with | [_, _], _ => rfl
  have g__law_shows := PySem.W.mg_of X G a31
  have b__law_list_text := F__law_list_text.binds (ps := ["_law_words"]) fun _ _ _ _ _ _ us hl => match us, hl with | [_], _ => rfl
  have g__law_list_text := PySem.W.mg_of X G a32
  have b__law_step_text := F__law_step_text.binds (ps := ["_law_step"]) fun _ _ _ _ _ _ us hl => match us, hl with | [_], _ => rfl
  have g__law_step_text := PySem.W.mg_of X G a33
  have b__law_steps_text := F__law_steps_text.binds (ps := ["_law_steps"]) fun _ _ _ _ _ _ us hl => match us, hl with | [_], _ => rfl
  have g__law_steps_text := PySem.W.mg_of X G a34
  have b__law_seen_text := F__law_seen_text.binds (ps := ["_law_seen_here"]) fun _ _ _ _ _ _ us hl => match us, hl with | [_], _ => rfl
  have g__law_seen_text := PySem.W.mg_of X G a35
  have b__law_shows_text := F__law_shows_text.binds (ps := ["_law_shows_here"]) fun _ _ _ _ _ _ us hl => match us, hl with | [_], _ => rfl
  have g__law_shows_text := PySem.W.mg_of X G a36
  have b__law_well := F__law_well.binds (ps := ["_law_way", "_law_some"]) fun _ _ _ _ _ _ us hl => match us, hl with | [_, _], _ => rfl
  have g__law_well := PySem.W.mg_of X G a37
  refine ⟨PySem.W.fnOf "law" "law" (defArgs S_law) (defBody S_law) (defScope S_law) .none kV38 dc38 pm38 an38 cd38 ct38, [("read_number", cd10)], sp_law K [tabOf K cd10], fun p hp => ?_, fun s v => .of_eq rfl, fun H a ns hlen hT hE => ?_, fun base _ _ hTB => ?_⟩
  · rcases List.mem_cons.mp hp with rfl | hp
    · exact ⟨by simp, f_read_number, _, _, _, _, g_read_number, l10, rfl, tb_read_number⟩
    cases hp
  · exact ⟨a, ns, rfl, hE, hlen, fun P hP => (by
      obtain ⟨p, hp, rfl⟩ := List.mem_map.mp (show P ∈ ([("read_number", cd10)] : List (Str × Value)).map (fun p => tabOf K p.2) from hP)
      exact hT p hp), fun H2 s2 => ⟨rfl, s2⟩⟩
  have G_show_way : FnOk l.prog w K mg base CX0 1 _ _ ["way"] (sp_show_way K) := ok_show_way F_show_way      
  have G_show_list : ∀ R, (∀ f sp, R f sp → Held l.prog w K mg base 12 f sp) → FnOk l.prog w K mg base CX0 13 f_show_list _ ["things", "show_one"] (sp_show_list K R) := fun R HR => ok_show_list F_show_list      HR 
  have G_show_deed : FnOk l.prog w K mg base CX0 2 _ _ ["deed"] (sp_show_deed K) := ok_show_deed F_show_deed  F_show_way b_show_way g_show_way G_show_way    
  have G_show_row : FnOk l.prog w K mg base CX0 14 _ _ ["row"] (sp_show_row K) := ok_show_row F_show_row  F_show_list b_show_list g_show_list G_show_list F_show_deed b_show_deed g_show_deed G_show_deed    
  have G_show_push : FnOk l.prog w K mg base CX0 2 _ _ ["push"] (sp_show_push K) := ok_show_push F_show_push  F_show_way b_show_way g_show_way G_show_way    
  have G_show_pushes : FnOk l.prog w K mg base CX0 14 _ _ ["pushes"] (sp_show_pushes K) := ok_show_pushes F_show_pushes  F_show_list b_show_list g_show_list G_show_list F_show_push b_show_push g_show_push G_show_push    
  have G_show_shown_push : FnOk l.prog w K mg base CX0 2 _ _ ["push"] (sp_show_shown_push K) := ok_show_shown_push F_show_shown_push  F_show_way b_show_way g_show_way G_show_way    
  have G_show_shown : FnOk l.prog w K mg base CX0 14 _ _ ["shown"] (sp_show_shown K) := ok_show_shown F_show_shown  F_show_list b_show_list g_show_list G_show_list F_show_shown_push b_show_shown_push g_show_shown_push G_show_shown_push    
  have G_show_show : FnOk l.prog w K mg base CX0 2 _ _ ["show"] (sp_show_show K) := ok_show_show F_show_show  F_show_way b_show_way g_show_way G_show_way    
  have G_show_shows : FnOk l.prog w K mg base CX0 14 _ _ ["shows"] (sp_show_shows K) := ok_show_shows F_show_shows  F_show_list b_show_list g_show_list G_show_list F_show_show b_show_show g_show_show G_show_show    
  have G_read_number : FnOk l.prog w K mg base CX0 2 _ _ ["text"] (sp_read_number K [tabOf K cd10]) := ok_read_number F_read_number   m_any m_int m_len  g_FIGURES g_MOST_FIGURES  (hTB ("read_number", cd10) (by simp)) (by obtain ⟨_, _, _, _, h, _⟩ := tab_inv tb_read_number; exact h) (by simp)
  have G_read_way : FnOk l.prog w K mg base CX0 1 _ _ ["text"] (sp_read_way K) := ok_read_way F_read_way     g_WAY_OF_SIGN D_WAY_OF_SIGN 
  have G_read_after_way : FnOk l.prog w K mg base CX0 1 _ _ ["text"] (sp_read_after_way K) := ok_read_after_way F_read_after_way     g_SHOWN_OF_TEXT D_SHOWN_OF_TEXT 
  have G_read_list : ∀ R, (∀ f sp, R f sp → Held l.prog w K mg base 12 f sp) → FnOk l.prog w K mg base CX0 13 f_read_list _ ["text", "read_one"] (sp_read_list K R) := fun R HR => ok_read_list F_read_list      HR 
  have G_split_push : FnOk l.prog w K mg base CX0 3 _ _ ["text"] (sp_split_push K [tabOf K cd10]) := ok_split_push F_split_push  F_read_way b_read_way g_read_way G_read_way F_read_number b_read_number g_read_number G_read_number m_len  g_FIGURES 
  have G_read_deed : FnOk l.prog w K mg base CX0 4 _ _ ["text"] (sp_read_deed K [tabOf K cd10]) := ok_read_deed F_read_deed  F_read_number b_read_number g_read_number G_read_number F_split_push b_split_push g_split_push G_split_push    
  have G_read_row : FnOk l.prog w K mg base CX0 14 _ _ ["text"] (sp_read_row K [tabOf K cd10]) := ok_read_row F_read_row  F_read_list b_read_list g_read_list G_read_list F_read_deed b_read_deed g_read_deed G_read_deed    
  have G_read_push : FnOk l.prog w K mg base CX0 4 _ _ ["text"] (sp_read_push K [tabOf K cd10]) := ok_read_push F_read_push  F_split_push b_split_push g_split_push G_split_push    
  have G_read_pushes : FnOk l.prog w K mg base CX0 14 _ _ ["text"] (sp_read_pushes K [tabOf K cd10]) := ok_read_pushes F_read_pushes  F_read_list b_read_list g_read_list G_read_list F_read_push b_read_push g_read_push G_read_push    
  have G_read_shown_push : FnOk l.prog w K mg base CX0 4 _ _ ["text"] (sp_read_shown_push K [tabOf K cd10]) := ok_read_shown_push F_read_shown_push  F_read_after_way b_read_after_way g_read_after_way G_read_after_way F_split_push b_split_push g_split_push G_split_push    
  have G_read_shown : FnOk l.prog w K mg base CX0 14 _ _ ["text"] (sp_read_shown K [tabOf K cd10]) := ok_read_shown F_read_shown  F_read_list b_read_list g_read_list G_read_list F_read_shown_push b_read_shown_push g_read_shown_push G_read_shown_push    
  have G_read_show : FnOk l.prog w K mg base CX0 2 _ _ ["text"] (sp_read_show K) := ok_read_show F_read_show  F_read_after_way b_read_after_way g_read_after_way G_read_after_way F_read_way b_read_way g_read_way G_read_way    
  have G_read_shows : FnOk l.prog w K mg base CX0 14 _ _ ["text"] (sp_read_shows K) := ok_read_shows F_read_shows  F_read_list b_read_list g_read_list G_read_list F_read_show b_read_show g_read_show G_read_show    
  have G__law_draws : FnOk l.prog w K mg base CX0 1 _ _ ["_law_cell"] (sp__law_draws K) := ok__law_draws F__law_draws      
  have G__law_next : FnOk l.prog w K mg base CX0 1 _ _ ["_law_draws_here"] (sp__law_next K) := ok__law_next F__law_next      
  have G__law_whole : FnOk l.prog w K mg base CX0 1 _ _ ["_law_found"] (sp__law_whole K) := ok__law_whole F__law_whole   m_isinstance m_int m_bool   
  have G__law_number : FnOk l.prog w K mg base CX0 2 _ _ ["_law_draws_here"] (sp__law_number K) := ok__law_number F__law_number  F__law_next b__law_next g__law_next G__law_next m_range   
  have G__law_ways : FnOk l.prog w K mg base CX0 2 _ _ ["_law_draws_here", "_law_many"] (sp__law_ways K) := ok__law_ways F__law_ways  F__law_next b__law_next g__law_next G__law_next m_range   
  have G__law_row : FnOk l.prog w K mg base CX0 3 _ _ ["_law_draws_here", "_law_many"] (sp__law_row K) := ok__law_row F__law_row  F__law_ways b__law_ways g__law_ways G__law_ways F__law_number b__law_number g__law_number G__law_number    
  have G__law_pushes : FnOk l.prog w K mg base CX0 3 _ _ ["_law_draws_here", "_law_many"] (sp__law_pushes K) := ok__law_pushes F__law_pushes  F__law_ways b__law_ways g__law_ways G__law_ways F__law_number b__law_number g__law_number G__law_number    
  have G__law_seen : FnOk l.prog w K mg base CX0 3 _ _ ["_law_draws_here", "_law_many"] (sp__law_seen K) := ok__law_seen F__law_seen  F__law_ways b__law_ways g__law_ways G__law_ways F__law_next b__law_next g__law_next G__law_next F__law_number b__law_number g__law_number G__law_number    
  have G__law_shows : FnOk l.prog w K mg base CX0 3 _ _ ["_law_draws_here", "_law_many"] (sp__law_shows K) := ok__law_shows F__law_shows  F__law_ways b__law_ways g__law_ways G__law_ways F__law_next b__law_next g__law_next G__law_next    
  have G__law_list_text : FnOk l.prog w K mg base CX0 1 _ _ ["_law_words"] (sp__law_list_text K) := ok__law_list_text F__law_list_text   m_int   
  have G__law_step_text : FnOk l.prog w K mg base CX0 1 _ _ ["_law_step"] (sp__law_step_text K) := ok__law_step_text F__law_step_text   m_str m_int   
  have G__law_steps_text : FnOk l.prog w K mg base CX0 2 _ _ ["_law_steps"] (sp__law_steps_text K) := ok__law_steps_text F__law_steps_text  F__law_step_text b__law_step_text g__law_step_text G__law_step_text F__law_list_text b__law_list_text g__law_list_text G__law_list_text    
  have G__law_seen_text : FnOk l.prog w K mg base CX0 2 _ _ ["_law_seen_here"] (sp__law_seen_text K) := ok__law_seen_text F__law_seen_text  F__law_step_text b__law_step_text g__law_step_text G__law_step_text F__law_list_text b__law_list_text g__law_list_text G__law_list_text m_str   
  have G__law_shows_text : FnOk l.prog w K mg base CX0 2 _ _ ["_law_shows_here"] (sp__law_shows_text K) := ok__law_shows_text F__law_shows_text  F__law_list_text b__law_list_text g__law_list_text G__law_list_text m_str m_int   
  have G__law_well : FnOk l.prog w K mg base CX0 21 _ _ ["_law_way", "_law_some"] (sp__law_well K [tabOf K cd10]) := ok__law_well F__law_well  F__law_whole b__law_whole g__law_whole G__law_whole F_read_shows b_read_shows g_read_shows G_read_shows F_read_shown b_read_shown g_read_shown G_read_shown F_read_pushes b_read_pushes g_read_pushes G_read_pushes F_read_row b_read_row g_read_row G_read_row F_show_shows b_show_shows g_show_shows G_show_shows F_show_shown b_show_shown g_show_shown G_show_shown F_show_pushes b_show_pushes g_show_pushes G_show_pushes F_show_row b_show_row g_show_row G_show_row F__law_shows_text b__law_shows_text g__law_shows_text G__law_shows_text F__law_seen_text b__law_seen_text g__law_seen_text G__law_seen_text F__law_steps_text b__law_steps_text g__law_steps_text G__law_steps_text m_list m_range m_isinstance m_str m_all m_tuple   
  exact RunOk.of (k := 22) ⟨rfl, by decide, by decide⟩ (ok_law F_law  F__law_well b__law_well g__law_well G__law_well F__law_shows_text b__law_shows_text g__law_shows_text G__law_shows_text F_read_shows b_read_shows g_read_shows G_read_shows F__law_seen_text b__law_seen_text g__law_seen_text G__law_seen_text F_read_shown b_read_shown g_read_shown G_read_shown F__law_steps_text b__law_steps_text g__law_steps_text G__law_steps_text F_read_pushes b_read_pushes g_read_pushes G_read_pushes F_read_row b_read_row g_read_row G_read_row F__law_shows b__law_shows g__law_shows G__law_shows F__law_seen b__law_seen g__law_seen G__law_seen F__law_pushes b__law_pushes g__law_pushes G__law_pushes F__law_row b__law_row g__law_row G__law_row F__law_draws b__law_draws g__law_draws G__law_draws m_range   )
end My
open PySem PySem.W PyProof.Rows
set_option maxHeartbeats 0 in
theorem PySem.Challenge.cw_clicktrain_k72_rows_and_shows_as_texts_holds : PySem.Challenge.rw_clicktrain_k72_rows_and_shows_as_texts.Holds := by
  w_on; o_law; k_head; (case hw => w_witness2)
  k_fill
  refine Ct.walk_ofX (l := PySem.Challenge.rw_clicktrain_k72_rows_and_shows_as_texts) (n := 63) (x := "_law_script") (defs := ["read_number"]) rfl (by decide) rfl (by decide +kernel) (fun w h Y => PySem.W.kIn_of Y) ?F
  case F =>
    intro w mg fa h KX G hmg
    refine' My.all_mk KX G hmg ?a0 ?l0 ?c0 ?k0 ?a1 ?l1 ?c1 ?k1 ?a2 ?l2 ?c2 ?k2 ?a3 ?l3 ?c3 ?k3 ?a4 ?l4 ?c4 ?k4 ?a5 ?l5 ?c5 ?k5 ?a6 ?l6 ?c6 ?k6 ?a7 ?l7 ?c7 ?k7 ?a8 ?l8 ?c8 ?k8 ?a9 ?l9 ?c9 ?k9 ?a10 ?l10 ?c10 ?k10 ?a11 ?l11 ?c11 ?k11 ?a12 ?l12 ?c12 ?k12 ?a13 ?l13 ?c13 ?k13 ?a14 ?l14 ?c14 ?k14 ?a15 ?l15 ?c15 ?k15 ?a16 ?l16 ?c16 ?k16 ?a17 ?l17 ?c17 ?k17 ?a18 ?l18 ?c18 ?k18 ?a19 ?l19 ?c19 ?k19 ?a20 ?l20 ?c20 ?k20 ?a21 ?l21 ?c21 ?k21 ?a22 ?l22 ?c22 ?k22 ?a23 ?l23 ?c23 ?k23 ?a24 ?l24 ?c24 ?k24 ?a25 ?l25 ?c25 ?k25 ?a26 ?l26 ?c26 ?k26 ?a27 ?l27 ?c27 ?k27 ?a28 ?l28 ?c28 ?k28 ?a29 ?l29 ?c29 ?k29 ?a30 ?l30 ?c30 ?k30 ?a31 ?l31 ?c31 ?k31 ?a32 ?l32 ?c32 ?k32 ?a33 ?l33 ?c33 ?k33 ?a34 ?l34 ?c34 ?k34 ?a35 ?l35 ?c35 ?k35 ?a36 ?l36 ?c36 ?k36 ?a37 ?l37 ?c37 ?k37 ?a38 ?l38 ?c38 ?k38 ?z0 ?z1 ?z2 ?z3 ?z4 ?z5 ?z6 ?z7 ?z8 ?z9 ?v_FIGURES ?v_MOST_FIGURES ?v_WAY_OF_SIGN ?t_WAY_OF_SIGN ?sy_WAY_OF_SIGN ?v_SHOWN_OF_TEXT ?t_SHOWN_OF_TEXT ?sy_SHOWN_OF_TEXT ?tb_read_number
    (case a0 => k_is)
    (case l0 => k_is)
    (case c0 => k_is)
    (case k0 => k_is)
    (case a1 => k_is)
    (case l1 => k_is)
    (case c1 => k_is)
    (case k1 => k_is)
    (case a2 => k_is)
    (case l2 => k_is)
    (case c2 => k_is)
    (case k2 => k_is)
    (case a3 => k_is)
    (case l3 => k_is)
    (case c3 => k_is)
    (case k3 => k_is)
    (case a4 => k_is)
    (case l4 => k_is)
    (case c4 => k_is)
    (case k4 => k_is)
    (case a5 => k_is)
    (case l5 => k_is)
    (case c5 => k_is)
    (case k5 => k_is)
    (case a6 => k_is)
    (case l6 => k_is)
    (case c6 => k_is)
    (case k6 => k_is)
    (case a7 => k_is)
    (case l7 => k_is)
    (case c7 => k_is)
    (case k7 => k_is)
    (case a8 => k_is)
    (case l8 => k_is)
    (case c8 => k_is)
    (case k8 => k_is)
    (case a9 => k_is)
    (case l9 => k_is)
    (case c9 => k_is)
    (case k9 => k_is)
    (case a10 => k_is)
    (case l10 => k_is)
    (case c10 => k_is)
    (case k10 => k_is)
    (case a11 => k_is)
    (case l11 => k_is)
    (case c11 => k_is)
    (case k11 => k_is)
    (case a12 => k_is)
    (case l12 => k_is)
    (case c12 => k_is)
    (case k12 => k_is)
    (case a13 => k_is)
    (case l13 => k_is)
    (case c13 => k_is)
    (case k13 => k_is)
    (case a14 => k_is)
    (case l14 => k_is)
    (case c14 => k_is)
    (case k14 => k_is)
    (case a15 => k_is)
    (case l15 => k_is)
    (case c15 => k_is)
    (case k15 => k_is)
    (case a16 => k_is)
    (case l16 => k_is)
    (case c16 => k_is)
    (case k16 => k_is)
    (case a17 => k_is)
    (case l17 => k_is)
    (case c17 => k_is)
    (case k17 => k_is)
    (case a18 => k_is)
    (case l18 => k_is)
    (case c18 => k_is)
    (case k18 => k_is)
    (case a19 => k_is)
    (case l19 => k_is)
    (case c19 => k_is)
    (case k19 => k_is)
    (case a20 => k_is)
    (case l20 => k_is)
    (case c20 => k_is)
    (case k20 => k_is)
    (case a21 => k_is)
    (case l21 => k_is)
    (case c21 => k_is)
    (case k21 => k_is)
    (case a22 => k_is)
    (case l22 => k_is)
    (case c22 => k_is)
    (case k22 => k_is)
    (case a23 => k_is)
    (case l23 => k_is)
    (case c23 => k_is)
    (case k23 => k_is)
    (case a24 => k_is)
    (case l24 => k_is)
    (case c24 => k_is)
    (case k24 => k_is)
    (case a25 => k_is)
    (case l25 => k_is)
    (case c25 => k_is)
    (case k25 => k_is)
    (case a26 => k_is)
    (case l26 => k_is)
    (case c26 => k_is)
    (case k26 => k_is)
    (case a27 => k_is)
    (case l27 => k_is)
    (case c27 => k_is)
    (case k27 => k_is)
    (case a28 => k_is)
    (case l28 => k_is)
    (case c28 => k_is)
    (case k28 => k_is)
    (case a29 => k_is)
    (case l29 => k_is)
    (case c29 => k_is)
    (case k29 => k_is)
    (case a30 => k_is)
    (case l30 => k_is)
    (case c30 => k_is)
    (case k30 => k_is)
    (case a31 => k_is)
    (case l31 => k_is)
    (case c31 => k_is)
    (case k31 => k_is)
    (case a32 => k_is)
    (case l32 => k_is)
    (case c32 => k_is)
    (case k32 => k_is)
    (case a33 => k_is)
    (case l33 => k_is)
    (case c33 => k_is)
    (case k33 => k_is)
    (case a34 => k_is)
    (case l34 => k_is)
    (case c34 => k_is)
    (case k34 => k_is)
    (case a35 => k_is)
    (case l35 => k_is)
    (case c35 => k_is)
    (case k35 => k_is)
    (case a36 => k_is)
    (case l36 => k_is)
    (case c36 => k_is)
    (case k36 => k_is)
    (case a37 => k_is)
    (case l37 => k_is)
    (case c37 => k_is)
    (case k37 => k_is)
    (case a38 => k_is)
    (case l38 => k_is)
    (case c38 => k_is)
    (case k38 => k_is)
    (case z0 => k_is)
    (case z1 => k_is)
    (case z2 => k_is)
    (case z3 => k_is)
    (case z4 => k_is)
    (case z5 => k_is)
    (case z6 => k_is)
    (case z7 => k_is)
    (case z8 => k_is)
    (case z9 => k_is)
    (case v_FIGURES => k_is)
    (case v_MOST_FIGURES => k_is)
    (case v_WAY_OF_SIGN => k_is)
    (case t_WAY_OF_SIGN => k_is)
    (case sy_WAY_OF_SIGN => first | rfl | decide | k_is)
    (case v_SHOWN_OF_TEXT => k_is)
    (case t_SHOWN_OF_TEXT => k_is)
    (case sy_SHOWN_OF_TEXT => first | rfl | decide | k_is)
    (case tb_read_number => first | kernel_rfl | rfl)
