import PyProof.Rows.All
import Wide.All
import OpenK.AllK
import Wide.FinOn
import HandS.ForMost
import HandS.Wide
import HandS.IsInst
import HandS.Walk
import HandS.Star
import HandS.TupAny
import HandS.Style
import HandS.Deep
import KE.GoesNew
import HandS.BoundDict
import HandS.SetBool
import HandS.Strs
import HandS.SortInts
import KE.GoesEnumKw
import HandS.SetFor
import HandS.GenList
import HandS.AnyAll
import HandS.EndBits
import HandS.Exc
import HandS.ExcOwn
import HandS.ExcIs
import HandS.WordsExc
import HandS.Text
import KE.RegKIsAll
import PySem.Challenge.RW_clicktrain_k64_shows_refused
set_option Elab.async false
set_option linter.all false
set_option maxRecDepth 100000
set_option maxHeartbeats 4000000
namespace Ct
open PySem PySem.Spec PyProof.Rows L2
/-! walking a reading, construct by construct -/
section
variable {K : PySem.W.Frag} {H : Hp} {σ : L2.St} {D : Ends} {Q : VK} {QB : Bool → Hp → Prop} {QA : List V → Hp → Prop} {QS : L2.St → Hp → Prop}
theorem w_seq {t u : TS} (h : t { D with nx := u D } σ H) : tSeq t u D σ H := h
theorem w_join {t u : TS} (J : L2.St → Hp → Prop) (h1 : ∀ σ' H', J σ' H' → u D σ' H') (h2 : ∀ N : L2.St → Hp → Prop, (∀ σ' H', J σ' H' → N σ' H') → t { D with nx := N } σ H) : tSeq t u D σ H := h2 (u D) h1
theorem w_asg {te : TE} {g : TG} (h : te σ H fun x H1 => g x σ H1 D.nx) : tAsg te g D σ H := h
theorem w_ret {te : TE} (h : te σ H D.rt) : tRet te D σ H := h
theorem w_ifS {c : TT} {t u : TS} (h : c σ H fun b H1 => if b = true then t D σ H1 else u D σ H1) : tIfS c t u D σ H := h
theorem w_drop {te : TE} (h : te σ H fun _ H1 => D.nx σ H1) : tDrop te D σ H := h
theorem w_next (h : D.nx σ H) : tNext D σ H := h
theorem w_var {i : Nat} {v : V} (e : σ[i]? = some (some v)) (h : Q v H) : tVar i σ H Q := ⟨v, e, h⟩
theorem w_c {v : V} (h : Q v H) : tC v σ H Q := h
theorem w_op {r : R2} {ta tb : TE} (h : ta σ H fun x H1 => tb σ H1 fun y H2 => r x y H2 Q) : tOp r ta tb σ H Q := h
theorem w_chain {r r' : R2} {ta tb tc : TE} (h : ta σ H fun x H1 => tb σ H1 fun y H2 => r x y H2 fun z H3 => ∃ k, z = .bl k ∧ (if k = true then tc σ H3 fun w' H4 => r' y w' H4 Q else Q (.bl false) H3)) : tChain r r' ta tb tc σ H Q := h
theorem w_un {r : V → Hp → VK → Prop} {ta : TE} (h : ta σ H fun x H1 => r x H1 Q) : tUn r ta σ H Q := h
theorem w_test {t : TE} (h : t σ H fun x H' => ∃ k, x = .bl k ∧ QB k H') : tTest t σ H QB := h
theorem w_B {t : TE} (h : t σ H fun x H' => ∃ k, x = .bl k ∧ QB k H') : tB t σ H QB := h
theorem w_and {t u : TT} (h : t σ H fun c H1 => if c = true then u σ H1 QB else QB false H1) : tAnd t u σ H QB := h
theorem w_or {t u : TT} (h : t σ H fun c H1 => if c = true then QB true H1 else u σ H1 QB) : tOr t u σ H QB := h
theorem w_not {t : TT} (h : t σ H fun c H1 => QB (!c) H1) : tNot t σ H QB := h
theorem w_if {t : TT} {ta tb : TE} (h : t σ H fun c H1 => if c = true then ta σ H1 Q else tb σ H1 Q) : tIf t ta tb σ H Q := h
theorem w_nil (h : QA [] H) : tNil σ H QA := h
theorem w_cons {ta : TE} {tr : TA} (h : ta σ H fun x H1 => tr σ H1 fun xs H2 => QA (x :: xs) H2) : tCons ta tr σ H QA := h
theorem w_cb {r : List V → Hp → VK → Prop} {t : TA} (h : t σ H fun vs H1 => r vs H1 Q) : tCB r t σ H Q := h
theorem w_call {sp : Sp} {dvs : List V} {E : XK} {t : TA} (h : t σ H fun vs H1 => sp (vs ++ dvs) H1 Q E) : tCall sp dvs E t σ H Q := h
theorem w_name {i : Nat} {v : V} {σ' : L2.St} (e : σ.set i (some v) = σ') (h : QS σ' H) : gName i v σ H QS := by
  unfold gName
  rw [e]
  exact h
theorem w_rI {C : Int → Int → Prop} {g : Int → Int → V} {i j : Int} (c : C i j) (h : Q (g i j) H) : rI C g (.int i) (.int j) H Q := ⟨i, j, rfl, rfl, c, h⟩
theorem w_rI0 {g : Int → Int → V} {i j : Int} (h : Q (g i j) H) : rI0 g (.int i) (.int j) H Q := ⟨i, j, rfl, rfl, h⟩
theorem w_rU {g : Int → V} {i : Int} (h : Q (g i) H) : rU g (.int i) H Q := ⟨i, rfl, h⟩
theorem w_rEqI {i j : Int} (h : Q (.bl (decide (i = j))) H) : rEq (.int i) (.int j) H Q := by
  refine ⟨rfl, ?_⟩
  rw [show decide (V.int i = V.int j) = decide (i = j) from by
    by_cases e : i = j
    · subst e
      rw [decide_eq_true rfl, decide_eq_true rfl]
    · rw [decide_eq_false e, decide_eq_false fun z => e (V.int.inj z)]]
  exact h
theorem w_rNeI {i j : Int} (h : Q (.bl (!decide (i = j))) H) : rNe (.int i) (.int j) H Q := by
  refine ⟨rfl, ?_⟩
  rw [show decide (V.int i = V.int j) = decide (i = j) from by
    by_cases e : i = j
    · subst e
      rw [decide_eq_true rfl, decide_eq_true rfl]
    · rw [decide_eq_false e, decide_eq_false fun z => e (V.int.inj z)]]
  exact h
theorem w_rEqS {x y : Str} {b : Bool} (e : decide (V.str x = V.str y) = b) (h : Q (.bl b) H) : rEq (.str x) (.str y) H Q := by
  refine ⟨rfl, ?_⟩
  rw [e]
  exact h
theorem w_bl {b : Bool} {QP : Bool → Prop} (h : QP b) : ∃ k, V.bl b = .bl k ∧ QP k := ⟨b, rfl, h⟩
theorem w_in {i : Int} {QP : Int → Prop} (h : QP i) : ∃ k, V.int i = .int k ∧ QP k := ⟨i, rfl, h⟩
theorem w_ixT {p : Addr} {xs : List V} {i : Int} {v : V} (h : SqT K H p xs) (e : atI xs i = some v) (q : Q v H) : rIxT K (.ref p) (.int i) H Q := ⟨p, xs, i, v, rfl, rfl, h, e, q⟩
theorem w_ixL {p : Addr} {xs : List V} {i : Int} {v : V} (h : SqL K H p xs) (e : atI xs i = some v) (q : Q v H) : rIxL K (.ref p) (.int i) H Q := ⟨p, xs, i, v, rfl, rfl, h, e, q⟩
theorem w_tup {t : TA} (h : t σ H fun xs H1 => xs.length ≤ sizeLine ∧ ∀ p, H1 p = none → Q (.ref p) (upd H1 p (.tup xs))) : tTup t σ H Q := h
theorem w_lst {t : TA} (h : t σ H fun xs H1 => xs.length ≤ sizeLine ∧ ∀ p, H1 p = none → Q (.ref p) (upd H1 p (.lst xs))) : tLst t σ H Q := h
theorem w_bm {T : String} {r : V → List V → Hp → VK → Prop} {to : TE} {t : TA} (h : to σ H fun x H1 => tyV K T x H1 ∧ t σ H1 fun xs H2 => r x xs H2 Q) : tBM K T r to t σ H Q := h
theorem w_inT {p : Addr} {x : Int} {ns : List Int} (h : SqT K H p (ns.map V.int)) (q : Q (.bl (decide (x ∈ ns))) H) : rIn K false (.int x) (.ref p) H Q := by
  refine ⟨p, ns.map V.int, rfl, .inr h, rfl, ?_, ?_⟩
  · rw [List.all_map]
    exact List.all_eq_true.mpr fun _ _ => rfl
  · rw [if_neg Bool.false_ne_true]
    rw [show inV (.int x) (ns.map V.int) = decide (x ∈ ns) from by
      unfold inV
      rw [List.any_map]
      by_cases e : x ∈ ns
      · rw [decide_eq_true e, List.any_eq_true]
        exact ⟨x, e, by show (x == x) = true; exact beq_self_eq_true x⟩
      · rw [decide_eq_false e, List.any_eq_false]
        intro y hy
        show ¬ (y == x) = true
        intro z
        have : y = x := eq_of_beq z
        subst this
        exact e hy]
    exact q
theorem w_break (h : D.bk σ H) : tBreak D σ H := h
theorem w_cont (h : D.ct σ H) : tCont D σ H := h
theorem w_nT {A B : Prop} (h : B) : if (!true) = true then A else B := h
theorem w_nF {A B : Prop} (h : A) : if (!false) = true then A else B := h
theorem w_ite {c A B : Prop} [Decidable c] (h1 : c → A) (h2 : ¬ c → B) : if (decide c) = true then A else B := by
  by_cases h : c
  · rw [if_pos (decide_eq_true h)]
    exact h1 h
  · rw [if_neg (by rw [decide_eq_false h]; exact Bool.false_ne_true)]
    exact h2 h
theorem w_iteN {c A B : Prop} [Decidable c] (h1 : ¬ c → A) (h2 : c → B) : if (!decide c) = true then A else B := by
  by_cases h : c
  · rw [decide_eq_true h]
    exact iteF (h2 h)
  · rw [decide_eq_false h]
    exact iteT (h1 h)
theorem w_st {t : TS} {σ' : L2.St} (e : σ = σ') (h : t D σ' H) : t D σ H := by
  rw [e]
  exact h
end
/-! heaps -/
theorem same_new {H0 H : Hp} {p : Addr} {o : HO} (s : Same H0 H) (h : H0 p = none) : Same H0 (upd H p o) := fun b x e => by
  rw [upd_ne (ne_of_none e h)]
  exact s b x e
theorem same_upd {H : Hp} {p : Addr} {o : HO} (h : H p = none) : Same H (upd H p o) := same_new (Same.refl H) h
theorem Same.tup {K : PySem.W.Frag} {H H' : Hp} {a : Addr} {xs : List V} (e : Same H H') (h : SqT K H a xs) : SqT K H' a xs := by
  rcases h with (h | ⟨o, h⟩) | h
  · exact .inl (.inl (e _ _ h))
  · exact .inl (.inr ⟨o, e _ _ h⟩)
  · exact .inr h
theorem Same.new {H H' : Hp} {p : Addr} (s : Same H H') (h : H' p = none) : H p = none := s.free h
mutual
theorem dp_same {K : PySem.W.Frag} {H H' : Hp} (e : Same H H') : ∀ {v : V} {d : PyData}, Dp K H v d → Dp K H' v d
  | _, _, .non => .non
  | _, _, .bl b => .bl b
  | _, _, .int i => .int i
  | _, _, .str x => .str x
  | _, _, .lst h t => .lst (e.seq h) (dpAll_same e t)
  | _, _, .tup h t => .tup (Same.tup e h) (dpAll_same e t)
theorem dpAll_same {K : PySem.W.Frag} {H H' : Hp} (e : Same H H') : ∀ {vs : List V} {ds : List PyData}, DpAll K H vs ds → DpAll K H' vs ds
  | _, _, .nil => .nil
  | _, _, .cons h t => .cons (dp_same e h) (dpAll_same e t)
end
theorem dpAll_len {K : PySem.W.Frag} {H : Hp} : ∀ {vs : List V} {ds : List PyData}, DpAll K H vs ds → vs.length = ds.length
  | _, _, .nil => rfl
  | _, _, .cons _ t => by rw [List.length_cons, List.length_cons, dpAll_len t]
theorem dpAll_get {K : PySem.W.Frag} {H : Hp} : ∀ {vs : List V} {ds : List PyData} {i : Nat} {d : PyData}, DpAll K H vs ds → ds[i]? = some d → ∃ v, vs[i]? = some v ∧ Dp K H v d
  | _, _, _, _, .nil, e => by simp at e
  | _, _, 0, _, .cons h _, e => by
    cases (Option.some.inj e)
    exact ⟨_, rfl, h⟩
  | _, _, i + 1, _, .cons _ t, e => dpAll_get (i := i) t e
theorem dpAll_ints {K : PySem.W.Frag} {H : Hp} : ∀ (ns : List Int), DpAll K H (ns.map V.int) (ns.map PyData.int)
  | [] => .nil
  | n :: r => .cons (.int n) (dpAll_ints r)
theorem dpAll_ints_inv {K : PySem.W.Frag} {H : Hp} : ∀ {vs : List V} (ns : List Int), DpAll K H vs (ns.map PyData.int) → vs = ns.map V.int
  | _, [], .nil => rfl
  | _, n :: r, .cons (.int _) t => by rw [dpAll_ints_inv r t, List.map_cons]
theorem dpAll_app {K : PySem.W.Frag} {H : Hp} : ∀ {vs ws : List V} {ds es : List PyData}, DpAll K H vs ds → DpAll K H ws es → DpAll K H (vs ++ ws) (ds ++ es)
  | _, _, _, _, .nil, h => h
  | _, _, _, _, .cons a t, h => .cons a (dpAll_app t h)
theorem ix_at {n j : Nat} {k : Int} (e : k = (j : Int)) (h : j < n) : ixN n k = some j := by
  subst e
  unfold ixN
  rw [if_pos (Int.natCast_nonneg j), if_pos (by omega)]
  rfl
theorem cutV_map (ms : List Int) (lo hi : Option Int) : cutV (ms.map V.int) lo hi = ((ms.drop (HT.sIx ms.length 0 lo)).take (HT.sIx ms.length ms.length hi - HT.sIx ms.length 0 lo)).map V.int := by
  unfold cutV
  rw [List.length_map, List.map_take, List.map_drop]
theorem at0 {x : V} {r : List V} : atI (x :: r) 0 = some x := atI_nat (xs := x :: r) (j := 0) rfl
theorem at1 {x y : V} {r : List V} : atI (x :: y :: r) 1 = some y := atI_nat (xs := x :: y :: r) (j := 1) rfl
theorem at2 {x y z : V} {r : List V} : atI (x :: y :: z :: r) 2 = some z := atI_nat (xs := x :: y :: z :: r) (j := 2) rfl
theorem len2 {n : Nat} (h : Nat.ble n sizeLine = true) : n ≤ sizeLine := Nat.le_of_ble_eq_true h
/-! sizes of numbers -/
theorem div_ok {i j : Int} (h : 0 < j) (h2 : j < 2 ^ 250) : CDivW i j := wide_div (b := 250) h (by omega) (by decide) (by decide)
theorem mul_ok {i j : Int} (h1 : -(2 ^ 250) < i) (h2 : i < 2 ^ 250) (h3 : -(2 ^ 250) < j) (h4 : j < 2 ^ 250) : CMulW i j := wide_mul (a := 250) (b := 250) (by omega) (by omega) (by decide) (by decide) (by decide)
/-- a power whose bits are few -/
def CPowB (i j : Int) : Prop := 0 ≤ j ∧ (Builtin.Int.intBits i : Int) * j ≤ 2 ^ 27
theorem op_powB {X : Cx} : OpR X (binaryOp .Pow) (rI CPowB fun i j => .int (i ^ j.toNat)) := opI fun _ _ _ _ _ _ _ hc q => pow_int hc.1 hc.2 q
/-! loops, targets, stores -/
section
variable {K : PySem.W.Frag} {H : Hp} {σ : L2.St} {D : Ends} {Q : VK} {QA : List V → Hp → Prop} {QS : L2.St → Hp → Prop} {R : It → Hp → Prop}
def FB (J : It) (g : TG) (tb : TS) (D : Ends) (σ : L2.St) (H : Hp) : Prop := tFor (fun _ H R => R J H) g tb D σ H
theorem w_for {wi : TI} {g : TG} {tb : TS} (h : wi σ H fun J H1 => FB J g tb D σ H1) : tFor wi g tb D σ H := h
def RG1 (vs : List V) (H : Hp) (R : It → Hp → Prop) : Prop := iRng1 (fun _ H Q => Q vs H) [] H R
def RG2 (vs : List V) (H : Hp) (R : It → Hp → Prop) : Prop := iRng2 (fun _ H Q => Q vs H) [] H R
theorem w_rng1 {ta : TA} (h : ta σ H fun vs H1 => RG1 vs H1 R) : iRng1 ta σ H R := h
theorem w_rng2 {ta : TA} (h : ta σ H fun vs H1 => RG2 vs H1 R) : iRng2 ta σ H R := h
theorem w_RG1 {j : Int} (h1 : -(2 ^ 62) ≤ j) (h2 : j < 2 ^ 62) (h : R (Itr 0 j.toNat) H) : RG1 [.int j] H R := ⟨j, rfl, h1, h2, h⟩
theorem w_RG2 {i j : Int} (h1 : -(2 ^ 62) ≤ i) (h2 : i < 2 ^ 62) (h3 : -(2 ^ 62) ≤ j) (h4 : j < 2 ^ 62) (h : R (Itr i (j - i).toNat) H) : RG2 [.int i, .int j] H R := ⟨i, j, rfl, ⟨h1, h2, h3, h4⟩, h⟩
def IL (K : PySem.W.Frag) (v : V) (H : Hp) (R : It → Hp → Prop) : Prop := iList K (tC v) [] H R
def IT (K : PySem.W.Frag) (v : V) (H : Hp) (R : It → Hp → Prop) : Prop := iTup K (tC v) [] H R
theorem w_ilist {tl : TE} (h : tl σ H fun v H1 => IL K v H1 R) : iList K tl σ H R := h
theorem w_itup {tl : TE} (h : tl σ H fun v H1 => IT K v H1 R) : iTup K tl σ H R := h
theorem w_IL {a : Addr} {xs : List V} (h : SqL K H a xs) (q : R (Itl K a) H) : IL K (.ref a) H R := ⟨a, rfl, ⟨xs, h⟩, q⟩
theorem w_IT {a : Addr} {xs : List V} (h : SqT K H a xs) (q : R (Itt K a) H) : IT K (.ref a) H R := ⟨a, rfl, ⟨xs, h⟩, q⟩
theorem fb_range {lo : Int} {n : Nat} {g : TG} {tb : TS} (Pv : Nat → L2.St → Hp → Prop) (h0 : Pv 0 σ H)
    (hs : ∀ i σ H, i < n → Pv i σ H → g (.int (lo + i)) σ H fun σ2 H2 => tb { D with nx := Pv (i + 1), ct := Pv (i + 1), bk := D.nx } σ2 H2) (hd : ∀ σ H, Pv n σ H → D.nx σ H) : FB (Itr lo n) g tb D σ H := for_range Pv h0 hs hd
theorem fb_list {a : Addr} (xs : List V) {g : TG} {tb : TS} (Pv : Nat → L2.St → Hp → Prop) (h0 : Pv 0 σ H) (hl : ∀ i σ H, i ≤ xs.length → Pv i σ H → SqL K H a xs)
    (hs : ∀ i x σ H, xs[i]? = some x → Pv i σ H → g x σ H fun σ2 H2 => tb { D with nx := Pv (i + 1), ct := Pv (i + 1), bk := D.nx } σ2 H2) (hd : ∀ σ H, Pv xs.length σ H → D.nx σ H) : FB (Itl K a) g tb D σ H := for_list Pv h0 hl hs hd
theorem fb_tup {a : Addr} (xs : List V) {g : TG} {tb : TS} (Pv : Nat → L2.St → Hp → Prop) (h0 : Pv 0 σ H) (hl : ∀ i σ H, i ≤ xs.length → Pv i σ H → SqT K H a xs)
    (hs : ∀ i x σ H, xs[i]? = some x → Pv i σ H → g x σ H fun σ2 H2 => tb { D with nx := Pv (i + 1), ct := Pv (i + 1), bk := D.nx } σ2 H2) (hd : ∀ σ H, Pv xs.length σ H → D.nx σ H) : FB (Itt K a) g tb D σ H := for_tup Pv h0 hl hs hd
def LB (J : It) (g : TG) (tt : TT) (te : TE) (vs : List Nat) (σ : L2.St) (H : Hp) (Q : VK) : Prop := tLc (fun _ H R => R J H) g tt te vs σ H Q
theorem w_lc {wi : TI} {g : TG} {tt : TT} {te : TE} {vs : List Nat} (h : wi σ H fun J H1 => LB J g tt te vs σ H1 Q) : tLc wi g tt te vs σ H Q := h
theorem lb_range {lo : Int} {n : Nat} {g : TG} {tt : TT} {te : TE} {vs : List Nat} (Pv : Addr → Nat → Hp → Prop) (h0 : ∀ D, H D = none → Pv D 0 (upd H D (.lst [])))
    (hs : ∀ D, H D = none → ∀ i H1, i < n → Pv D i H1 → g (.int (lo + i)) (wipe σ vs) H1 fun σ2 H2 => wipe σ2 vs = wipe σ vs ∧ tt σ2 H2 fun b H3 =>
      if b = true then te σ2 H3 fun y H4 => ∃ acc, H4 D = some (.lst acc) ∧ acc.length < sizeLine ∧ Pv D (i + 1) (upd H4 D (.lst (acc ++ [y]))) else Pv D (i + 1) H3) (hd : ∀ D, H D = none → ∀ H1, Pv D n H1 → Q (.ref D) H1) : LB (Itr lo n) g tt te vs σ H Q :=
  fun D hD => lc_range (Pv D) (h0 D hD) (hs D hD) (hd D hD)
theorem lb_list {a : Addr} (xs : List V) {g : TG} {tt : TT} {te : TE} {vs : List Nat} (Pv : Addr → Nat → Hp → Prop) (h0 : ∀ D, H D = none → Pv D 0 (upd H D (.lst []))) (hl : ∀ D, H D = none → ∀ i H1, i ≤ xs.length → Pv D i H1 → SqL K H1 a xs)
    (hs : ∀ D, H D = none → ∀ i x H1, xs[i]? = some x → Pv D i H1 → g x (wipe σ vs) H1 fun σ2 H2 => wipe σ2 vs = wipe σ vs ∧ tt σ2 H2 fun b H3 =>
      if b = true then te σ2 H3 fun y H4 => ∃ acc, H4 D = some (.lst acc) ∧ acc.length < sizeLine ∧ Pv D (i + 1) (upd H4 D (.lst (acc ++ [y]))) else Pv D (i + 1) H3) (hd : ∀ D, H D = none → ∀ H1, Pv D xs.length H1 → Q (.ref D) H1) : LB (Itl K a) g tt te vs σ H Q :=
  fun D hD => lc_list (Pv D) (h0 D hD) (hl D hD) (hs D hD) (hd D hD)
def IE (K : PySem.W.Frag) (vs : List V) (H : Hp) (R : It → Hp → Prop) : Prop := iEnum K (fun _ H Q => Q vs H) [] H R
theorem w_enum {ta : TA} (h : ta σ H fun vs H1 => IE K vs H1 R) : iEnum K ta σ H R := h
theorem w_IE {a : Addr} {xs : List V} (h : SqL K H a xs) (q : R (Ite K a) H) : IE K [.ref a] H R := ⟨a, xs, rfl, h, q⟩
theorem lb_enum {a : Addr} (xs : List V) {g : TG} {tt : TT} {te : TE} {vs : List Nat} (Pv : Addr → Nat → Hp → Prop) (h0 : ∀ D, H D = none → Pv D 0 (upd H D (.lst []))) (hl : ∀ D, H D = none → ∀ i H1, i ≤ xs.length → Pv D i H1 → SqL K H1 a xs)
    (hs : ∀ D, H D = none → ∀ i v T H1, xs[i]? = some v → Pv D i H1 → H1 T = none → g (.ref T) (wipe σ vs) (upd H1 T (.tup [.int (i : Nat), v])) fun σ2 H2 => wipe σ2 vs = wipe σ vs ∧ tt σ2 H2 fun b H3 =>
      if b = true then te σ2 H3 fun y H4 => ∃ acc, H4 D = some (.lst acc) ∧ acc.length < sizeLine ∧ Pv D (i + 1) (upd H4 D (.lst (acc ++ [y]))) else Pv D (i + 1) H3) (hd : ∀ D, H D = none → ∀ H1, Pv D xs.length H1 → Q (.ref D) H1) : LB (Ite K a) g tt te vs σ H Q :=
  fun D hD => lc_it (walk_enum (xs := xs)) (Pv D) (h0 D hD) (hl D hD) (fun i x H1 H2 _ p y => by
    obtain ⟨T, u, v, rfl, hT, rfl, e1, e2⟩ := y
    cases Option.some.inj e1
    exact hs D hD i v T H1 e2 p hT) (hd D hD)
theorem w_yes {QB : Bool → Hp → Prop} (h : QB true H) : tYes σ H QB := h
theorem w_gtup {n : Nat} {t : TGs} {a : Addr} {xs : List V} (h : SqT K H a xs) (e : xs.length = n) (q : t xs σ H QS) : gTup K n t (.ref a) σ H QS := ⟨a, xs, rfl, h, e, q⟩
theorem w_gcons {t : TG} {u : TGs} {v : V} {r : List V} (h : t v σ H fun σ' H' => u r σ' H' QS) : gCons t u (v :: r) σ H QS := ⟨v, r, rfl, h⟩
theorem w_gnil (h : QS σ H) : gNil [] σ H QS := ⟨rfl, h⟩
theorem w_gsub {to ti : TE} {t : TSet} {v : V} (h : to σ H fun o H1 => ti σ H1 fun i H2 => t o i v H2 fun H3 => QS σ H3) : gSub to ti t v σ H QS := h
theorem w_setL {p : Addr} {xs : List V} {k : Int} {j : Nat} {v : V} {QH : Hp → Prop} (h : H p = some (.lst xs)) (e : ixN xs.length k = some j) (q : QH (upd H p (.lst (xs.set j v)))) : rSetL (.ref p) (.int k) v H QH := ⟨p, xs, k, j, rfl, rfl, h, e, q⟩
theorem w_aug {i : Nat} {te : TE} {ti : TIp} {x : V} (e : σ[i]? = some (some x)) (h : te σ H fun y H1 => ti x y H1 fun z H2 => D.nx (σ.set i (some z)) H2) : tAug i te ti D σ H := ⟨x, e, h⟩
theorem w_ipI {f : Int → Int → Int} {i j : Int} (h : Q (.int (f i j)) H) : ipI f (.int i) (.int j) H Q := ⟨i, j, rfl, rfl, h⟩
theorem w_append {l : Addr} {xs : List V} {y : V} (h : H l = some (.lst xs)) (hl : xs.length < sizeLine) (q : Q .non (upd H l (.lst (xs ++ [y])))) : rAppend (.ref l) [y] H Q := ⟨l, xs, y, rfl, rfl, h, hl, q⟩
theorem ty_list {l : Addr} {xs : List V} (h : H l = some (.lst xs)) : tyV K "list" (.ref l) H := .inl ⟨rfl, _, .inl (.inl h)⟩
theorem w_mod {i j : Int} (h : 0 < j) (q : ∀ r, 0 ≤ r → r < j → Q (.int r) H) : rI (fun _ j => 0 < j) (fun i j => .int (i % j)) (.int i) (.int j) H Q :=
  ⟨i, j, rfl, rfl, h, q _ (Int.emod_nonneg _ (by omega)) (Int.emod_lt_of_pos _ h)⟩
theorem w_div {i j : Int} (h : CDivW i j) (q : ∀ r, Q (.int r) H) : rI CDivW (fun i j => .int (i / j)) (.int i) (.int j) H Q := ⟨i, j, rfl, rfl, h, q _⟩
theorem w_rIv {C : Int → Int → Prop} {g : Int → Int → V} {i j : Int} (v : V) (c : C i j) (e : g i j = v) (h : Q v H) : rI C g (.int i) (.int j) H Q := ⟨i, j, rfl, rfl, c, by rw [e]; exact h⟩
theorem w_isi {x : V} {n : String} {t : Value} {b : Bool} (ty : TyX K H x t) (k : PySem.W.kitOne K t (.type n) = some b) (q : Q (.bl b) H) : rIsi K [x, .ty n] H Q := ⟨x, .ty n, t, .type n, b, rfl, .ty n, ty, k, q⟩
theorem w_andV {ta tb : TE} (h : ta σ H fun x H1 => ∃ c, x = .bl c ∧ if c = true then tb σ H1 Q else Q (.bl false) H1) : tAndV ta tb σ H Q := h
theorem w_orV {ta tb : TE} (h : ta σ H fun x H1 => ∃ c, x = .bl c ∧ if c = true then Q (.bl true) H1 else tb σ H1 Q) : tOrV ta tb σ H Q := h
theorem w_notV {ta : TE} (h : ta σ H fun x H1 => ∃ c, x = .bl c ∧ Q (.bl (!c)) H1) : tNotV ta σ H Q := h
theorem w_slL {a : Addr} {xs : List V} {lo hi : Option Int} (h : SqL K H a xs) (q : ∀ p, H p = none → Q (.ref p) (upd H p (.lst (cutV xs lo hi)))) : rSlL K (.ref a) lo hi H Q := ⟨a, xs, rfl, h, q⟩
theorem w_sl {r : V → Option Int → Option Int → Hp → VK → Prop} {te : TE} {tl th : TO} (h : te σ H fun x H1 => tl σ H1 fun l H2 => th σ H2 fun u H3 => r x l u H3 Q) : tSl r te tl th σ H Q := h
theorem w_nopart {QO : Option Int → Hp → Prop} (h : QO none H) : tNoPart σ H QO := h
theorem w_part {QO : Option Int → Hp → Prop} {t : TE} (h : t σ H fun x H1 => ∃ i, x = .int i ∧ QO (some i) H1) : tPart t σ H QO := h
end
end Ct

namespace Ct
open PySem PySem.Spec PyProof.Rows L2
/-! parts, stands, what a push does -/
inductive Part where
  | wheel (z : Int) (ms : List Int) | click | rocker | spring (k : Int)
def Part.data : Part → PyData
  | .wheel z ms => .tuple [.str "wheel", .int z, .tuple (ms.map PyData.int)]
  | .click => .tuple [.str "click"]
  | .rocker => .tuple [.str "rocker"]
  | .spring k => .tuple [.str "spring", .int k]
def Part.places : Part → Int
  | .wheel z _ => z
  | .click => 1
  | .rocker => 2
  | .spring k => k
def Rise (z : Int) (ms : List Int) : Prop := ms.Pairwise (· < ·) ∧ ∀ m ∈ ms, 0 ≤ m ∧ m < z
def Part.ok : Part → Prop
  | .wheel z ms => 1 ≤ z ∧ z < 2 ^ 200 ∧ Rise z ms ∧ ms.length ≤ 1000
  | .click => True
  | .rocker => True
  | .spring k => 1 ≤ k ∧ k < 2 ^ 200
theorem Part.ok.pos {p : Part} (h : p.ok) : 1 ≤ p.places ∧ p.places < 2 ^ 200 := by
  cases p with
  | wheel z ms => exact ⟨h.1, h.2.1⟩
  | click => exact ⟨by decide, by decide⟩
  | rocker => exact ⟨by decide, by decide⟩
  | spring k => exact h
/-- the new place and what is given -/
def pp : Part → Int → Int → Int × Int
  | .wheel z ms, x, w => ((x + w) % z, if (if w = 1 then (x + w) % z else x) ∈ ms then w else 0)
  | .click, _, w => (0, if w = 1 then 1 else 0)
  | .rocker, x, w => (if w = 1 then 1 else 0, if w = 1 ∧ x = 0 then 1 else 0)
  | .spring k, x, w => if w = 1 then (if x = k - 1 then (0, 1) else (x + 1, 0)) else (if x - 1 > 0 then x - 1 else 0, 0)
def stands : List Part → Int
  | [] => 1
  | p :: r => p.places * stands r
def Sign (w : Int) : Prop := w = 1 ∨ w = -1
theorem pp_sign (p : Part) (x w : Int) (h : Sign w) : (pp p x w).2 = 0 ∨ Sign (pp p x w).2 := by
  cases p with
  | wheel z ms =>
    by_cases e : (if w = 1 then (x + w) % z else x) ∈ ms
    · rw [show (pp (.wheel z ms) x w).2 = w from if_pos e]
      exact .inr h
    · exact .inl (if_neg e)
  | click =>
    show (if w = 1 then (1 : Int) else 0) = 0 ∨ Sign (if w = 1 then (1 : Int) else 0)
    split
    · exact .inr (.inl rfl)
    · exact .inl rfl
  | rocker =>
    show (if w = 1 ∧ x = 0 then (1 : Int) else 0) = 0 ∨ Sign (if w = 1 ∧ x = 0 then (1 : Int) else 0)
    split
    · exact .inr (.inl rfl)
    · exact .inl rfl
  | spring k =>
    show (if w = 1 then (if x = k - 1 then ((0 : Int), (1 : Int)) else (x + 1, 0)) else (if x - 1 > 0 then x - 1 else 0, 0)).2 = 0 ∨ Sign (if w = 1 then (if x = k - 1 then ((0 : Int), (1 : Int)) else (x + 1, 0)) else (if x - 1 > 0 then x - 1 else 0, 0)).2
    split
    · split
      · exact .inr (.inl rfl)
      · exact .inl rfl
    · exact .inl rfl
/-- one part's turn in a push that goes along a train -/
def stp (ps : List Part) (s : List Int × Int) (n : Nat) : List Int × Int :=
  if s.2 = 0 then s else match ps[n]?, s.1[n]? with
    | some p, some x => (s.1.set n (pp p x s.2).1, (pp p x s.2).2)
    | _, _ => s
def runN (ps : List Part) (i : Nat) (s : List Int × Int) : Nat → List Int × Int
  | 0 => s
  | n + 1 => stp ps (runN ps i s n) (i + n)
theorem stp_zero {ps : List Part} {s : List Int × Int} {n : Nat} (h : s.2 = 0) : stp ps s n = s := by
  unfold stp
  rw [if_pos h]
theorem stp_at {ps : List Part} {s : List Int × Int} {n : Nat} {p : Part} {x : Int} (h : s.2 ≠ 0) (hp : ps[n]? = some p) (hx : s.1[n]? = some x) : stp ps s n = (s.1.set n (pp p x s.2).1, (pp p x s.2).2) := by
  unfold stp
  rw [if_neg h, hp, hx]
theorem runN_zero {ps : List Part} {i : Nat} {s : List Int × Int} {n : Nat} (h : (runN ps i s n).2 = 0) : ∀ m, runN ps i s (n + m) = runN ps i s n
  | 0 => rfl
  | m + 1 => by
    show stp ps (runN ps i s (n + m)) _ = _
    rw [runN_zero h m]
    exact stp_zero h
theorem stp_len (ps : List Part) (s : List Int × Int) (n : Nat) : (stp ps s n).1.length = s.1.length := by
  unfold stp
  split
  · rfl
  · split
    · show (s.1.set n _).length = _
      rw [List.length_set]
    · rfl
theorem runN_len (ps : List Part) (i : Nat) (s : List Int × Int) : ∀ n, (runN ps i s n).1.length = s.1.length
  | 0 => rfl
  | n + 1 => by
    show (stp ps _ _).1.length = _
    rw [stp_len, runN_len ps i s n]
theorem stp_other {ps : List Part} {s : List Int × Int} {n m : Nat} (h : n ≠ m) : (stp ps s n).1[m]? = s.1[m]? := by
  unfold stp
  split
  · rfl
  · split
    · show (s.1.set n _)[m]? = _
      rw [List.getElem?_set_ne h]
    · rfl
/-- parts not come to yet stand as they stood -/
theorem runN_ahead (ps : List Part) (i : Nat) (s : List Int × Int) : ∀ n m, i + n ≤ m → (runN ps i s n).1[m]? = s.1[m]?
  | 0, _, _ => rfl
  | n + 1, m, h => by
    show (stp ps _ _).1[m]? = _
    rw [stp_other (by omega), runN_ahead ps i s n m (by omega)]
theorem runN_sign (ps : List Part) (i : Nat) (s : List Int × Int) (h : Sign s.2) : ∀ n, (runN ps i s n).2 = 0 ∨ Sign (runN ps i s n).2
  | 0 => .inr h
  | n + 1 => by
    show (stp ps _ _).2 = 0 ∨ Sign (stp ps _ _).2
    rcases runN_sign ps i s h n with e | e
    · rw [stp_zero e]
      exact .inl e
    · unfold stp
      split
      · rename_i z
        exact .inl z
      · split
        · exact pp_sign _ _ _ e
        · exact .inr e
def StandOk (ps : List Part) (xs : List Int) : Prop := xs.length = ps.length ∧ ∀ (i : Nat) (p : Part) (x : Int), ps[i]? = some p → xs[i]? = some x → 0 ≤ x ∧ x < p.places
def run (ps : List Part) (xs : List Int) (i : Nat) (w : Int) : List Int × Int := runN ps i (xs, w) (ps.length - i)
/-! what stands for a part -/
section
variable {K : PySem.W.Frag} {H : Hp}
theorem tup_inv {v : V} {ds : List PyData} (h : Dp K H v (.tuple ds)) : ∃ a vs, v = .ref a ∧ SqT K H a vs ∧ DpAll K H vs ds := by
  cases h with
  | tup h t => exact ⟨_, _, rfl, h, t⟩
theorem lst_inv {v : V} {ds : List PyData} (h : Dp K H v (.list ds)) : ∃ a vs, v = .ref a ∧ SqL K H a vs ∧ DpAll K H vs ds := by
  cases h with
  | lst h t => exact ⟨_, _, rfl, h, t⟩
theorem wheel_inv {v : V} {z : Int} {ms : List Int} (h : Dp K H v (Part.wheel z ms).data) : ∃ a b, v = .ref a ∧ SqT K H a [.str "wheel", .int z, .ref b] ∧ SqT K H b (ms.map V.int) := by
  obtain ⟨a, vs, rfl, hs, ht⟩ := tup_inv h
  cases ht with
  | cons h1 t1 => cases h1; cases t1 with
    | cons h2 t2 => cases h2; cases t2 with
      | cons h3 t3 =>
        cases t3
        obtain ⟨b, ws, rfl, hb, hw⟩ := tup_inv h3
        cases dpAll_ints_inv ms hw
        exact ⟨a, b, rfl, hs, hb⟩
theorem spring_inv {v : V} {k : Int} (h : Dp K H v (Part.spring k).data) : ∃ a, v = .ref a ∧ SqT K H a [.str "spring", .int k] := by
  obtain ⟨a, vs, rfl, hs, ht⟩ := tup_inv h
  cases ht with
  | cons h1 t1 => cases h1; cases t1 with
    | cons h2 t2 => cases h2; cases t2; exact ⟨a, rfl, hs⟩
theorem click_inv {v : V} (h : Dp K H v Part.click.data) : ∃ a, v = .ref a ∧ SqT K H a [.str "click"] := by
  obtain ⟨a, vs, rfl, hs, ht⟩ := tup_inv h
  cases ht with
  | cons h1 t1 => cases h1; cases t1; exact ⟨a, rfl, hs⟩
theorem rocker_inv {v : V} (h : Dp K H v Part.rocker.data) : ∃ a, v = .ref a ∧ SqT K H a [.str "rocker"] := by
  obtain ⟨a, vs, rfl, hs, ht⟩ := tup_inv h
  cases ht with
  | cons h1 t1 => cases h1; cases t1; exact ⟨a, rfl, hs⟩
theorem wheel_dp {a b : Addr} {z : Int} {ms : List Int} (h : SqT K H a [.str "wheel", .int z, .ref b]) (hb : SqT K H b (ms.map V.int)) : Dp K H (.ref a) (Part.wheel z ms).data :=
  .tup h (.cons (.str _) (.cons (.int _) (.cons (.tup hb (dpAll_ints ms)) .nil)))
theorem spring_dp {a : Addr} {k : Int} (h : SqT K H a [.str "spring", .int k]) : Dp K H (.ref a) (Part.spring k).data := .tup h (.cons (.str _) (.cons (.int _) .nil))
theorem click_dp {a : Addr} (h : SqT K H a [.str "click"]) : Dp K H (.ref a) Part.click.data := .tup h (.cons (.str _) .nil)
theorem rocker_dp {a : Addr} (h : SqT K H a [.str "rocker"]) : Dp K H (.ref a) Part.rocker.data := .tup h (.cons (.str _) .nil)
/-- a train at a: its parts -/
def TrainAt (K : PySem.W.Frag) (H : Hp) (a : Addr) (ps : List Part) : Prop := ∃ vs, SqL K H a vs ∧ DpAll K H vs (ps.map Part.data)
theorem TrainAt.same {H' : Hp} {a : Addr} {ps : List Part} (e : Same H H') (h : TrainAt K H a ps) : TrainAt K H' a ps := by
  obtain ⟨vs, h1, h2⟩ := h
  exact ⟨vs, e.seq h1, dpAll_same e h2⟩
theorem TrainAt.at {a : Addr} {ps : List Part} {vs : List V} (h2 : DpAll K H vs (ps.map Part.data)) {i : Nat} {p : Part} (e : ps[i]? = some p) : ∃ v, vs[i]? = some v ∧ Dp K H v p.data :=
  dpAll_get h2 (by rw [List.getElem?_map, e]; rfl)
end
/-- a list that is changed leaves the parts as they are -/
theorem sqT_upd {K : PySem.W.Frag} {H : Hp} {a l : Addr} {xs ws : List V} {o : HO} (h : SqT K H a xs) (hl : H l = some (.lst ws)) : SqT K (upd H l o) a xs := by
  rcases h with (h | ⟨u, h⟩) | h
  · exact .inl (.inl (by rw [upd_ne (ne_of h hl (by intro z; cases z))]; exact h))
  · exact .inl (.inr ⟨u, by rw [upd_ne (ne_of h hl (by intro z; cases z))]; exact h⟩)
  · exact .inr h
theorem part_upd {K : PySem.W.Frag} {H : Hp} {l : Addr} {ws : List V} {o : HO} {v : V} {p : Part} (h : Dp K H v p.data) (hl : H l = some (.lst ws)) : Dp K (upd H l o) v p.data := by
  cases p with
  | wheel z ms =>
    obtain ⟨a, b, rfl, ha, hb⟩ := wheel_inv h
    exact wheel_dp (sqT_upd ha hl) (sqT_upd hb hl)
  | click =>
    obtain ⟨a, rfl, ha⟩ := click_inv h
    exact click_dp (sqT_upd ha hl)
  | rocker =>
    obtain ⟨a, rfl, ha⟩ := rocker_inv h
    exact rocker_dp (sqT_upd ha hl)
  | spring k =>
    obtain ⟨a, rfl, ha⟩ := spring_inv h
    exact spring_dp (sqT_upd ha hl)
theorem parts_upd {K : PySem.W.Frag} {H : Hp} {l : Addr} {ws : List V} {o : HO} (hl : H l = some (.lst ws)) : ∀ {vs : List V} (ps : List Part), DpAll K H vs (ps.map Part.data) → DpAll K (upd H l o) vs (ps.map Part.data)
  | _, [], .nil => .nil
  | _, p :: r, .cons h t => .cons (part_upd h hl) (parts_upd hl r t)
theorem stands_app : ∀ (ps : List Part) (p : Part), stands (ps ++ [p]) = stands ps * p.places
  | [], p => by
    show p.places * 1 = 1 * p.places
    rw [Int.mul_one, Int.one_mul]
  | a :: r, p => by
    show a.places * stands (r ++ [p]) = a.places * stands r * p.places
    rw [stands_app r p, Int.mul_assoc]
theorem stands_pos : ∀ (ps : List Part), (∀ p ∈ ps, p.ok) → 1 ≤ stands ps
  | [], _ => Int.le_refl _
  | a :: r, h => by
    have h1 := (h a List.mem_cons_self).pos.1
    have h2 := stands_pos r fun p hp => h p (List.mem_cons_of_mem _ hp)
    show 1 ≤ a.places * stands r
    have := Int.mul_le_mul h1 h2 (by decide) (by omega)
    omega
theorem room_step {s pl room most : Int} (hs : 1 ≤ s) (h1 : 1 ≤ pl) (h2 : pl ≤ room) (h : s * room ≤ most) : 1 ≤ room / pl ∧ s * pl * (room / pl) ≤ most := by
  refine ⟨Int.le_ediv_of_mul_le (by omega) (by omega), ?_⟩
  rw [Int.mul_assoc]
  exact Int.le_trans (Int.mul_le_mul_of_nonneg_left (Int.mul_ediv_self_le (by omega)) (by omega)) h
theorem room_end {s room most : Int} (hs : 1 ≤ s) (h1 : 1 ≤ room) (h : s * room ≤ most) : s ≤ most := by
  have := Int.mul_le_mul_of_nonneg_left h1 (show 0 ≤ s by omega)
  omega
/-! data that can be laid -/
theorem canLay_ints : ∀ ns : List Int, PyData.canLayAll0 (ns.map PyData.int) = true
  | [] => rfl
  | n :: r => by
    rw [List.map_cons, PyData.canLayAll0, canLay_ints r]
    rfl
theorem lay_all {n : Nat} : ∀ ds : List PyData, (∀ d ∈ ds, d.canLay0 = true ∧ d.depth ≤ n) → PyData.canLayAll0 ds = true ∧ PyData.depthAll ds ≤ n
  | [], _ => ⟨rfl, Nat.zero_le _⟩
  | d :: r, h => by
    have h1 := h d List.mem_cons_self
    have h2 := lay_all r fun e he => h e (List.mem_cons_of_mem _ he)
    rw [PyData.canLayAll0, PyData.depthAll, h1.1, h2.1]
    exact ⟨rfl, Nat.max_le.mpr ⟨h1.2, h2.2⟩⟩
theorem lay_tup {n : Nat} {ds : List PyData} (h : ∀ d ∈ ds, d.canLay0 = true ∧ d.depth ≤ n) : (PyData.tuple ds).canLay0 = true ∧ (PyData.tuple ds).depth ≤ n + 1 := by
  obtain ⟨h1, h2⟩ := lay_all ds h
  rw [PyData.canLay0, PyData.depth]
  exact ⟨h1, by omega⟩
theorem lay_lst {n : Nat} {ds : List PyData} (h : ∀ d ∈ ds, d.canLay0 = true ∧ d.depth ≤ n) : (PyData.list ds).canLay0 = true ∧ (PyData.list ds).depth ≤ n + 1 := by
  obtain ⟨h1, h2⟩ := lay_all ds h
  rw [PyData.canLay0, PyData.depth]
  exact ⟨h1, by omega⟩
theorem lay_int (n : Nat) (i : Int) : (PyData.int i).canLay0 = true ∧ (PyData.int i).depth ≤ n := ⟨rfl, Nat.zero_le _⟩
theorem lay_str (n : Nat) (x : Str) (h : (PyData.str x).canLay0 = true := by decide +kernel) : (PyData.str x).canLay0 = true ∧ (PyData.str x).depth ≤ n := ⟨h, Nat.zero_le _⟩
theorem lay_ints (ns : List Int) (n : Nat) : ∀ d ∈ ns.map PyData.int, d.canLay0 = true ∧ d.depth ≤ n := fun d hd => by
  obtain ⟨i, _, rfl⟩ := List.mem_map.mp hd
  exact lay_int n i
theorem lay_mono {d : PyData} {n m : Nat} (h : d.canLay0 = true ∧ d.depth ≤ n) (e : n ≤ m) : d.canLay0 = true ∧ d.depth ≤ m := ⟨h.1, Nat.le_trans h.2 e⟩
theorem lay_part (p : Part) : p.data.canLay0 = true ∧ p.data.depth ≤ 2 := by
  cases p with
  | wheel z ms =>
    refine lay_tup (n := 1) fun d hd => ?_
    rcases List.mem_cons.mp hd with rfl | hd
    · exact lay_str _ _
    rcases List.mem_cons.mp hd with rfl | hd
    · exact lay_int _ _
    rcases List.mem_cons.mp hd with rfl | hd
    · exact lay_tup (lay_ints ms 0)
    · cases hd
  | click => exact lay_mono (lay_tup (n := 0) fun d hd => by
      rcases List.mem_cons.mp hd with rfl | hd
      · exact lay_str _ _
      · cases hd) (by decide)
  | rocker => exact lay_mono (lay_tup (n := 0) fun d hd => by
      rcases List.mem_cons.mp hd with rfl | hd
      · exact lay_str _ _
      · cases hd) (by decide)
  | spring k => exact lay_mono (lay_tup (n := 0) fun d hd => by
      rcases List.mem_cons.mp hd with rfl | hd
      · exact lay_str _ _
      rcases List.mem_cons.mp hd with rfl | hd
      · exact lay_int _ _
      · cases hd) (by decide)
theorem lay_train (ps : List Part) : (PyData.list (ps.map Part.data)).canLay0 = true ∧ (PyData.list (ps.map Part.data)).depth ≤ 3 := lay_lst fun d hd => by
  obtain ⟨p, _, rfl⟩ := List.mem_map.mp hd
  exact lay_part p
theorem shaped_of {d : PyData} {n : Nat} (h : d.canLay0 = true ∧ d.depth ≤ n) (e : n ≤ 64) : SeqAt.shaped d = true := by
  unfold SeqAt.shaped
  rw [h.1, decide_eq_true (Nat.le_trans h.2 e)]
  rfl
theorem lay_told (xs : List Int) (y : Int) : (PyData.tuple [.tuple (xs.map PyData.int), .int y]).canLay0 = true ∧ (PyData.tuple [.tuple (xs.map PyData.int), .int y]).depth ≤ 2 := lay_tup (n := 1) fun d hd => by
  rcases List.mem_cons.mp hd with rfl | hd
  · exact lay_tup (lay_ints xs 0)
  rcases List.mem_cons.mp hd with rfl | hd
  · exact lay_int _ _
  · cases hd
theorem w_neSame {K : PySem.W.Frag} {H : Hp} {Q : VK} {x y : V} (d : PyData) {n : Nat} (hx : Dp K H x d) (hy : Dp K H y d) (h : d.canLay0 = true ∧ d.depth ≤ n) (e : n ≤ 64) (q : Q (.bl false) H) : rNeD K x y H Q :=
  ⟨d, d, hx, hy, shaped_of h e, shaped_of h e, by rw [SeqAt.eqv_refl d h.1]; exact q⟩
theorem tyx_T {K : PySem.W.Frag} {H : Hp} {a : Addr} {xs : List V} (h : SqT K H a xs) : TyX K H (.ref a) (.type "tuple") := by
  rcases h with (h | ⟨o, h⟩) | ⟨o, its, n, hk, hc, _⟩
  · exact .base (.tup h)
  · exact .fTuple h
  · exact .kTuple hk hc
theorem tyx_L {K : PySem.W.Frag} {H : Hp} {a : Addr} {xs : List V} (h : SqL K H a xs) : TyX K H (.ref a) (.type "list") := by
  rcases h with (h | ⟨o, h⟩) | ⟨o, its, n, hk, hc, _⟩
  · exact .base (.lst h)
  · exact .base (.frz h)
  · exact .kList hk hc
end Ct

namespace Ct
open PySem PySem.Spec PyProof.Rows L2
/-! zip of a list and a tuple: the list first -/
def ItM (K : PySem.W.Frag) (a b : Addr) : It where
  go := fun i H => ∃ (xs ys : List V) (x y : V), SqL K H a xs ∧ SqT K H b ys ∧ xs[i]? = some x ∧ ys[i]? = some y
  yld := fun i H v H' => ∃ T x y, v = .ref T ∧ H T = none ∧ H' = upd H T (.tup [x, y]) ∧ (∀ xs, SqL K H a xs → xs[i]? = some x) ∧ ∀ ys, SqT K H b ys → ys[i]? = some y
  stop := fun i H => ∃ xs ys : List V, SqL K H a xs ∧ SqT K H b ys ∧ min xs.length ys.length = i
abbrev ZSt (a b z TI TO i1 i2 : Addr) (i : Nat) (h : Heap) : Prop :=
  IsZip h z TI TO .none ∧ IsTupOf2 h TI (.ref i1) (.ref i2) ∧ (∃ a1 a2, IsTupOf2 h TO a1 a2) ∧ h.IsListIter i1 a i ∧ h.IsTupleIter i2 b i
theorem turnM {P : Program} {w : World} {K : PySem.W.Frag} {es : List Expr} {kk : Nat} {tp : Pos} {a b N : Nat} (ha : a < N) (hb : b < N) :
    Turn P w K (.Tuple es kk tp) (ItM K a b) [N + 4, N + 2, N + 3, N, N + 1] (N + 4) (ZSt a b (N + 4) (N + 2) (N + 3) N (N + 1)) := by
  have five : ∀ {c : Nat}, c ∈ [N + 4, N + 2, N + 3, N, N + 1] → N ≤ c := fun {c} hc => by
    simp only [List.mem_cons, List.not_mem_nil, or_false] at hc
    omega
  have sep : ZipSep2 (N + 4) (N + 2) (N + 3) N (N + 1) [N, a] [N + 1, b] := zip_sep2 (fun c hc => by rw [List.mem_singleton] at hc; rw [hc]; exact ha) fun c hc => by rw [List.mem_singleton] at hc; rw [hc]; exact hb
  have wrfp : ∀ {c : Nat}, c ∉ [N + 4, N + 2, N + 3, N, N + 1] → c ∉ [N + 4, N + 3, N, N + 1] := fun {c} hc hm => hc (by
    simp only [List.mem_cons, List.not_mem_nil, or_false] at hm ⊢
    omega)
  refine ⟨List.mem_cons_self, fun i h st c hc => ?_, fun i h h' st k => ?_, ?_, ?_, fun A i s Q E st h => wpAny_pyIter_zip st.1 h⟩
  · obtain ⟨s1, s2, ⟨u, v, s3⟩, ⟨o1, g1, _, d1⟩, ⟨o2, g2, _, d2⟩⟩ := st
    simp only [List.mem_cons, List.not_mem_nil, or_false] at hc
    rcases hc with e | e | e | e | e <;> subst e
    · exact ⟨_, s1, fun v q => nomatch q⟩
    · exact ⟨_, s2, fun v q => nomatch q⟩
    · exact ⟨_, s3, fun v q => nomatch q⟩
    · exact ⟨o1, g1, fun v q => by rw [d1] at q; cases q⟩
    · exact ⟨o2, g2, fun v q => by rw [d2] at q; cases q⟩
  · obtain ⟨s1, s2, ⟨u, v, s3⟩, s4, s5⟩ := st
    exact ⟨k _ (by simp) _ s1, k _ (by simp) _ s2, ⟨u, v, k _ (by simp) _ s3⟩, s4.at fun o q => k N (by simp) o q, s5.at fun o q => k (N + 1) (by simp) o q⟩
  · intro X eP ew eK calm i pins s σ H E I hf st hg
    subst eP ew eK
    obtain ⟨xs, ys, x, y, lx, ty, gx, gy⟩ := hg
    obtain ⟨us, rx, px, _⟩ := I.list lx
    obtain ⟨vs, ry, py, _⟩ := I.tuple ty
    obtain ⟨s1, s2, s3, s4, s5⟩ := st
    have hh : X.A.in1.handled = none := I.ok.hd calm
    have G := GoesN.zip2 (elts := es) (x1 := kk) (pos := tp) sep (Draws.list (prog := X.prog) (w := X.w) hh N a (Nat.ne_of_lt ha) us.toArray) (Draws.tuple (prog := X.prog) (w := X.w) hh (N + 1) b (Nat.ne_of_lt (Nat.lt_succ_of_lt hb)) vs.toArray)
    have lu := rx.length
    have lv := ry.length
    have ix : i < xs.length := (List.getElem?_eq_some_iff.mp gx).1
    have iy : i < ys.length := (List.getElem?_eq_some_iff.mp gy).1
    refine G.goes i s _ E (by rw [List.size_toArray, List.size_toArray]; omega) ⟨s1, s2, s3, ⟨s4, px.isList⟩, ⟨s5, py⟩⟩ fun v h' tk hY st' hk _ => ?_
    obtain ⟨T, u1, u2, rfl, hT, q1, q2, hTu⟩ := hY
    obtain ⟨w1, e1, r1⟩ := rx.get gx
    obtain ⟨w2, e2, r2⟩ := ry.get gy
    have f1 : w1 = u1 := Option.some.inj (e1.symm.trans (by simpa using q1))
    have f2 : w2 = u2 := Option.some.inj (e2.symm.trans (by simpa using q2))
    subst f1 f2
    have new : ObjOk X.prog X.w (upd H T (.tup [x, y])) h' T (.tup [x, y]) := ⟨len2 rfl, [w1, w2], .cons r1 (.cons r2 .nil), hTu⟩
    refine ⟨.ref T, _, I.turnedNew (t' := tk) (fun c o hc e => hk c o (wrfp hc) e) hf hT new, rfl, ⟨T, x, y, rfl, I.hok.fresh hT, rfl, fun l hl => by rw [I.list_inj hl lx]; exact gx, fun l hl => by rw [I.tuple_inj hl ty]; exact gy⟩, ⟨st'.1, st'.2.1, st'.2.2.1, st'.2.2.2.1.1, st'.2.2.2.2.1⟩, fun c hc => ?_⟩
    obtain ⟨o, g, _⟩ : ∃ o, s.heap.get? c = some o ∧ True := by
      obtain ⟨u, v, s3⟩ := s3
      obtain ⟨o1, g1, _⟩ := s4
      obtain ⟨o2, g2, _⟩ := s5
      simp only [List.mem_cons, List.not_mem_nil, or_false] at hc
      rcases hc with e | e | e | e | e <;> subst e
      · exact ⟨_, s1, trivial⟩
      · exact ⟨_, s2, trivial⟩
      · exact ⟨_, s3, trivial⟩
      · exact ⟨_, g1, trivial⟩
      · exact ⟨_, g2, trivial⟩
    rw [upd_ne (Nat.ne_of_lt (Nat.lt_of_lt_of_le (Heap.lt_size g) hT))]
    exact (hf c hc).1
  · intro X eP ew eK calm i pins s σ H E I hf st hg
    subst eP ew eK
    obtain ⟨xs, ys, lx, ty, hm⟩ := hg
    obtain ⟨us, rx, px, _⟩ := I.list lx
    obtain ⟨vs, ry, py, _⟩ := I.tuple ty
    obtain ⟨s1, s2, s3, s4, s5⟩ := st
    have hh : X.A.in1.handled = none := I.ok.hd calm
    have G := GoesN.zip2 (elts := es) (x1 := kk) (pos := tp) sep (Draws.list (prog := X.prog) (w := X.w) hh N a (Nat.ne_of_lt ha) us.toArray) (Draws.tuple (prog := X.prog) (w := X.w) hh (N + 1) b (Nat.ne_of_lt (Nat.lt_succ_of_lt hb)) vs.toArray)
    have lu := rx.length
    have lv := ry.length
    have hn : min us.toArray.size vs.toArray.size = i := by rw [List.size_toArray, List.size_toArray]; omega
    rw [hn] at G
    exact G.stops s _ E ⟨s1, s2, s3, ⟨s4, px.isList⟩, ⟨s5, py⟩⟩ fun h' tk hk _ => I.turnedL (t' := tk) (fun c o hc e => hk c o (wrfp hc) e) hf
def iM (K : PySem.W.Frag) (ta : TA) : TI := fun σ H R => ta σ H fun vs H1 => ∃ a b xs ys, vs = [.ref a, .ref b] ∧ SqL K H1 a xs ∧ SqT K H1 b ys ∧ R (ItM K a b) H1
theorem pi_zipM {X : Cx} {e e2 : Expr} {ta : TA} {p pos tp : Pos} {es : List Expr} {kk : Nat} (gl : Gl X "zip") (mz : X.mg "zip" = none) (pa : PA X [e, e2] ta)
    (se : starEach [e, e2] X.env = (false, eval e X.env) :: starEach [e2] X.env := by rfl) (bk : (backTo pos (starEach [e2] X.env)).any (·.1) = false := by rfl) : PI X (.Tuple es kk tp) (.Call (.Name "zip" p) [e, e2] [] pos) (iM X.K ta) := by
  refine ⟨fun pins s σ H R I h => Call_ (ld_blt I gl mz boot_zip (callWith_type1 (thn (pa.run pos pins s σ H _ I h) fun us s1 ⟨vs, H1, I1, r1, q1⟩ => ?_) se bk))⟩
  obtain ⟨a, b, xs, ys, rfl, lx, ty, q⟩ := q1
  cases r1 with
  | cons ra rr => cases rr with
    | cons rb rn =>
      cases rn
      cases ra
      cases rb
      obtain ⟨us, rx, px, _⟩ := I1.list lx
      obtain ⟨vs, ry, py, _⟩ := I1.tuple ty
      obtain ⟨ob, gb, _⟩ := id py
      refine zip_begins2 (begins_list a us.toArray) (begins_tuple b vs.toArray) px.isList py fun h' z1 z2 z3 g1 g2 _ hk => wpAny_pyIter_zip z1 ?_
      have I2 : Inv X pins σ H1 { s1 with heap := h' } := I1.kept (t' := s1.toks) hk
      refine ⟨_, _, _, _, H1, rfl, I2, turnM px.lt (Heap.lt_size gb), ⟨z1, z2, ⟨_, _, z3⟩, ⟨_, g1, rfl, rfl⟩, ⟨_, g2, rfl, rfl⟩⟩, fun c hc => ?_, q⟩
      have hle : s1.heap.objs.size ≤ c := by
        simp only [List.mem_cons, List.not_mem_nil, or_false] at hc
        rcases hc with e | e | e | e | e <;> subst e <;> first | exact Nat.le_add_right _ _ | exact Nat.le_refl _
      exact I1.fpOk hle (I1.hok.fresh hle)
section
variable {K : PySem.W.Frag} {H : Hp} {σ : L2.St} {D : Ends} {R : It → Hp → Prop}
def IM (K : PySem.W.Frag) (vs : List V) (H : Hp) (R : It → Hp → Prop) : Prop := iM K (fun _ H Q => Q vs H) [] H R
theorem w_im {ta : TA} (h : ta σ H fun vs H1 => IM K vs H1 R) : iM K ta σ H R := h
theorem w_IM {a b : Addr} {xs ys : List V} (h1 : SqL K H a xs) (h2 : SqT K H b ys) (q : R (ItM K a b) H) : IM K [.ref a, .ref b] H R := ⟨a, b, xs, ys, rfl, h1, h2, q⟩
theorem fb_zipM {a b : Addr} (xs ys : List V) (hl : xs.length = ys.length) {g : TG} {tb : TS} (Pv : Nat → L2.St → Hp → Prop) (h0 : Pv 0 σ H) (hq : ∀ i σ H, i ≤ xs.length → Pv i σ H → SqL K H a xs ∧ SqT K H b ys)
    (hs : ∀ i x y T σ H, xs[i]? = some x → ys[i]? = some y → Pv i σ H → H T = none → g (.ref T) σ (upd H T (.tup [x, y])) fun σ2 H2 => tb { D with nx := Pv (i + 1), ct := Pv (i + 1), bk := D.nx } σ2 H2) (hd : ∀ σ H, Pv xs.length σ H → D.nx σ H) : FB (ItM K a b) g tb D σ H := by
  refine ⟨fun i m σ H => m = xs.length - i ∧ i ≤ xs.length ∧ Pv i σ H, ⟨xs.length, rfl, Nat.zero_le _, h0⟩, ?_⟩
  rintro i m σ H ⟨rfl, hi, p⟩
  obtain ⟨q1, q2⟩ := hq i σ H hi p
  by_cases hlt : i < xs.length
  · refine .inr ⟨⟨xs, ys, _, _, q1, q2, List.getElem?_eq_getElem hlt, List.getElem?_eq_getElem (hl ▸ hlt)⟩, Pv (i + 1), fun σ' H' p' => ⟨xs.length - (i + 1), by omega, rfl, hlt, p'⟩, fun v H' y => ?_⟩
    obtain ⟨T, x1, x2, rfl, hT, rfl, f1, f2⟩ := y
    exact hs i x1 x2 T σ H (f1 _ q1) (f2 _ q2) p hT
  · exact .inl ⟨⟨xs, ys, q1, q2, by omega⟩, hd σ H (by rw [show xs.length = i by omega]; exact p)⟩
end
end Ct

namespace Ct
open PySem PySem.Spec PyProof.Rows L2
/-! pushes of one deed, reckoned at once -/
def cnt (ms : List Int) (r : Int) : Int := ((ms.filter fun m => decide (m ≤ r)).length : Int)
theorem cnt_nil (r : Int) : cnt [] r = 0 := rfl
theorem cnt_cons (m : Int) (ms : List Int) (r : Int) : cnt (m :: ms) r = (if m ≤ r then 1 else 0) + cnt ms r := by
  unfold cnt
  rw [List.filter_cons]
  by_cases h : m ≤ r
  · rw [if_pos h, if_pos (decide_eq_true h), List.length_cons]
    omega
  · rw [if_neg h, if_neg (by rw [decide_eq_false h]; exact Bool.false_ne_true)]
    omega
theorem cnt_all : ∀ {ms : List Int} {r : Int}, (∀ m ∈ ms, m ≤ r) → cnt ms r = ms.length
  | [], _, _ => rfl
  | m :: ms, r, h => by
    rw [cnt_cons, if_pos (h m List.mem_cons_self), cnt_all fun x hx => h x (List.mem_cons_of_mem _ hx), List.length_cons]
    omega
theorem cnt_zero : ∀ {ms : List Int} {r : Int}, (∀ m ∈ ms, r < m) → cnt ms r = 0
  | [], _, _ => rfl
  | m :: ms, r, h => by
    have h1 := h m List.mem_cons_self
    rw [cnt_cons, if_neg (by omega), cnt_zero fun x hx => h x (List.mem_cons_of_mem _ hx)]
    rfl
theorem cnt_split : ∀ (ms : List Int) (k : Nat) (r : Int), k ≤ ms.length → (∀ (j : Nat) (m : Int), j < k → ms[j]? = some m → m ≤ r) → (∀ (j : Nat) (m : Int), k ≤ j → ms[j]? = some m → r < m) → cnt ms r = k
  | ms, 0, r, _, _, h => cnt_zero fun m hm => by
    obtain ⟨j, hj, e⟩ := List.mem_iff_getElem.mp hm
    exact h j m (Nat.zero_le _) (by rw [List.getElem?_eq_getElem hj, e])
  | [], k + 1, r, hk, _, _ => absurd hk (by simp)
  | m :: ms, k + 1, r, hk, h1, h2 => by
    rw [cnt_cons, if_pos (h1 0 m (Nat.succ_pos k) rfl), cnt_split ms k r (by rw [List.length_cons] at hk; omega) (fun j x hj hx => h1 (j + 1) x (by omega) hx) fun j x hj hx => h2 (j + 1) x (by omega) hx]
    omega
theorem cnt_step : ∀ {ms : List Int} (r : Int), ms.Pairwise (· < ·) → cnt ms r = cnt ms (r - 1) + (if r ∈ ms then 1 else 0)
  | [], _, _ => rfl
  | m :: ms, r, h => by
    obtain ⟨h1, h2⟩ := List.pairwise_cons.mp h
    have ih := cnt_step r h2
    rw [cnt_cons, cnt_cons, ih]
    by_cases e : r = m
    · subst e
      have hn : r ∉ ms := fun z => by
        have := h1 r z
        omega
      rw [if_neg hn, if_pos List.mem_cons_self, if_pos (Int.le_refl _), if_neg (by omega)]
      omega
    · have hm : (r ∈ m :: ms) ↔ r ∈ ms := ⟨fun z => (List.mem_cons.mp z).resolve_left e, fun z => List.mem_cons_of_mem _ z⟩
      by_cases hr : r ∈ ms
      · rw [if_pos hr, if_pos (hm.mpr hr)]
        by_cases h3 : m ≤ r
        · rw [if_pos h3, if_pos (by omega)]
          omega
        · rw [if_neg h3, if_neg (by omega)]
          omega
      · rw [if_neg hr, if_neg (fun z => hr (hm.mp z))]
        by_cases h3 : m ≤ r
        · rw [if_pos h3, if_pos (by omega)]
          omega
        · rw [if_neg h3, if_neg (by omega)]
          omega
/-- marks up to a tooth, over all turns -/
def mah (z : Int) (ms : List Int) (y : Int) : Int := y / z * (ms.length : Int) + cnt ms (y % z)
theorem mah_step {z : Int} {ms : List Int} (hz : 1 ≤ z) (rs : Rise z ms) (y : Int) : mah z ms y = mah z ms (y - 1) + (if y % z ∈ ms then 1 else 0) := by
  unfold mah
  have e := Int.emod_add_mul_ediv y z
  have r0 := Int.emod_nonneg y (show z ≠ 0 by omega)
  have r1 := Int.emod_lt_of_pos y (show 0 < z by omega)
  by_cases h : y % z = 0
  · obtain ⟨e1, e2⟩ := (Int.ediv_emod_unique (a := y - 1) (b := z) (r := z - 1) (q := y / z - 1) (by omega)).mpr ⟨by rw [Int.mul_sub]; omega, by omega, by omega⟩
    rw [e1, e2, h, cnt_all (ms := ms) (r := z - 1) (fun m hm => by have := (rs.2 m hm).2; omega), cnt_step 0 rs.1, cnt_zero (ms := ms) (r := 0 - 1) (fun m hm => by have := (rs.2 m hm).1; omega), Int.sub_mul]
    omega
  · obtain ⟨e1, e2⟩ := (Int.ediv_emod_unique (a := y - 1) (b := z) (r := y % z - 1) (q := y / z) (by omega)).mpr ⟨by omega, by omega, by omega⟩
    rw [e1, e2, cnt_step (y % z) rs.1]
    omega
theorem mah_up {z : Int} {ms : List Int} (hz : 1 ≤ z) (rs : Rise z ms) (y : Int) : ∀ t : Nat, mah z ms y ≤ mah z ms (y + t)
  | 0 => by rw [show y + ((0 : Nat) : Int) = y by omega]; exact Int.le_refl _
  | t + 1 => by
    have h := mah_step hz rs (y + ((t + 1 : Nat) : Int))
    rw [show y + ((t + 1 : Nat) : Int) - 1 = y + t by omega] at h
    have ih := mah_up hz rs y t
    rw [h]
    split <;> omega
/-- so many pushes one way at a part: its place, and how many it gives -/
def pt (p : Part) (x w t : Int) : Int × Int := match p with
  | .wheel z ms => ((x + w * t) % z, if mah z ms (x + w * t) - mah z ms x < 0 then -(mah z ms (x + w * t) - mah z ms x) else mah z ms (x + w * t) - mah z ms x)
  | .click => (x, if w = 1 then t else 0)
  | .rocker => if t = 0 then (x, 0) else if w = -1 then (0, 0) else (1, 1 - x)
  | .spring k => if w = -1 then (if x - t > 0 then x - t else 0, 0) else ((x + t) % k, (x + t) / k)
theorem pt_zero {p : Part} {x w : Int} (ok : p.ok) (h0 : 0 ≤ x) (h1 : x < p.places) : pt p x w 0 = (x, 0) := by
  cases p with
  | wheel z ms =>
    have h2 : x < z := h1
    simp only [pt, Int.mul_zero, Int.add_zero, Int.emod_eq_of_lt h0 h2, Int.sub_self]
    rfl
  | click =>
    simp only [pt]
    split <;> rfl
  | rocker => rfl
  | spring k =>
    have h2 : x < k := h1
    simp only [pt]
    split
    · rw [show (if x - 0 > 0 then x - 0 else 0) = x by split <;> omega]
    · rw [Int.add_zero, Int.emod_eq_of_lt h0 h2, Int.ediv_eq_zero_of_lt h0 h2]
theorem pp_way (p : Part) (x w : Int) (h : Sign w) : (pp p x w).2 = 0 ∨ (pp p x w).2 = w := by
  cases p with
  | wheel z ms =>
    by_cases e : (if w = 1 then (x + w) % z else x) ∈ ms
    · exact .inr (if_pos e)
    · exact .inl (if_neg e)
  | click =>
    by_cases e : w = 1
    · exact .inr (by simp only [pp, if_pos e]; exact e.symm)
    · exact .inl (if_neg e)
  | rocker =>
    by_cases e : w = 1 ∧ x = 0
    · exact .inr (by simp only [pp, if_pos e]; exact e.1.symm)
    · exact .inl (if_neg e)
  | spring k =>
    by_cases e : w = 1
    · by_cases e2 : x = k - 1
      · exact .inr (by simp only [pp, if_pos e, if_pos e2]; exact e.symm)
      · exact .inl (by simp only [pp, if_pos e, if_neg e2])
    · exact .inl (by simp only [pp, if_neg e])
theorem neg_abs {d : Int} (h : 0 ≤ d) : (if d < 0 then -d else d) = d := if_neg (by omega)
theorem abs_neg {d : Int} (h : d ≤ 0) : (if d < 0 then -d else d) = -d := by
  split <;> omega
/-- one push more -/
theorem pt_step {p : Part} {x w : Int} (ok : p.ok) (h0 : 0 ≤ x) (h1 : x < p.places) (hw : Sign w) (t : Nat) :
    pt p x w ((t + 1 : Nat) : Int) = ((pp p (pt p x w t).1 w).1, (pt p x w t).2 + if (pp p (pt p x w t).1 w).2 = 0 then 0 else 1) := by
  cases p with
  | wheel z ms =>
    have hz : 1 ≤ z := ok.1
    have rs : Rise z ms := ok.2.2.1
    rcases hw with rfl | rfl
    · have u1 := mah_up hz rs x t
      have u2 := mah_up hz rs x (t + 1)
      have st := mah_step hz rs (x + ((t + 1 : Nat) : Int))
      rw [show x + ((t + 1 : Nat) : Int) - 1 = x + t by omega] at st
      simp only [pt, pp, Int.one_mul, if_true]
      rw [neg_abs (by omega), neg_abs (by omega)]
      have em : ((x + (t : Int)) % z + 1) % z = (x + ((t + 1 : Nat) : Int)) % z := by
        rw [Int.emod_add_emod]
        congr 1
        omega
      rw [em]
      by_cases hm : (x + ((t + 1 : Nat) : Int)) % z ∈ ms
      · rw [if_pos hm] at st ⊢
        rw [if_neg (by decide)]
        exact Prod.ext rfl (by show mah z ms _ - mah z ms x = mah z ms _ - mah z ms x + 1; omega)
      · rw [if_neg hm] at st ⊢
        rw [if_pos rfl]
        exact Prod.ext rfl (by show mah z ms _ - mah z ms x = mah z ms _ - mah z ms x + 0; omega)
    · have v1 := mah_up hz rs (x - t) t
      have v2 := mah_up hz rs (x - ((t + 1 : Nat) : Int)) (t + 1)
      have st := mah_step hz rs (x - t)
      rw [show x - t + t = x by omega] at v1
      rw [show x - ((t + 1 : Nat) : Int) + ((t + 1 : Nat) : Int) = x by omega] at v2
      simp only [pt, pp, show ∀ y : Int, x + -1 * y = x - y from fun y => by omega, if_neg (show ¬ (-1 : Int) = 1 by decide)]
      rw [abs_neg (by omega), abs_neg (by omega)]
      have em : ((x - (t : Int)) % z + -1) % z = (x - ((t + 1 : Nat) : Int)) % z := by
        rw [Int.emod_add_emod]
        congr 1
        omega
      rw [em]
      rw [show x - (t : Int) - 1 = x - ((t + 1 : Nat) : Int) by omega] at st
      by_cases hm : (x - (t : Int)) % z ∈ ms
      · rw [if_pos hm] at st ⊢
        rw [if_neg (by decide)]
        exact Prod.ext rfl (by show -(mah z ms _ - mah z ms x) = -(mah z ms _ - mah z ms x) + 1; omega)
      · rw [if_neg hm] at st ⊢
        rw [if_pos rfl]
        exact Prod.ext rfl (by show -(mah z ms _ - mah z ms x) = -(mah z ms _ - mah z ms x) + 0; omega)
  | click =>
    have h2 : x < 1 := h1
    have ex : x = 0 := by omega
    subst ex
    rcases hw with rfl | rfl
    · simp only [pt, pp, if_true]
      rw [if_neg (by decide)]
      exact Prod.ext rfl (by show ((t + 1 : Nat) : Int) = (t : Int) + 1; omega)
    · rfl
  | rocker =>
    have h2 : x < 2 := h1
    rcases hw with rfl | rfl
    · simp only [pt, pp, if_neg (show ¬ ((t + 1 : Nat) : Int) = 0 by omega), if_neg (show ¬ (1 : Int) = -1 by decide), if_true]
      by_cases ht : (t : Int) = 0
      · rw [if_pos ht]
        by_cases hx : x = 0
        · subst hx
          rfl
        · have hx1 : x = 1 := by omega
          subst hx1
          rfl
      · rw [if_neg ht]
        simp
    · simp only [pt, pp, if_neg (show ¬ ((t + 1 : Nat) : Int) = 0 by omega), if_true]
      by_cases ht : (t : Int) = 0
      · rw [if_pos ht]
        rfl
      · rw [if_neg ht]
        rfl
  | spring k =>
    have h2 : x < k := h1
    have hk : 1 ≤ k := ok.1
    rcases hw with rfl | rfl
    · simp only [pt, pp, if_neg (show ¬ (1 : Int) = -1 by decide), if_true]
      have e := Int.emod_add_mul_ediv (x + t) k
      have r0 := Int.emod_nonneg (x + t) (show k ≠ 0 by omega)
      have r1 := Int.emod_lt_of_pos (x + t) (show 0 < k by omega)
      by_cases hx : (x + (t : Int)) % k = k - 1
      · obtain ⟨e1, e2⟩ := (Int.ediv_emod_unique (a := x + ((t + 1 : Nat) : Int)) (b := k) (r := 0) (q := (x + t) / k + 1) (by omega)).mpr ⟨by rw [Int.mul_add]; omega, by omega, by omega⟩
        rw [if_pos hx, e1, e2]
        rfl
      · obtain ⟨e1, e2⟩ := (Int.ediv_emod_unique (a := x + ((t + 1 : Nat) : Int)) (b := k) (r := (x + t) % k + 1) (q := (x + t) / k) (by omega)).mpr ⟨by omega, by omega, by omega⟩
        rw [if_neg hx, e1, e2]
        exact Prod.ext rfl (by show (x + (t : Int)) / k = (x + (t : Int)) / k + 0; omega)
    · simp only [pt, pp, if_true, if_neg (show ¬ (-1 : Int) = 1 by decide)]
      refine Prod.ext ?_ rfl
      show (if x - ((t + 1 : Nat) : Int) > 0 then x - ((t + 1 : Nat) : Int) else 0) = (if (if x - (t : Int) > 0 then x - (t : Int) else 0) - 1 > 0 then (if x - (t : Int) > 0 then x - (t : Int) else 0) - 1 else 0)
      by_cases hx : x - (t : Int) > 0
      · rw [if_pos hx]
        split <;> split <;> omega
      · rw [if_neg hx]
        split <;> split <;> omega
theorem pt_nn {p : Part} {x w : Int} (ok : p.ok) (h0 : 0 ≤ x) (h1 : x < p.places) (hw : Sign w) : ∀ t : Nat, 0 ≤ (pt p x w t).2
  | 0 => by
    show 0 ≤ (pt p x w 0).2
    rw [pt_zero ok h0 h1]
    exact Int.le_refl _
  | t + 1 => by
    rw [pt_step ok h0 h1 hw t]
    have := pt_nn ok h0 h1 hw t
    show 0 ≤ (pt p x w t).2 + _
    split <;> omega
theorem pt_le {p : Part} {x w : Int} (ok : p.ok) (h0 : 0 ≤ x) (h1 : x < p.places) (hw : Sign w) : ∀ t : Nat, (pt p x w t).2 ≤ t
  | 0 => by
    show (pt p x w 0).2 ≤ 0
    rw [pt_zero ok h0 h1]
    exact Int.le_refl _
  | t + 1 => by
    rw [pt_step ok h0 h1 hw t]
    have := pt_le ok h0 h1 hw t
    show (pt p x w t).2 + _ ≤ _
    split <;> omega
theorem pp_place {p : Part} {x w : Int} (ok : p.ok) (h0 : 0 ≤ x) (h1 : x < p.places) (hw : Sign w) : 0 ≤ (pp p x w).1 ∧ (pp p x w).1 < p.places := by
  cases p with
  | wheel z ms =>
    have hz : 1 ≤ z := ok.1
    exact ⟨Int.emod_nonneg _ (by omega), Int.emod_lt_of_pos _ (by omega)⟩
  | click => exact ⟨Int.le_refl _, show (0 : Int) < 1 by decide⟩
  | rocker =>
    rcases hw with rfl | rfl
    · exact ⟨show (0 : Int) ≤ 1 by decide, show (1 : Int) < 2 by decide⟩
    · exact ⟨show (0 : Int) ≤ 0 by decide, show (0 : Int) < 2 by decide⟩
  | spring k =>
    have h2 : x < k := h1
    rcases hw with rfl | rfl
    · simp only [pp, if_true]
      by_cases e : x = k - 1
      · rw [if_pos e]
        exact ⟨Int.le_refl _, show (0 : Int) < k by omega⟩
      · rw [if_neg e]
        exact ⟨show 0 ≤ x + 1 by omega, show x + 1 < k by omega⟩
    · simp only [pp, if_neg (show ¬ (-1 : Int) = 1 by decide)]
      refine ⟨?_, ?_⟩
      · show 0 ≤ (if x - 1 > 0 then x - 1 else 0)
        split <;> omega
      · show (if x - 1 > 0 then x - 1 else 0) < k
        split <;> omega
theorem pt_place {p : Part} {x w : Int} (ok : p.ok) (h0 : 0 ≤ x) (h1 : x < p.places) (hw : Sign w) : ∀ t : Nat, 0 ≤ (pt p x w t).1 ∧ (pt p x w t).1 < p.places
  | 0 => by
    show 0 ≤ (pt p x w 0).1 ∧ (pt p x w 0).1 < p.places
    rw [pt_zero ok h0 h1]
    exact ⟨h0, h1⟩
  | t + 1 => by
    rw [pt_step ok h0 h1 hw t]
    obtain ⟨a, b⟩ := pt_place ok h0 h1 hw t
    exact pp_place ok a b hw
/-! along a train -/
def gen (f : Part → Int → Int → Int × Int) : List Part → List Int → Int → List Int × Int
  | p :: ps, x :: xs, a => ((f p x a).1 :: (gen f ps xs (f p x a).2).1, (gen f ps xs (f p x a).2).2)
  | _, xs, a => (xs, a)
def stF (f : Part → Int → Int → Int × Int) (ps : List Part) (s : List Int × Int) (n : Nat) : List Int × Int := match ps[n]?, s.1[n]? with
  | some p, some x => (s.1.set n (f p x s.2).1, (f p x s.2).2)
  | _, _ => s
def rnF (f : Part → Int → Int → Int × Int) (ps : List Part) (i : Nat) (s : List Int × Int) : Nat → List Int × Int
  | 0 => s
  | n + 1 => stF f ps (rnF f ps i s n) (i + n)
theorem stF_at {f : Part → Int → Int → Int × Int} {ps : List Part} {s : List Int × Int} {n : Nat} {p : Part} {x : Int} (hp : ps[n]? = some p) (hx : s.1[n]? = some x) : stF f ps s n = (s.1.set n (f p x s.2).1, (f p x s.2).2) := by
  unfold stF
  rw [hp, hx]
theorem rnF_first (f : Part → Int → Int → Int × Int) (ps : List Part) (i : Nat) (s : List Int × Int) : ∀ n, rnF f ps i s (n + 1) = rnF f ps (i + 1) (stF f ps s i) n
  | 0 => rfl
  | n + 1 => by
    show stF f ps (rnF f ps i s (n + 1)) (i + (n + 1)) = stF f ps (rnF f ps (i + 1) (stF f ps s i) n) (i + 1 + n)
    rw [rnF_first f ps i s n, show i + (n + 1) = i + 1 + n by omega]
theorem rnF_len (f : Part → Int → Int → Int × Int) (ps : List Part) (i : Nat) (s : List Int × Int) : ∀ n, (rnF f ps i s n).1.length = s.1.length
  | 0 => rfl
  | n + 1 => by
    show (stF f ps _ _).1.length = _
    rw [← rnF_len f ps i s n]
    unfold stF
    split
    · show (List.set _ _ _).length = _
      rw [List.length_set]
    · rfl
theorem rnF_ahead (f : Part → Int → Int → Int × Int) (ps : List Part) (i : Nat) (s : List Int × Int) : ∀ n m, i + n ≤ m → (rnF f ps i s n).1[m]? = s.1[m]?
  | 0, _, _ => rfl
  | n + 1, m, h => by
    rw [← rnF_ahead f ps i s n m (by omega)]
    show (stF f ps _ _).1[m]? = _
    unfold stF
    split
    · show (List.set _ _ _)[m]? = _
      rw [List.getElem?_set_ne (by omega)]
    · rfl
/-- places one by one, by number, or by going down the train -/
theorem rnF_gen (f : Part → Int → Int → Int × Int) (ps : List Part) : ∀ (n i : Nat) (xs : List Int) (a : Int), xs.length = ps.length → i + n = ps.length →
    rnF f ps i (xs, a) n = (xs.take i ++ (gen f (ps.drop i) (xs.drop i) a).1, (gen f (ps.drop i) (xs.drop i) a).2)
  | 0, i, xs, a, hl, hn => by
    have e1 : ps.drop i = [] := List.drop_of_length_le (by omega)
    have e2 : xs.drop i = [] := List.drop_of_length_le (by omega)
    rw [e1, e2]
    show (xs, a) = (xs.take i ++ [], a)
    rw [List.append_nil, List.take_of_length_le (by omega)]
  | n + 1, i, xs, a, hl, hn => by
    have hi : i < ps.length := by omega
    have hx : i < xs.length := by omega
    rw [rnF_first, stF_at (List.getElem?_eq_getElem hi) (List.getElem?_eq_getElem hx), rnF_gen f ps n (i + 1) _ _ (by rw [List.length_set]; exact hl) (by omega)]
    rw [List.drop_eq_getElem_cons hi, List.drop_eq_getElem_cons hx]
    show (List.take (i + 1) (xs.set i _) ++ (gen f _ (List.drop (i + 1) (xs.set i _)) _).1, _) = (xs.take i ++ ((f ps[i] xs[i] a).1 :: (gen f (ps.drop (i + 1)) (xs.drop (i + 1)) (f ps[i] xs[i] a).2).1), (gen f (ps.drop (i + 1)) (xs.drop (i + 1)) (f ps[i] xs[i] a).2).2)
    rw [List.drop_set_of_lt (by omega), show List.take (i + 1) (xs.set i (f ps[i] xs[i] a).1) = xs.take i ++ [(f ps[i] xs[i] a).1] by
      rw [List.take_set, List.take_add_one, List.getElem?_eq_getElem hx, List.set_append_right _ _ (by rw [List.length_take]; omega), List.length_take, show i - min i xs.length = 0 by omega]
      rfl, List.append_assoc]
    rfl
/-- a push that may be none -/
def ppz (p : Part) (x g : Int) : Int × Int := if g = 0 then (x, 0) else pp p x g
theorem stp_stF (ps : List Part) (s : List Int × Int) (n : Nat) : stp ps s n = stF ppz ps s n := by
  unfold stp stF
  split
  · rename_i h
    cases e1 : ps[n]? with
    | none => rfl
    | some p =>
      cases e2 : s.1[n]? with
      | none => rfl
      | some x =>
        obtain ⟨hn, hx⟩ := List.getElem?_eq_some_iff.mp e2
        show s = (s.1.set n (ppz p x s.2).1, (ppz p x s.2).2)
        unfold ppz
        rw [if_pos h]
        show s = (s.1.set n x, 0)
        rw [← hx, List.set_getElem_self, ← h]
  · rename_i h
    cases e1 : ps[n]? with
    | none => rfl
    | some p =>
      cases e2 : s.1[n]? with
      | none => rfl
      | some x =>
        show _ = (s.1.set n (ppz p x s.2).1, (ppz p x s.2).2)
        unfold ppz
        rw [if_neg h]
theorem runN_rnF (ps : List Part) (i : Nat) (s : List Int × Int) : ∀ n, runN ps i s n = rnF ppz ps i s n
  | 0 => rfl
  | n + 1 => by
    show stp ps _ _ = stF ppz ps _ _
    rw [stp_stF, runN_rnF ps i s n]
theorem run_gen {ps : List Part} {xs : List Int} {i : Nat} {w : Int} (hl : xs.length = ps.length) (hi : i ≤ ps.length) : Ct.run ps xs i w = (xs.take i ++ (gen ppz (ps.drop i) (xs.drop i) w).1, (gen ppz (ps.drop i) (xs.drop i) w).2) := by
  unfold Ct.run
  rw [runN_rnF, rnF_gen ppz ps _ _ _ _ hl (by omega)]
/-- pushes one by one -/
def itP (ps : List Part) (w : Int) : Nat → List Int → List Int × Int
  | 0, xs => (xs, 0)
  | t + 1, xs => ((gen ppz ps (itP ps w t xs).1 w).1, (itP ps w t xs).2 + (gen ppz ps (itP ps w t xs).1 w).2)
def ptw (w : Int) (p : Part) (x t : Int) : Int × Int := pt p x w t
theorem gen_ppz_zero : ∀ (ps : List Part) (xs : List Int), gen ppz ps xs 0 = (xs, 0)
  | [], _ => rfl
  | _ :: _, [] => rfl
  | p :: ps, x :: xs => by
    show ((ppz p x 0).1 :: (gen ppz ps xs (ppz p x 0).2).1, (gen ppz ps xs (ppz p x 0).2).2) = _
    rw [show ppz p x 0 = (x, 0) from rfl, gen_ppz_zero ps xs]
def StandL : List Part → List Int → Prop
  | [], [] => True
  | p :: ps, x :: xs => p.ok ∧ 0 ≤ x ∧ x < p.places ∧ StandL ps xs
  | _, _ => False
theorem itP_cons {p : Part} {x : Int} (ps : List Part) (xs : List Int) {w : Int} (ok : p.ok) (h0 : 0 ≤ x) (h1 : x < p.places) (hw : Sign w) : ∀ t : Nat,
    itP (p :: ps) w t (x :: xs) = ((pt p x w t).1 :: (itP ps w (pt p x w t).2.toNat xs).1, (itP ps w (pt p x w t).2.toNat xs).2)
  | 0 => by
    show (x :: xs, (0 : Int)) = ((pt p x w 0).1 :: (itP ps w (pt p x w 0).2.toNat xs).1, (itP ps w (pt p x w 0).2.toNat xs).2)
    rw [pt_zero ok h0 h1]
    rfl
  | t + 1 => by
    have w0 : w ≠ 0 := by rcases hw with rfl | rfl <;> decide
    have nn := pt_nn ok h0 h1 hw t
    show ((gen ppz (p :: ps) (itP (p :: ps) w t (x :: xs)).1 w).1, (itP (p :: ps) w t (x :: xs)).2 + (gen ppz (p :: ps) (itP (p :: ps) w t (x :: xs)).1 w).2) = _
    rw [itP_cons ps xs ok h0 h1 hw t, pt_step ok h0 h1 hw t]
    generalize hy : (pt p x w t).1 = y
    generalize hn : (pt p x w t).2 = n at nn
    show ((ppz p y w).1 :: (gen ppz ps (itP ps w n.toNat xs).1 (ppz p y w).2).1, (itP ps w n.toNat xs).2 + (gen ppz ps (itP ps w n.toNat xs).1 (ppz p y w).2).2) = _
    rw [show ppz p y w = pp p y w from if_neg w0]
    rcases pp_way p y w hw with e | e
    · rw [e, gen_ppz_zero, if_pos rfl]
      show ((pp p y w).1 :: (itP ps w n.toNat xs).1, (itP ps w n.toNat xs).2 + 0) = ((pp p y w).1 :: (itP ps w (n + 0).toNat xs).1, (itP ps w (n + 0).toNat xs).2)
      rw [Int.add_zero, Int.add_zero]
    · rw [e, if_neg w0]
      show ((pp p y w).1 :: (gen ppz ps (itP ps w n.toNat xs).1 w).1, (itP ps w n.toNat xs).2 + (gen ppz ps (itP ps w n.toNat xs).1 w).2) = ((pp p y w).1 :: (itP ps w (n + 1).toNat xs).1, (itP ps w (n + 1).toNat xs).2)
      rw [show (n + 1).toNat = n.toNat + 1 by omega]
      rfl
theorem itP_nil (w : Int) : ∀ (t : Nat), itP [] w t [] = ([], w * t)
  | 0 => by
    show (([] : List Int), (0 : Int)) = ([], w * ((0 : Nat) : Int))
    rw [show ((0 : Nat) : Int) = 0 from rfl, Int.mul_zero]
  | t + 1 => by
    show ((gen ppz [] (itP [] w t []).1 w).1, (itP [] w t []).2 + (gen ppz [] (itP [] w t []).1 w).2) = _
    rw [itP_nil w t]
    refine Prod.ext rfl ?_
    show w * t + w = w * ((t + 1 : Nat) : Int)
    rw [show ((t + 1 : Nat) : Int) = (t : Int) + 1 by omega, Int.mul_add, Int.mul_one]
/-- THE promise: reckoned at once is as pushed one by one -/
theorem itP_gen {w : Int} (hw : Sign w) : ∀ (ps : List Part) (xs : List Int) (t : Nat), StandL ps xs → itP ps w t xs = ((gen (ptw w) ps xs t).1, w * (gen (ptw w) ps xs t).2)
  | [], [], t, _ => itP_nil w t
  | p :: ps, x :: xs, t, ⟨ok, h0, h1, h⟩ => by
    rw [itP_cons ps xs ok h0 h1 hw t, itP_gen hw ps xs _ h]
    have nn := pt_nn ok h0 h1 hw t
    show _ = ((pt p x w t).1 :: (gen (ptw w) ps xs (pt p x w t).2).1, w * (gen (ptw w) ps xs (pt p x w t).2).2)
    rw [show (((pt p x w t).2.toNat : Nat) : Int) = (pt p x w t).2 by omega]
theorem gen_stand {w : Int} (hw : Sign w) : ∀ (ps : List Part) (xs : List Int) (t : Int), 0 ≤ t → StandL ps xs → StandL ps (gen (ptw w) ps xs t).1 ∧ 0 ≤ (gen (ptw w) ps xs t).2
  | [], [], t, ht, _ => ⟨trivial, ht⟩
  | p :: ps, x :: xs, t, ht, ⟨ok, h0, h1, h⟩ => by
    have e : ((t.toNat : Nat) : Int) = t := by omega
    have a := pt_place ok h0 h1 hw t.toNat
    have n := pt_nn ok h0 h1 hw t.toNat
    rw [e] at a n
    have ih := gen_stand hw ps xs (pt p x w t).2 n h
    exact ⟨⟨ok, a.1, a.2, ih.1⟩, ih.2⟩
theorem stand_drop : ∀ {ps : List Part} {xs : List Int} (i : Nat), StandL ps xs → StandL (ps.drop i) (xs.drop i)
  | [], [], i, _ => by rw [List.drop_nil, List.drop_nil]; trivial
  | p :: ps, x :: xs, 0, h => h
  | p :: ps, x :: xs, i + 1, ⟨_, _, _, h⟩ => stand_drop (ps := ps) (xs := xs) i h
theorem stand_join : ∀ {ps : List Part} {xs ys : List Int} (i : Nat), StandL ps xs → StandL (ps.drop i) ys → StandL ps (xs.take i ++ ys)
  | ps, xs, ys, 0, _, h => h
  | [], [], ys, i + 1, _, h => by
    rw [List.drop_nil] at h
    exact h
  | p :: ps, x :: xs, ys, i + 1, ⟨a, b, c, d⟩, h => ⟨a, b, c, stand_join (ps := ps) (xs := xs) i d h⟩
theorem StandL.len : ∀ {ps : List Part} {xs : List Int}, StandL ps xs → xs.length = ps.length
  | [], [], _ => rfl
  | p :: ps, x :: xs, ⟨_, _, _, h⟩ => by rw [List.length_cons, List.length_cons, StandL.len (ps := ps) (xs := xs) h]
theorem StandL.okp : ∀ {ps : List Part} {xs : List Int}, StandL ps xs → ∀ p ∈ ps, p.ok
  | [], [], _, p, hp => by cases hp
  | a :: ps, x :: xs, ⟨h, _, _, hr⟩, p, hp => by
    rcases List.mem_cons.mp hp with rfl | hp
    · exact h
    · exact StandL.okp (ps := ps) (xs := xs) hr p hp
theorem standL_of : ∀ {ps : List Part} {xs : List Int}, (∀ p ∈ ps, p.ok) → StandOk ps xs → StandL ps xs
  | [], [], _, _ => trivial
  | [], _ :: _, _, h => by have := h.1; simp at this
  | _ :: _, [], _, h => by have := h.1; simp at this
  | p :: ps, x :: xs, hp, h => by
    have a := h.2 0 p x rfl rfl
    exact ⟨hp p List.mem_cons_self, a.1, a.2, standL_of (fun q hq => hp q (List.mem_cons_of_mem _ hq)) ⟨by have := h.1; rw [List.length_cons, List.length_cons] at this; omega, fun i q y hq hy => h.2 (i + 1) q y hq hy⟩⟩
theorem StandL.ok : ∀ {ps : List Part} {xs : List Int}, StandL ps xs → StandOk ps xs
  | [], [], _ => ⟨rfl, fun i p x h _ => by simp at h⟩
  | p :: ps, x :: xs, ⟨_, a, b, h⟩ => by
    have ih := StandL.ok (ps := ps) (xs := xs) h
    refine ⟨by rw [List.length_cons, List.length_cons, ih.1], fun i q y hq hy => ?_⟩
    cases i with
    | zero =>
      cases Option.some.inj hq
      cases Option.some.inj hy
      exact ⟨a, b⟩
    | succ i => exact ih.2 i q y hq hy
/-! rows -/
structure Deed where
  i : Nat
  w : Int
  t : Nat
def Deed.ok (d : Deed) (n : Nat) : Prop := d.i < n ∧ Sign d.w
def Deed.data (d : Deed) : PyData := .tuple [.int d.i, .int d.w, .int d.t]
/-- one deed, at once -/
def deedL (ps : List Part) (xs : List Int) (d : Deed) : List Int × Int := (xs.take d.i ++ (gen (ptw d.w) (ps.drop d.i) (xs.drop d.i) d.t).1, d.w * (gen (ptw d.w) (ps.drop d.i) (xs.drop d.i) d.t).2)
def rowL (ps : List Part) : List Deed → List Int × Int → List Int × Int
  | [], s => s
  | d :: ds, s => rowL ps ds ((deedL ps s.1 d).1, s.2 + (deedL ps s.1 d).2)
theorem rowL_app (ps : List Part) : ∀ (ds es : List Deed) (s : List Int × Int), rowL ps (ds ++ es) s = rowL ps es (rowL ps ds s)
  | [], _, _ => rfl
  | d :: ds, es, s => rowL_app ps ds es _
theorem deedL_stand {ps : List Part} {xs : List Int} {d : Deed} (h : StandL ps xs) (hd : d.ok ps.length) : StandL ps (deedL ps xs d).1 :=
  stand_join d.i h (gen_stand hd.2 _ _ d.t (by omega) (stand_drop d.i h)).1
theorem rowL_stand {ps : List Part} : ∀ {ds : List Deed} {s : List Int × Int}, StandL ps s.1 → (∀ d ∈ ds, d.ok ps.length) → StandL ps (rowL ps ds s).1
  | [], _, h, _ => h
  | d :: ds, s, h, hd => rowL_stand (ds := ds) (deedL_stand h (hd d List.mem_cons_self)) fun e he => hd e (List.mem_cons_of_mem _ he)
/-- a deed, push by push: each push goes along the train from part i -/
def pushes (ps : List Part) (i : Nat) (w : Int) : Nat → List Int × Int → List Int × Int
  | 0, s => s
  | t + 1, s => ((Ct.run ps (pushes ps i w t s).1 i w).1, (pushes ps i w t s).2 + (Ct.run ps (pushes ps i w t s).1 i w).2)
theorem pushes_itP {ps : List Part} {xs : List Int} {i : Nat} {w : Int} (hl : xs.length = ps.length) (hi : i ≤ ps.length) (a : Int) : ∀ t, pushes ps i w t (xs, a) = (xs.take i ++ (itP (ps.drop i) w t (xs.drop i)).1, a + (itP (ps.drop i) w t (xs.drop i)).2) ∧ (itP (ps.drop i) w t (xs.drop i)).1.length = ps.length - i
  | 0 => by
    refine ⟨Prod.ext ?_ ?_, ?_⟩
    · show xs = xs.take i ++ xs.drop i
      rw [List.take_append_drop]
    · show a = a + 0
      omega
    · show (xs.drop i).length = _
      rw [List.length_drop, hl]
  | t + 1 => by
    obtain ⟨ih, il⟩ := pushes_itP hl hi a t
    have tl : (xs.take i).length = i := by rw [List.length_take]; omega
    have gl : ∀ (qs : List Part) (ys : List Int) (g : Int), (gen ppz qs ys g).1.length = ys.length := fun qs => by
      induction qs with
      | nil => intro ys g; rfl
      | cons q qs ih =>
        intro ys g
        cases ys with
        | nil => rfl
        | cons y ys =>
          show ((ppz q y g).1 :: (gen ppz qs ys (ppz q y g).2).1).length = _
          rw [List.length_cons, List.length_cons, ih]
    refine ⟨?_, ?_⟩
    · show ((Ct.run ps (pushes ps i w t (xs, a)).1 i w).1, (pushes ps i w t (xs, a)).2 + (Ct.run ps (pushes ps i w t (xs, a)).1 i w).2) = _
      rw [ih]
      rw [run_gen (by show (xs.take i ++ _).length = _; rw [List.length_append, tl, il]; omega) hi]
      show (List.take i (xs.take i ++ _) ++ (gen ppz (ps.drop i) (List.drop i (xs.take i ++ _)) w).1, a + _ + (gen ppz (ps.drop i) (List.drop i (xs.take i ++ _)) w).2) = _
      rw [List.take_left' tl, List.drop_left' tl]
      refine Prod.ext rfl ?_
      show a + (itP (ps.drop i) w t (xs.drop i)).2 + (gen ppz (ps.drop i) (itP (ps.drop i) w t (xs.drop i)).1 w).2 = a + ((itP (ps.drop i) w t (xs.drop i)).2 + (gen ppz (ps.drop i) (itP (ps.drop i) w t (xs.drop i)).1 w).2)
      omega
    · show (gen ppz (ps.drop i) (itP (ps.drop i) w t (xs.drop i)).1 w).1.length = _
      rw [gl, il]
theorem pushes_deed {ps : List Part} {xs : List Int} {d : Deed} (h : StandL ps xs) (hd : d.ok ps.length) (a : Int) : pushes ps d.i d.w d.t (xs, a) = ((deedL ps xs d).1, a + (deedL ps xs d).2) := by
  rw [(pushes_itP h.len (Nat.le_of_lt hd.1) a d.t).1, itP_gen hd.2 _ _ _ (stand_drop d.i h)]
  rfl
theorem pushes_stand {ps : List Part} {xs : List Int} {i : Nat} {w : Int} (h : StandL ps xs) (hi : i < ps.length) (hw : Sign w) (a : Int) (t : Nat) : StandL ps (pushes ps i w t (xs, a)).1 := by
  have := deedL_stand (d := ⟨i, w, t⟩) h ⟨hi, hw⟩
  rw [pushes_deed (d := ⟨i, w, t⟩) h ⟨hi, hw⟩ a]
  exact this
section
variable {K : PySem.W.Frag} {H : Hp}
theorem deed_inv {v : V} {d : Deed} (h : Dp K H v d.data) : ∃ a, v = .ref a ∧ SqT K H a [.int d.i, .int d.w, .int d.t] := by
  obtain ⟨a, vs, rfl, hs, ht⟩ := tup_inv h
  cases ht with
  | cons h1 t1 => cases h1; cases t1 with
    | cons h2 t2 => cases h2; cases t2 with
      | cons h3 t3 => cases h3; cases t3; exact ⟨a, rfl, hs⟩
theorem deed_dp {a : Addr} {d : Deed} (h : SqT K H a [.int d.i, .int d.w, .int d.t]) : Dp K H (.ref a) d.data := .tup h (.cons (.int _) (.cons (.int _) (.cons (.int _) .nil)))
theorem deeds_upd {l : Addr} {ws : List V} {o : HO} (hl : H l = some (.lst ws)) : ∀ {vs : List V} (ds : List Deed), DpAll K H vs (ds.map Deed.data) → DpAll K (upd H l o) vs (ds.map Deed.data)
  | _, [], .nil => .nil
  | _, d :: r, .cons h t => by
    obtain ⟨a, rfl, ha⟩ := deed_inv h
    exact .cons (deed_dp (sqT_upd ha hl)) (deeds_upd hl r t)
def RowAt (K : PySem.W.Frag) (H : Hp) (a : Addr) (ds : List Deed) : Prop := ∃ vs, SqL K H a vs ∧ DpAll K H vs (ds.map Deed.data)
theorem RowAt.same {H' : Hp} {a : Addr} {ds : List Deed} (e : Same H H') (h : RowAt K H a ds) : RowAt K H' a ds := by
  obtain ⟨vs, h1, h2⟩ := h
  exact ⟨vs, e.seq h1, dpAll_same e h2⟩
theorem deed_get {ds : List Deed} {vs : List V} (h2 : DpAll K H vs (ds.map Deed.data)) {i : Nat} {d : Deed} (e : ds[i]? = some d) : ∃ v, vs[i]? = some v ∧ Dp K H v d.data :=
  dpAll_get h2 (by rw [List.getElem?_map, e]; rfl)
end
theorem lay_deed (d : Deed) : d.data.canLay0 = true ∧ d.data.depth ≤ 1 := lay_tup (n := 0) (lay_ints [(d.i : Int), d.w, (d.t : Int)] 0)
theorem lay_row (ds : List Deed) : (PyData.list (ds.map Deed.data)).canLay0 = true ∧ (PyData.list (ds.map Deed.data)).depth ≤ 2 := lay_lst fun d hd => by
  obtain ⟨e, _, rfl⟩ := List.mem_map.mp hd
  exact lay_deed e
/-! what the checks look at -/
def isW : PyData → Bool
  | .int _ => true
  | _ => false
def risesD (last z : Int) : List PyData → Bool
  | [] => true
  | .int m :: r => if m ≤ last ∨ z ≤ m then false else risesD m z r
  | _ :: _ => false
def areM (d : PyData) (z : Int) : Bool := match d with
  | .tuple ds => risesD (-1) z ds
  | _ => false
def wheelT : List PyData → Bool
  | [.int z, m] => decide (1 ≤ z) && areM m z
  | _ => false
def springT : List PyData → Bool
  | [.int k] => decide (1 ≤ k)
  | _ => false
def isP : PyData → Bool
  | .tuple (h :: t) =>
    if PyData.eqv h (.str "wheel") = true then wheelT t
    else if PyData.eqv h (.str "spring") = true then springT t
    else PyData.eqv (.tuple (h :: t)) (.tuple [.str "click"]) || PyData.eqv (.tuple (h :: t)) (.tuple [.str "rocker"])
  | _ => false
theorem rises_of : ∀ {ms : List Int} {last z : Int}, ms.Pairwise (· < ·) → (∀ m ∈ ms, last < m ∧ m < z) → risesD last z (ms.map PyData.int) = true
  | [], _, _, _, _ => rfl
  | m :: ms, last, z, h, hm => by
    obtain ⟨h1, h2⟩ := List.pairwise_cons.mp h
    have hm1 := hm m List.mem_cons_self
    show (if m ≤ last ∨ z ≤ m then false else risesD m z (ms.map PyData.int)) = true
    rw [if_neg (by omega)]
    exact rises_of h2 fun x hx => ⟨h1 x hx, (hm x (List.mem_cons_of_mem _ hx)).2⟩
theorem isP_of {p : Part} (ok : p.ok) : isP p.data = true := by
  cases p with
  | wheel z ms =>
    simp only [isP, Part.data, wheelT, areM]
    rw [if_pos (by decide +kernel), decide_eq_true ok.1, rises_of ok.2.2.1.1 fun m hm => ?_]
    · rfl
    · have := ok.2.2.1.2 m hm
      omega
  | click => decide +kernel
  | rocker => decide +kernel
  | spring k =>
    simp only [isP, Part.data, springT]
    rw [if_neg (by decide +kernel), if_pos (by decide +kernel)]
    exact decide_eq_true ok.1
def isD (d : PyData) (n : Int) : Bool := match d with
  | .tuple [.int i, .int w, .int t] => decide (0 ≤ i) && decide (i < n) && (decide (w = 1) || decide (w = -1)) && decide (0 ≤ t)
  | _ => false
theorem dpAll_drop {K : PySem.W.Frag} {H : Hp} : ∀ {vs : List V} {ds : List PyData} (k : Nat), DpAll K H vs ds → DpAll K H (vs.drop k) (ds.drop k)
  | _, _, 0, h => h
  | _, _, _ + 1, .nil => .nil
  | _, _, k + 1, .cons _ t => dpAll_drop k t
theorem dpAll_take {K : PySem.W.Frag} {H : Hp} : ∀ {vs : List V} {ds : List PyData} (k : Nat), DpAll K H vs ds → DpAll K H (vs.take k) (ds.take k)
  | _, _, 0, _ => .nil
  | _, _, _ + 1, .nil => .nil
  | _, _, k + 1, .cons h t => .cons h (dpAll_take k t)
theorem dpAll_cut {K : PySem.W.Frag} {H : Hp} {vs : List V} {ds : List Deed} (lo hi : Option Int) (h : DpAll K H vs (ds.map Deed.data)) : ∃ es : List Deed, DpAll K H (cutV vs lo hi) (es.map Deed.data) ∧ ∀ d ∈ es, d ∈ ds := by
  refine ⟨(ds.drop (HT.sIx vs.length 0 lo)).take (HT.sIx vs.length vs.length hi - HT.sIx vs.length 0 lo), ?_, fun d hd => List.mem_of_mem_drop (List.mem_of_mem_take hd)⟩
  rw [List.map_take, List.map_drop]
  exact dpAll_take _ (dpAll_drop _ h)
/-! how often each mark is met -/
def wsum (z : Int) : List Int → Int → Int
  | [], _ => 0
  | m :: r, y => (y - m) / z + wsum z r y
theorem wsum_app (z y : Int) : ∀ (ms : List Int) (m : Int), wsum z (ms ++ [m]) y = wsum z ms y + (y - m) / z
  | [], m => by
    show (y - m) / z + 0 = 0 + (y - m) / z
    omega
  | a :: r, m => by
    show (y - a) / z + wsum z (r ++ [m]) y = (y - a) / z + wsum z r y + (y - m) / z
    rw [wsum_app z y r m]
    omega
theorem wsum_mah {z : Int} (hz : 1 ≤ z) (y : Int) : ∀ {ms : List Int}, (∀ m ∈ ms, 0 ≤ m ∧ m < z) → wsum z ms y = mah z ms y - ms.length
  | [], _ => by
    show (0 : Int) = y / z * ((0 : Nat) : Int) + 0 - ((0 : Nat) : Int)
    rw [show ((0 : Nat) : Int) = 0 from rfl, Int.mul_zero]
    rfl
  | m :: r, h => by
    have hm := h m List.mem_cons_self
    have ih := wsum_mah hz y (ms := r) fun x hx => h x (List.mem_cons_of_mem _ hx)
    have e := Int.emod_add_mul_ediv y z
    have r0 := Int.emod_nonneg y (show z ≠ 0 by omega)
    have r1 := Int.emod_lt_of_pos y (show 0 < z by omega)
    show (y - m) / z + wsum z r y = _
    rw [ih]
    unfold mah
    rw [cnt_cons, List.length_cons, show ((r.length + 1 : Nat) : Int) = (r.length : Int) + 1 by omega, Int.mul_add, Int.mul_one]
    by_cases hmr : m ≤ y % z
    · obtain ⟨e1, _⟩ := (Int.ediv_emod_unique (a := y - m) (b := z) (r := y % z - m) (q := y / z) (by omega)).mpr ⟨by omega, by omega, by omega⟩
      rw [e1, if_pos hmr]
      omega
    · obtain ⟨e1, _⟩ := (Int.ediv_emod_unique (a := y - m) (b := z) (r := y % z - m + z) (q := y / z - 1) (by omega)).mpr ⟨by rw [Int.mul_sub]; omega, by omega, by omega⟩
      rw [e1, if_neg hmr]
      omega
theorem wsum_up {z : Int} {ms : List Int} {x : Int} (ok : (Part.wheel z ms).ok) (t : Nat) : wsum z ms (x + t) - wsum z ms x = (pt (.wheel z ms) x 1 t).2 := by
  have rs : Rise z ms := ok.2.2.1
  have u := mah_up ok.1 rs x t
  rw [wsum_mah ok.1 _ rs.2, wsum_mah ok.1 _ rs.2]
  simp only [pt, Int.one_mul]
  rw [neg_abs (by omega)]
  omega
theorem wsum_down {z : Int} {ms : List Int} {x : Int} (ok : (Part.wheel z ms).ok) (t : Nat) : wsum z ms x - wsum z ms (x - t) = (pt (.wheel z ms) x (-1) t).2 := by
  have rs : Rise z ms := ok.2.2.1
  have u := mah_up ok.1 rs (x - t) t
  rw [show x - (t : Int) + t = x by omega] at u
  rw [wsum_mah ok.1 _ rs.2, wsum_mah ok.1 _ rs.2]
  simp only [pt, show x + -1 * (t : Int) = x - t by omega]
  rw [abs_neg (by omega)]
  omega
/-! a deed in two -/
theorem pushes_add (ps : List Part) (i : Nat) (w : Int) (a : Nat) (s : List Int × Int) : ∀ b, pushes ps i w (a + b) s = pushes ps i w b (pushes ps i w a s)
  | 0 => rfl
  | b + 1 => by
    show ((Ct.run ps (pushes ps i w (a + b) s).1 i w).1, (pushes ps i w (a + b) s).2 + (Ct.run ps (pushes ps i w (a + b) s).1 i w).2) = _
    rw [pushes_add ps i w a s b]
    rfl
theorem rowL_one {ps : List Part} {s : List Int × Int} {d : Deed} (h : StandL ps s.1) (hd : d.ok ps.length) : rowL ps [d] s = pushes ps d.i d.w d.t s := (pushes_deed h hd s.2).symm
def halves : List Deed → List Deed
  | [] => []
  | d :: r => ⟨d.i, d.w, d.t / 2⟩ :: ⟨d.i, d.w, d.t - d.t / 2⟩ :: halves r
theorem halves_app : ∀ (ds es : List Deed), halves (ds ++ es) = halves ds ++ halves es
  | [], _ => rfl
  | d :: r, es => by
    show _ :: _ :: halves (r ++ es) = _ :: _ :: (halves r ++ halves es)
    rw [halves_app r es]
theorem halves_ok {n : Nat} {b : Nat} : ∀ {ds : List Deed}, (∀ d ∈ ds, d.ok n ∧ d.t < b) → ∀ d ∈ halves ds, d.ok n ∧ d.t < b
  | [], _, d, hd => by cases hd
  | e :: r, h, d, hd => by
    have he := h e List.mem_cons_self
    rcases List.mem_cons.mp hd with rfl | hd
    · exact ⟨he.1, Nat.lt_of_le_of_lt (Nat.div_le_self _ _) he.2⟩
    rcases List.mem_cons.mp hd with rfl | hd
    · exact ⟨he.1, Nat.lt_of_le_of_lt (Nat.sub_le _ _) he.2⟩
    · exact halves_ok (fun d hd => h d (List.mem_cons_of_mem _ hd)) d hd
theorem rowL_halves {ps : List Part} : ∀ {ds : List Deed} {s : List Int × Int}, StandL ps s.1 → (∀ d ∈ ds, d.ok ps.length) → rowL ps (halves ds) s = rowL ps ds s
  | [], _, _, _ => rfl
  | d :: r, s, h, hd => by
    have hd0 := hd d List.mem_cons_self
    have k1 : Deed.ok ⟨d.i, d.w, d.t / 2⟩ ps.length := hd0
    have k2 : Deed.ok ⟨d.i, d.w, d.t - d.t / 2⟩ ps.length := hd0
    show rowL ps ([⟨d.i, d.w, d.t / 2⟩] ++ ([⟨d.i, d.w, d.t - d.t / 2⟩] ++ halves r)) s = rowL ps ([d] ++ r) s
    have h1 : StandL ps (rowL ps [⟨d.i, d.w, d.t / 2⟩] s).1 := rowL_stand h fun e he => by rw [List.mem_singleton] at he; rw [he]; exact k1
    have h2 : StandL ps (rowL ps [⟨d.i, d.w, d.t - d.t / 2⟩] (rowL ps [⟨d.i, d.w, d.t / 2⟩] s)).1 := rowL_stand h1 fun e he => by rw [List.mem_singleton] at he; rw [he]; exact k2
    rw [rowL_app, rowL_app, rowL_app, rowL_halves h2 fun e he => hd e (List.mem_cons_of_mem _ he)]
    rw [rowL_one h1 k2, rowL_one h k1, rowL_one h hd0, ← pushes_add, show d.t / 2 + (d.t - d.t / 2) = d.t by omega]
theorem run_deed {ps : List Part} {xs : List Int} {i : Nat} {w : Int} (h : StandL ps xs) (hi : i < ps.length) (hw : Sign w) : deedL ps xs ⟨i, w, 1⟩ = Ct.run ps xs i w := by
  have e : ((Ct.run ps xs i w).1, 0 + (Ct.run ps xs i w).2) = ((deedL ps xs ⟨i, w, 1⟩).1, 0 + (deedL ps xs ⟨i, w, 1⟩).2) := pushes_deed (d := ⟨i, w, 1⟩) h ⟨hi, hw⟩ 0
  obtain ⟨e1, e2⟩ := Prod.mk.inj e
  exact Prod.ext e1.symm (by omega)
theorem rowL_snoc (ps : List Part) (ds : List Deed) (d : Deed) (s : List Int × Int) : rowL ps (ds ++ [d]) s = ((deedL ps (rowL ps ds s).1 d).1, (rowL ps ds s).2 + (deedL ps (rowL ps ds s).1 d).2) := rowL_app ps ds [d] s
theorem told_dp {K : PySem.W.Frag} {H : Hp} {q u : Addr} {xs : List Int} {y : Int} (h : SqT K H q [.ref u, .int y]) (hu : SqT K H u (xs.map V.int)) : Dp K H (.ref q) (.tuple [.tuple (xs.map PyData.int), .int y]) :=
  .tup h (.cons (.tup hu (dpAll_ints xs)) (.cons (.int y) .nil))
end Ct

namespace Ct
open PySem PySem.Spec PyProof.Rows L2
/-! all stands of a train -/
theorem ip_mul {X : Cx} : PIp X .Mult (rI CMul fun i j => .int (i * j)) := iop_mul
def rowS (s : List Int) (k : Nat) : List (List Int) := (List.range k).map fun (x : Nat) => s ++ [(x : Int)]
def grow (ss : List (List Int)) (p : Part) : List (List Int) := ss.flatMap fun s => rowS s p.places.toNat
def allS (ps : List Part) : List (List Int) := ps.foldl grow [[]]
def tupD (s : List Int) : PyData := .tuple (s.map PyData.int)
theorem rowS_len (s : List Int) (k : Nat) : (rowS s k).length = k := by
  unfold rowS
  rw [List.length_map, List.length_range]
theorem rowS_succ (s : List Int) (k : Nat) : rowS s (k + 1) = rowS s k ++ [s ++ [(k : Int)]] := by
  unfold rowS
  rw [List.range_succ, List.map_append]
  rfl
theorem flat_len (k : Nat) : ∀ ss : List (List Int), (ss.flatMap fun s => rowS s k).length = ss.length * k
  | [] => by simp
  | s :: r => by
    rw [List.flatMap_cons, List.length_append, rowS_len, flat_len k r, List.length_cons, Nat.add_mul, Nat.one_mul]
    omega
theorem allS_snoc (ps : List Part) (p : Part) : allS (ps ++ [p]) = grow (allS ps) p := by
  unfold allS
  rw [List.foldl_append]
  rfl
theorem allS_take {ps : List Part} {n : Nat} {p : Part} (h : ps[n]? = some p) : allS (ps.take (n + 1)) = grow (allS (ps.take n)) p := by
  rw [List.take_add_one, h]
  exact allS_snoc _ _
theorem stands_take {ps : List Part} {n : Nat} {p : Part} (h : ps[n]? = some p) : stands (ps.take (n + 1)) = stands (ps.take n) * p.places := by
  rw [List.take_add_one, h]
  exact stands_app _ _
theorem allS_len {ps : List Part} (hok : ∀ p ∈ ps, p.ok) : ∀ n, n ≤ ps.length → ((allS (ps.take n)).length : Int) = stands (ps.take n)
  | 0, _ => rfl
  | n + 1, hn => by
    obtain ⟨p, hp⟩ : ∃ p, ps[n]? = some p := ⟨_, List.getElem?_eq_getElem (by omega)⟩
    have po := (hok p (List.mem_of_getElem? hp)).pos.1
    rw [allS_take hp, stands_take hp, ← allS_len hok n (by omega)]
    unfold grow
    rw [flat_len, Int.natCast_mul, Int.toNat_of_nonneg (by omega)]
theorem stands_le {ps : List Part} (hok : ∀ p ∈ ps, p.ok) : ∀ n, n ≤ ps.length → stands (ps.take (ps.length - n)) ≤ stands ps
  | 0, _ => by
    rw [Nat.sub_zero, List.take_length]
    exact Int.le_refl _
  | n + 1, hn => by
    have ih := stands_le hok n (by omega)
    obtain ⟨p, hp⟩ : ∃ p, ps[ps.length - (n + 1)]? = some p := ⟨_, List.getElem?_eq_getElem (by omega)⟩
    have po := (hok p (List.mem_of_getElem? hp)).pos.1
    have e := stands_take hp
    rw [show ps.length - (n + 1) + 1 = ps.length - n by omega] at e
    have sp := stands_pos (ps.take (ps.length - (n + 1))) fun q hq => hok q (List.mem_of_mem_take hq)
    rw [e] at ih
    have := Int.mul_le_mul_of_nonneg_left po (show 0 ≤ stands (ps.take (ps.length - (n + 1))) by omega)
    omega
theorem stands_le' {ps : List Part} (hok : ∀ p ∈ ps, p.ok) {n : Nat} (hn : n ≤ ps.length) : stands (ps.take n) ≤ stands ps := by
  have := stands_le hok (ps.length - n) (by omega)
  rw [show ps.length - (ps.length - n) = n by omega] at this
  exact this
theorem place_le {ps : List Part} (hok : ∀ p ∈ ps, p.ok) {n : Nat} {p : Part} (hp : ps[n]? = some p) : p.places ≤ stands ps := by
  have hn : n < ps.length := (List.getElem?_eq_some_iff.mp hp).1
  have po := (hok p (List.mem_of_getElem? hp)).pos.1
  have h3 := stands_le' hok (n := n + 1) hn
  have sp := stands_pos (ps.take n) fun q hq => hok q (List.mem_of_mem_take hq)
  rw [stands_take hp] at h3
  have := Int.mul_le_mul_of_nonneg_right sp (show 0 ≤ p.places by omega)
  omega
theorem fold_each {k : Nat} : ∀ (ps : List Part) (ss : List (List Int)), (∀ s ∈ ss, s.length = k) → ∀ s ∈ ps.foldl grow ss, s.length = k + ps.length
  | [], ss, h, s, hs => h s hs
  | p :: ps, ss, h, s, hs => by
    have := fold_each (k := k + 1) ps (grow ss p) (fun t ht => by
      obtain ⟨u, hu, hr⟩ := List.mem_flatMap.mp ht
      obtain ⟨x, _, rfl⟩ := List.mem_map.mp hr
      rw [List.length_append, h u hu]
      rfl) s hs
    rw [List.length_cons]
    omega
theorem allS_each (ps : List Part) (s : List Int) (h : s ∈ allS ps) : s.length = ps.length := by
  have := fold_each (k := 0) ps [[]] (fun t ht => by rw [List.mem_singleton] at ht; rw [ht]; rfl) s h
  omega
theorem grow_le {ps : List Part} (hok : ∀ p ∈ ps, p.ok) {n : Nat} {p : Part} (hp : ps[n]? = some p) {i : Nat} : (((allS (ps.take n)).take i).flatMap fun s => rowS s p.places.toNat).length ≤ (stands ps).toNat := by
  have hn : n < ps.length := (List.getElem?_eq_some_iff.mp hp).1
  have h1 : (((allS (ps.take n)).take i).flatMap fun s => rowS s p.places.toNat).length ≤ (grow (allS (ps.take n)) p).length := by
    unfold grow
    rw [flat_len, flat_len, List.length_take]
    exact Nat.mul_le_mul_right _ (Nat.min_le_right _ _)
  rw [← allS_take hp] at h1
  have h2 := allS_len hok (n + 1) hn
  have h3 := stands_le' hok (n := n + 1) hn
  omega
section
variable {K : PySem.W.Frag} {H : Hp}
theorem tupD_inv {v : V} {s : List Int} (h : Dp K H v (tupD s)) : ∃ a, v = .ref a ∧ SqT K H a (s.map V.int) := by
  obtain ⟨a, vs, rfl, hs, ht⟩ := tup_inv h
  cases dpAll_ints_inv s ht
  exact ⟨a, rfl, hs⟩
theorem tupD_dp {a : Addr} {s : List Int} (h : SqT K H a (s.map V.int)) : Dp K H (.ref a) (tupD s) := .tup h (dpAll_ints s)
theorem tups_upd {l : Addr} {ws : List V} {o : HO} (hl : H l = some (.lst ws)) : ∀ {vs : List V} (ss : List (List Int)), DpAll K H vs (ss.map tupD) → DpAll K (upd H l o) vs (ss.map tupD)
  | _, [], .nil => .nil
  | _, s :: r, .cons h t => by
    obtain ⟨a, rfl, ha⟩ := tupD_inv h
    exact .cons (tupD_dp (sqT_upd ha hl)) (tups_upd hl r t)
theorem tup_get {ss : List (List Int)} {vs : List V} (h2 : DpAll K H vs (ss.map tupD)) {i : Nat} {s : List Int} (e : ss[i]? = some s) : ∃ a, vs[i]? = some (.ref a) ∧ SqT K H a (s.map V.int) := by
  obtain ⟨v, hv, hd⟩ := dpAll_get h2 (d := tupD s) (by rw [List.getElem?_map, e]; rfl)
  obtain ⟨a, rfl, ha⟩ := tupD_inv hd
  exact ⟨a, hv, ha⟩
end
theorem lay_tupD (s : List Int) : (tupD s).canLay0 = true ∧ (tupD s).depth ≤ 1 := lay_tup (lay_ints s 0)
theorem lay_tups (ss : List (List Int)) : (PyData.list (ss.map tupD)).canLay0 = true ∧ (PyData.list (ss.map tupD)).depth ≤ 2 := lay_lst fun d hd => by
  obtain ⟨s, _, rfl⟩ := List.mem_map.mp hd
  exact lay_tupD s
theorem stands_rev : ∀ ps : List Part, stands ps.reverse = stands ps
  | [] => rfl
  | p :: r => by
    rw [List.reverse_cons, stands_app, stands_rev r]
    exact Int.mul_comm _ _
theorem dpAll_rev {K : PySem.W.Frag} {H : Hp} : ∀ {vs : List V} {ds : List PyData}, DpAll K H vs ds → DpAll K H vs.reverse ds.reverse
  | _, _, .nil => .nil
  | _, _, .cons h t => by
    rw [List.reverse_cons, List.reverse_cons]
    exact dpAll_app (dpAll_rev t) (.cons h .nil)
/-! two fors in one list -/
section
variable {K : PySem.W.Frag} {H : Hp} {σ : L2.St} {Q : VK}
def LB2 (J : It) (g : TG) (tt : TT) (wi1 : TI) (g1 : TG) (tt1 : TT) (te : TE) (vs vs1 : List Nat) (σ : L2.St) (H : Hp) (Q : VK) : Prop := tLc2 (fun _ H R => R J H) g tt wi1 g1 tt1 te vs vs1 σ H Q
theorem w_lc2 {wi wi1 : TI} {g g1 : TG} {tt tt1 : TT} {te : TE} {vs vs1 : List Nat} (h : wi σ H fun J H1 => LB2 J g tt wi1 g1 tt1 te vs vs1 σ H1 Q) : tLc2 wi g tt wi1 g1 tt1 te vs vs1 σ H Q := h
/-- the inner loop, from which Nx is reached -/
def IB (J : It) (g : TG) (tt : TT) (te : TE) (vs : List Nat) (D : Addr) (σ : L2.St) (H : Hp) (Nx : Hp → Prop) : Prop :=
  ∃ U : Nat → Nat → Hp → Prop, (∃ m, U 0 m H) ∧
    ∀ j k H, U j k H → (J.stop j H ∧ Nx H) ∨
      (J.go j H ∧ ∃ Z : Hp → Prop, (∀ H', Z H' → ∃ k', k' < k ∧ U (j + 1) k' H') ∧
        ∀ x H', J.yld j H x H' →
          g x (wipe σ vs) H' fun σ3 H5 => wipe σ3 vs = wipe σ vs ∧ tt σ3 H5 fun b H6 =>
            if b = true then te σ3 H6 fun y H7 => ∃ acc, H7 D = some (.lst acc) ∧ acc.length < sizeLine ∧ Z (upd H7 D (.lst (acc ++ [y]))) else Z H6)
theorem ib_range {lo : Int} {n : Nat} {g : TG} {tt : TT} {te : TE} {vs : List Nat} {D : Addr} {Nx : Hp → Prop} (Pi : Nat → Hp → Prop) (h0 : Pi 0 H)
    (hs : ∀ j H, j < n → Pi j H → g (.int (lo + j)) (wipe σ vs) H fun σ3 H5 => wipe σ3 vs = wipe σ vs ∧ tt σ3 H5 fun b H6 =>
      if b = true then te σ3 H6 fun y H7 => ∃ acc, H7 D = some (.lst acc) ∧ acc.length < sizeLine ∧ Pi (j + 1) (upd H7 D (.lst (acc ++ [y]))) else Pi (j + 1) H6) (hd : ∀ H, Pi n H → Nx H) : IB (Itr lo n) g tt te vs D σ H Nx := by
  refine ⟨fun j k H => k = n - j ∧ j ≤ n ∧ Pi j H, ⟨n, rfl, Nat.zero_le _, h0⟩, ?_⟩
  rintro j k H ⟨rfl, hj, p⟩
  by_cases hlt : j < n
  · refine .inr ⟨hlt, Pi (j + 1), fun H' p' => ⟨n - (j + 1), by omega, rfl, hlt, p'⟩, fun x H' y => ?_⟩
    obtain ⟨e1, e2⟩ := y
    subst e1 e2
    exact hs j _ hlt p
  · have e : j = n := by omega
    subst e
    exact .inl ⟨Nat.le_refl _, hd H p⟩
theorem lb2_list {a : Addr} (xs : List V) {wi1 : TI} {g g1 : TG} {tt tt1 : TT} {te : TE} {vs vs1 : List Nat} (Pv : Addr → Nat → Hp → Prop) (h0 : ∀ D, H D = none → Pv D 0 (upd H D (.lst []))) (hl : ∀ D, H D = none → ∀ i H1, i ≤ xs.length → Pv D i H1 → SqL K H1 a xs)
    (hs : ∀ D, H D = none → ∀ i x H1, xs[i]? = some x → Pv D i H1 → g x (wipe σ vs) H1 fun σ2 H2 => wipe σ2 vs = wipe σ vs ∧ tt σ2 H2 fun b H3 =>
      if b = true then wi1 σ2 H3 fun J1 H4 => IB J1 g1 tt1 te vs1 D σ2 H4 (Pv D (i + 1)) else Pv D (i + 1) H3) (hd : ∀ D, H D = none → ∀ H1, Pv D xs.length H1 → Q (.ref D) H1) : LB2 (Itl K a) g tt wi1 g1 tt1 te vs vs1 σ H Q := by
  intro D hD
  refine ⟨fun i m H1 => m = xs.length - i ∧ i ≤ xs.length ∧ Pv D i H1, ⟨xs.length, rfl, Nat.zero_le _, h0 D hD⟩, ?_⟩
  rintro i m H1 ⟨rfl, hi, p⟩
  have q := hl D hD i H1 hi p
  by_cases hlt : i < xs.length
  · refine .inr ⟨⟨xs, _, q, List.getElem?_eq_getElem hlt⟩, Pv D (i + 1), fun H' p' => ⟨xs.length - (i + 1), by omega, rfl, hlt, p'⟩, fun x H' y => ?_⟩
    obtain ⟨e, y⟩ := y
    subst e
    exact hs D hD i x _ (y xs q) p
  · have e : i = xs.length := by omega
    subst e
    exact .inl ⟨⟨xs, q, Nat.le_refl _⟩, hd D hD H1 p⟩
theorem w_star {te : TE} {t : TA} {QA : List V → Hp → Prop} (h : te σ H fun x H1 => ∃ p xs, x = V.ref p ∧ (SqT K H1 p xs ∨ SqL K H1 p xs) ∧ t σ H1 fun ys H2 => QA (xs ++ ys) H2) : StX.tStar K te t σ H QA := h
theorem lb_tup {a : Addr} (xs : List V) {g : TG} {tt : TT} {te : TE} {vs : List Nat} (Pv : Addr → Nat → Hp → Prop) (h0 : ∀ D, H D = none → Pv D 0 (upd H D (.lst []))) (hl : ∀ D, H D = none → ∀ i H1, i ≤ xs.length → Pv D i H1 → SqT K H1 a xs)
    (hs : ∀ D, H D = none → ∀ i x H1, xs[i]? = some x → Pv D i H1 → g x (wipe σ vs) H1 fun σ2 H2 => wipe σ2 vs = wipe σ vs ∧ tt σ2 H2 fun b H3 =>
      if b = true then te σ2 H3 fun y H4 => ∃ acc, H4 D = some (.lst acc) ∧ acc.length < sizeLine ∧ Pv D (i + 1) (upd H4 D (.lst (acc ++ [y]))) else Pv D (i + 1) H3) (hd : ∀ D, H D = none → ∀ H1, Pv D xs.length H1 → Q (.ref D) H1) : LB (Itt K a) g tt te vs σ H Q :=
  fun D hD => lc_tup (Pv D) (h0 D hD) (hl D hD) (hs D hD) (hd D hD)
theorem w_revL {te : TE} (h : te σ H fun x H1 => ∃ a xs, x = .ref a ∧ SqL K H1 a xs ∧ ∀ p, H1 p = none → Q (.ref p) (upd H1 p (.lst xs.reverse))) : tRevL K te σ H Q := h
end
end Ct
namespace Ct
open PySem PySem.Spec PyProof.Rows L2
theorem w_catA {K : PySem.W.Frag} {H : Hp} {Q : VK} {a b : Addr} {xs ys : List V} (ha : SqT K H a xs) (hb : SqT K H b ys) (l : xs.length + ys.length ≤ 1000) (q : ∀ u H', Same H H' → SqT K H' u (xs ++ ys) → Q (.ref u) H') : rCatA K (.ref a) (.ref b) H Q := by
  refine ⟨a, b, xs, ys, rfl, rfl, ha, hb, Nat.le_of_lt (small1000 l), fun hx => ?_, fun _ hy => ?_, fun _ _ p np => ?_⟩
  · refine q b H (Same.refl H) ?_
    rw [hx, List.nil_append]
    exact hb
  · refine q a H (Same.refl H) ?_
    rw [hy, List.append_nil]
    exact ha
  · exact q p _ (same_upd np) (.of upd_same)
end Ct
namespace Ct
open PySem PySem.Spec PyProof.Rows L2
theorem standL_app : ∀ {ps qs : List Part} {xs ys : List Int}, StandL ps xs → StandL qs ys → StandL (ps ++ qs) (xs ++ ys)
  | [], _, [], _, _, h => h
  | _ :: _, _, _ :: _, _, ⟨a, b, c, d⟩, h => ⟨a, b, c, standL_app d h⟩
end Ct
namespace Ct
open PySem PySem.Spec PyProof.Rows L2
/-! signs fed to a train -/
def isSg : PyData → Bool
  | .int i => decide (i ∈ [(1 : Int), -1, 0])
  | _ => false
theorem isSg_of {s : Int} (h : s = 0 ∨ Sign s) : isSg (.int s) = true := by
  rcases h with h | h | h <;> rw [h] <;> decide
theorem run_zero (ps : List Part) (xs : List Int) (i : Nat) : Ct.run ps xs i 0 = (xs, 0) := by
  unfold Ct.run
  have z := runN_zero (ps := ps) (i := i) (s := (xs, 0)) (n := 0) rfl (ps.length - i)
  rw [Nat.zero_add] at z
  exact z
theorem run_stand {ps : List Part} {xs : List Int} {i : Nat} {w : Int} (h : StandL ps xs) (hi : i < ps.length) (hw : w = 0 ∨ Sign w) : StandL ps (Ct.run ps xs i w).1 := by
  rcases hw with e | e
  · rw [e, run_zero]
    exact h
  · rw [← run_deed h hi e]
    exact deedL_stand h ⟨hi, e⟩
def fedS (ps : List Part) : List Int → List Int → List Int × List Int
  | xs, [] => (xs, [])
  | xs, s :: r => ((fedS ps (Ct.run ps xs 0 s).1 r).1, (Ct.run ps xs 0 s).2 :: (fedS ps (Ct.run ps xs 0 s).1 r).2)
theorem fedS_snoc (ps : List Part) (s : Int) : ∀ (ss : List Int) (xs : List Int), fedS ps xs (ss ++ [s]) = ((Ct.run ps (fedS ps xs ss).1 0 s).1, (fedS ps xs ss).2 ++ [(Ct.run ps (fedS ps xs ss).1 0 s).2])
  | [], xs => rfl
  | a :: r, xs => by
    rw [List.cons_append, fedS, fedS_snoc ps s r, fedS]
    rfl
theorem fedS_take {ps : List Part} {ss : List Int} {k : Nat} {s : Int} (xs : List Int) (h : ss[k]? = some s) : fedS ps xs (ss.take (k + 1)) = ((Ct.run ps (fedS ps xs (ss.take k)).1 0 s).1, (fedS ps xs (ss.take k)).2 ++ [(Ct.run ps (fedS ps xs (ss.take k)).1 0 s).2]) := by
  rw [← fedS_snoc, List.take_add_one, h]
  rfl
theorem fedS_stand {ps : List Part} (h1 : 1 ≤ ps.length) : ∀ {ss : List Int} {xs : List Int}, StandL ps xs → (∀ s ∈ ss, s = 0 ∨ Sign s) → StandL ps (fedS ps xs ss).1
  | [], _, h, _ => h
  | s :: r, _, h, hs => fedS_stand (ss := r) h1 (run_stand h h1 (hs s List.mem_cons_self)) fun t ht => hs t (List.mem_cons_of_mem s ht)
theorem fedS_len (ps : List Part) : ∀ (ss : List Int) (xs : List Int), (fedS ps xs ss).2.length = ss.length
  | [], _ => rfl
  | s :: r, xs => by
    rw [fedS, List.length_cons, List.length_cons, fedS_len ps r]
end Ct
namespace Ct
open PySem PySem.Spec PyProof.Rows L2
theorem fold_mem : ∀ (ps : List Part) (ss : List (List Int)) (xs : List Int), (∀ p ∈ ps, p.ok) → (xs ∈ ps.foldl grow ss ↔ ∃ s ∈ ss, ∃ ys, xs = s ++ ys ∧ StandL ps ys)
  | [], ss, xs, _ => by
    constructor
    · intro h
      exact ⟨xs, h, [], (List.append_nil xs).symm, trivial⟩
    · rintro ⟨s, hs, ys, rfl, hy⟩
      cases ys with
      | nil => rw [List.append_nil]; exact hs
      | cons _ _ => exact nomatch hy
  | p :: ps, ss, xs, ok => by
    have po := (ok p List.mem_cons_self).pos.1
    rw [List.foldl_cons, fold_mem ps (grow ss p) xs fun q hq => ok q (List.mem_cons_of_mem _ hq)]
    constructor
    · rintro ⟨s', hs', ys, rfl, hy⟩
      obtain ⟨s, hs, hin⟩ := List.mem_flatMap.mp hs'
      obtain ⟨k, hk, rfl⟩ := List.mem_map.mp hin
      rw [List.mem_range] at hk
      exact ⟨s, hs, (k : Int) :: ys, by rw [List.append_assoc]; rfl, ok p List.mem_cons_self, by omega, by omega, hy⟩
    · rintro ⟨s, hs, ys, rfl, hy⟩
      cases ys with
      | nil => exact nomatch hy
      | cons y ys =>
        obtain ⟨_, y0, y1, hy⟩ := hy
        refine ⟨s ++ [y], List.mem_flatMap.mpr ⟨s, hs, List.mem_map.mpr ⟨y.toNat, List.mem_range.mpr (by omega), by rw [Int.toNat_of_nonneg y0]⟩⟩, ys, by rw [List.append_assoc]; rfl, hy⟩
theorem allS_mem {ps : List Part} (ok : ∀ p ∈ ps, p.ok) (xs : List Int) : xs ∈ allS ps ↔ StandL ps xs := by
  rw [allS, fold_mem ps [[]] xs ok]
  constructor
  · rintro ⟨s, hs, ys, rfl, hy⟩
    rw [List.mem_singleton] at hs
    rw [hs]
    exact hy
  · intro h
    exact ⟨[], List.mem_singleton.mpr rfl, xs, rfl, h⟩
/-! one-way trains -/
def gvb : Part → Bool
  | .wheel _ ms => decide (0 < ms.length)
  | _ => false
theorem pp_back {p : Part} {x w : Int} (hw : Sign w) (h : (pp p x w).2 = -1) : w = -1 ∧ gvb p = true := by
  have e := pp_way p x w hw
  rw [h] at e
  have hw1 : w = -1 := by
    rcases e with e | e
    · exact absurd e (by decide)
    · exact e.symm
  refine ⟨hw1, ?_⟩
  subst hw1
  cases p with
  | wheel z ms =>
    have h : (if (if (-1 : Int) = 1 then (x + -1) % z else x) ∈ ms then (-1 : Int) else 0) = -1 := h
    by_cases e2 : (if (-1 : Int) = 1 then (x + -1) % z else x) ∈ ms
    · exact decide_eq_true (List.length_pos_of_mem e2)
    · rw [if_neg e2] at h
      exact absurd h (by decide)
  | click => exact absurd (show (if (-1 : Int) = 1 then (1 : Int) else 0) = -1 from h) (by decide)
  | rocker =>
    have h : (if (-1 : Int) = 1 ∧ x = 0 then (1 : Int) else 0) = -1 := h
    rw [if_neg (by intro z; exact absurd z.1 (by decide))] at h
    exact absurd h (by decide)
  | spring k => exact absurd (show (0 : Int) = -1 from h) (by decide)
/-- what is shown below nought comes through all parts -/
theorem gen_back : ∀ {ps : List Part} {xs : List Int} {w : Int}, w = 0 ∨ Sign w → xs.length = ps.length → (gen ppz ps xs w).2 = -1 → w = -1 ∧ ps.all gvb = true
  | [], [], w, _, _, h => ⟨h, rfl⟩
  | p :: ps, x :: xs, w, hw, hl, h => by
    have hl' : xs.length = ps.length := Nat.succ.inj hl
    have h' : (gen ppz ps xs (ppz p x w).2).2 = -1 := h
    have hz : (ppz p x w).2 = 0 ∨ Sign (ppz p x w).2 := by
      unfold ppz
      split
      · exact .inl rfl
      · rename_i e
        exact pp_sign p x w (hw.resolve_left e)
    obtain ⟨h1, h2⟩ := gen_back hz hl' h'
    have e : w ≠ 0 := fun z => by
      rw [show ppz p x w = (x, 0) from if_pos z] at h1
      exact absurd (show (0 : Int) = -1 from h1) (by decide)
    unfold ppz at h1
    rw [if_neg e] at h1
    obtain ⟨h3, h4⟩ := pp_back (hw.resolve_left e) h1
    exact ⟨h3, by rw [List.all_cons, h4, h2]; rfl⟩
/-- a stand at which each wheel stands at a mark -/
def atMarks : List Part → List Int
  | [] => []
  | .wheel _ (m :: _) :: r => m :: atMarks r
  | _ :: r => 0 :: atMarks r
theorem marks_back : ∀ {ps : List Part}, (∀ p ∈ ps, p.ok) → ps.all gvb = true → StandL ps (atMarks ps) ∧ (gen ppz ps (atMarks ps) (-1)).2 = -1
  | [], _, _ => ⟨trivial, rfl⟩
  | .wheel z (m :: ms) :: r, ok, h => by
    rw [List.all_cons, Bool.and_eq_true] at h
    have o := ok _ List.mem_cons_self
    obtain ⟨h1, h2⟩ := marks_back (fun p hp => ok p (List.mem_cons_of_mem _ hp)) h.2
    have hm := o.2.2.1.2 m List.mem_cons_self
    refine ⟨⟨o, hm.1, hm.2, h1⟩, ?_⟩
    show (gen ppz r (atMarks r) (ppz (.wheel z (m :: ms)) m (-1)).2).2 = -1
    rw [show (ppz (.wheel z (m :: ms)) m (-1)).2 = -1 from if_pos List.mem_cons_self]
    exact h2
  | .wheel z [] :: r, _, h => by
    rw [List.all_cons, Bool.and_eq_true] at h
    exact absurd (show false = true from h.1) (by decide)
  | .click :: r, _, h => by
    rw [List.all_cons, Bool.and_eq_true] at h
    exact absurd h.1 (by decide)
  | .rocker :: r, _, h => by
    rw [List.all_cons, Bool.and_eq_true] at h
    exact absurd h.1 (by decide)
  | .spring k :: r, _, h => by
    rw [List.all_cons, Bool.and_eq_true] at h
    exact absurd (show false = true from h.1) (by decide)
theorem run_back {ps : List Part} {xs : List Int} {w : Int} (hl : xs.length = ps.length) (hw : Sign w) (h : (Ct.run ps xs 0 w).2 = -1) : w = -1 ∧ ps.all gvb = true := by
  rw [run_gen hl (Nat.zero_le _)] at h
  exact gen_back (.inr hw) hl h
theorem run_marks {ps : List Part} (ok : ∀ p ∈ ps, p.ok) (h : ps.all gvb = true) : StandL ps (atMarks ps) ∧ (Ct.run ps (atMarks ps) 0 (-1)).2 = -1 := by
  obtain ⟨h1, h2⟩ := marks_back ok h
  refine ⟨h1, ?_⟩
  rw [run_gen h1.len (Nat.zero_le _)]
  exact h2
/-! worn teeth -/
def offMark (ms : List Int) (m : Int) : List Int := ms.filter fun k => !decide (k = m)
def wornP (ps : List Part) : Option (Nat × Int) → List Part
  | none => ps
  | some (i, m) => match ps[i]? with
    | some (.wheel z ms) => ps.set i (.wheel z (offMark ms m))
    | _ => ps
theorem offMark_ok {z : Int} {ms : List Int} {m : Int} (h : (Part.wheel z ms).ok) : (Part.wheel z (offMark ms m)).ok :=
  ⟨h.1, h.2.1, ⟨h.2.2.1.1.filter _, fun k hk => h.2.2.1.2 k (List.mem_filter.mp hk).1⟩, Nat.le_trans (List.length_filter_le _ _) h.2.2.2⟩
theorem wornP_ok {ps : List Part} (h : ∀ p ∈ ps, p.ok) (w : Option (Nat × Int)) : ∀ p ∈ wornP ps w, p.ok := by
  unfold wornP
  split
  · exact h
  · split
    · rename_i i m z ms e
      intro p hp
      rcases List.mem_or_eq_of_mem_set hp with hp | hp
      · exact h p hp
      · rw [hp]
        exact offMark_ok (h _ (List.mem_of_getElem? e))
    · exact h
theorem wornP_len (ps : List Part) (w : Option (Nat × Int)) : (wornP ps w).length = ps.length := by
  unfold wornP
  split
  · rfl
  · split
    · rw [List.length_set]
    · rfl
/-- a wear as it is handed in -/
def WearAt (K : PySem.W.Frag) (H : Hp) (v : V) : Option (Nat × Int) → Prop
  | none => v = .non
  | some (i, m) => ∃ g, v = .ref g ∧ SqT K H g [.int i, .int m]
end Ct
namespace Ct
open PySem PySem.Spec PyProof.Rows L2
theorem dpAll_set {K : PySem.W.Frag} {H : Hp} : ∀ {vs : List V} {ds : List PyData} {i : Nat} {v : V} {d : PyData}, DpAll K H vs ds → Dp K H v d → DpAll K H (vs.set i v) (ds.set i d)
  | _, _, _, _, _, .nil, _ => .nil
  | _, _, 0, _, _, .cons _ t, h => .cons h t
  | _, _, _ + 1, _, _, .cons a t, h => .cons a (dpAll_set t h)
theorem WearAt.same {K : PySem.W.Frag} {H H' : Hp} {v : V} {w : Option (Nat × Int)} (s : Same H H') (h : WearAt K H v w) : WearAt K H' v w := by
  cases w with
  | none => exact h
  | some im =>
    obtain ⟨g, e, hg⟩ := h
    exact ⟨g, e, Same.tup s hg⟩
end Ct
namespace Ct
open PySem PySem.Spec PyProof.Rows L2
/-! trains behind one another -/
theorem gen_app (f : Part → Int → Int → Int × Int) (qs : List Part) (ys : List Int) : ∀ (ps : List Part) (xs : List Int) (a : Int), xs.length = ps.length →
    gen f (ps ++ qs) (xs ++ ys) a = ((gen f ps xs a).1 ++ (gen f qs ys (gen f ps xs a).2).1, (gen f qs ys (gen f ps xs a).2).2)
  | [], [], _, _ => rfl
  | p :: ps, x :: xs, a, h => by
    have ih := gen_app f qs ys ps xs (f p x a).2 (Nat.succ.inj h)
    show ((f p x a).1 :: (gen f (ps ++ qs) (xs ++ ys) (f p x a).2).1, (gen f (ps ++ qs) (xs ++ ys) (f p x a).2).2) = _
    rw [ih]
    rfl
theorem run0 {ps : List Part} {xs : List Int} (w : Int) (hx : xs.length = ps.length) : Ct.run ps xs 0 w = gen ppz ps xs w := by
  rw [run_gen hx (Nat.zero_le _)]
  rfl
theorem run_len (ps : List Part) (xs : List Int) (w : Int) : (Ct.run ps xs 0 w).1.length = xs.length := runN_len ps 0 (xs, w) _
theorem run_app {ps qs : List Part} {xs ys : List Int} (w : Int) (hx : xs.length = ps.length) (hy : ys.length = qs.length) :
    Ct.run (ps ++ qs) (xs ++ ys) 0 w = ((Ct.run ps xs 0 w).1 ++ (Ct.run qs ys 0 (Ct.run ps xs 0 w).2).1, (Ct.run qs ys 0 (Ct.run ps xs 0 w).2).2) := by
  rw [run0 w (by rw [List.length_append, List.length_append, hx, hy]), gen_app ppz qs ys ps xs w hx, run0 w hx, run0 _ hy]
theorem run_sg {ps : List Part} {xs : List Int} {w : Int} (hw : w = 0 ∨ Sign w) : (Ct.run ps xs 0 w).2 = 0 ∨ Sign (Ct.run ps xs 0 w).2 := by
  rcases hw with e | e
  · rw [e, run_zero]
    exact .inl rfl
  · exact runN_sign ps 0 (xs, w) e _
theorem fedS_sg {ps : List Part} : ∀ {ss : List Int} {xs : List Int}, (∀ s ∈ ss, s = 0 ∨ Sign s) → ∀ s ∈ (fedS ps xs ss).2, s = 0 ∨ Sign s
  | [], _, _, _, h => by cases h
  | s :: r, xs, hs, t, h => by
    rcases List.mem_cons.mp h with h | h
    · rw [h]
      exact run_sg (hs s List.mem_cons_self)
    · exact fedS_sg (ss := r) (fun u hu => hs u (List.mem_cons_of_mem s hu)) t h
theorem fedS_len1 (ps : List Part) : ∀ (ss : List Int) (xs : List Int), (fedS ps xs ss).1.length = xs.length
  | [], _ => rfl
  | s :: r, xs => by rw [fedS, fedS_len1 ps r, run_len]
theorem fed_app {ps qs : List Part} : ∀ {ss : List Int} {xs ys : List Int}, xs.length = ps.length → ys.length = qs.length →
    fedS (ps ++ qs) (xs ++ ys) ss = ((fedS ps xs ss).1 ++ (fedS qs ys (fedS ps xs ss).2).1, (fedS qs ys (fedS ps xs ss).2).2)
  | [], _, _, _, _ => rfl
  | s :: r, xs, ys, hx, hy => by
    have ih := fed_app (ss := r) (xs := (Ct.run ps xs 0 s).1) (ys := (Ct.run qs ys 0 (Ct.run ps xs 0 s).2).1) (by rw [run_len, hx]) (by rw [run_len, hy])
    rw [fedS, run_app s hx hy, fedS]
    show ((fedS (ps ++ qs) ((Ct.run ps xs 0 s).1 ++ (Ct.run qs ys 0 (Ct.run ps xs 0 s).2).1) r).1, (Ct.run qs ys 0 (Ct.run ps xs 0 s).2).2 :: (fedS (ps ++ qs) ((Ct.run ps xs 0 s).1 ++ (Ct.run qs ys 0 (Ct.run ps xs 0 s).2).1) r).2) = _
    rw [ih]
    rfl
theorem gen_nought {w : Int} : ∀ {ps : List Part} {xs : List Int}, StandL ps xs → gen (ptw w) ps xs 0 = (xs, 0)
  | [], [], _ => rfl
  | p :: ps, x :: xs, h => by
    obtain ⟨ok, x0, x1, hr⟩ := h
    show ((ptw w p x 0).1 :: (gen (ptw w) ps xs (ptw w p x 0).2).1, (gen (ptw w) ps xs (ptw w p x 0).2).2) = _
    rw [show ptw w p x 0 = (x, 0) from pt_zero ok x0 x1, gen_nought hr]
theorem gen_upto {w : Int} (hw : Sign w) : ∀ {ps : List Part} {xs : List Int} {t : Int}, 0 ≤ t → StandL ps xs → 0 ≤ (gen (ptw w) ps xs t).2 ∧ (gen (ptw w) ps xs t).2 ≤ t
  | [], [], t, h, _ => ⟨h, Int.le_refl _⟩
  | p :: ps, x :: xs, t, h, hs => by
    obtain ⟨ok, x0, x1, hr⟩ := hs
    have e : ((t.toNat : Nat) : Int) = t := Int.toNat_of_nonneg h
    have h1 := pt_nn ok x0 x1 hw t.toNat
    have h2 := pt_le ok x0 x1 hw t.toNat
    rw [e] at h1 h2
    have ih := gen_upto (ps := ps) (xs := xs) (t := (ptw w p x t).2) hw h1 hr
    exact ⟨ih.1, Int.le_trans ih.2 h2⟩
/-- a deed at a part of the first train: what it gives comes to the second one -/
theorem deed_front {ps qs : List Part} {xs ys : List Int} {d : Deed} (hx : StandL ps xs) (hy : StandL qs ys) (hd : d.ok ps.length) {w' : Int} {t' : Nat} (hw' : w' = if (deedL ps xs d).2 < 0 then -1 else 1) (ht' : (t' : Int) = if (deedL ps xs d).2 < 0 then -(deedL ps xs d).2 else (deedL ps xs d).2) :
    t' ≤ d.t ∧ deedL (ps ++ qs) (xs ++ ys) d = ((deedL ps xs d).1 ++ (deedL qs ys ⟨0, w', t'⟩).1, (deedL qs ys ⟨0, w', t'⟩).2) := by
  have hl := hx.len
  have e1 : (xs ++ ys).take d.i = xs.take d.i := List.take_append_of_le_length (by have := hd.1; omega)
  have e2 : (xs ++ ys).drop d.i = xs.drop d.i ++ ys := List.drop_append_of_le_length (by have := hd.1; omega)
  have e3 : (ps ++ qs).drop d.i = ps.drop d.i ++ qs := List.drop_append_of_le_length (by have := hd.1; omega)
  have hg := gen_upto (t := (d.t : Int)) hd.2 (by omega) (stand_drop d.i hx)
  have ga := gen_app (ptw d.w) qs ys (ps.drop d.i) (xs.drop d.i) d.t (by rw [List.length_drop, List.length_drop, hl])
  unfold deedL at hw' ht' ⊢
  rw [e1, e2, e3, ga]
  generalize gen (ptw d.w) (ps.drop d.i) (xs.drop d.i) d.t = r at *
  have hw' : w' = if d.w * r.2 < 0 then -1 else 1 := hw'
  have ht' : (t' : Int) = if d.w * r.2 < 0 then -(d.w * r.2) else d.w * r.2 := ht'
  have et : (t' : Int) = r.2 := by
    rcases hd.2 with e | e <;> rw [e] at ht' <;> split at ht' <;> omega
  refine ⟨by omega, ?_⟩
  show (xs.take d.i ++ (r.1 ++ (gen (ptw d.w) qs ys r.2).1), d.w * (gen (ptw d.w) qs ys r.2).2) = ((xs.take d.i ++ r.1) ++ ([] ++ (gen (ptw w') qs ys (t' : Int)).1), w' * (gen (ptw w') qs ys (t' : Int)).2)
  rw [et, List.nil_append, List.append_assoc]
  by_cases h0 : r.2 = 0
  · rw [h0, gen_nought hy, gen_nought hy, Int.mul_zero, Int.mul_zero]
  · have ew : w' = d.w := by
      rcases hd.2 with e | e <;> rw [e] at hw' ⊢ <;> rw [hw'] <;> split <;> omega
    rw [ew]
theorem deed_behind {ps qs : List Part} {xs ys : List Int} {d : Deed} {j : Nat} (hx : xs.length = ps.length) (hi : d.i = ps.length + j) : deedL (ps ++ qs) (xs ++ ys) d = (xs ++ (deedL qs ys ⟨j, d.w, d.t⟩).1, (deedL qs ys ⟨j, d.w, d.t⟩).2) := by
  unfold deedL
  rw [hi]
  have e1 : (xs ++ ys).take (ps.length + j) = xs ++ ys.take j := by rw [← hx, List.take_length_add_append]
  have e2 : (xs ++ ys).drop (ps.length + j) = ys.drop j := by rw [← hx, List.drop_length_add_append]
  have e3 : (ps ++ qs).drop (ps.length + j) = qs.drop j := by rw [List.drop_length_add_append]
  rw [e1, e2, e3, List.append_assoc]
end Ct

namespace Ct
open PySem PySem.Spec PyProof.Rows L2
/-! a row done often -/
def itR (ps : List Part) (ds : List Deed) : Nat → List Int → List Int × Int
  | 0, xs => (xs, 0)
  | n + 1, xs => ((rowL ps ds ((itR ps ds n xs).1, 0)).1, (itR ps ds n xs).2 + (rowL ps ds ((itR ps ds n xs).1, 0)).2)
theorem itR_stand {ps : List Part} {ds : List Deed} {xs : List Int} (h : StandL ps xs) (hd : ∀ d ∈ ds, d.ok ps.length) : ∀ n, StandL ps (itR ps ds n xs).1
  | 0 => h
  | n + 1 => rowL_stand (s := ((itR ps ds n xs).1, 0)) (itR_stand h hd n) hd
theorem itR_round {ps : List Part} {ds : List Deed} {xs : List Int} {j k : Nat} (e : (itR ps ds j xs).1 = (itR ps ds k xs).1) : ∀ m, (itR ps ds (k + m) xs).1 = (itR ps ds (j + m) xs).1 ∧ (itR ps ds (k + m) xs).2 - (itR ps ds (j + m) xs).2 = (itR ps ds k xs).2 - (itR ps ds j xs).2
  | 0 => ⟨e.symm, rfl⟩
  | m + 1 => by
    obtain ⟨h1, h2⟩ := itR_round e m
    show (rowL ps ds ((itR ps ds (k + m) xs).1, 0)).1 = (rowL ps ds ((itR ps ds (j + m) xs).1, 0)).1 ∧ (itR ps ds (k + m) xs).2 + (rowL ps ds ((itR ps ds (k + m) xs).1, 0)).2 - ((itR ps ds (j + m) xs).2 + (rowL ps ds ((itR ps ds (j + m) xs).1, 0)).2) = _
    rw [h1]
    exact ⟨rfl, by omega⟩
theorem itR_rounds {ps : List Part} {ds : List Deed} {xs : List Int} {j k : Nat} (hjk : j ≤ k) (e : (itR ps ds j xs).1 = (itR ps ds k xs).1) (m : Nat) : ∀ r : Nat, itR ps ds (j + m + r * (k - j)) xs = ((itR ps ds (j + m) xs).1, (itR ps ds (j + m) xs).2 + (r : Int) * ((itR ps ds k xs).2 - (itR ps ds j xs).2))
  | 0 => by
    rw [Nat.zero_mul, Nat.add_zero, show ((0 : Nat) : Int) = 0 from rfl, Int.zero_mul, Int.add_zero]
  | r + 1 => by
    have ih := itR_rounds hjk e m r
    have hr := itR_round e (m + r * (k - j))
    rw [← Nat.add_assoc j m, ih] at hr
    rw [show j + m + (r + 1) * (k - j) = k + (m + r * (k - j)) by rw [Nat.add_mul, Nat.one_mul]; omega]
    refine Prod.ext hr.1 ?_
    have h2 : (itR ps ds (k + (m + r * (k - j))) xs).2 - ((itR ps ds (j + m) xs).2 + (r : Int) * ((itR ps ds k xs).2 - (itR ps ds j xs).2)) = (itR ps ds k xs).2 - (itR ps ds j xs).2 := hr.2
    show (itR ps ds (k + (m + r * (k - j))) xs).2 = (itR ps ds (j + m) xs).2 + ((r + 1 : Nat) : Int) * ((itR ps ds k xs).2 - (itR ps ds j xs).2)
    rw [show ((r + 1 : Nat) : Int) = (r : Int) + 1 by omega, Int.add_mul, Int.one_mul]
    omega
/-- the way round, reckoned -/
theorem itR_at {ps : List Part} {ds : List Deed} {xs : List Int} {j k n : Nat} (hjk : j < k) (hn : j ≤ n) (e : (itR ps ds j xs).1 = (itR ps ds k xs).1) :
    itR ps ds n xs = ((itR ps ds (j + (n - j) % (k - j)) xs).1, (itR ps ds (j + (n - j) % (k - j)) xs).2 + (((n - j) / (k - j) : Nat) : Int) * ((itR ps ds k xs).2 - (itR ps ds j xs).2)) := by
  have h := itR_rounds (Nat.le_of_lt hjk) e ((n - j) % (k - j)) ((n - j) / (k - j))
  rw [show j + (n - j) % (k - j) + (n - j) / (k - j) * (k - j) = n by
    have := Nat.mod_add_div (n - j) (k - j)
    rw [Nat.mul_comm (k - j)] at this
    omega] at h
  exact h
/-! no more unlike stands than there are -/
theorem filt_len {N : Nat} : ∀ {l : List Nat}, l.Nodup → (∀ x ∈ l, x < N + 1) → l.length ≤ (l.filter fun x => decide (x < N)).length + 1
  | [], _, _ => Nat.zero_le _
  | a :: r, hn, h => by
    obtain ⟨h1, h2⟩ := List.nodup_cons.mp hn
    by_cases ha : a < N
    · rw [List.filter_cons, if_pos (decide_eq_true ha), List.length_cons, List.length_cons]
      have := filt_len h2 fun x hx => h x (List.mem_cons_of_mem _ hx)
      omega
    · have ea : a = N := by
        have := h a List.mem_cons_self
        omega
      have : (r.filter fun x => decide (x < N)) = r := List.filter_eq_self.mpr fun x hx => decide_eq_true (by
        have h3 := h x (List.mem_cons_of_mem _ hx)
        have h4 : x ≠ N := fun z => h1 (by rw [ea, ← z]; exact hx)
        omega)
      rw [List.filter_cons, if_neg (by rw [decide_eq_false ha]; exact Bool.false_ne_true), this, List.length_cons]
      omega
theorem holes : ∀ (N : Nat) (l : List Nat), l.Nodup → (∀ x ∈ l, x < N) → l.length ≤ N
  | 0, [], _, _ => Nat.le_refl _
  | 0, a :: _, _, h => absurd (h a List.mem_cons_self) (Nat.not_lt_zero a)
  | N + 1, l, hn, h => by
    have h1 := filt_len hn h
    have h2 := holes N (l.filter fun x => decide (x < N)) (hn.filter _) fun x hx => of_decide_eq_true (List.mem_filter.mp hx).2
    omega
def code : List Part → List Int → Nat
  | _ :: ps, x :: xs => x.toNat * (stands ps).toNat + code ps xs
  | _, _ => 0
theorem code_lt : ∀ {ps : List Part} {xs : List Int}, StandL ps xs → code ps xs < (stands ps).toNat
  | [], [], _ => by decide
  | p :: ps, x :: xs, ⟨ok, h0, h1, h⟩ => by
    have ih := code_lt (ps := ps) (xs := xs) h
    have po := ok.pos.1
    show x.toNat * (stands ps).toNat + code ps xs < (p.places * stands ps).toNat
    have sp : 1 ≤ stands ps := stands_pos ps h.okp
    have e : (p.places * stands ps).toNat = p.places.toNat * (stands ps).toNat := by
      rw [Int.toNat_mul (by omega) (by omega)]
    rw [e]
    have hx : x.toNat + 1 ≤ p.places.toNat := by omega
    have := Nat.mul_le_mul_right (stands ps).toNat hx
    rw [Nat.add_mul, Nat.one_mul] at this
    omega
theorem code_inj : ∀ {ps : List Part} {xs ys : List Int}, StandL ps xs → StandL ps ys → code ps xs = code ps ys → xs = ys
  | [], [], [], _, _, _ => rfl
  | p :: ps, x :: xs, y :: ys, ⟨_, a0, _, ha⟩, ⟨_, b0, _, hb⟩, e => by
    have la := code_lt ha
    have lb := code_lt hb
    have e2 : x.toNat * (stands ps).toNat + code ps xs = y.toNat * (stands ps).toNat + code ps ys := e
    generalize (stands ps).toNat = N at *
    have d1 : (x.toNat * N + code ps xs) / N = x.toNat := by
      rw [Nat.mul_comm, Nat.mul_add_div (by omega), Nat.div_eq_of_lt la, Nat.add_zero]
    have d2 : (y.toNat * N + code ps ys) / N = y.toNat := by
      rw [Nat.mul_comm, Nat.mul_add_div (by omega), Nat.div_eq_of_lt lb, Nat.add_zero]
    rw [e2, d2] at d1
    have ex : x = y := by omega
    subst ex
    rw [code_inj ha hb (by omega)]
theorem few_stands {ps : List Part} {ds : List Deed} {xs : List Int} (h : StandL ps xs) (hd : ∀ d ∈ ds, d.ok ps.length) {k : Nat} (dist : ∀ i j, i < j → j < k → (itR ps ds i xs).1 ≠ (itR ps ds j xs).1) : k ≤ (stands ps).toNat := by
  have := holes (stands ps).toNat ((List.range k).map fun i => code ps (itR ps ds i xs).1) ?_ ?_
  · rw [List.length_map, List.length_range] at this
    exact this
  · rw [List.nodup_iff_pairwise_ne, List.pairwise_map]
    refine List.Pairwise.imp_of_mem (fun {a b} ha hb hab => ?_) (List.pairwise_lt_range (n := k))
    rw [List.mem_range] at ha hb
    exact fun z => dist a b hab hb (code_inj (itR_stand h hd a) (itR_stand h hd b) z)
  · intro x hx
    obtain ⟨i, _, rfl⟩ := List.mem_map.mp hx
    exact code_lt (itR_stand h hd i)
/-! how great a sum may be -/
theorem gen_le {w : Int} (hw : Sign w) : ∀ (ps : List Part) (xs : List Int) (t : Int), 0 ≤ t → StandL ps xs → (gen (ptw w) ps xs t).2 ≤ t
  | [], [], t, _, _ => Int.le_refl _
  | p :: ps, x :: xs, t, ht, ⟨ok, h0, h1, h⟩ => by
    have e : ((t.toNat : Nat) : Int) = t := by omega
    have a := pt_le ok h0 h1 hw t.toNat
    have n := pt_nn ok h0 h1 hw t.toNat
    rw [e] at a n
    exact Int.le_trans (gen_le hw ps xs (pt p x w t).2 n h) a
theorem deedL_sum {ps : List Part} {xs : List Int} {d : Deed} (h : StandL ps xs) (hd : d.ok ps.length) : -(d.t : Int) ≤ (deedL ps xs d).2 ∧ (deedL ps xs d).2 ≤ d.t := by
  have g1 := (gen_stand hd.2 _ _ (d.t : Int) (by omega) (stand_drop d.i h)).2
  have g2 := gen_le hd.2 _ _ (d.t : Int) (by omega) (stand_drop d.i h)
  show -(d.t : Int) ≤ d.w * (gen (ptw d.w) (ps.drop d.i) (xs.drop d.i) d.t).2 ∧ d.w * (gen (ptw d.w) (ps.drop d.i) (xs.drop d.i) d.t).2 ≤ d.t
  generalize (gen (ptw d.w) (ps.drop d.i) (xs.drop d.i) d.t).2 = g at *
  rcases hd.2 with e | e
  · rw [e, Int.one_mul]
    exact ⟨by omega, g2⟩
  · rw [e]
    exact ⟨by omega, by omega⟩
theorem rowL_sum {ps : List Part} : ∀ {ds : List Deed} {s : List Int × Int}, StandL ps s.1 → (∀ d ∈ ds, d.ok ps.length ∧ d.t < 2 ^ 200) → s.2 - ds.length * 2 ^ 200 ≤ (rowL ps ds s).2 ∧ (rowL ps ds s).2 ≤ s.2 + ds.length * 2 ^ 200
  | [], s, _, _ => by
    show s.2 - ((0 : Nat) : Int) * 2 ^ 200 ≤ s.2 ∧ s.2 ≤ s.2 + ((0 : Nat) : Int) * 2 ^ 200
    rw [show ((0 : Nat) : Int) = 0 from rfl, Int.zero_mul]
    omega
  | d :: ds, s, h, hd => by
    have d0 := hd d List.mem_cons_self
    have a := deedL_sum h d0.1
    have ih := rowL_sum (ds := ds) (s := ((deedL ps s.1 d).1, s.2 + (deedL ps s.1 d).2)) (deedL_stand h d0.1) fun e he => hd e (List.mem_cons_of_mem _ he)
    have i1 : s.2 + (deedL ps s.1 d).2 - (ds.length : Int) * 2 ^ 200 ≤ (rowL ps (d :: ds) s).2 := ih.1
    have i2 : (rowL ps (d :: ds) s).2 ≤ s.2 + (deedL ps s.1 d).2 + (ds.length : Int) * 2 ^ 200 := ih.2
    have dt := d0.2
    rw [List.length_cons, show ((ds.length + 1 : Nat) : Int) = (ds.length : Int) + 1 by omega, Int.add_mul, Int.one_mul]
    omega
theorem itR_sum {ps : List Part} {ds : List Deed} {xs : List Int} (h : StandL ps xs) (hd : ∀ d ∈ ds, d.ok ps.length ∧ d.t < 2 ^ 200) (hl : ds.length ≤ 1000) : ∀ n : Nat, -(n : Int) * 2 ^ 210 ≤ (itR ps ds n xs).2 ∧ (itR ps ds n xs).2 ≤ (n : Int) * 2 ^ 210
  | 0 => by
    show -((0 : Nat) : Int) * 2 ^ 210 ≤ 0 ∧ (0 : Int) ≤ ((0 : Nat) : Int) * 2 ^ 210
    decide
  | n + 1 => by
    have ih := itR_sum h hd hl n
    have r := rowL_sum (s := ((itR ps ds n xs).1, 0)) (itR_stand h (fun d hm => (hd d hm).1) n) hd
    have r1 : (0 : Int) - ds.length * 2 ^ 200 ≤ (rowL ps ds ((itR ps ds n xs).1, 0)).2 := r.1
    have r2 : (rowL ps ds ((itR ps ds n xs).1, 0)).2 ≤ 0 + ds.length * 2 ^ 200 := r.2
    show -((n + 1 : Nat) : Int) * 2 ^ 210 ≤ (itR ps ds n xs).2 + (rowL ps ds ((itR ps ds n xs).1, 0)).2 ∧ (itR ps ds n xs).2 + (rowL ps ds ((itR ps ds n xs).1, 0)).2 ≤ ((n + 1 : Nat) : Int) * 2 ^ 210
    rw [show ((n + 1 : Nat) : Int) = (n : Int) + 1 by omega]
    omega
theorem inl_inj : ∀ {xs ys : List Int}, xs.map (Sum.inl : Int → Key) = ys.map Sum.inl → xs = ys
  | [], [], _ => rfl
  | [], _ :: _, h => nomatch h
  | _ :: _, [], h => nomatch h
  | x :: xs, y :: ys, h => by
    injection h with h1 h2
    injection h1 with h3
    rw [h3, inl_inj h2]
theorem key_map (xs : List Int) : (xs.map (Sum.inl : Int → Key)).map kV = xs.map V.int := by
  rw [List.map_map]
  rfl
theorem units65 {k : Nat} {A : Around} (r : Room k A) : A.units + 65 < cLine := by
  have := r.un
  omega
theorem eqv_ints : ∀ (xs ys : List Int), PyData.eqvAll (xs.map PyData.int) (ys.map PyData.int) = decide (xs = ys)
  | [], [] => rfl
  | [], _ :: _ => rfl
  | _ :: _, [] => rfl
  | x :: xs, y :: ys => by
    rw [List.map_cons, List.map_cons, PyData.eqvAll, eqv_ints xs ys, PyData.eqv]
    by_cases e : x = y
    · subst e
      by_cases e2 : xs = ys
      · subst e2
        simp
      · rw [decide_eq_false e2, decide_eq_false (fun z => e2 (List.cons.inj z).2), Bool.and_false]
    · rw [decide_eq_false (fun z => e (List.cons.inj z).1), show (x == y) = false from beq_eq_false_iff_ne.mpr e, Bool.false_and]
theorem eqv_tupD (xs ys : List Int) : PyData.eqv (tupD xs) (tupD ys) = decide (xs = ys) := by
  unfold tupD
  rw [PyData.eqv]
  exact eqv_ints xs ys
theorem itR_one {ps : List Part} {xs : List Int} {i : Nat} {w : Int} (h : StandL ps xs) (hi : i < ps.length) (hw : Sign w) : ∀ n, itR ps [⟨i, w, 1⟩] n xs = pushes ps i w n (xs, 0)
  | 0 => rfl
  | n + 1 => by
    have ih := itR_one h hi hw n
    have hs : StandL ps (pushes ps i w n (xs, 0)).1 := pushes_stand h hi hw 0 n
    have e : rowL ps [⟨i, w, 1⟩] ((pushes ps i w n (xs, 0)).1, 0) = pushes ps i w 1 ((pushes ps i w n (xs, 0)).1, 0) := rowL_one (s := ((pushes ps i w n (xs, 0)).1, 0)) (d := ⟨i, w, 1⟩) hs ⟨hi, hw⟩
    show ((rowL ps [⟨i, w, 1⟩] ((itR ps [⟨i, w, 1⟩] n xs).1, 0)).1, (itR ps [⟨i, w, 1⟩] n xs).2 + (rowL ps [⟨i, w, 1⟩] ((itR ps [⟨i, w, 1⟩] n xs).1, 0)).2) = _
    rw [ih, e]
    refine Prod.ext rfl ?_
    show (pushes ps i w n (xs, 0)).2 + (0 + (Ct.run ps (pushes ps i w n (xs, 0)).1 i w).2) = (pushes ps i w n (xs, 0)).2 + (Ct.run ps (pushes ps i w n (xs, 0)).1 i w).2
    omega
theorem itR_deed {ps : List Part} {xs : List Int} {i : Nat} {w : Int} (h : StandL ps xs) (hi : i < ps.length) (hw : Sign w) (n : Nat) : itR ps [⟨i, w, 1⟩] n xs = rowL ps [⟨i, w, n⟩] (xs, 0) := by
  rw [itR_one h hi hw n, rowL_one (s := (xs, 0)) (d := ⟨i, w, n⟩) h ⟨hi, hw⟩]
theorem itR_add {ps : List Part} {ds : List Deed} (a : Nat) (xs : List Int) : ∀ b, itR ps ds (a + b) xs = ((itR ps ds b (itR ps ds a xs).1).1, (itR ps ds a xs).2 + (itR ps ds b (itR ps ds a xs).1).2)
  | 0 => Prod.ext rfl (Int.add_zero _).symm
  | b + 1 => by
    have ih := itR_add (ps := ps) (ds := ds) a xs b
    show ((rowL ps ds ((itR ps ds (a + b) xs).1, 0)).1, (itR ps ds (a + b) xs).2 + (rowL ps ds ((itR ps ds (a + b) xs).1, 0)).2) = _
    rw [ih]
    refine Prod.ext rfl ?_
    show (itR ps ds a xs).2 + (itR ps ds b (itR ps ds a xs).1).2 + _ = (itR ps ds a xs).2 + ((itR ps ds b (itR ps ds a xs).1).2 + _)
    rw [Int.add_assoc]
section
variable {K : PySem.W.Frag} {H : Hp} {σ : L2.St} {Q : VK} {D : Ends}
theorem w_dnewT (h : ∀ p, H p = none → Q (.ref p) (upd H p (.dT []))) : tDNewT σ H Q := h
theorem w_dnotin {ty td : TE} (h : ty σ H fun y H1 => td σ H1 fun x H2 => ∃ a o, x = .ref a ∧ DGet H2 a y o ∧ Q (.bl (!o.isSome)) H2) : tDNotIn ty td σ H Q := h
theorem w_dget {td ty : TE} (h : td σ H fun x H1 => ty σ H1 fun y H2 => ∃ a v, x = .ref a ∧ DGet H2 a y (some v) ∧ Q v H2) : tDGet td ty σ H Q := h
theorem w_dput {td ty tv : TE} (h : tv σ H fun v H1 => td σ H1 fun x H2 => ty σ H2 fun y H3 => ∃ a H4, x = .ref a ∧ DPut H3 a y v H4 ∧ D.nx σ H4) : sDPut td ty tv D σ H := h
end
end Ct

/-! what stays but for one object -/
namespace Ct
open PySem PySem.Spec PyProof.Rows L2
/-- all that was tracked stays, but for what lies at k -/
def But (k : Addr) (H H' : Hp) : Prop := ∀ a o, a ≠ k → H a = some o → H' a = some o
theorem but_same {k : Addr} {H H' : Hp} (s : Same H H') : But k H H' := fun a o _ h => s a o h
theorem But.refl {k : Addr} {H : Hp} : But k H H := fun _ _ _ h => h
theorem But.trans {k : Addr} {H H1 H2 : Hp} (a : But k H H1) (b : But k H1 H2) : But k H H2 := fun c o n h => b c o n (a c o n h)
theorem but_upd {k : Addr} {H : Hp} {o : HO} : But k H (upd H k o) := fun c u n h => by rw [upd_ne n]; exact h
theorem But.same {k : Addr} {H H1 H2 : Hp} (hk : H k = none) (s : Same H H1) (b : But k H1 H2) : Same H H2 := fun c o h => b c o (fun e => by rw [e, hk] at h; cases h) (s c o h)
def Ext (H : Hp) (k : Addr) : Prop := ∃ f, H k = some (.ext f)
theorem but_tup {K : PySem.W.Frag} {k a : Addr} {H H' : Hp} {xs : List V} (x : Ext H k) (e : But k H H') (h : SqT K H a xs) : SqT K H' a xs := by
  obtain ⟨f, x⟩ := x
  rcases h with (h | ⟨o, h⟩) | h
  · exact .inl (.inl (e _ _ (fun z => by rw [z, x] at h; cases h) h))
  · exact .inl (.inr ⟨o, e _ _ (fun z => by rw [z, x] at h; cases h) h⟩)
  · exact .inr h
theorem but_seq {K : PySem.W.Frag} {k a : Addr} {H H' : Hp} {xs : List V} (x : Ext H k) (e : But k H H') (h : SqL K H a xs) : SqL K H' a xs := by
  obtain ⟨f, x⟩ := x
  rcases h with (h | ⟨o, h⟩) | h
  · exact .inl (.inl (e _ _ (fun z => by rw [z, x] at h; cases h) h))
  · exact .inl (.inr ⟨o, e _ _ (fun z => by rw [z, x] at h; cases h) h⟩)
  · exact .inr h
mutual
theorem dp_but {K : PySem.W.Frag} {H H' : Hp} {k : Addr} (x : Ext H k) (e : But k H H') : ∀ {v : V} {d : PyData}, Dp K H v d → Dp K H' v d
  | _, _, .non => .non
  | _, _, .bl b => .bl b
  | _, _, .int i => .int i
  | _, _, .str x => .str x
  | _, _, .lst h t => .lst (but_seq x e h) (dpAll_but x e t)
  | _, _, .tup h t => .tup (but_tup x e h) (dpAll_but x e t)
theorem dpAll_but {K : PySem.W.Frag} {H H' : Hp} {k : Addr} (x : Ext H k) (e : But k H H') : ∀ {vs : List V} {ds : List PyData}, DpAll K H vs ds → DpAll K H' vs ds
  | _, _, .nil => .nil
  | _, _, .cons h t => .cons (dp_but x e h) (dpAll_but x e t)
end
theorem TrainAt.but {K : PySem.W.Frag} {H H' : Hp} {k a : Addr} {ps : List Part} (x : Ext H k) (e : But k H H') : TrainAt K H a ps → TrainAt K H' a ps
  | ⟨vs, h1, h2⟩ => ⟨vs, but_seq x e h1, dpAll_but x e h2⟩
end Ct

/-! defs that stand on no guard of a showing (so that str of a list may be asked), exceptions that are kept behind the except suite -/
namespace Ct
open PySem PySem.Spec PyProof.Rows L2
section
variable {P : Program} {w : World} {K : PySem.W.Frag} {mg : Str → Option Value} {base : Heap} {CX : CXT}
/-- as a def's promise, asked only where no guard is below -/
structure FnG (P : Program) (w : World) (K : PySem.W.Frag) (mg : Str → Option Value) (base : Heap) (CX : CXT) (k : Nat) (f : Addr) (fd : FuncData) (ps : List Str) (sp : Sp) : Prop where
  long : ∀ vs H Q E, sp vs H Q E → vs.length = ps.length
  goes : ∀ (A : Around), A.guards = some [] → Room k A → ∀ (below : List Env) (z : Shared) (H : Hp) (given : Args) (ws : List Value) (vs : List V) (Q : VK) (E : XK),
    Env0 P w K mg base A below z H → BindsTo z fd given (ps.zip ws) → Vals vs ws → sp vs H Q E → codeAny (model P w) A (.call (.ref f) given) (CR CX below P w H z Q E) z
theorem FnG.more {j k : Nat} {f : Addr} {fd : FuncData} {ps : List Str} {sp : Sp} (F : FnG P w K mg base CX j f fd ps sp) (h : j ≤ k) : FnG P w K mg base CX k f fd ps sp :=
  ⟨F.long, fun A g r => F.goes A g (r.mono h)⟩
theorem fnG_of {x qual : Str} {st : Stmt} {f : Addr} {fd : FuncData} {N ps : List Str} {k : Nat} {sp : Sp} (F : Fun K x qual st f fd) (S : FnScope N ps (defScope st))
    (len : ∀ vs H Q E, sp vs H Q E → (vs.length = ps.length))
    (inside : ∀ (cdv : Value) (A : Around), A.guards = some [] → ∀ (below : List Env) (z : Shared) (H : Hp) (vs : List V) (Q : VK) (E : XK), Room k (A.deeper (envOfC qual (defScope st) z.heap.objs.size f cdv)) → sp vs H Q E →
      ∃ t, PSs (cxOf CX P w K mg base N qual (defScope st) f cdv A below z H E) (defBody st) t ∧ t { nx := fun _ H' => Q .non H', rt := Q } (start N vs) H) :
    FnG P w K mg base CX (k + 1) f fd ps sp := by
  obtain ⟨oc, od, kV, doc, pm, an, cdv, ct, osl, rfl, there, coded⟩ := F.ex
  constructor
  · exact len
  intro A g room below z H given ws vs Q E env bd rel wish
  have kz : K.In z.heap := env.mod.kin.keeps fun b o q => (env.bs b o q).1
  have nl : z.heap.NoLimit := env.mod.nolimit.keeps fun b o q => (env.bs b o q).1
  refine codeAny_call_function room.depth (kz _ _ there) rfl S.co S.gen rfl (PySem.W.codeRec_of kz coded) (bd _ _ _ _ ?_)
  refine wpAny_newFunctionEnv_cells S.kind ?_ ?_
  · rintro ⟨n, v⟩ hn
    cases S.par n (List.of_mem_zip hn).1 with
    | inl q => exact .inl q
    | inr q => exact .inr ⟨q, PySem.W.cellsFrom_some _ _ _ (.inl q)⟩
  · intro env1 henv z1 laid
    subst henv
    refine ⟨nl.keeps laid.toInCall.keep, codeAny_func ?_⟩
    obtain ⟨t, ht, tq⟩ := inside cdv A g below z H vs Q E (room.deeper _) wish
    have J := inv_start (CX := CX) (E := E) S room.hd env (len _ _ _ _ wish) rel laid
    refine wpAny_mono (ht.run [] z1 (start N vs) H _ J tq) ?_ (fun _ _ q => q)
    intro flow z2 out
    match flow, out with
    | .ret u, ⟨v, σ2, H2, J2, r2, q2⟩ => exact ⟨v, H2, J2.os, J2.bare, J2.base, J2.hok, r2, q2⟩
    | .next, ⟨σ2, H2, J2, q2⟩ => exact ⟨.non, H2, J2.os, J2.bare, J2.base, J2.hok, rfl, q2⟩
    | .brk, ⟨_, _, _, q2⟩ => exact q2.elim
    | .cont, ⟨_, _, _, q2⟩ => exact q2.elim
/-- .. for a def that lets nothing out -/
theorem fnG_of0 {x qual : Str} {st : Stmt} {f : Addr} {fd : FuncData} {N ps : List Str} {k : Nat} {sp : Sp} (F : Fun K x qual st f fd) (S : FnScope N ps (defScope st))
    (len : ∀ vs H Q E, sp vs H Q E → (vs.length = ps.length))
    (inside : ∀ (cdv : Value) (A : Around), A.guards = some [] → ∀ (below : List Env) (z : Shared) (H : Hp) (vs : List V) (Q : VK) (E : XK), Room k (A.deeper (envOfC qual (defScope st) z.heap.objs.size f cdv)) → sp vs H Q E →
      ∃ t, PSs (cxOf CX0 P w K mg base N qual (defScope st) f cdv A below z H E).nox (defBody st) t ∧ t { nx := fun _ H' => Q .non H', rt := Q } (start N vs) H) :
    FnG P w K mg base CX0 (k + 1) f fd ps sp :=
  fnG_of F S len fun cdv A g below z H vs Q E r q => by
    obtain ⟨t, h, tq⟩ := inside cdv A g below z H vs Q E r q
    exact ⟨t, h.nox, tq⟩
end
section
variable {X : Cx} {CX : CXT} {k : Nat} {f : Addr} {fd : FuncData} {ps : List Str} {sp : Sp} {E : XK} {x : Str} {p pos : Pos} {e : Expr} {es : List Expr} {t : TA}
/-- f(e, ..) of such a def -/
theorem pe_callG (F : FnG X.prog X.w X.K X.mg X.base CX k f fd ps sp) (gd : X.A.guards = some []) (room : Room k X.A) (gl : Gl X x) (here : X.mg x = some (.ref f)) (kp : PySem.W.keepIn X.K (.ref f) = true) (bd : Binds X.K fd ps [])
    (out : Passes CX X E) (ha : PA X (e :: es) t) (hdb : (x == ("__debug__" : Str)) = false := by decide)
    (h1 : starEach (e :: es) X.env = (false, eval e X.env) :: starEach es X.env := by rfl) (h2 : (backTo pos (starEach es X.env)).any (·.1) = false := by rfl) :
    PE X (.Call (.Name x p) (e :: es) [] pos) (tCall sp [] E t) := by
  constructor
  intro pins z σ H Q J h
  refine wpAny_Call_Name_kw (ld_glob J gl here ?_ hdb)
  refine PySem.W.callWith_K (h₀ := X.base) J.ok.mod.kin kp (thn (ha.run pos pins z σ H _ J h) ?_) h1 h2
  rintro ws z1 ⟨vs, H1, J1, rel, q⟩
  refine ⟨J1.kIn, wpAny_call (codeAny_mono (F.goes X.A gd room X.stack z1 H1 ⟨ws, []⟩ ws vs Q E J1.env0 ?_ rel (by rw [List.append_nil] at q; exact q)) ?_)⟩
  · have q' : sp vs H1 Q E := by rw [List.append_nil] at q; exact q
    have b := bd z1 ws J1.kIn (by rw [List.append_nil, ← rel.length]; exact F.long _ _ _ _ q')
    rw [List.append_nil] at b
    exact b
  · intro r z2 hq
    match r, hq with
    | .error er, hq => exact out pins σ H1 z1 er z2 J1 hq
    | .ok (.ret u), hq => exact J1.after hq
    | .ok .next, hq => exact (show False from hq).elim
    | .ok .brk, hq => exact (show False from hq).elim
    | .ok .cont, hq => exact (show False from hq).elim
end
end Ct
namespace Ct
open PySem PySem.Spec PyProof.Rows L2
/-- what is tracked at the law's call: the script, unless it is one of the module's own objects -/
def ScrH (K : PySem.W.Frag) (a : Addr) (o : Obj) (ns : List Int) : Hp := fun b => if b = a ∧ K.lookup a = none then some (.frz o (.lst (ns.map V.int))) else none
theorem scrH_cases (K : PySem.W.Frag) (a : Addr) (o : Obj) (ns : List Int) (b : Addr) : ScrH K a o ns b = none ∨ (b = a ∧ K.lookup a = none ∧ ScrH K a o ns b = some (.frz o (.lst (ns.map V.int)))) := by
  unfold ScrH
  by_cases c : b = a ∧ K.lookup a = none
  · exact .inr ⟨c.1, c.2, if_pos c⟩
  · exact .inl (if_neg c)
/-- the law's def, called on the script -/
theorem lawG_call {P : Program} {w : World} {K : PySem.W.Frag} {mg mb : Str → Option Value} {k : Nat} {fa a : Addr} {fd : FuncData} {x : Str} {sp : Sp} {z : Shared} {vs : List Value} {ns : List Int}
    (kz : K.In z.heap) (gl : z.heap.Ns mainGlobals mg) (bl : z.heap.Ns builtinsNs mb) (blt : ∀ y : Str, y ≠ "__name__" → mb y = bootBuiltins y) (lim : z.heap.NoLimit) (gens : z.gens = #[])
    (ha : z.heap.get? a = some { cls := .type "list", data := .seq vs.toArray }) (areInts : IntsAre vs ns) (len : ns.length ≤ sizeLine) (room : Room k callerA)
    (F : ∀ base : Heap, K.In base → base.Ns mainGlobals mg → FnG P w K mg base CX0 k fa fd [x] sp) (bind : ∀ (s : Shared) (u : Value), BindsTo s fd ⟨[u], []⟩ [(x, u)])
    (wish : ∀ H : Hp, Only H → SqL K H a (ns.map V.int) → sp [.ref a] H (fun v _ => v = .bl true) fun _ _ _ => False) :
    codeAny (model P w) callerA (.call (.ref fa) ⟨[.ref a], []⟩) (fun r s' => r = .ok (.ret (.bool true)) ∧ OldK z.heap s'.heap ∧ s'.os = z.os ∧ AllBare s'.gens) z := by
  obtain ⟨o, ho⟩ : ∃ o : Obj, o = { cls := .type "list", data := .seq vs.toArray } := ⟨_, rfl⟩
  rw [← ho] at ha
  have two := scrH_cases K a o ns
  generalize hH : ScrH K a o ns = H at two
  have only : Only H := fun b => (two b).elim .inl fun q => .inr ⟨_, _, q.2.2⟩
  have rel := vals_ints areInts
  have hseq : SqL K H a (ns.map V.int) := by
    rcases two a with q | ⟨_, _, q⟩
    · cases c : K.lookup a with
      | none =>
        rw [← hH] at q
        unfold ScrH at q
        rw [if_pos ⟨rfl, c⟩] at q
        cases q
      | some o' =>
        have e := kz a o' c
        rw [ha] at e
        cases e
        subst ho
        exact .inr ⟨_, vs.toArray, _, c, rfl, rfl, rfl, by rw [List.size_toArray, areInts.length]; exact len, by simpa using rel⟩
    · exact .inl (.inr ⟨o, q⟩)
  have held : HOk P w H z.heap := fun b u e => by
    rcases two b with q | ⟨rfl, _, q⟩
    · rw [q] at e
      cases e
    · rw [q] at e
      cases e
      refine ⟨ha, by rw [List.length_map]; exact len, vs, 0, rel, ?_⟩
      rw [ha, ho]
  have still : ∀ {b : Addr} {u : Obj}, z.heap.get? b = some u → (b = a → K.lookup a ≠ none ∨ u ≠ o) → (hidT z.heap H).get? b = some u := fun {b u} e no => by
    refine hidT_get e ?_
    rcases two b with q | ⟨rfl, q1, _⟩
    · exact q
    · rcases no rfl with q | q
      · exact absurd q1 q
      · rw [ha] at e
        exact absurd (Option.some.inj e).symm q
  have names : ∀ {b : Addr} {m : Str → Option Value}, z.heap.Ns b m → (hidT z.heap H).Ns b m := fun {b m} ⟨u, es, ep, e, d, r⟩ =>
    ⟨u, es, ep, still e (fun _ => .inr fun q => by rw [q, ho] at d; cases d), d, r⟩
  have kb : K.In (hidT z.heap H) := fun b u e => still (kz b u e) fun q => .inl fun n => by rw [← q, e] at n; cases n
  obtain ⟨mc, l1, l2⟩ := lim
  have env : Env0 P w K mg (hidT z.heap H) callerA [] z H :=
    { frames := rfl, mod := ⟨kb, names gl, ⟨mb, names bl, blt⟩, mc, names l1, l2⟩, bs := fun b u e => of_hidT e, bsz := Nat.le_of_eq (hidT_size _ _), funs := trivial, frf := fun b q => (List.not_mem_nil q).elim, hok := held, bare := .of_eq gens }
  refine codeAny_mono ((F _ kb (names gl)).goes callerA rfl room [] z H ⟨[.ref a], []⟩ [.ref a] [.ref a] _ _ env (bind z (.ref a)) (.cons rfl .nil) (wish H only hseq)) ?_
  intro r z2 hq
  match r, hq with
  | .error er, hq => exact (show False from hq).elim
  | .ok .next, hq => exact (show False from hq).elim
  | .ok .brk, hq => exact (show False from hq).elim
  | .ok .cont, hq => exact (show False from hq).elim
  | .ok (.ret u), ⟨v, H2, os, bare, un, held2, rv, q⟩ =>
    have q' : v = .bl true := q
    subst q'
    obtain rfl : u = Value.bool true := rv
    refine ⟨rfl, OldK.of_keep fun b ob e => ?_, os, bare⟩
    rcases two b with n | ⟨rfl, _, n⟩
    · exact un.keep b ob e n (fun m => (List.not_mem_nil m).elim) (fun m => (List.not_mem_nil m).elim)
    · have k2 := (held2 b _ (un.frzs b _ _ n)).1
      rw [ha] at e
      cases e
      exact k2
/-- the end of a law whose def asks str of lists -/
theorem walk_ofG {l : PySem.W.OpenLaw} {n k : Nat} {q : Program} {loose : List Str} {XP : (Str → Option Value) → Heap → Prop} {YP : World → Heap → Prop} {d : DefRec} {K : Params → PySem.W.Frag} {sp : World → Sp} {x : Str}
    (most : l.most = some n) (most2 : n ≤ sizeLine) (nodef : d.params.defaults = []) (room : Room k callerA) (hY : ∀ (w : World) (h : Heap), YP w h → (K w.params).In h)
    (F : ∀ (w : World) (mg : Str → Option Value) (fa : Addr) (h : Heap), (K w.params).In h → h.Ns mainGlobals mg → mg d.name = some (.ref fa) →
      ∃ fd : FuncData, (∀ (s : Shared) (u : Value), BindsTo s fd ⟨[u], []⟩ [(x, u)]) ∧ ∀ base : Heap, (K w.params).In base → base.Ns mainGlobals mg → FnG l.prog w (K w.params) mg base CX0 k fa fd [x] (sp w))
    (wish : ∀ (w : World) (H : Hp) (a : Addr) (ns : List Int), ns.length ≤ n → Only H → SqL (K w.params) H a (ns.map V.int) → sp w [.ref a] H (fun v _ => v = .bl true) fun _ _ _ => False) :
    PySem.W.WalkO q loose XP YP l.row.toRowW d [] (fun f vs => PySem.call f vs) := by
  apply Att.attach_call most nodef
  intro w _ z mg mb fa _ _ _ _ a vs ns ground y _ _ _ named hobj areInts len gens
  obtain ⟨fd, bind, hF⟩ := F w mg fa _ (hY w _ y) ground.T.g named
  exact lawG_call (hY w _ y) ground.T.g ground.T.b ground.T.builtins ground.T.nolimit gens hobj areInts (Nat.le_trans len most2) room hF bind fun H hO hS => wish w H a ns len hO hS
end Ct

/-! an exception that is kept as a value behind its except suite: caught = e; isinstance of it -/
namespace Ct
open PySem PySem.Spec PyProof.Rows L2
/-- an exception object of the class cls at a, without a dict -/
def KeptX (cls : Value) (a : Addr) : HO := .ext fun h => ∃ (oe : Obj) (vs : Array Value), h.get? a = some oe ∧ Zc cls none oe ∧ oe.data = .fields vs
theorem keptX_ok {P : Program} {w : World} {H : Hp} {h : Heap} {a : Addr} {cls : Value} {oe : Obj} {vs : Array Value} (e : h.get? a = some oe) (z : Zc cls none oe) (d : oe.data = .fields vs) : ObjOk P w H h a (KeptX cls a) :=
  ⟨⟨oe, vs, e, z, d⟩, ⟨oe, e⟩, fun _ _ ⟨o, v, q, r⟩ k => ⟨o, v, k o q, r⟩⟩
section
variable {X : Cx} {pins : List (Addr × Obj)} {σ : L2.St} {H : Hp} {s : Shared}
/-- an object that came behind the entry and is not tracked yet may be tracked from here on -/
theorem track {a : Addr} {oe : Obj} {u : HO} (J : Inv X pins σ H s) (na : H a = none) (nL : a ≠ X.env.locals) (ha : s.heap.get? a = some oe) (nc : ∀ v, oe.data ≠ .cell v) (new0 : X.s_0.heap.get? a = none) (np : ∀ p ∈ X.pn ++ pins, p.1 ≠ a)
    (ok : ObjOk X.prog X.w (upd H a u) s.heap a u) : Inv X pins σ (upd H a u) s := by
  have apart : ∀ {b : Addr} {o : HO}, H b = some o → b ≠ a := fun e z => by rw [z, na] at e; cases e
  refine { ok := J.ok, os := J.os, bare := J.bare, base := ?_, loc := J.loc, cell := J.cell, free := ?_, freeC := ?_, pin := ?_, hok := ?_, len := J.len }
  · refine { keep := J.base.keep, slot := J.base.slot, free := ?_, there := J.base.there, tups := ?_, frzs := ?_, tbls := ?_ }
    · intro b o e n hx
      rw [upd_ne (fun z => by rw [z, new0] at e; cases e)]
      exact J.base.free b o e n hx
    · intro b xs e
      have q := J.base.tups b xs e
      rw [upd_ne (apart q)]
      exact q
    · intro b o xs e
      have q := J.base.frzs b o xs e
      rw [upd_ne (apart q)]
      exact q
    · intro b ps e
      obtain ⟨m, q⟩ := J.base.tbls b ps e
      exact ⟨m, by rw [upd_ne (apart q)]; exact q⟩
  · rw [upd_ne (Ne.symm nL)]
    exact J.free
  · intro x c e
    have nca : c ≠ a := fun z => by
      obtain ⟨v, o, ho, hd⟩ := J.cell x c e
      rw [z, ha] at ho
      cases ho
      exact nc v hd
    rw [upd_ne nca]
    exact J.freeC x c e
  · intro p hp
    obtain ⟨q1, q2, q3, q4, q5⟩ := J.pin p hp
    exact ⟨q1, by rw [upd_ne (np p hp)]; exact q2, q3, q4, q5⟩
  · intro b o e
    by_cases c : b = a
    · subst c
      rw [upd_same] at e
      cases e
      exact ok
    · rw [upd_ne c] at e
      exact (J.hok b o e).stay (fun _ _ _ q => q) (fun d q => by rw [upd_ne (apart q)]; exact q) (fun d xs q => by rw [upd_ne (apart q)]; exact q)
end
/-- what the clause 'except x as n: suite' wishes of an exception of the body, where it takes every one: slot i is n's; behind the suite the exception is tracked -/
def wKeep (K : PySem.W.Frag) (c : Value) (i : Nat) (ts : TS) (D : Ends) : WX := fun cls d σ H =>
  d = none ∧ PySem.W.exmOne K cls c = some true ∧ ∀ a, H a = none →
    ts { nx := fun σ' H' => H' a = none → D.nx (σ'.set i none) (upd H' a (KeptX cls a)), rt := fun _ _ => False, bk := fun _ _ => False, ct := fun _ _ => False } (σ.set i (some (.ref a))) H
section
variable {X : Cx} {x n : Str} {c : Value} {i : Nat} {body suite : List Stmt} {b₀ : Stmt} {np pos pos' : Pos} {tb : WX → TS} {ts : TS}
theorem ps_try_keep (hs : X.stack = X.env :: X.outer) (hf : X.env.frame = some X.env.locals) (hex : X.ex = []) (nd : X.N.Nodup) (hi : X.N[i]? = some n) (loc : X.env.kindOf n = some .local) (hc : Names X x c)
    (inner : ∀ (W : WX) (pn : List (Addr × Obj)) (xe : Value → Shared → Prop), Takes (X.tr pn xe) W → PassesOwn (model X.prog X.w) X.A X.env xe → PSs (X.tr pn xe) body (tb W))
    (handler : ∀ (a : Addr) (pn : List (Addr × Obj)), PSs (X.suite a pn) (b₀ :: suite) ts) :
    PS X (.Try body [.ExceptHandler (some (.Name x np)) (some n) (b₀ :: suite) pos'] [] [] pos) (fun D σ H => tb (wKeep X.K c i ts D) D σ H) := by
  constructor
  intro pins s σ H D J0 h
  have ok := J0.ok
  have frames : X.A.frames = some (X.env :: X.outer) := by rw [ok.frames, hs]
  refine wpAny_Try_except ?_
  have caught : Takes (X.tr (X.pn ++ pins) fun e s₁ => wpAny (model X.prog X.w) X.A (noteFrame e X.env) (fun _ s₂ => wpAny (model X.prog X.w) X.A (setFlight e none) (fun _ s₃ =>
      wpAny (model X.prog X.w) X.A (handleBy e X.env [.ExceptHandler (some (.Name x np)) (some n) (b₀ :: suite) pos']) (SP X pins D) X.xe s₃) X.xe s₂) X.xe s₁) (wKeep X.K c i ts D) := by
    rintro er s1 ⟨a, B, sI, pins1, σ1, H1, cls, d, rfl, J1, ground, slots, sky, na, os, gens, rfl, takes, go⟩
    have J : Inv X pins σ1 H1 sI := J1.ofTry ok
    have sky' : Sky B (X.env :: X.outer) a (Zc cls none) X.env.locals s1.heap := hs ▸ sky
    refine Sky.land Zc.steady frames hf sky' ?_
    intro h2 fl2 up2
    have J2 : Inv X pins σ1 H1 { s1 with heap := h2 } := J.landed ground fl2.1 (slots.trans up2) os gens
    obtain ⟨oe2, vs2, he2, hz2, hd2⟩ := fl2.there
    have outFr : a ∉ frs (X.env :: X.outer) := fun m => by
      obtain ⟨_, o1, e1, nf⟩ := fl2.2.2.1.mem m
      rw [he2] at e1
      cases e1
      exact nf _ hd2
    have nL : a ≠ X.env.locals := fun z => outFr (List.mem_filterMap.mpr ⟨X.env, List.mem_cons_self, by rw [hf, z]⟩)
    have nF : a ∉ X.fs := fun m => by
      obtain ⟨ev, he, q⟩ := List.mem_filterMap.mp m
      exact outFr (List.mem_filterMap.mpr ⟨ev, List.mem_cons_of_mem _ he, q⟩)
    have newB : B.get? a = none := fl2.2.1
    have gone : ∀ {b : Addr} {o : Obj}, sI.heap.get? b = some o → b ∉ frs X.stack → b ≠ a := fun {b o} e m z => by
      have q := ground b o e m
      rw [z, newB] at q
      cases q
    have new0 : X.s_0.heap.get? a = none := by
      cases e : X.s_0.heap.get? a with
      | none => rfl
      | some o =>
        obtain ⟨o1, q⟩ := J.base.there a o e (by rw [hex]; exact List.not_mem_nil)
        exact (gone q (by rw [hs]; exact outFr) rfl).elim
    have npin : ∀ p ∈ X.pn ++ pins, p.1 ≠ a := fun p hp => by
      obtain ⟨q1, _, q3, q4, _⟩ := J.pin p hp
      refine gone q1 fun m => ?_
      rw [hs] at m
      obtain ⟨ev, he, q⟩ := List.mem_filterMap.mp m
      rcases List.mem_cons.mp he with rfl | he
      · rw [hf] at q
        exact q3 (Option.some.inj q).symm
      · exact q4 (List.mem_filterMap.mpr ⟨ev, he, q⟩)
    have S2 := J2.suite he2 hd2 na nL nF
    refine wpAny_handleBy_cons (codeAny_handlers_test ?_) (by intro q; cases q)
    have kind : PySem.W.Looks (model X.prog X.w) h2 (typeOf (.ref a)) cls := fun A Q E s k q => wpAny_typeOf_ref (k _ _ he2) (by rw [hz2.1]; exact q)
    have asked := PySem.W.exm_one (M := model X.prog X.w) J2.kIn kind takes
    have named : ∀ {Q : Value → Shared → Prop} {E : Value → Shared → Prop}, Q c { s1 with heap := h2 } → wpAny (model X.prog X.w) (X.A.mark (some (.ref a))) (eval (.Name x np) X.env) Q E { s1 with heap := h2 } := by
      intro Q E q
      obtain ⟨g1, g2, g3⟩ := hc
      rcases g3 with g3 | ⟨g3, g4, g5⟩
      · exact ld_glob (X := X.suite a ((a, oe2) :: (X.pn ++ pins))) S2 g1 g3 q g2
      · exact ld_blt (X := X.suite a ((a, oe2) :: (X.pn ++ pins))) S2 g1 g3 g4 q g5 g2
    refine named (asked.here (codeAny_handlers_suite_as (HandSPX.lands_againZ fl2 ?_)))
    intro h3 fl3 up3
    have J3 : Inv X pins σ1 H1 { s1 with heap := h3 } := J.landed ground fl3.1 ((slots.trans up2).trans up3) os gens
    obtain ⟨oe3, vs3, he3, hz3, hd3⟩ := fl3.there
    have S3 := J3.suite he3 hd3 na nL nF
    refine store_ok (X := X.suite a ((a, oe3) :: (X.pn ++ pins))) (v := .ref a) S3 nd hi (.inl loc) rfl ?_ (.inr loc)
    intro s4 S4
    refine wpAny_mono ((handler a ((a, oe3) :: (X.pn ++ pins))).run [] s4 _ H1 _ S4 (go a na)) ?_ (fun _ _ z => z.elim)
    intro flow s5 out
    match flow, out with
    | .ret u, ⟨_, _, _, _, _, q⟩ => exact q.elim
    | .brk, ⟨_, _, _, q⟩ => exact q.elim
    | .cont, ⟨_, _, _, q⟩ => exact q.elim
    | .next, ⟨σ5, H5, S5, q5⟩ =>
      refine gone_ok (X := X.suite a ((a, oe3) :: (X.pn ++ pins))) S5 nd hi loc ?_
      intro s6 S6
      obtain ⟨p1, p2, _, _, p5⟩ := S6.pin (a, oe3) (List.mem_append_left _ List.mem_cons_self)
      exact ⟨_, _, track (S6.unsuite ok) p2 nL p1 p5 new0 npin (keptX_ok p1 hz3 hd3), q5 p2⟩
  refine wpAny_mono ((inner _ _ _ caught PassesOwn.looking).run [] s σ H D (J0.toTry _) h) ?_ (fun _ _ q => q)
  intro flow s1 out
  match flow, out with
  | .next, ⟨σ1, H1, J1, q⟩ => exact wpAny_execs_nil ⟨σ1, H1, J1.ofTry ok, q⟩
  | .brk, ⟨σ1, H1, J1, q⟩ => exact ⟨σ1, H1, J1.ofTry ok, q⟩
  | .cont, ⟨σ1, H1, J1, q⟩ => exact ⟨σ1, H1, J1.ofTry ok, q⟩
  | .ret u, ⟨v, σ1, H1, J1, r, q⟩ => exact ⟨v, σ1, H1, J1.ofTry ok, r, q⟩
end
/-- isinstance of a kept exception of the class at D -/
def rIsX (K : PySem.W.Frag) : List V → Hp → VK → Prop := fun xs H Q => ∃ (a D : Addr) (c : V) (u : Value) (b : Bool), xs = [.ref a, c] ∧ H a = some (KeptX (.ref D) a) ∧ ExcC K D ∧ ClsV c u ∧ PySem.W.kitOne K (.ref D) u = some b ∧ Q (.bl b) H
def rIsXT (K : PySem.W.Frag) : List V → Hp → VK → Prop := fun xs H Q => ∃ (a D tp : Addr) (cs : List V) (us : List Value) (b : Bool), xs = [.ref a, .ref tp] ∧ H a = some (KeptX (.ref D) a) ∧ ExcC K D ∧ H tp = some (.tup cs) ∧ Paired ClsV cs us ∧ PySem.W.kitAny K (.ref D) us = some b ∧ Q (.bl b) H
section
variable {X : Cx}
theorem kept_inst {pins : List (Addr × Obj)} {σ : L2.St} {H : Hp} {s : Shared} {a D : Addr} (J : Inv X pins σ H s) (e : H a = some (KeptX (.ref D) a)) : ∃ oe, PySem.W.InstAt s.heap a oe D none := by
  obtain ⟨⟨oe, vs, h1, hz, hd⟩, _, _⟩ := (show ObjOk X.prog X.w H s.heap a (KeptX (.ref D) a) from J.hok a _ e)
  obtain ⟨oc, od, oda, osl⟩ := oe
  obtain ⟨z1, z2⟩ := hz
  dsimp only at z1 z2 hd
  subst z1 z2 hd
  exact ⟨_, h1, rfl, rfl, trivial⟩
theorem call_isX : CallR X (.builtin "isinstance") (rIsX X.K) := by
  rintro pins s σ H xs us Q J r ⟨a, D, c, u, b, rfl, e, C, k, kit, q⟩
  obtain ⟨u1, u2, rfl, r1, r2⟩ := vals2 r
  cases (show u1 = Value.ref a from r1)
  cases k.eq r2
  obtain ⟨oe, I1⟩ := kept_inst J e
  exact PySem.W.kia_one (PySem.W.handS_kitx_exc C.hg C.hk C.hs C.hd C.ha C.hn C.ht C.hm) J.kIn I1 kit (fun z => nomatch z) fun tk => ⟨.bl b, H, J.tok tk, rfl, q⟩
theorem call_isXT : CallR X (.builtin "isinstance") (rIsXT X.K) := by
  rintro pins s σ H xs us Q J r ⟨a, D, tp, cs, ws, b, rfl, e, C, tup, k, kit, q⟩
  obtain ⟨u1, u2, rfl, r1, r2⟩ := vals2 r
  cases (show u1 = Value.ref a from r1)
  cases (show u2 = Value.ref tp from r2)
  obtain ⟨oe, I1⟩ := kept_inst J e
  obtain ⟨_, its, rv, ⟨oc, od, dt, sl⟩, h1, h2, m, h3⟩ := (show ObjOk X.prog X.w H s.heap tp (.tup cs) from J.hok tp _ tup)
  cases ClsV.all k rv
  simp only at h2 h3
  cases h2
  cases h3
  exact PySem.W.kia_tup (PySem.W.handS_kitx_exc C.hg C.hk C.hs C.hd C.ha C.hn C.ht C.hm) J.kIn I1 h1 kit (fun z => nomatch z) fun tk => ⟨.bl b, H, J.tok tk, rfl, q⟩
end
end Ct

/-! data that may be shown (str of a list), and what is raised -/
namespace Ct
open PySem PySem.Spec PyProof.Rows L2
mutual
/-- numbers below 2 ** 200, texts, no dict -/
def okN : PyData → Bool
  | .none => true
  | .bool _ => true
  | .int i => decide (i.natAbs < 2 ^ 200)
  | .str x => PyData.canLay0 (.str x)
  | .list xs => okAll xs
  | .tuple xs => okAll xs
  | .dict _ => false
def okAll : List PyData → Bool
  | [] => true
  | x :: xs => okN x && okAll xs
end
mutual
/-- how many things stand in it -/
def bulkN : PyData → Nat
  | .none => 0
  | .bool _ => 0
  | .int _ => 0
  | .str x => x.cps.size
  | .list xs => bulkAll xs
  | .tuple xs => bulkAll xs
  | .dict _ => 0
def bulkAll : List PyData → Nat
  | [] => 0
  | x :: xs => bulkN x + 1 + bulkAll xs
end
theorem log2_200 {n : Nat} (h : n < 2 ^ 200) (hn : n ≠ 0) : n.log2 < 200 := (Nat.log2_lt hn).mpr h
theorem short_int {i : Int} (h : i.natAbs < 2 ^ 200) : (PyData.shown (.int i)).length ≤ 100 := by
  have e := int_text_length_le10 (k := 61) (by decide) (Nat.lt_of_lt_of_le h (by decide +kernel))
  show (Str.ofString (toString i)).length ≤ 100
  rw [PySem.ofString_length]
  omega
mutual
theorem okN_facts : ∀ d : PyData, okN d = true → d.canLay0 = true ∧ d.showable = true ∧ d.hasDict = false ∧ d.leavesShort 100 = true ∧ d.weight ≤ 203 * bulkN d + 202
  | .none, _ => ⟨rfl, rfl, rfl, rfl, Nat.zero_le _⟩
  | .bool _, _ => ⟨rfl, rfl, rfl, rfl, Nat.zero_le _⟩
  | .int i, h => by
    have h' : i.natAbs < 2 ^ 200 := of_decide_eq_true h
    refine ⟨rfl, ?_, rfl, decide_eq_true (short_int h'), ?_⟩
    · show decide (i.natAbs.log2 < 1920) = true
      by_cases c : i.natAbs = 0
      · rw [c]; decide
      · exact decide_eq_true (Nat.lt_trans (log2_200 h' c) (by decide))
    · show (if i == 0 then 0 else i.natAbs.log2 + 1) ≤ 203 * 0 + 202
      split
      · exact Nat.zero_le _
      · by_cases c : i.natAbs = 0
        · rw [c]; decide
        · have := log2_200 h' c
          omega
  | .str x, h => by
    refine ⟨h, rfl, rfl, PyData.leavesShort_of_canLay0 100 (.str x) h rfl, ?_⟩
    show x.cps.size ≤ 203 * x.cps.size + 202
    omega
  | .list xs, h => by
    obtain ⟨h1, h2, h3, h4, h5⟩ := okAll_facts xs h
    refine ⟨h1, h2, h3, h4, ?_⟩
    show PyData.weightAll xs ≤ 203 * bulkAll xs + 202
    omega
  | .tuple xs, h => by
    obtain ⟨h1, h2, h3, h4, h5⟩ := okAll_facts xs h
    refine ⟨h1, h2, h3, h4, ?_⟩
    show PyData.weightAll xs ≤ 203 * bulkAll xs + 202
    omega
  | .dict _, h => nomatch h
theorem okAll_facts : ∀ xs : List PyData, okAll xs = true → PyData.canLayAll0 xs = true ∧ PyData.showableAll xs = true ∧ PyData.hasDictAll xs = false ∧ PyData.leavesShortAll 100 xs = true ∧ PyData.weightAll xs ≤ 203 * bulkAll xs
  | [], _ => ⟨rfl, rfl, rfl, rfl, Nat.le_refl _⟩
  | x :: xs, h => by
    have h' : okN x = true ∧ okAll xs = true := by rw [okAll, Bool.and_eq_true] at h; exact h
    obtain ⟨a1, a2, a3, a4, a5⟩ := okN_facts x h'.1
    obtain ⟨b1, b2, b3, b4, b5⟩ := okAll_facts xs h'.2
    refine ⟨?_, ?_, ?_, ?_, ?_⟩
    · rw [PyData.canLayAll0, a1, b1]; rfl
    · rw [PyData.showableAll, a2, b2]; rfl
    · rw [PyData.hasDictAll, a3, b3]; rfl
    · rw [PyData.leavesShortAll, a4, b4]; rfl
    · rw [PyData.weightAll, bulkAll]
      omega
end
/-- data that may be handed about, looked at and shown -/
structure Fine (d : PyData) (n m : Nat) : Prop where
  ok : okN d = true
  dep : d.depth ≤ n
  few : bulkN d ≤ m
theorem Fine.lay {d : PyData} {n m : Nat} (h : Fine d n m) : d.canLay0 = true := (okN_facts d h.ok).1
theorem Fine.mono {d : PyData} {n m n' m' : Nat} (h : Fine d n m) (e : n ≤ n') (e' : m ≤ m') : Fine d n' m' := ⟨h.ok, Nat.le_trans h.dep e, Nat.le_trans h.few e'⟩
theorem Fine.fits {d : PyData} {n m : Nat} (h : Fine d n m) (e : m ≤ 600) : d.shown.length ≤ sizeLine := by
  obtain ⟨_, _, _, s, w⟩ := okN_facts d h.ok
  have q := PyData.shown_le 100 (by decide) d s
  have w2 : d.weight ≤ 203 * 601 := by have := h.few; omega
  have w3 : (100 + 2) * d.weight ≤ 102 * (203 * 601) := Nat.mul_le_mul_left _ w2
  rw [sizeLine_eq]
  omega
/-- str of a list or a tuple of such data -/
def rStrD (K : PySem.W.Frag) : List V → Hp → VK → Prop := fun xs H Q => ∃ (a : Addr) (d : PyData), xs = [.ref a] ∧ Dp K H (.ref a) d ∧ Fine d 40 600 ∧ Q (.str d.shown) H
section
variable {X : Cx}
theorem call_strD (gd : X.A.guards = some []) (hu : X.A.units + 64 < cLine) : CallR X (.type "str") (rStrD X.K) := by
  rintro pins s σ H xs us Q J r ⟨a, d, rfl, hd, fine, q⟩
  obtain ⟨u, rfl, r1⟩ := vals1 r
  cases (show u = Value.ref a from r1)
  obtain ⟨as, rd⟩ := Dp.reads J d (.ref a) (.ref a) hd rfl
  obtain ⟨_, f2, f3, _, _⟩ := okN_facts d fine.ok
  refine str_of_reads rd f2 (fun z => by rw [f3] at z; cases z) gd (by have := fine.dep; omega) (fun _ _ e => e) ?_ (fine.fits (by decide))
  intro h' t tk keeps
  exact ⟨.str d.shown, H, J.kept (t' := tk) keeps, ⟨t, rfl⟩, q⟩
end
/-- a class of error of the text that is raised -/
structure ErrC (K : PySem.W.Frag) (mg : Str → Option Value) (x : Str) (C : Addr) : Prop where
  g : mg x = some (.ref C)
  kp : PySem.W.keepIn K (.ref C) = true
  ex : PySem.W.excIn K C [.type "ValueError", .type "Exception", .type "BaseException", .type "object"] "ValueError.__new__" = true
  sub : PySem.W.subIn K (.ref C) (.type "BaseException") = some true
  ty : PySem.W.typeIn K (.ref C) = some (.type "type")
  is : ExcC K C
def tRaise (C : Addr) (W : WX) : TS := fun _ σ H => W (.ref C) none σ H
theorem ps_raiseC {X : Cx} {W : WX} {x m : Str} {C : Addr} {j : Nat} {p p2 pos pos' : Pos} (calm : X.calm = true) (tk : Takes X W) (E : ErrC X.K X.mg x C) (hg : Gl X x) (hdb : (x == ("__debug__" : Str)) = false := by decide) :
    PS X (.Raise (some (.Call (.Name x p) [.Constant (.str m) j p2] [] pos)) none pos') (tRaise C W) :=
  ps_raise calm tk (pmk_own PySem.F.excBase_ValueError E.ex E.g E.kp (raises_own E.sub E.ty) hg hdb)
end Ct

/-! what is a train, a stand: of any data -/
namespace Ct
open PySem PySem.Spec PyProof.Rows L2
theorem eqv_text {h : PyData} {x : Str} (e : PyData.eqv h (.str x) = true) : h = .str x := by
  cases h with
  | str y => rw [PyData.eqv, beq_iff_eq] at e; rw [e]
  | none => exact nomatch e
  | bool b => cases b <;> exact nomatch e
  | int i => exact nomatch e
  | list xs => exact nomatch e
  | tuple xs => exact nomatch e
  | dict kvs => exact nomatch e
theorem eqv_word {h : PyData} {t : List PyData} {x : Str} (e : PyData.eqv (.tuple (h :: t)) (.tuple [.str x]) = true) : h = .str x ∧ t = [] := by
  cases t with
  | nil =>
    rw [PyData.eqv, PyData.eqvAll, Bool.and_eq_true] at e
    exact ⟨eqv_text e.1, rfl⟩
  | cons y r =>
    rw [PyData.eqv, PyData.eqvAll, Bool.and_eq_true] at e
    exact nomatch e.2
theorem marks_of : ∀ {ds : List PyData} {last z : Int}, risesD last z ds = true → ∃ ms : List Int, ds = ms.map PyData.int ∧ ms.Pairwise (· < ·) ∧ ∀ m ∈ ms, last < m ∧ m < z
  | [], _, _, _ => ⟨[], rfl, .nil, fun _ h => nomatch h⟩
  | .int m :: r, last, z, h => by
    by_cases c : m ≤ last ∨ z ≤ m
    · rw [risesD, if_pos c] at h
      cases h
    · rw [risesD, if_neg c] at h
      obtain ⟨ms, e, p, q⟩ := marks_of h
      refine ⟨m :: ms, by rw [e]; rfl, List.pairwise_cons.mpr ⟨fun x hx => (q x hx).1, p⟩, fun x hx => ?_⟩
      rcases List.mem_cons.mp hx with rfl | hx
      · omega
      · have := q x hx
        omega
  | .none :: _, _, _, h => nomatch h
  | .bool _ :: _, _, _, h => nomatch h
  | .str _ :: _, _, _, h => nomatch h
  | .list _ :: _, _, _, h => nomatch h
  | .tuple _ :: _, _, _, h => nomatch h
  | .dict _ :: _, _, _, h => nomatch h
theorem bulk_map (ms : List Int) : bulkAll (ms.map PyData.int) = ms.length := by
  induction ms with
  | nil => rfl
  | cons m r ih => rw [List.map_cons, bulkAll, ih, List.length_cons, bulkN]; omega
/-- a part, by what the checks look at -/
theorem part_of {d : PyData} (h : isP d = true) (ok : okN d = true) (few : bulkN d ≤ 900) : ∃ p : Part, d = p.data ∧ p.ok := by
  match d, h, ok, few with
  | .tuple (a :: t), h, ok, few =>
    rw [isP] at h
    split at h
    · rename_i e
      cases eqv_text e
      match t, h, ok, few with
      | [.int z, m], h, ok, few =>
        rw [wheelT, Bool.and_eq_true] at h
        have hz : 1 ≤ z := of_decide_eq_true h.1
        match m, h.2, ok, few with
        | .tuple ds, h2, ok, few =>
          obtain ⟨ms, rfl, p, q⟩ := marks_of (show risesD (-1) z ds = true from h2)
          rw [okN, okAll, okAll, Bool.and_eq_true, Bool.and_eq_true] at ok
          have hz2 : z.natAbs < 2 ^ 200 := of_decide_eq_true ok.2.1
          rw [bulkN, bulkAll, bulkAll, bulkAll, bulkN, bulkN, bulkN, bulk_map] at few
          exact ⟨.wheel z ms, rfl, hz, by omega, ⟨p, fun m hm => by have := q m hm; omega⟩, by omega⟩
    · split at h
      · rename_i _ e
        cases eqv_text e
        match t, h, ok with
        | [.int k], h, ok =>
          have hk : 1 ≤ k := of_decide_eq_true h
          rw [okN, okAll, okAll, Bool.and_eq_true, Bool.and_eq_true] at ok
          have hk2 : k.natAbs < 2 ^ 200 := of_decide_eq_true ok.2.1
          exact ⟨.spring k, rfl, hk, by omega⟩
      · rw [Bool.or_eq_true] at h
        rcases h with h | h
        · obtain ⟨rfl, rfl⟩ := eqv_word h
          exact ⟨.click, rfl, trivial⟩
        · obtain ⟨rfl, rfl⟩ := eqv_word h
          exact ⟨.rocker, rfl, trivial⟩
def isT : PyData → Bool
  | .list ds => !ds.isEmpty && ds.all isP
  | _ => false
theorem okAll_mem : ∀ {ds : List PyData}, okAll ds = true → ∀ d ∈ ds, okN d = true
  | x :: xs, h, d, hd => by
    rw [okAll, Bool.and_eq_true] at h
    rcases List.mem_cons.mp hd with rfl | hd
    · exact h.1
    · exact okAll_mem h.2 d hd
theorem bulk_mem : ∀ {ds : List PyData}, ∀ d ∈ ds, bulkN d + 1 ≤ bulkAll ds
  | x :: xs, d, hd => by
    rw [bulkAll]
    rcases List.mem_cons.mp hd with rfl | hd
    · omega
    · have := bulk_mem d hd
      omega
theorem bulk_len : ∀ ds : List PyData, ds.length ≤ bulkAll ds
  | [] => Nat.le_refl _
  | x :: xs => by
    have := bulk_len xs
    rw [bulkAll, List.length_cons]
    omega
theorem depth_mem : ∀ {ds : List PyData}, ∀ d ∈ ds, d.depth ≤ PyData.depthAll ds
  | x :: xs, d, hd => by
    rw [PyData.depthAll]
    rcases List.mem_cons.mp hd with rfl | hd
    · omega
    · have := depth_mem d hd
      omega
theorem parts_of : ∀ {ds : List PyData}, ds.all isP = true → okAll ds = true → bulkAll ds ≤ 900 → ∃ ps : List Part, ds = ps.map Part.data ∧ ∀ p ∈ ps, p.ok
  | [], _, _, _ => ⟨[], rfl, fun _ h => nomatch h⟩
  | d :: ds, h, ok, few => by
    rw [List.all_cons, Bool.and_eq_true] at h
    rw [okAll, Bool.and_eq_true] at ok
    rw [bulkAll] at few
    obtain ⟨p, rfl, hp⟩ := part_of h.1 ok.1 (by omega)
    obtain ⟨ps, rfl, hps⟩ := parts_of h.2 ok.2 (by omega)
    refine ⟨p :: ps, rfl, fun q hq => ?_⟩
    rcases List.mem_cons.mp hq with rfl | hq
    · exact hp
    · exact hps q hq
theorem train_of {d : PyData} {n m : Nat} (h : isT d = true) (f : Fine d n m) (e : m ≤ 900) : ∃ ps : List Part, d = .list (ps.map Part.data) ∧ (∀ p ∈ ps, p.ok) ∧ 1 ≤ ps.length := by
  match d, h, f with
  | .list ds, h, f =>
    rw [isT, Bool.and_eq_true] at h
    have few : bulkAll ds ≤ m := f.few
    obtain ⟨ps, rfl, hp⟩ := parts_of h.2 f.ok (by omega)
    refine ⟨ps, rfl, hp, ?_⟩
    cases ps with
    | nil => cases h.1
    | cons p r => rw [List.length_cons]; omega
/-- places, one for each part -/
def stOk : List Part → List PyData → Bool
  | [], [] => true
  | p :: ps, .int x :: es => decide (0 ≤ x) && decide (x < p.places) && stOk ps es
  | _, _ => false
def isSt (ps : List Part) : PyData → Bool
  | .tuple es => es.length == ps.length && stOk ps es
  | _ => false
end Ct
namespace Ct
theorem drop_at {α : Type} {l : List α} {n : Nat} {x : α} (h : l[n]? = some x) : l.drop n = x :: l.drop (n + 1) := by
  obtain ⟨hn, e⟩ := List.getElem?_eq_some_iff.mp h
  rw [List.drop_eq_getElem_cons hn, e]
end Ct
namespace Ct
open PySem PySem.Spec PyProof.Rows L2
theorem eqvAll_nil (t : List PyData) : PyData.eqvAll t [] = t.isEmpty := by cases t <;> rfl
theorem isP_str (x : Str) (t : List PyData) : isP (.tuple (.str x :: t)) = if x = "wheel" then wheelT t else if x = "spring" then springT t else if x = "click" ∨ x = "rocker" then t.isEmpty else false := by
  rw [isP]
  have e : ∀ y : Str, PyData.eqv (.str x) (.str y) = decide (x = y) := fun y => by
    rw [PyData.eqv]
    by_cases c : x = y
    · rw [c, decide_eq_true rfl, beq_self_eq_true]
    · rw [decide_eq_false c, beq_false_of_ne c]
  have e2 : ∀ y : Str, PyData.eqv (.tuple (.str x :: t)) (.tuple [.str y]) = (decide (x = y) && t.isEmpty) := fun y => by
    rw [PyData.eqv, PyData.eqvAll, e, eqvAll_nil]
  rw [e, e, e2, e2]
  by_cases c1 : x = "wheel"
  · rw [if_pos (decide_eq_true c1), if_pos c1]
  rw [if_neg (by rw [decide_eq_false c1]; exact Bool.false_ne_true), if_neg c1]
  by_cases c2 : x = "spring"
  · rw [if_pos (decide_eq_true c2), if_pos c2]
  rw [if_neg (by rw [decide_eq_false c2]; exact Bool.false_ne_true), if_neg c2]
  by_cases c3 : x = "click"
  · rw [if_pos (.inl c3), decide_eq_true c3, decide_eq_false (by rw [c3]; decide +kernel)]
    simp
  by_cases c4 : x = "rocker"
  · rw [if_pos (.inr c4), decide_eq_true c4, decide_eq_false c3]
    simp
  rw [if_neg (fun q => q.elim c3 c4), decide_eq_false c3, decide_eq_false c4]
  rfl
theorem isP_nostr {d : PyData} {t : List PyData} (h : ∀ x, d ≠ .str x) : isP (.tuple (d :: t)) = false := by
  cases c : isP (.tuple (d :: t)) with
  | false => rfl
  | true =>
    rw [isP] at c
    split at c
    · rename_i e
      exact absurd (eqv_text e) (h _)
    · split at c
      · rename_i _ e
        exact absurd (eqv_text e) (h _)
      · rw [Bool.or_eq_true] at c
        rcases c with c | c
        · exact absurd (eqv_word c).1 (h _)
        · exact absurd (eqv_word c).1 (h _)
end Ct
namespace Ct
open PySem PySem.Spec PyProof.Rows L2
theorem w_rNeS {H : Hp} {Q : VK} {x y : Str} {b : Bool} (e : (!decide (V.str x = V.str y)) = b) (h : Q (.bl b) H) : rNe (.str x) (.str y) H Q := by
  refine ⟨rfl, ?_⟩
  rw [e]
  exact h
end Ct
namespace Ct
open PySem PySem.Spec PyProof.Rows L2
theorem w_m1 {σ : L2.St} {H : Hp} {Q : VK} {r : V → List V → Hp → VK → Prop} {ta tb : TE} (h : ta σ H fun x H1 => (∃ a, x = .str a) ∧ tb σ H1 fun y H2 => r x [y] H2 Q) : tM1 r ta tb σ H Q := h
def W5 : List Str := ["train", "stand", "row", "count", "many"]
def pick5 (bs : List Bool) (i : Nat) : List Str := (((W5.zip bs).take i).filter (·.2)).map (·.1)
theorem pick5_succ {bs : List Bool} {i : Nat} {x : Str} {b : Bool} (h : (W5.zip bs)[i]? = some (x, b)) : pick5 bs (i + 1) = pick5 bs i ++ if b = true then [x] else [] := by
  unfold pick5
  rw [List.take_succ, h]
  cases b <;> simp
theorem pick5_len (bs : List Bool) (i : Nat) : (pick5 bs i).length ≤ i := by
  unfold pick5
  rw [List.length_map]
  exact Nat.le_trans (List.length_filter_le _ _) (List.length_take_le _ _)
/-- what the classes' own lines say of an error of the class at D -/
structure Kind (K : PySem.W.Frag) (D : Addr) (o : List Value) (c1 c2 c3 c4 c5 : Addr) (b1 b2 b3 b4 b5 : Bool) : Prop where
  ex : ExcC K D
  val : PySem.W.kitOne K (.ref D) (.type "ValueError") = some true
  oth : PySem.W.kitAny K (.ref D) o = some false
  k1 : PySem.W.kitOne K (.ref D) (.ref c1) = some b1
  k2 : PySem.W.kitOne K (.ref D) (.ref c2) = some b2
  k3 : PySem.W.kitOne K (.ref D) (.ref c3) = some b3
  k4 : PySem.W.kitOne K (.ref D) (.ref c4) = some b4
  k5 : PySem.W.kitOne K (.ref D) (.ref c5) = some b5
end Ct
namespace Ct
open PySem PySem.Spec PyProof.Rows L2
theorem w_callS {σ : L2.St} {H : Hp} {Q : VK} {sp : Sp} {E : L2.St → XK} {t : TA} (h : t σ H fun vs H1 => sp vs H1 Q (E σ)) : tCallS sp E t σ H Q := h
theorem join_train : Txt.join " " (pick5 [true, false, false, false, false] 5) = "train" := by decide +kernel
theorem join_stand : Txt.join " " (pick5 [false, true, false, false, false] 5) = "stand" := by decide +kernel
end Ct
namespace Ct
theorem isT_of {ps : List Part} (h : ∀ p ∈ ps, p.ok) (n : 1 ≤ ps.length) : isT (.list (ps.map Part.data)) = true := by
  have e : (ps.map Part.data).isEmpty = false := by
    cases ps with
    | nil => exact absurd n (by decide)
    | cons _ _ => rfl
  have a : (ps.map Part.data).all isP = true := List.all_eq_true.mpr fun d hd => by
    obtain ⟨p, hp, rfl⟩ := List.mem_map.mp hd
    exact isP_of (h p hp)
  rw [isT, e, a]
  rfl
end Ct
namespace Ct
open PySem PySem.Spec PyProof.Rows L2
theorem fine_two {d e : PyData} (fd : Fine d 30 290) (fe : Fine e 30 290) : Fine (.list [d, e]) 40 600 := by
  refine ⟨?_, ?_, ?_⟩
  · rw [okN, okAll, okAll, okAll, fd.ok, fe.ok]
    rfl
  · rw [PyData.depth, PyData.depthAll, PyData.depthAll, PyData.depthAll]
    have h1 := fd.dep
    have h2 := fe.dep
    omega
  · rw [bulkN, bulkAll, bulkAll, bulkAll]
    have h1 := fd.few
    have h2 := fe.few
    omega
theorem data_inj {p q : Part} (h : p.data = q.data) : p = q := by
  have im : ∀ ms ns : List Int, ms.map PyData.int = ns.map PyData.int → ms = ns := fun ms ns h => List.map_inj_right (fun _ _ z => PyData.int.inj z) |>.mp h
  cases p <;> cases q <;> simp only [Part.data, PyData.tuple.injEq, List.cons.injEq, PyData.str.injEq, PyData.int.injEq, and_true, reduceCtorEq, List.nil_eq, and_false, false_and] at h
  all_goals first
    | rfl
    | (obtain ⟨_, rfl, h2⟩ := h; rw [im _ _ h2])
    | (obtain ⟨_, rfl⟩ := h; rfl)
    | exact absurd h (by decide +kernel)
    | exact absurd h.1 (by decide +kernel)
theorem datas_inj {ps qs : List Part} (h : ps.map Part.data = qs.map Part.data) : ps = qs := (List.map_inj_right (fun _ _ z => data_inj z)).mp h
theorem isSt_same {ps qs : List Part} {e : PyData} (h : qs.map Part.data = ps.map Part.data) : isSt qs e = isSt ps e := by rw [datas_inj h]
end Ct
namespace Ct
open PySem PySem.Spec PyProof.Rows L2
/-- by looking -/
def fineB (n m : Nat) (d : PyData) : Bool := okN d && decide (d.depth ≤ n) && decide (bulkN d ≤ m)
theorem fine_by {n m : Nat} {ds : List PyData} (h : ds.all (fineB n m) = true) : ∀ d ∈ ds, Fine d n m := fun d hd => by
  have z := List.all_eq_true.mp h d hd
  rw [fineB, Bool.and_eq_true, Bool.and_eq_true] at z
  exact ⟨z.1.1, of_decide_eq_true z.1.2, of_decide_eq_true z.2⟩
end Ct
namespace Ct
open PySem PySem.Spec PyProof.Rows L2
theorem okAll_ints : ∀ {ms : List Int}, (∀ m ∈ ms, m.natAbs < 2 ^ 200) → okAll (ms.map PyData.int) = true
  | [], _ => rfl
  | m :: r, h => by
    rw [List.map_cons, okAll, okN, decide_eq_true (h m List.mem_cons_self), okAll_ints fun x hx => h x (List.mem_cons_of_mem _ hx)]
    rfl
theorem depth_ints : ∀ ms : List Int, PyData.depthAll (ms.map PyData.int) = 0
  | [] => rfl
  | m :: r => by rw [List.map_cons, PyData.depthAll, depth_ints r]; rfl
theorem fine_ints {ms : List Int} {n : Nat} (h : ∀ m ∈ ms, m.natAbs < 2 ^ 200) (l : ms.length ≤ n) : Fine (.tuple (ms.map PyData.int)) 1 n :=
  ⟨okAll_ints h, by rw [PyData.depth, depth_ints]; omega, by rw [bulkN, bulk_map]; exact l⟩
theorem fine_wheel {z : Int} {ms : List Int} (h1 : 1 ≤ z) (h2 : z < 2 ^ 200) (rs : Rise z ms) (l : ms.length ≤ 7) : Fine (Part.wheel z ms).data 2 16 := by
  have f := fine_ints (n := 7) (fun m hm => by have := rs.2 m hm; omega) l
  refine ⟨?_, ?_, ?_⟩
  · rw [Part.data, okN, okAll, okAll, okAll, okAll, f.ok, show okN (.int z) = true from decide_eq_true (by omega), show okN (.str "wheel") = true from by decide +kernel]
    rfl
  · rw [Part.data, PyData.depth, PyData.depthAll, PyData.depthAll, PyData.depthAll, PyData.depthAll]
    have := f.dep
    have e1 : (PyData.str "wheel").depth = 0 := rfl
    have e2 : (PyData.int z).depth = 0 := rfl
    omega
  · rw [Part.data, bulkN, bulkAll, bulkAll, bulkAll, bulkAll]
    have := f.few
    have e1 : bulkN (.str "wheel") = 5 := by decide +kernel
    have e2 : bulkN (.int z) = 0 := by rw [bulkN]
    omega
theorem fine_spring {z : Int} (h1 : 1 ≤ z) (h2 : z < 2 ^ 200) : Fine (Part.spring z).data 2 16 := by
  refine ⟨?_, ?_, ?_⟩
  · rw [Part.data, okN, okAll, okAll, okAll, show okN (.int z) = true from decide_eq_true (by omega), show okN (.str "spring") = true from by decide +kernel]
    rfl
  · rw [Part.data, PyData.depth, PyData.depthAll, PyData.depthAll, PyData.depthAll]
    have e1 : (PyData.str "spring").depth = 0 := rfl
    have e2 : (PyData.int z).depth = 0 := rfl
    omega
  · rw [Part.data, bulkN, bulkAll, bulkAll, bulkAll]
    have e1 : bulkN (.str "spring") = 6 := by decide +kernel
    have e2 : bulkN (.int z) = 0 := by rw [bulkN]
    omega
theorem fine_click : Fine Part.click.data 2 16 := ⟨by decide +kernel, by decide +kernel, by decide +kernel⟩
theorem fine_rocker : Fine Part.rocker.data 2 16 := ⟨by decide +kernel, by decide +kernel, by decide +kernel⟩
end Ct
namespace Ct
open PySem PySem.Spec PyProof.Rows L2
/-- a part that may be handed about and bent -/
def PF (p : Part) : Prop := Fine p.data 2 16 ∧ p.places < 2 ^ 199
end Ct
namespace Ct
open PySem PySem.Spec PyProof.Rows L2
theorem cut_to (xs : List V) (k : Nat) (h : k ≤ xs.length) : cutV xs none (some (k : Int)) = xs.take k := by
  unfold cutV
  rw [HT.sIx_none, HT.sIx_nat, List.drop_zero, Nat.min_eq_left h, Nat.sub_zero]
theorem cut_from (xs : List V) (k : Nat) (h : k + 1 ≤ xs.length) : cutV xs (some ((k : Int) + 1)) none = xs.drop (k + 1) := by
  unfold cutV
  rw [show ((k : Int) + 1) = ((k + 1 : Nat) : Int) from rfl, HT.sIx_none, HT.sIx_nat, Nat.min_eq_left h, List.take_of_length_le (by rw [List.length_drop]; omega)]
/-- a wheel or a spring of many figures -/
theorem big_wheel {n : Int} (h0 : 0 ≤ n) (h1 : n < 2147483648) : (Part.wheel (10 ^ 30 + n) [0, 5]).ok ∧ PF (.wheel (10 ^ 30 + n) [0, 5]) := by
  have e : (10 : Int) ^ 30 = 1000000000000000000000000000000 := by decide
  have rs : Rise (10 ^ 30 + n) [0, 5] := by
    refine ⟨by decide, fun m hm => ?_⟩
    simp only [List.mem_cons, List.not_mem_nil, or_false] at hm
    rcases hm with rfl | rfl <;> omega
  exact ⟨⟨by omega, by omega, rs, by decide⟩, fine_wheel (by omega) (by omega) rs (by decide), show 10 ^ 30 + n < 2 ^ 199 by omega⟩
theorem big_spring {n : Int} (h0 : 0 ≤ n) (h1 : n < 2147483648) : (Part.spring (10 ^ 30 + n)).ok ∧ PF (.spring (10 ^ 30 + n)) := by
  have e : (10 : Int) ^ 30 = 1000000000000000000000000000000 := by decide
  exact ⟨⟨by omega, by omega⟩, fine_spring (by omega) (by omega), show 10 ^ 30 + n < 2 ^ 199 by omega⟩
end Ct

/-! displays of data, read at once: what an expression gives is told by its data alone -/
namespace Ct
open PySem PySem.Spec PyProof.Rows L2
section
variable {K : PySem.W.Frag} {H0 : Hp} {σ : L2.St}
/-- t gives some value of the data d, over any heap that bears what H0 bears -/
def Gv (K : PySem.W.Frag) (H0 : Hp) (σ : L2.St) (t : TE) (d : PyData) : Prop := ∀ (H : Hp) (Q : VK), Same H0 H → (∀ v H', Same H H' → Dp K H' v d → Q v H') → t σ H Q
/-- .. a new list -/
def GvL (K : PySem.W.Frag) (H0 : Hp) (σ : L2.St) (t : TE) (ds : List PyData) : Prop := ∀ (H : Hp) (Q : VK), Same H0 H → (∀ l vs H', Same H H' → H' l = some (.lst vs) → DpAll K H' vs ds → Q (.ref l) H') → t σ H Q
/-- .. a tuple -/
def GvT (K : PySem.W.Frag) (H0 : Hp) (σ : L2.St) (t : TE) (ds : List PyData) : Prop := ∀ (H : Hp) (Q : VK), Same H0 H → (∀ l vs H', Same H H' → SqT K H' l vs → DpAll K H' vs ds → Q (.ref l) H') → t σ H Q
def GvA (K : PySem.W.Frag) (H0 : Hp) (σ : L2.St) (t : TA) (ds : List PyData) : Prop := ∀ (H : Hp) (Q : List V → Hp → Prop), Same H0 H → (∀ vs H', Same H H' → DpAll K H' vs ds → Q vs H') → t σ H Q
/-- .. a number, whichever it is -/
def GvI (H0 : Hp) (σ : L2.St) (t : TE) (R : Int → Prop) : Prop := ∀ (H : Hp) (Q : VK), Same H0 H → (∀ i, R i → Q (.int i) H) → t σ H Q
theorem gv_int {i : Int} : Gv K H0 σ (tC (.int i)) (.int i) := fun H _ _ q => q _ H (Same.refl H) (.int i)
theorem gv_str {x : Str} : Gv K H0 σ (tC (.str x)) (.str x) := fun H _ _ q => q _ H (Same.refl H) (.str x)
theorem gv_bl {b : Bool} : Gv K H0 σ (tC (.bl b)) (.bool b) := fun H _ _ q => q _ H (Same.refl H) (.bl b)
theorem gv_non : Gv K H0 σ (tC .non) .none := fun H _ _ q => q _ H (Same.refl H) .non
theorem gv_var {i : Nat} {v : V} {d : PyData} (e : σ[i]? = some (some v)) (h : Dp K H0 v d) : Gv K H0 σ (tVar i) d := fun H _ s q => ⟨v, e, q v H (Same.refl H) (dp_same s h)⟩
theorem gv_nil : GvA K H0 σ tNil [] := fun H _ _ q => q [] H (Same.refl H) .nil
theorem gv_cons {t : TE} {ts : TA} {d : PyData} {ds : List PyData} (h : Gv K H0 σ t d) (hs : GvA K H0 σ ts ds) : GvA K H0 σ (tCons t ts) (d :: ds) := fun H Q s q =>
  h H _ s fun v H1 s1 hv => hs H1 _ (s.trans s1) fun vs H2 s2 hvs => q _ H2 (s1.trans s2) (.cons (dp_same s2 hv) hvs)
theorem gvT_tup {t : TA} {ds : List PyData} (h : GvA K H0 σ t ds) (l : ds.length ≤ 1000 := by first | decide | exact Nat.le_of_ble_eq_true rfl) : GvT K H0 σ (tTup t) ds := fun H Q s q =>
  h H _ s fun vs H1 s1 hvs => ⟨Nat.le_of_lt (small1000 (by rw [dpAll_len hvs]; exact l)), fun p np => q p vs _ (s1.trans (same_upd np)) (.of upd_same) (dpAll_same (same_upd np) hvs)⟩
theorem gvL_lst {t : TA} {ds : List PyData} (h : GvA K H0 σ t ds) (l : ds.length ≤ 1000 := by first | decide | exact Nat.le_of_ble_eq_true rfl) : GvL K H0 σ (tLst t) ds := fun H Q s q =>
  h H _ s fun vs H1 s1 hvs => ⟨Nat.le_of_lt (small1000 (by rw [dpAll_len hvs]; exact l)), fun p np => q p vs _ (s1.trans (same_upd np)) upd_same (dpAll_same (same_upd np) hvs)⟩
theorem GvT.gv {t : TE} {ds : List PyData} (h : GvT K H0 σ t ds) : Gv K H0 σ t (.tuple ds) := fun H _ s q => h H _ s fun _ _ H1 s1 h1 h2 => q _ H1 s1 (.tup h1 h2)
theorem GvL.gv {t : TE} {ds : List PyData} (h : GvL K H0 σ t ds) : Gv K H0 σ t (.list ds) := fun H _ s q => h H _ s fun _ _ H1 s1 h1 h2 => q _ H1 s1 (.lst (.of h1) h2)
theorem gvL_var {i : Nat} {l : Addr} {vs : List V} {ds : List PyData} (e : σ[i]? = some (some (.ref l))) (h : H0 l = some (.lst vs)) (hd : DpAll K H0 vs ds) : GvL K H0 σ (tVar i) ds := fun H _ s q =>
  ⟨_, e, q l vs H (Same.refl H) (s _ _ h) (dpAll_same s hd)⟩
theorem gvT_var {i : Nat} {l : Addr} {vs : List V} {ds : List PyData} (e : σ[i]? = some (some (.ref l))) (h : SqT K H0 l vs) (hd : DpAll K H0 vs ds) : GvT K H0 σ (tVar i) ds := fun H _ s q =>
  ⟨_, e, q l vs H (Same.refl H) (Same.tup s h) (dpAll_same s hd)⟩
theorem gvL_cat {ta tb : TE} {ds es : List PyData} (ha : GvL K H0 σ ta ds) (hb : GvL K H0 σ tb es) (l : ds.length + es.length ≤ 1000 := by first | decide | exact Nat.le_of_ble_eq_true rfl) : GvL K H0 σ (tOp rCat ta tb) (ds ++ es) := fun H Q s q =>
  ha H _ s fun a xs H1 s1 h1 d1 => hb H1 _ (s.trans s1) fun b ys H2 s2 h2 d2 =>
    ⟨a, b, xs, ys, rfl, rfl, s2 _ _ h1, h2, Nat.le_of_lt (small1000 (by rw [dpAll_len d1, dpAll_len d2]; exact l)), fun p np => q p _ _ ((s1.trans s2).trans (same_upd np)) upd_same (dpAll_same (same_upd np) (dpAll_app (dpAll_same s2 d1) d2))⟩
theorem GvL.use {t : TE} {ds : List PyData} {H : Hp} {Q : VK} (h : GvL K H σ t ds) (q : ∀ l vs H', Same H H' → H' l = some (.lst vs) → DpAll K H' vs ds → Q (.ref l) H') : t σ H Q := h H Q (Same.refl H) q
theorem GvT.use {t : TE} {ds : List PyData} {H : Hp} {Q : VK} (h : GvT K H σ t ds) (q : ∀ l vs H', Same H H' → SqT K H' l vs → DpAll K H' vs ds → Q (.ref l) H') : t σ H Q := h H Q (Same.refl H) q
theorem Gv.use {t : TE} {d : PyData} {H : Hp} {Q : VK} (h : Gv K H σ t d) (q : ∀ v H', Same H H' → Dp K H' v d → Q v H') : t σ H Q := h H Q (Same.refl H) q
theorem gv_rI0 {g : Int → Int → V} {i j k : Int} (e : g i j = .int k) : Gv K H0 σ (tOp (rI0 g) (tC (.int i)) (tC (.int j))) (.int k) := fun H _ _ q => ⟨i, j, rfl, rfl, by rw [e]; exact q _ H (Same.refl H) (.int k)⟩
theorem gv_pow {g : Int → Int → V} {i j k : Int} (c : CPowB i j) (e : g i j = .int k) : Gv K H0 σ (tOp (rI CPowB g) (tC (.int i)) (tC (.int j))) (.int k) := fun H _ _ q => ⟨i, j, rfl, rfl, c, by rw [e]; exact q _ H (Same.refl H) (.int k)⟩
theorem gv_rI0V {H0 : Hp} {i : Nat} {g : Int → Int → V} {v j k : Int} (e : σ[i]? = some (some (.int v))) (z : g v j = .int k) : Gv K H0 σ (tOp (rI0 g) (tVar i) (tC (.int j))) (.int k) := fun H _ _ q => ⟨_, e, ⟨v, j, rfl, rfl, by rw [z]; exact q _ H (Same.refl H) (.int k)⟩⟩
/-- one of a list: some of its data -/
theorem w_some {a : Addr} {xs : List V} {ds : List PyData} {r : Int} {H : Hp} {Q : VK} (h : SqL K H a xs) (hd : DpAll K H xs ds) (r0 : 0 ≤ r) (r1 : r < (ds.length : Int)) (q : ∀ v d, d ∈ ds → Dp K H v d → Q v H) : rIxL K (.ref a) (.int r) H Q := by
  obtain ⟨n, rfl⟩ : ∃ n : Nat, r = n := ⟨r.toNat, by omega⟩
  have hn : n < ds.length := by omega
  obtain ⟨v, hv, hdv⟩ := dpAll_get hd (List.getElem?_eq_getElem hn)
  exact w_ixL h (atI_nat hv) (q v _ (List.getElem_mem hn) hdv)
end
end Ct

/-! what an expression gives, by bounds of its data alone -/
namespace Ct
open PySem PySem.Spec PyProof.Rows L2
/-- items within bounds -/
structure FineA (ds : List PyData) (n m : Nat) : Prop where
  ok : okAll ds = true
  dep : PyData.depthAll ds ≤ n
  few : bulkAll ds ≤ m
theorem okAll_app : ∀ ds es : List PyData, okAll (ds ++ es) = (okAll ds && okAll es)
  | [], _ => rfl
  | d :: ds, es => by rw [List.cons_append, okAll, okAll, okAll_app ds es, Bool.and_assoc]
theorem bulk_app : ∀ ds es : List PyData, bulkAll (ds ++ es) = bulkAll ds + bulkAll es
  | [], es => by rw [List.nil_append, bulkAll]; omega
  | d :: ds, es => by rw [List.cons_append, bulkAll, bulkAll, bulk_app ds es]; omega
theorem depth_app : ∀ ds es : List PyData, PyData.depthAll (ds ++ es) = max (PyData.depthAll ds) (PyData.depthAll es)
  | [], es => by rw [List.nil_append, PyData.depthAll]; omega
  | d :: ds, es => by rw [List.cons_append, PyData.depthAll, PyData.depthAll, depth_app ds es]; omega
theorem FineA.app {ds es : List PyData} {n m k : Nat} (h : FineA ds n m) (g : FineA es n k) : FineA (ds ++ es) n (m + k) :=
  ⟨by rw [okAll_app, h.ok, g.ok]; rfl, by rw [depth_app]; have := h.dep; have := g.dep; omega, by rw [bulk_app]; have := h.few; have := g.few; omega⟩
theorem FineA.part {ds es fs : List PyData} {n m : Nat} (h : FineA (ds ++ es ++ fs) n m) : FineA es n m := by
  obtain ⟨h1, h2, h3⟩ := h
  rw [okAll_app, okAll_app, Bool.and_eq_true, Bool.and_eq_true] at h1
  rw [depth_app, depth_app] at h2
  rw [bulk_app, bulk_app] at h3
  exact ⟨h1.1.2, by omega, by omega⟩
theorem FineA.cut {ds : List PyData} {n m : Nat} (h : FineA ds n m) (i k : Nat) : FineA ((ds.drop i).take k) n m := by
  have e : ds.take i ++ (ds.drop i).take k ++ (ds.drop i).drop k = ds := by rw [List.append_assoc, List.take_append_drop, List.take_append_drop]
  rw [← e] at h
  exact h.part
theorem FineA.lst {ds : List PyData} {n m : Nat} (h : FineA ds n m) : Fine (.list ds) (n + 1) m := ⟨h.ok, by rw [PyData.depth]; have := h.dep; omega, h.few⟩
theorem FineA.tup {ds : List PyData} {n m : Nat} (h : FineA ds n m) : Fine (.tuple ds) (n + 1) m := ⟨h.ok, by rw [PyData.depth]; have := h.dep; omega, h.few⟩
theorem FineA.of_tup {ds : List PyData} {n m : Nat} (h : Fine (.tuple ds) (n + 1) m) : FineA ds n m := ⟨h.ok, by have := h.dep; rw [PyData.depth] at this; omega, h.few⟩
theorem FineA.one {d : PyData} {n m : Nat} (h : Fine d n m) : FineA [d] n (m + 1) :=
  ⟨by rw [okAll, okAll, h.ok]; rfl, by rw [PyData.depthAll, PyData.depthAll]; have := h.dep; omega, by rw [bulkAll, bulkAll]; have := h.few; omega⟩
theorem FineA.nil {n m : Nat} : FineA [] n m := ⟨rfl, Nat.zero_le _, Nat.zero_le _⟩
theorem FineA.mono {ds : List PyData} {n m n' m' : Nat} (h : FineA ds n m) (e : n ≤ n') (e' : m ≤ m') : FineA ds n' m' := ⟨h.ok, Nat.le_trans h.dep e, Nat.le_trans h.few e'⟩
theorem FineA.len {ds : List PyData} {n m : Nat} (h : FineA ds n m) : ds.length ≤ m := Nat.le_trans (bulk_len ds) h.few
theorem dpAll_cutD {K : PySem.W.Frag} {H : Hp} {vs : List V} {ds : List PyData} {n m : Nat} (lo hi : Option Int) (h : DpAll K H vs ds) (f : FineA ds n m) : ∃ es : List PyData, DpAll K H (cutV vs lo hi) es ∧ FineA es n m :=
  ⟨_, dpAll_take _ (dpAll_drop _ h), f.cut (HT.sIx vs.length 0 lo) (HT.sIx vs.length vs.length hi - HT.sIx vs.length 0 lo)⟩
section
variable {K : PySem.W.Frag} {H0 : Hp} {σ : L2.St} {n m k : Nat}
def FV (K : PySem.W.Frag) (H0 : Hp) (σ : L2.St) (t : TE) (n m : Nat) : Prop := ∀ (H : Hp) (Q : VK), Same H0 H → (∀ v d H', Same H H' → Dp K H' v d → Fine d n m → Q v H') → t σ H Q
def FL (K : PySem.W.Frag) (H0 : Hp) (σ : L2.St) (t : TE) (n m : Nat) : Prop := ∀ (H : Hp) (Q : VK), Same H0 H → (∀ l vs ds H', Same H H' → H' l = some (.lst vs) → DpAll K H' vs ds → FineA ds n m → Q (.ref l) H') → t σ H Q
def FT (K : PySem.W.Frag) (H0 : Hp) (σ : L2.St) (t : TE) (n m : Nat) : Prop := ∀ (H : Hp) (Q : VK), Same H0 H → (∀ l vs ds H', Same H H' → SqT K H' l vs → DpAll K H' vs ds → FineA ds n m → Q (.ref l) H') → t σ H Q
/-- len items, each within bounds -/
def FA (K : PySem.W.Frag) (H0 : Hp) (σ : L2.St) (t : TA) (n m : Nat) (len : Nat) : Prop := ∀ (H : Hp) (Q : List V → Hp → Prop), Same H0 H → (∀ vs ds H', Same H H' → DpAll K H' vs ds → (∀ d ∈ ds, Fine d n m) → ds.length = len → Q vs H') → t σ H Q
def FI (H0 : Hp) (σ : L2.St) (t : TE) : Prop := ∀ (H : Hp) (Q : VK), Same H0 H → (∀ i, Q (.int i) H) → t σ H Q
theorem FV.use {t : TE} {H : Hp} {Q : VK} (h : FV K H σ t n m) (q : ∀ v d H', Same H H' → Dp K H' v d → Fine d n m → Q v H') : t σ H Q := h H Q (Same.refl H) q
theorem Gv.fv {t : TE} {d : PyData} (h : Gv K H0 σ t d) (f : Fine d n m) : FV K H0 σ t n m := fun H _ s q => h H _ s fun v H' s' hv => q v d H' s' hv f
theorem fv_c {v : V} {d : PyData} (h : ∀ H, Dp K H v d) (f : Fine d n m) : FV K H0 σ (tC v) n m := fun H _ _ q => q v d H (Same.refl H) (h H) f
theorem fine_int {i : Int} (h : i.natAbs < 2 ^ 200) : Fine (.int i) n m := ⟨decide_eq_true h, Nat.zero_le _, by rw [bulkN]; exact Nat.zero_le _⟩
theorem fv_int {i : Int} (h : i.natAbs < 2 ^ 200 := by decide) : FV K H0 σ (tC (.int i)) n m := fv_c (fun _ => .int i) (fine_int h)
theorem fv_bl {b : Bool} : FV K H0 σ (tC (.bl b)) n m := fv_c (fun _ => .bl b) ⟨rfl, Nat.zero_le _, Nat.zero_le _⟩
theorem fv_non : FV K H0 σ (tC .non) n m := fv_c (fun _ => .non) ⟨rfl, Nat.zero_le _, Nat.zero_le _⟩
theorem fv_str {x : Str} (h : (okN (.str x) && decide (bulkN (.str x) ≤ m)) = true := by decide +kernel) : FV K H0 σ (tC (.str x)) n m := by
  rw [Bool.and_eq_true] at h
  exact fv_c (fun _ => .str x) ⟨h.1, Nat.zero_le _, of_decide_eq_true h.2⟩
theorem fv_var {i : Nat} {v : V} {d : PyData} (h : Dp K H0 v d) (f : Fine d n m) (e : σ[i]? = some (some v)) : FV K H0 σ (tVar i) n m := fun H _ s q => ⟨v, e, q v d H (Same.refl H) (dp_same s h) f⟩
theorem FV.mono {t : TE} {n' m' : Nat} (h : FV K H0 σ t n m) (e : n ≤ n') (e' : m ≤ m') : FV K H0 σ t n' m' := fun H _ s q => h H _ s fun v d H' s' hv f => q v d H' s' hv (f.mono e e')
theorem FT.fv {t : TE} (h : FT K H0 σ t n m) : FV K H0 σ t (n + 1) m := fun H _ s q => h H _ s fun _ _ _ H' s' h1 h2 f => q _ _ H' s' (.tup h1 h2) f.tup
theorem FL.fv {t : TE} (h : FL K H0 σ t n m) : FV K H0 σ t (n + 1) m := fun H _ s q => h H _ s fun _ _ _ H' s' h1 h2 f => q _ _ H' s' (.lst (.of h1) h2) f.lst
theorem ft_var {i : Nat} {l : Addr} {vs : List V} {ds : List PyData} (h : SqT K H0 l vs) (hd : DpAll K H0 vs ds) (f : FineA ds n m) (e : σ[i]? = some (some (.ref l))) : FT K H0 σ (tVar i) n m := fun H _ s q =>
  ⟨_, e, q l vs ds H (Same.refl H) (Same.tup s h) (dpAll_same s hd) f⟩
theorem fl_var {i : Nat} {l : Addr} {vs : List V} {ds : List PyData} (h : H0 l = some (.lst vs)) (hd : DpAll K H0 vs ds) (f : FineA ds n m) (e : σ[i]? = some (some (.ref l))) : FL K H0 σ (tVar i) n m := fun H _ s q =>
  ⟨_, e, q l vs ds H (Same.refl H) (s _ _ h) (dpAll_same s hd) f⟩
theorem ft_nil : FT K H0 σ (tTup tNil) n m := fun H Q s q => ⟨Nat.zero_le _, fun p np => q p [] [] _ (same_upd np) (.of upd_same) .nil .nil⟩
theorem fl_nil : FL K H0 σ (tLst tNil) n m := fun H Q s q => ⟨Nat.zero_le _, fun p np => q p [] [] _ (same_upd np) upd_same .nil .nil⟩
theorem ft_one {t : TE} (h : FV K H0 σ t n m) : FT K H0 σ (tTup (tCons t tNil)) n (m + 1) := fun H Q s q => h H _ s fun v d H1 s1 hv f =>
  ⟨len2 rfl, fun p np => q p [v] [d] _ (s1.trans (same_upd np)) (.of upd_same) (.cons (dp_same (same_upd np) hv) .nil) (.one f)⟩
theorem fl_one {t : TE} (h : FV K H0 σ t n m) : FL K H0 σ (tLst (tCons t tNil)) n (m + 1) := fun H Q s q => h H _ s fun v d H1 s1 hv f =>
  ⟨len2 rfl, fun p np => q p [v] [d] _ (s1.trans (same_upd np)) upd_same (.cons (dp_same (same_upd np) hv) .nil) (.one f)⟩
theorem ft_two {t u : TE} (h : FV K H0 σ t n m) (g : FV K H0 σ u n k) : FT K H0 σ (tTup (tCons t (tCons u tNil))) n (m + 1 + (k + 1)) := fun H Q s q => h H _ s fun v d H1 s1 hv f => g H1 _ (s.trans s1) fun v2 d2 H2 s2 hv2 f2 =>
  ⟨len2 rfl, fun p np => q p [v, v2] [d, d2] _ ((s1.trans s2).trans (same_upd np)) (.of upd_same) (.cons (dp_same (s2.trans (same_upd np)) hv) (.cons (dp_same (same_upd np) hv2) .nil)) (FineA.app (ds := [d]) (.one f) (.one f2))⟩
theorem ft_three {t u w : TE} {j : Nat} (h : FV K H0 σ t n m) (g : FV K H0 σ u n k) (g3 : FV K H0 σ w n j) : FT K H0 σ (tTup (tCons t (tCons u (tCons w tNil)))) n (m + 1 + ((k + 1) + (j + 1))) := fun H Q s q =>
  h H _ s fun v d H1 s1 hv f => g H1 _ (s.trans s1) fun v2 d2 H2 s2 hv2 f2 => g3 H2 _ ((s.trans s1).trans s2) fun v3 d3 H3 s3 hv3 f3 =>
  ⟨len2 rfl, fun p np => q p [v, v2, v3] [d, d2, d3] _ (((s1.trans s2).trans s3).trans (same_upd np)) (.of upd_same)
    (.cons (dp_same ((s2.trans s3).trans (same_upd np)) hv) (.cons (dp_same (s3.trans (same_upd np)) hv2) (.cons (dp_same (same_upd np) hv3) .nil))) (FineA.app (ds := [d]) (.one f) (FineA.app (ds := [d2]) (.one f2) (.one f3)))⟩
theorem ft_cat {ta tb : TE} (ha : FT K H0 σ ta n m) (hb : FT K H0 σ tb n k) (e : m + k ≤ 1000 := by decide) : FT K H0 σ (tOp (rCatA K) ta tb) n (m + k) := fun H Q s q =>
  ha H _ s fun a xs ds H1 s1 h1 d1 f1 => hb H1 _ (s.trans s1) fun b ys es H2 s2 h2 d2 f2 => by
    have d3 := dpAll_app (dpAll_same s2 d1) d2
    have f3 := f1.app f2
    refine ⟨a, b, xs, ys, rfl, rfl, Same.tup s2 h1, h2, Nat.le_of_lt (small1000 ?_), fun hx => ?_, fun _ hy => ?_, fun _ _ p np => ?_⟩
    · rw [dpAll_len d1, dpAll_len d2]
      have := f1.len
      have := f2.len
      omega
    · rw [hx, List.nil_append] at d3
      exact q b ys _ H2 (s1.trans s2) h2 d3 f3
    · rw [hy, List.append_nil] at d3
      exact q a xs _ H2 (s1.trans s2) (Same.tup s2 h1) d3 f3
    · exact q p _ _ _ ((s1.trans s2).trans (same_upd np)) (.of upd_same) (dpAll_same (same_upd np) d3) f3
theorem fl_cat {ta tb : TE} (ha : FL K H0 σ ta n m) (hb : FL K H0 σ tb n k) (e : m + k ≤ 1000 := by decide) : FL K H0 σ (tOp rCat ta tb) n (m + k) := fun H Q s q =>
  ha H _ s fun a xs ds H1 s1 h1 d1 f1 => hb H1 _ (s.trans s1) fun b ys es H2 s2 h2 d2 f2 => by
    refine ⟨a, b, xs, ys, rfl, rfl, s2 _ _ h1, h2, Nat.le_of_lt (small1000 ?_), fun p np => q p _ _ _ ((s1.trans s2).trans (same_upd np)) upd_same (dpAll_same (same_upd np) (dpAll_app (dpAll_same s2 d1) d2)) (f1.app f2)⟩
    rw [dpAll_len d1, dpAll_len d2]
    have := f1.len
    have := f2.len
    omega
/-- a bound of a slice: whichever it is -/
def FO (H0 : Hp) (σ : L2.St) (t : TO) : Prop := ∀ (H : Hp) (Q : Option Int → Hp → Prop), Same H0 H → (∀ i, Q i H) → t σ H Q
theorem fo_none : FO H0 σ tNoPart := fun _ _ _ q => q none
theorem fo_some {t : TE} (h : FI H0 σ t) : FO H0 σ (tPart t) := fun H Q s q => h H _ s fun i => ⟨i, rfl, q (some i)⟩
theorem fi_c {i : Int} : FI H0 σ (tC (.int i)) := fun _ _ _ q => q i
theorem fi_var {i : Nat} {x : Int} (e : σ[i]? = some (some (.int x))) : FI H0 σ (tVar i) := fun _ _ _ q => ⟨_, e, q x⟩
theorem fi_rI0 {g : Int → Int → Int} {ta tb : TE} (ha : FI H0 σ ta) (hb : FI H0 σ tb) : FI H0 σ (tOp (rI0 fun i j => .int (g i j)) ta tb) := fun H Q s q => ha H _ s fun i => hb H _ s fun j => ⟨i, j, rfl, rfl, q _⟩
theorem fi_neg {i : Int} {r : Int → V} (e : r i = .int (-i)) : FI H0 σ (tUn (rU r) (tC (.int i))) := fun H Q s q => ⟨i, rfl, by rw [e]; exact q _⟩
theorem fi_div {ta : TE} {j : Int} (ha : FI H0 σ ta) (h : ∀ i, CDivW i j) : FI H0 σ (tOp (rI CDivW fun i j => .int (i / j)) ta (tC (.int j))) := fun H Q s q => ha H _ s fun i => ⟨i, j, rfl, rfl, h i, q _⟩
theorem ft_sl {te : TE} {tl th : TO} (h : FT K H0 σ te n m) (hl : FO H0 σ tl) (hh : FO H0 σ th) : FT K H0 σ (tSl (rSlA K) te tl th) n m := fun H Q s q =>
  h H _ s fun a xs ds H1 s1 h1 d1 f1 => hl H1 _ (s.trans s1) fun lo => hh H1 _ (s.trans s1) fun hi => by
    obtain ⟨es, d2, f2⟩ := dpAll_cutD lo hi d1 f1
    exact ⟨a, xs, rfl, h1, fun _ => q a xs ds H1 s1 h1 d1 f1, fun _ p np => q p _ es _ (s1.trans (same_upd np)) (.of upd_same) (dpAll_same (same_upd np) d2) f2⟩
theorem fl_sl {te : TE} {tl th : TO} (h : FL K H0 σ te n m) (hl : FO H0 σ tl) (hh : FO H0 σ th) : FL K H0 σ (tSl (rSlL K) te tl th) n m := fun H Q s q =>
  h H _ s fun a xs ds H1 s1 h1 d1 f1 => hl H1 _ (s.trans s1) fun lo => hh H1 _ (s.trans s1) fun hi => by
    obtain ⟨es, d2, f2⟩ := dpAll_cutD lo hi d1 f1
    exact ⟨a, xs, rfl, .of h1, fun p np => q p _ es _ (s1.trans (same_upd np)) upd_same (dpAll_same (same_upd np) d2) f2⟩
theorem fa_nil : FA K H0 σ tNil n m 0 := fun H _ _ q => q [] [] H (Same.refl H) .nil (fun _ h => nomatch h) rfl
theorem fa_cons {t : TE} {ts : TA} {len : Nat} (h : FV K H0 σ t n m) (hs : FA K H0 σ ts n m len) : FA K H0 σ (tCons t ts) n m (len + 1) := fun H Q s q =>
  h H _ s fun v d H1 s1 hv f => hs H1 _ (s.trans s1) fun vs ds H2 s2 hvs fs e => q _ _ H2 (s1.trans s2) (.cons (dp_same s2 hv) hvs) (fun x hx => by
    rcases List.mem_cons.mp hx with rfl | hx
    · exact f
    · exact fs x hx) (by rw [List.length_cons, e])
/-- [.., .., ..][x % len] -/
theorem fv_pick {ta : TA} {tx : TE} {len : Nat} {j : Int} (h : FA K H0 σ ta n m len) (hx : FI H0 σ tx) (e : j = len) (p : 0 < j) (l : len ≤ 1000 := by decide) :
    FV K H0 σ (tOp (rIxL K) (tLst ta) (tOp (rI (fun _ j => 0 < j) fun i j => .int (i % j)) tx (tC (.int j)))) n m := fun H Q s q =>
  h H _ s fun vs ds H1 s1 hvs fs le => ⟨Nat.le_of_lt (small1000 (by rw [dpAll_len hvs, le]; exact l)), fun a na => hx _ _ ((s.trans s1).trans (same_upd na)) fun i => ⟨i, j, rfl, rfl, p, by
    refine w_some (.of upd_same) (dpAll_same (same_upd na) hvs) (Int.emod_nonneg _ (by omega)) (by rw [le, ← e]; exact Int.emod_lt_of_pos _ p) fun v d hd hv => ?_
    exact q v d _ (s1.trans (same_upd na)) hv (fs d hd)⟩⟩
theorem fv_listT {t : TE} {r : List V → Hp → VK → Prop} (h : FT K H0 σ t n m) (e : r = fun xs H Q => ∃ p ys, xs = [.ref p] ∧ (SqL K H p ys ∨ SqT K H p ys) ∧ ∀ l, H l = none → Q (.ref l) (upd H l (.lst ys))) : FL K H0 σ (tCB r (tCons t tNil)) n m := fun H Q s q =>
  h H _ s fun l vs ds H1 s1 h1 d1 f1 => by
    rw [e]
    exact ⟨l, vs, rfl, .inr h1, fun p np => q p vs ds _ (s1.trans (same_upd np)) upd_same (dpAll_same (same_upd np) d1) f1⟩
theorem fv_tupL {t : TE} {r : List V → Hp → VK → Prop} (h : FL K H0 σ t n m) (e : r = fun xs H Q => ∃ p ys, xs = [.ref p] ∧ ((SqL K H p ys ∧ ∀ l, H l = none → Q (.ref l) (upd H l (.tup ys))) ∨ (SqT K H p ys ∧ Q (.ref p) H))) : FT K H0 σ (tCB r (tCons t tNil)) n m := fun H Q s q =>
  h H _ s fun l vs ds H1 s1 h1 d1 f1 => by
    rw [e]
    exact ⟨l, vs, rfl, .inl ⟨.of h1, fun p np => q p vs ds _ (s1.trans (same_upd np)) (.of upd_same) (dpAll_same (same_upd np) d1) f1⟩⟩
end
end Ct
namespace Ct
open PySem PySem.Spec PyProof.Rows L2
theorem fineA_map : ∀ {ps : List Part}, (∀ p ∈ ps, Fine p.data 2 16) → FineA (ps.map Part.data) 2 (17 * ps.length)
  | [], _ => .nil
  | p :: ps, h => by
    have f := FineA.app (FineA.one (h p List.mem_cons_self)) (fineA_map fun q hq => h q (List.mem_cons_of_mem _ hq))
    refine f.mono (Nat.le_refl _) ?_
    rw [List.length_cons]
    omega
end Ct
namespace Ct
open PySem PySem.Spec PyProof.Rows L2
theorem fineA_ints {xs : List Int} {n m : Nat} (h : ∀ x ∈ xs, x.natAbs < 2 ^ 200) (l : xs.length ≤ m) : FineA (xs.map PyData.int) n m := ⟨okAll_ints h, by rw [depth_ints]; exact Nat.zero_le _, by rw [bulk_map]; exact l⟩
section
variable {K : PySem.W.Frag} {H0 : Hp} {σ : L2.St} {n m k : Nat}
/-- a list of items within bounds, laid -/
theorem FA.useL {t : TA} {len : Nat} {H : Hp} {Q : VK} (h : FA K H σ t n m len) (l : len ≤ 1000) (q : ∀ a vs ds H', Same H H' → H' a = some (.lst vs) → DpAll K H' vs ds → (∀ d ∈ ds, Fine d n m) → ds.length = len → Q (.ref a) H') : tLst t σ H Q :=
  h H _ (Same.refl H) fun vs ds H1 s1 hvs fs le => ⟨Nat.le_of_lt (small1000 (by rw [dpAll_len hvs, le]; exact l)), fun p np => q p vs ds _ (s1.trans (same_upd np)) upd_same (dpAll_same (same_upd np) hvs) fs le⟩
/-- xs[x % len] of such a list -/
theorem fv_pickV {i : Nat} {tx : TE} {a : Addr} {vs : List V} {ds : List PyData} {j : Int} (e : σ[i]? = some (some (.ref a))) (ha : H0 a = some (.lst vs)) (hd : DpAll K H0 vs ds) (fs : ∀ d ∈ ds, Fine d n m) (hx : FI H0 σ tx) (ej : j = ds.length) (p : 0 < j) :
    FV K H0 σ (tOp (rIxL K) (tVar i) (tOp (rI (fun _ j => 0 < j) fun i j => .int (i % j)) tx (tC (.int j)))) n m := fun H Q s q =>
  ⟨.ref a, e, hx _ _ s fun x => ⟨x, j, rfl, rfl, p, by
    refine w_some (.of (s _ _ ha)) (dpAll_same s hd) (Int.emod_nonneg _ (by omega)) (by rw [← ej]; exact Int.emod_lt_of_pos _ p) fun v d hd hv => ?_
    exact q v d _ (Same.refl H) hv (fs d hd)⟩⟩
end
end Ct

/-! t[::-1] of a tuple -/
namespace Ct
open PySem PySem.Spec PyProof.Rows L2
theorem pick_back_to (xs : Array Value) : ∀ k : Nat, k ≤ xs.size → ((List.range k).filterMap fun (k : Nat) => xs[((xs.size : Int) - 1 + (k : Int) * -1).toNat]?) = xs.toList.reverse.take k
  | 0, _ => rfl
  | k + 1, h => by
    have z : ((xs.size : Int) - 1 + (k : Int) * -1).toNat = xs.size - 1 - k := by omega
    have h2 : xs.size - 1 - k < xs.size := by omega
    have h3 : k < xs.toList.length := by rw [Array.length_toList]; omega
    rw [List.range_succ, List.filterMap_append, pick_back_to xs k (by omega), List.take_succ, List.getElem?_reverse h3]
    congr 1
    rw [List.filterMap_cons, List.filterMap_nil, z, Array.length_toList, Array.getElem?_toList, Array.getElem?_eq_getElem h2]
    rfl
theorem pick_back (xs : Array Value) : ((List.range xs.size).filterMap fun (k : Nat) => xs[((xs.size : Int) - 1 + (k : Int) * -1).toNat]?).toArray = xs.toList.reverse.toArray := by
  rw [pick_back_to xs xs.size (Nat.le_refl _), List.take_of_length_le (by simp)]
section
variable {prog : Program} {w : World} {A : Around} {E : Value → Shared → Prop} {s : Shared}
theorem back_applied {sl : Addr} {vl vu vs : Value} {n : Nat} {Q : Int × Int × Nat → Shared → Prop} (hs : s.heap.IsSliceOf sl vl vu vs) (pl : IsPart vl none) (pu : IsPart vu none) (pk : IsPart vs (some (-1)))
    (h : Q ((n : Int) - 1, -1, n) s) : wpAny (model prog w) A (Builtin.Slice.sliceApplied (.ref sl) (pure (n : Int))) Q E s := by
  obtain ⟨o, ho, _, hd⟩ := hs
  unfold Builtin.Slice.sliceApplied Builtin.Slice.sliceFields
  refine wpAny_bind (wpAny_bind (wpAny_field ho hd (x := vl) rfl (wpAny_bind (wpAny_field ho hd (x := vu) rfl (wpAny_bind (wpAny_field ho hd (x := vs) rfl (wpAny_pure ?_)))))))
  refine wpAny_bind (HT.slicePart_ pk ?_)
  show wpAny _ _ (if ((-1 : Int) == 0) = true then _ else _) _ _ s
  rw [if_neg (by decide)]
  refine wpAny_bind (HT.slicePart_ pl (wpAny_bind (HT.slicePart_ pu (wpAny_bind (wpAny_pure ?_)))))
  have e : Builtin.Slice.slicePlaces ((n : Int) - 1) (-1) (-1) = n := by
    unfold Builtin.Slice.slicePlaces
    rw [if_neg (by decide), Int.neg_neg, Int.ediv_one]
    split <;> omega
  show wpAny _ _ (pure ((n : Int) - 1, (-1 : Int), Builtin.Slice.slicePlaces ((n : Int) - 1) (-1) (-1))) _ _ s
  rw [e]
  exact wpAny_pure h
theorem back_item {t sl : Addr} {items : Array Value} {vl vu vs : Value} {Q : Value → Shared → Prop} (ht : IsTup s.heap t items) (hs : s.heap.IsSliceOf sl vl vu vs) (pl : IsPart vl none) (pu : IsPart vu none) (pk : IsPart vs (some (-1)))
    (h : Q (.ref s.heap.objs.size) { s with heap := s.heap.push { cls := .type "tuple", data := .seq items.toList.reverse.toArray } }) (fits : items.size ≤ sizeLine) : wpAny (model prog w) A (getItem (.ref t) (.ref sl)) Q E s := by
  have small : sizeOk (.seq items.toList.reverse.toArray) := by
    show items.toList.reverse.toArray.size ≤ sizeLine
    rw [List.size_toArray, List.length_reverse, Array.length_toList]
    exact fits
  obtain ⟨o, ho, hc, _⟩ := id hs
  have kind : s.TypeIs (.ref sl) "slice" := ⟨o, ho, hc⟩
  unfold getItem
  try with_reducible refine wpAny_holding ?_
  first | refine wpAny_bind (wpAny_pure ?_) | skip
  refine wpAny_bind (wpAny_sequenceKey ht.typeIs (by decide) ?_)
  refine wpAny_bind (wpAny_callSpecial?_slot (name := Str.ofString "__getitem__") ht.typeIs PyProof.Rows.slot_tuple_getitem (wpAny_call_entry PyProof.Rows.slot_tuple_getitem ht.typeIs PyProof.Rows.entry_tuple_getitem ?_ (PyProof.Rows.args_tuple_getitem _ _)))
  show wpAny _ _ (Builtin.Tuple.tupleItemsOf (.ref t) >>= _) _ _ s
  refine wpAny_bind (PyProof.Rows.tupleItemsOf_ ht (wpAny_bind (wpAny_typeOf kind ?_)))
  rw [if_pos (by decide)]
  refine wpAny_bind (back_applied hs pl pu pk ?_)
  show wpAny _ _ (if (((items.size : Int) - 1) == 0 && (-1 : Int) == 1 && items.size == items.size) = true then _ else _) _ _ s
  rw [if_neg (by rw [show ((-1 : Int) == 1) = false from rfl, Bool.and_false, Bool.false_and]; exact Bool.false_ne_true), pick_back]
  first
    | exact wpAny_bind (m := Builtin.Tuple.tupleExact _) (wpAny_newObj_type (wpAny_pure ⟨_, rfl, wpAny_pure h⟩) small)
    | exact wpAny_bind (m := Builtin.Tuple.tupleExact _) (wpAny_newObj_type (wpAny_bind (wpAny_pure (wpAny_pure ⟨_, rfl, wpAny_pure h⟩))) small)
    | exact wpAny_bind (wpAny_bind (m := Builtin.Tuple.tupleExact _) (wpAny_newObj_type (wpAny_pure (wpAny_pure ⟨_, rfl, wpAny_pure h⟩)) small))
    | exact wpAny_bind (wpAny_bind (m := Builtin.Tuple.tupleExact _) (wpAny_newObj_type (wpAny_pure ⟨_, rfl, wpAny_pure h⟩) small))
end
def tRevT (K : PySem.W.Frag) (te : TE) : TE := fun σ H Q => te σ H fun x H1 => ∃ a xs, x = .ref a ∧ SqT K H1 a xs ∧ ∀ p, H1 p = none → Q (.ref p) (upd H1 p (.tup xs.reverse))
section
variable {X : Cx}
theorem pe_revT {e : Expr} {te : TE} {k : Nat} {p1 p2 p3 pos : Pos} (he : PE X e te) : PE X (.Subscript e (.Slice none none (some (.UnaryOp .USub (.Constant (.int 1) k p1) p2)) p3) pos) (tRevT X.K te) := by
  constructor
  intro pins s σ H Q J h
  refine Subscript_ (thn (he.run pins s σ H _ J h) ?_)
  rintro v s1 ⟨x, H1, J1, r1, a, xs, rfl, hx, q⟩
  cases r1
  have step : PO X (some (.UnaryOp .USub (.Constant (.int 1) k p1) p2)) (tPart (tUn (rU fun i => .int (-i)) (tC (.int 1)))) := po_some (pe_un un_neg pe_int)
  refine wpAny_Slice (thn (po_none.run pins s1 σ H1 (fun o H2 => o = none ∧ H2 = H1) J1 ⟨rfl, rfl⟩) ?_)
  rintro vl s2 ⟨_, _, J2, pl, rfl, rfl⟩
  refine thn (po_none.run pins s2 σ _ (fun o H3 => o = none ∧ H3 = _) J2 ⟨rfl, rfl⟩) ?_
  rintro vu s3 ⟨_, _, J3, pu, rfl, rfl⟩
  refine thn (step.run pins s3 σ _ (fun o H4 => o = some (-1) ∧ H4 = _) J3 ⟨1, rfl, -1, rfl, rfl, rfl⟩) ?_
  rintro vs s4 ⟨_, H4, J4, pk, rfl, rfl⟩
  have J5 : Inv X pins σ H4 { s4 with heap := s4.heap.push { cls := .type "slice", data := .fields #[vl, vu, vs] } } := J4.kept (t' := s4.toks) fun b ob z => Heap.get?_push_of_some _ z
  obtain ⟨its, r, ht, hz⟩ := J5.tuple hx
  have len := r.length
  show wpAny (model X.prog X.w) X.A (subscriptTail e (.Slice none none (some (.UnaryOp .USub (.Constant (.int 1) k p1) p2)) p3) (.ref a) (.ref s4.heap.objs.size)) (EP X pins σ Q) X.xe { s4 with heap := s4.heap.push { cls := .type "slice", data := .fields #[vl, vu, vs] } }
  refine tail_any (ops := [.ref a, .ref s4.heap.objs.size]) ht.typeIs (PyProof.Rows.slot_tuple_getitem.lookup) ?_ (by with_unfolding_all rfl)
  refine back_item ht (Heap.IsSliceOf.new _ vl vu vs) pl pu pk ?_ (by rw [List.size_toArray]; omega)
  refine ⟨.ref _, _, J5.laid (t' := s4.toks) (o := .tup xs.reverse) (fun b ob z => Heap.get?_push_of_some _ z) (Nat.le_refl _) ?_, rfl, q _ (J5.hok.fresh (Nat.le_refl _))⟩
  exact ⟨by rw [List.length_reverse]; exact hz, _, r.reverse, ⟨_, Heap.get?_push_size _ rfl, rfl, _, rfl⟩⟩
theorem pe_revTw {K0 : PySem.W.Frag} (hK : X.K = K0) {e : Expr} {te : TE} {k : Nat} {p1 p2 p3 pos : Pos} (he : PE X e te) : PE X (.Subscript e (.Slice none none (some (.UnaryOp .USub (.Constant (.int 1) k p1) p2)) p3) pos) (tRevT K0 te) := by
  subst hK
  exact pe_revT he
end
end Ct

/-! .. of bounded data -/
namespace Ct
open PySem PySem.Spec PyProof.Rows L2
section
variable {K : PySem.W.Frag} {H0 : Hp} {σ : L2.St} {n m : Nat}
theorem okAll_rev : ∀ ds : List PyData, okAll ds.reverse = okAll ds
  | [] => rfl
  | d :: ds => by rw [List.reverse_cons, okAll_app, okAll_rev ds, okAll, okAll, okAll, Bool.and_true, Bool.and_comm]
theorem bulk_rev : ∀ ds : List PyData, bulkAll ds.reverse = bulkAll ds
  | [] => rfl
  | d :: ds => by rw [List.reverse_cons, bulk_app, bulk_rev ds, bulkAll, bulkAll, bulkAll]; omega
theorem depth_rev : ∀ ds : List PyData, PyData.depthAll ds.reverse = PyData.depthAll ds
  | [] => rfl
  | d :: ds => by rw [List.reverse_cons, depth_app, depth_rev ds, PyData.depthAll, PyData.depthAll, PyData.depthAll]; omega
theorem FineA.rev {ds : List PyData} (h : FineA ds n m) : FineA ds.reverse n m := ⟨by rw [okAll_rev]; exact h.ok, by rw [depth_rev]; exact h.dep, by rw [bulk_rev]; exact h.few⟩
theorem ft_rev {te : TE} (h : FT K H0 σ te n m) : FT K H0 σ (tRevT K te) n m := fun H Q s q => h H _ s fun a xs ds H1 s1 h1 d1 f1 =>
  ⟨a, xs, rfl, h1, fun p np => q p _ _ _ (s1.trans (same_upd np)) (.of upd_same) (dpAll_same (same_upd np) (dpAll_rev d1)) f1.rev⟩
theorem FA.useCat {i : Nat} {t : TA} {len : Nat} {H : Hp} {Q : VK} {a : Addr} {vs : List V} {ds : List PyData} (e : σ[i]? = some (some (.ref a))) (ha : H a = some (.lst vs)) (hd : DpAll K H vs ds) (fs : ∀ d ∈ ds, Fine d n m) (h : FA K H σ t n m len) (l : ds.length + len ≤ 1000)
    (q : ∀ a' vs' ds' H', Same H H' → H' a' = some (.lst vs') → DpAll K H' vs' ds' → (∀ d ∈ ds', Fine d n m) → ds'.length = ds.length + len → Q (.ref a') H') : tOp rCat (tVar i) (tLst t) σ H Q :=
  ⟨.ref a, e, h.useL (by omega) fun b ws es H1 s1 hb hw fw le => by
    refine ⟨a, b, vs, ws, rfl, rfl, s1 _ _ ha, hb, Nat.le_of_lt (small1000 ?_), fun p np => ?_⟩
    · rw [dpAll_len hd, dpAll_len hw, le]
      exact l
    refine q p _ (ds ++ es) _ (s1.trans (same_upd np)) upd_same (dpAll_same (same_upd np) (dpAll_app (dpAll_same s1 hd) hw)) (fun d hm => ?_) (by rw [List.length_append, le])
    rcases List.mem_append.mp hm with hm | hm
    · exact fs d hm
    · exact fw d hm⟩
theorem part_open {H : Hp} {v : V} {p : Part} (h : Dp K H v p.data) (f : Fine p.data 2 16) : ∃ (a : Addr) (x : Str) (ws : List V) (ds : List PyData), v = .ref a ∧ SqT K H a (.str x :: ws) ∧ DpAll K H (.str x :: ws) (.str x :: ds) ∧ FineA (.str x :: ds) 1 16 ∧ ∀ n, Fine (.str x) n 6 := by
  have fx : ∀ n, Fine (.str "wheel") n 6 ∧ Fine (.str "click") n 6 ∧ Fine (.str "rocker") n 6 ∧ Fine (.str "spring") n 6 := fun n => ⟨⟨by decide +kernel, Nat.zero_le _, by decide +kernel⟩, ⟨by decide +kernel, Nat.zero_le _, by decide +kernel⟩, ⟨by decide +kernel, Nat.zero_le _, by decide +kernel⟩, ⟨by decide +kernel, Nat.zero_le _, by decide +kernel⟩⟩
  cases p with
  | wheel z ms =>
    obtain ⟨a, b, rfl, ha, hb⟩ := wheel_inv h
    exact ⟨a, _, _, _, rfl, ha, .cons (.str _) (.cons (.int _) (.cons (.tup hb (dpAll_ints ms)) .nil)), .of_tup f, fun n => (fx n).1⟩
  | click =>
    obtain ⟨a, rfl, ha⟩ := click_inv h
    exact ⟨a, _, _, _, rfl, ha, .cons (.str _) .nil, .of_tup f, fun n => (fx n).2.1⟩
  | rocker =>
    obtain ⟨a, rfl, ha⟩ := rocker_inv h
    exact ⟨a, _, _, _, rfl, ha, .cons (.str _) .nil, .of_tup f, fun n => (fx n).2.2.1⟩
  | spring k =>
    obtain ⟨a, rfl, ha⟩ := spring_inv h
    exact ⟨a, _, _, _, rfl, ha, .cons (.str _) (.cons (.int _) .nil), .of_tup f, fun n => (fx n).2.2.2⟩
end
end Ct

/-! rows, stands and counts of any data: what is asked of a train, a stand and a row -/
namespace Ct
open PySem PySem.Spec PyProof.Rows L2
def isR (n : Int) : PyData → Bool
  | .list ds => ds.all fun d => isD d n
  | _ => false
def isC : PyData → Bool
  | .int i => decide (0 ≤ i)
  | _ => false
theorem deed_of {d : PyData} {n : Nat} (h : isD d n = true) (ok : okN d = true) : ∃ e : Deed, d = e.data ∧ e.ok n ∧ e.t < 2 ^ 200 := by
  match d, h, ok with
  | .tuple [.int i, .int w, .int t], h, ok =>
    have h' : (decide (0 ≤ i) && decide (i < (n : Int)) && (decide (w = 1) || decide (w = -1)) && decide (0 ≤ t)) = true := h
    simp only [Bool.and_eq_true, Bool.or_eq_true, decide_eq_true_eq] at h'
    obtain ⟨⟨⟨h1, h2⟩, h3⟩, h4⟩ := h'
    rw [okN, okAll, okAll, okAll, Bool.and_eq_true, Bool.and_eq_true, Bool.and_eq_true] at ok
    have ht : t.natAbs < 2 ^ 200 := of_decide_eq_true ok.2.2.1
    refine ⟨⟨i.toNat, w, t.toNat⟩, ?_, ⟨?_, h3⟩, ?_⟩
    · show PyData.tuple [.int i, .int w, .int t] = PyData.tuple [.int (i.toNat : Int), .int w, .int (t.toNat : Int)]
      rw [Int.toNat_of_nonneg h1, Int.toNat_of_nonneg h4]
    · show i.toNat < n
      omega
    · show t.toNat < 2 ^ 200
      omega
theorem deeds_of {n : Nat} : ∀ {ds : List PyData}, (ds.all fun d => isD d n) = true → okAll ds = true → ∃ es : List Deed, ds = es.map Deed.data ∧ ∀ e ∈ es, e.ok n ∧ e.t < 2 ^ 200
  | [], _, _ => ⟨[], rfl, fun _ h => nomatch h⟩
  | d :: ds, h, ok => by
    rw [List.all_cons, Bool.and_eq_true] at h
    rw [okAll, Bool.and_eq_true] at ok
    obtain ⟨e, rfl, he⟩ := deed_of h.1 ok.1
    obtain ⟨es, rfl, hes⟩ := deeds_of h.2 ok.2
    refine ⟨e :: es, rfl, fun x hx => ?_⟩
    rcases List.mem_cons.mp hx with rfl | hx
    · exact he
    · exact hes x hx
theorem row_of {r : PyData} {n k m : Nat} (h : isR n r = true) (f : Fine r k m) : ∃ es : List Deed, r = .list (es.map Deed.data) ∧ es.length ≤ m ∧ ∀ e ∈ es, e.ok n ∧ e.t < 2 ^ 200 := by
  match r, h, f with
  | .list ds, h, f =>
    obtain ⟨es, rfl, hes⟩ := deeds_of (show (ds.all fun d => isD d n) = true from h) f.ok
    have l := Nat.le_trans (bulk_len _) (show bulkAll (es.map Deed.data) ≤ m from f.few)
    rw [List.length_map] at l
    exact ⟨es, rfl, l, hes⟩
theorem places_of : ∀ {ps : List Part} {es : List PyData}, stOk ps es = true → (∀ p ∈ ps, p.ok) → ∃ xs : List Int, es = xs.map PyData.int ∧ StandL ps xs
  | [], [], _, _ => ⟨[], rfl, trivial⟩
  | p :: ps, .int x :: es, h, hp => by
    rw [stOk, Bool.and_eq_true, Bool.and_eq_true] at h
    obtain ⟨xs, rfl, hx⟩ := places_of h.2 fun q hq => hp q (List.mem_cons_of_mem _ hq)
    exact ⟨x :: xs, rfl, hp p List.mem_cons_self, of_decide_eq_true h.1.1, of_decide_eq_true h.1.2, hx⟩
  | [], _ :: _, h, _ => nomatch h
  | _ :: _, [], h, _ => nomatch h
  | _ :: _, .none :: _, h, _ => nomatch h
  | _ :: _, .bool _ :: _, h, _ => nomatch h
  | _ :: _, .str _ :: _, h, _ => nomatch h
  | _ :: _, .list _ :: _, h, _ => nomatch h
  | _ :: _, .tuple _ :: _, h, _ => nomatch h
  | _ :: _, .dict _ :: _, h, _ => nomatch h
theorem stand_of {ps : List Part} {e : PyData} (h : isSt ps e = true) (hp : ∀ p ∈ ps, p.ok) : ∃ xs : List Int, e = .tuple (xs.map PyData.int) ∧ StandL ps xs := by
  match e, h with
  | .tuple es, h =>
    rw [isSt, Bool.and_eq_true] at h
    obtain ⟨xs, rfl, hx⟩ := places_of h.2 hp
    exact ⟨xs, rfl, hx⟩
/-- what is due, and what then -/
def Ask (d e r : PyData) (T S R : Prop) (G : List Part → List Int → List Deed → Prop) : Prop :=
  (isT d = false ∧ T) ∨ ∃ ps : List Part, d = .list (ps.map Part.data) ∧ isT d = true ∧ (∀ p ∈ ps, p.ok) ∧ 1 ≤ ps.length ∧ ps.length ≤ 600 ∧
    ((isSt ps e = false ∧ S) ∨ ∃ xs : List Int, e = .tuple (xs.map PyData.int) ∧ isSt ps e = true ∧ StandL ps xs ∧
      ((isR ps.length r = false ∧ R) ∨ ∃ ds : List Deed, r = .list (ds.map Deed.data) ∧ isR ps.length r = true ∧ ds.length ≤ 600 ∧ (∀ d ∈ ds, d.ok ps.length ∧ d.t < 2 ^ 200) ∧ G ps xs ds))
theorem ask_by {d e r : PyData} {n m : Nat} (fd : Fine d n 600) (fr : Fine r m 600) : Ask d e r True True True fun _ _ _ => True := by
  cases c : isT d with
  | false => exact .inl ⟨c, trivial⟩
  | true =>
    obtain ⟨ps, rfl, hp, l⟩ := train_of c fd (by decide)
    have l2 := Nat.le_trans (bulk_len _) (show bulkAll (ps.map Part.data) ≤ 600 from fd.few)
    rw [List.length_map] at l2
    refine .inr ⟨ps, rfl, c, hp, l, l2, ?_⟩
    cases c2 : isSt ps e with
    | false => exact .inl ⟨rfl, trivial⟩
    | true =>
      obtain ⟨xs, rfl, hx⟩ := stand_of c2 hp
      refine .inr ⟨xs, rfl, rfl, hx, ?_⟩
      cases c3 : isR ps.length r with
      | false => exact .inl ⟨rfl, trivial⟩
      | true =>
        obtain ⟨ds, rfl, l3, hd⟩ := row_of c3 fr
        exact .inr ⟨ds, rfl, rfl, l3, hd, trivial⟩
/-- the places of parts, read back -/
theorem ints_inj {xs ys : List Int} (h : PyData.tuple (xs.map PyData.int) = .tuple (ys.map PyData.int)) : xs = ys := (List.map_inj_right fun _ _ z => PyData.int.inj z).mp (PyData.tuple.inj h)
theorem trains_inj {ps qs : List Part} (h : PyData.list (ps.map Part.data) = .list (qs.map Part.data)) : ps = qs := datas_inj (PyData.list.inj h)
theorem join_row : Txt.join " " (pick5 [false, false, true, false, false] 5) = "row" := by decide +kernel
theorem join_count : Txt.join " " (pick5 [false, false, false, true, false] 5) = "count" := by decide +kernel
theorem itR_1 (ps : List Part) (ds : List Deed) (xs : List Int) : itR ps ds 1 xs = rowL ps ds (xs, 0) := by
  show ((rowL ps ds (xs, 0)).1, 0 + (rowL ps ds (xs, 0)).2) = _
  rw [Int.zero_add]
theorem fineA_three {d e r : PyData} {n : Nat} (fd : Fine d n 290) (fe : Fine e n 100) (fr : Fine r n 100) : FineA [d, e, r] n 600 :=
  (FineA.app (ds := [d]) (.one fd) (FineA.app (ds := [e]) (.one fe) (.one fr))).mono (Nat.le_refl _) (by decide)
/-! a tuple of one thing or more that is tracked itself -/
def Held (K : PySem.W.Frag) (H : Hp) (v : V) (d : PyData) : Prop := ∀ ds, d = .tuple ds → ds ≠ [] → ∃ a vs, v = .ref a ∧ H a = some (.tup vs) ∧ DpAll K H vs ds
theorem Held.same {K : PySem.W.Frag} {H H' : Hp} {v : V} {d : PyData} (s : Same H H') (h : Held K H v d) : Held K H' v d := fun ds hd hn => by
  obtain ⟨a, vs, ha, e, q⟩ := h ds hd hn
  exact ⟨a, vs, ha, s _ _ e, dpAll_same s q⟩
/-- held, and told: its items are those -/
theorem Held.is {K : PySem.W.Frag} {H : Hp} {v : V} {xs : List Int} (h : Held K H v (.tuple (xs.map PyData.int))) (n : 1 ≤ xs.length) : ∃ a, v = .ref a ∧ H a = some (.tup (xs.map V.int)) := by
  obtain ⟨a, vs, ha, e, q⟩ := h _ rfl (fun z => by
    have := congrArg List.length z
    rw [List.length_map] at this
    exact absurd this (by show ¬ xs.length = 0; omega))
  cases dpAll_ints_inv xs q
  exact ⟨a, ha, e⟩
theorem held_not {K : PySem.W.Frag} {H : Hp} {v : V} {d : PyData} (h : ∀ ds, d ≠ .tuple ds) : Held K H v d := fun ds hd => absurd hd (h ds)
theorem held_tup {K : PySem.W.Frag} {H : Hp} {a : Addr} {vs : List V} {d : PyData} (h : H a = some (.tup vs)) (hd : ∀ ds, d = .tuple ds → DpAll K H vs ds) : Held K H (.ref a) d := fun ds e _ => ⟨a, vs, rfl, h, hd ds e⟩
section
variable {K : PySem.W.Frag} {H0 : Hp} {σ : L2.St} {n m k : Nat}
def FW (K : PySem.W.Frag) (H0 : Hp) (σ : L2.St) (t : TE) (n m : Nat) : Prop := ∀ (H : Hp) (Q : VK), Same H0 H → (∀ v d H', Same H H' → Dp K H' v d → Fine d n m → Held K H' v d → Q v H') → t σ H Q
def FWT (K : PySem.W.Frag) (H0 : Hp) (σ : L2.St) (t : TE) (n m : Nat) : Prop := ∀ (H : Hp) (Q : VK), Same H0 H → (∀ l vs ds H', Same H H' → H' l = some (.tup vs) → DpAll K H' vs ds → FineA ds n m → Q (.ref l) H') → t σ H Q
def FWA (K : PySem.W.Frag) (H0 : Hp) (σ : L2.St) (t : TA) (n m : Nat) (len : Nat) : Prop := ∀ (H : Hp) (Q : List V → Hp → Prop), Same H0 H → (∀ vs ds H', Same H H' → DpAll K H' vs ds → (∀ d ∈ ds, Fine d n m) → (∀ (i : Nat) (v : V) (d : PyData), vs[i]? = some v → ds[i]? = some d → Held K H' v d) → ds.length = len → Q vs H') → t σ H Q
theorem FW.use {t : TE} {H : Hp} {Q : VK} (h : FW K H σ t n m) (q : ∀ v d H', Same H H' → Dp K H' v d → Fine d n m → Held K H' v d → Q v H') : t σ H Q := h H Q (Same.refl H) q
theorem FW.mono {t : TE} {n' m' : Nat} (h : FW K H0 σ t n m) (e : n ≤ n') (e' : m ≤ m') : FW K H0 σ t n' m' := fun H _ s q => h H _ s fun v d H' s' hv f w => q v d H' s' hv (f.mono e e') w
theorem fw_c {v : V} {d : PyData} (h : ∀ H, Dp K H v d) (f : Fine d n m) (z : ∀ ds, d ≠ .tuple ds) : FW K H0 σ (tC v) n m := fun H _ _ q => q v d H (Same.refl H) (h H) f (held_not z)
theorem fw_int {i : Int} (h : i.natAbs < 2 ^ 200 := by decide) : FW K H0 σ (tC (.int i)) n m := fw_c (fun _ => .int i) (fine_int h) (fun _ z => nomatch z)
theorem fw_bl {b : Bool} : FW K H0 σ (tC (.bl b)) n m := fw_c (fun _ => .bl b) ⟨rfl, Nat.zero_le _, Nat.zero_le _⟩ (fun _ z => nomatch z)
theorem fw_non : FW K H0 σ (tC .non) n m := fw_c (fun _ => .non) ⟨rfl, Nat.zero_le _, Nat.zero_le _⟩ (fun _ z => nomatch z)
theorem fw_str {x : Str} (h : (okN (.str x) && decide (bulkN (.str x) ≤ m)) = true := by decide +kernel) : FW K H0 σ (tC (.str x)) n m := by
  rw [Bool.and_eq_true] at h
  exact fw_c (fun _ => .str x) ⟨h.1, Nat.zero_le _, of_decide_eq_true h.2⟩ (fun _ z => nomatch z)
theorem FL.fw {t : TE} (h : FL K H0 σ t n m) : FW K H0 σ t (n + 1) m := fun H _ s q => h H _ s fun _ _ _ H' s' h1 h2 f => q _ _ H' s' (.lst (.of h1) h2) f.lst (held_not fun _ z => nomatch z)
theorem FWT.fw {t : TE} (h : FWT K H0 σ t n m) : FW K H0 σ t (n + 1) m := fun H _ s q => h H _ s fun l vs ds H' s' h1 h2 f => q _ _ H' s' (.tup (.of h1) h2) f.tup (held_tup h1 fun _ z => by cases z; exact h2)
theorem FWT.ft {t : TE} (h : FWT K H0 σ t n m) : FT K H0 σ t n m := fun H _ s q => h H _ s fun l vs ds H' s' h1 h2 f => q l vs ds H' s' (.of h1) h2 f
theorem fwT_var {i : Nat} {l : Addr} {vs : List V} {ds : List PyData} (h : H0 l = some (.tup vs)) (hd : DpAll K H0 vs ds) (f : FineA ds n m) (e : σ[i]? = some (some (.ref l))) : FWT K H0 σ (tVar i) n m := fun H _ s q =>
  ⟨_, e, q l vs ds H (Same.refl H) (s _ _ h) (dpAll_same s hd) f⟩
theorem fwT_nil : FWT K H0 σ (tTup tNil) n m := fun H Q s q => ⟨Nat.zero_le _, fun p np => q p [] [] _ (same_upd np) upd_same .nil .nil⟩
theorem fwT_one {t : TE} (h : FV K H0 σ t n m) : FWT K H0 σ (tTup (tCons t tNil)) n (m + 1) := fun H Q s q => h H _ s fun v d H1 s1 hv f =>
  ⟨len2 rfl, fun p np => q p [v] [d] _ (s1.trans (same_upd np)) upd_same (.cons (dp_same (same_upd np) hv) .nil) (.one f)⟩
theorem fwT_cat {ta tb : TE} (ha : FWT K H0 σ ta n m) (hb : FWT K H0 σ tb n k) (e : m + k ≤ 1000 := by decide) : FWT K H0 σ (tOp (rCatA K) ta tb) n (m + k) := fun H Q s q =>
  ha H _ s fun a xs ds H1 s1 h1 d1 f1 => hb H1 _ (s.trans s1) fun b ys es H2 s2 h2 d2 f2 => by
    have d3 := dpAll_app (dpAll_same s2 d1) d2
    have f3 := f1.app f2
    refine ⟨a, b, xs, ys, rfl, rfl, .of (s2 _ _ h1), .of h2, Nat.le_of_lt (small1000 ?_), fun hx => ?_, fun _ hy => ?_, fun _ _ p np => ?_⟩
    · rw [dpAll_len d1, dpAll_len d2]
      have := f1.len
      have := f2.len
      omega
    · rw [hx, List.nil_append] at d3
      exact q b ys _ H2 (s1.trans s2) h2 d3 f3
    · rw [hy, List.append_nil] at d3
      exact q a xs _ H2 (s1.trans s2) (s2 _ _ h1) d3 f3
    · exact q p _ _ _ ((s1.trans s2).trans (same_upd np)) upd_same (dpAll_same (same_upd np) d3) f3
theorem fwT_sl {te : TE} {tl th : TO} (h : FWT K H0 σ te n m) (hl : FO H0 σ tl) (hh : FO H0 σ th) : FWT K H0 σ (tSl (rSlA K) te tl th) n m := fun H Q s q =>
  h H _ s fun a xs ds H1 s1 h1 d1 f1 => hl H1 _ (s.trans s1) fun lo => hh H1 _ (s.trans s1) fun hi => by
    obtain ⟨es, d2, f2⟩ := dpAll_cutD lo hi d1 f1
    exact ⟨a, xs, rfl, .of h1, fun _ => q a xs ds H1 s1 h1 d1 f1, fun _ p np => q p _ es _ (s1.trans (same_upd np)) upd_same (dpAll_same (same_upd np) d2) f2⟩
theorem fwa_nil : FWA K H0 σ tNil n m 0 := fun H _ _ q => q [] [] H (Same.refl H) .nil (fun _ h => nomatch h) (fun _ _ _ h => nomatch h) rfl
theorem fwa_cons {t : TE} {ts : TA} {len : Nat} (h : FW K H0 σ t n m) (hs : FWA K H0 σ ts n m len) : FWA K H0 σ (tCons t ts) n m (len + 1) := fun H Q s q =>
  h H _ s fun v d H1 s1 hv f w => hs H1 _ (s.trans s1) fun vs ds H2 s2 hvs fs ws e => q _ _ H2 (s1.trans s2) (.cons (dp_same s2 hv) hvs) (fun x hx => by
    rcases List.mem_cons.mp hx with rfl | hx
    · exact f
    · exact fs x hx) (fun i x y hx hy => by
    cases i with
    | zero =>
      cases Option.some.inj hx
      cases Option.some.inj hy
      exact w.same s2
    | succ i => exact ws i x y hx hy) (by rw [List.length_cons, e])
theorem fw_pick {ta : TA} {tx : TE} {len : Nat} {j : Int} (h : FWA K H0 σ ta n m len) (hx : FI H0 σ tx) (e : j = len) (p : 0 < j) (l : len ≤ 1000 := by decide) :
    FW K H0 σ (tOp (rIxL K) (tLst ta) (tOp (rI (fun _ j => 0 < j) fun i j => .int (i % j)) tx (tC (.int j)))) n m := fun H Q s q =>
  h H _ s fun vs ds H1 s1 hvs fs ws le => ⟨Nat.le_of_lt (small1000 (by rw [dpAll_len hvs, le]; exact l)), fun a na => hx _ _ ((s.trans s1).trans (same_upd na)) fun i => ⟨i, j, rfl, rfl, p, by
    have r0 := Int.emod_nonneg i (show j ≠ 0 by omega)
    have r1 := Int.emod_lt_of_pos i p
    obtain ⟨c, hc⟩ : ∃ c : Nat, i % j = c := ⟨(i % j).toNat, by omega⟩
    have hn : c < ds.length := by omega
    have hd := List.getElem?_eq_getElem hn
    obtain ⟨v, hv, hdv⟩ := dpAll_get hvs hd
    exact w_ixL (.of upd_same) (by rw [hc]; exact atI_nat hv) (q v _ _ (s1.trans (same_upd na)) (dp_same (same_upd na) hdv) (fs _ (List.getElem_mem hn)) ((ws _ _ _ hv hd).same (same_upd na)))⟩⟩
end
end Ct
namespace Ct
open PySem PySem.Spec PyProof.Rows L2
theorem filt_w (d0 d1 d2 : PyData) : PyData.eqv (.list ([d0, d1, d2].filter fun d => !isW d)) (.list []) = (isW d0 && isW d1 && isW d2) := by
  rw [PyData.eqv, eqvAll_nil]
  cases e0 : isW d0 <;> cases e1 : isW d1 <;> cases e2 : isW d2 <;> simp [e0, e1, e2]
theorem isD_w {d0 d1 d2 : PyData} {n : Int} (h : (isW d0 && isW d1 && isW d2) = false) : isD (.tuple [d0, d1, d2]) n = false := by
  cases d0 <;> first | rfl | skip
  cases d1 <;> first | rfl | skip
  cases d2 <;> first | rfl | (exact nomatch h)
theorem w_ints {K : PySem.W.Frag} {H : Hp} {v : V} {d : PyData} (h : isW d = true) (hd : Dp K H v d) : ∃ i, v = .int i ∧ d = .int i := by
  cases hd with
  | int i => exact ⟨i, rfl, rfl⟩
  | non => exact nomatch h
  | bl b => exact nomatch h
  | str s => exact nomatch h
  | lst a b => exact nomatch h
  | tup a b => exact nomatch h
theorem inV_way (w : Int) : inV (.int w) [.int 1, .int (0 - 1)] = (decide (w = 1) || decide (w = -1)) := by
  show ((1 : Int) == w || ((0 - 1 : Int) == w || false)) = _
  rw [Bool.or_false, Bool.eq_iff_iff, Bool.or_eq_true, Bool.or_eq_true, beq_iff_eq, beq_iff_eq, decide_eq_true_iff, decide_eq_true_iff]
  omega
theorem isD_long {es : List PyData} {n : Int} (h : es.length ≠ 3) : isD (.tuple es) n = false := by
  match es, h with
  | [], _ => rfl
  | [d0], _ => cases d0 <;> rfl
  | [d0, d1], _ => cases d0 <;> first | rfl | (cases d1 <;> rfl)
  | [_, _, _], z => exact absurd rfl z
  | d0 :: d1 :: d2 :: d3 :: _, _ => cases d0 <;> first | rfl | (cases d1 <;> first | rfl | (cases d2 <;> rfl))
end Ct
namespace Ct
open PySem PySem.Spec PyProof.Rows L2
theorem fineA_all {n m : Nat} : ∀ {ds : List PyData}, (∀ d ∈ ds, Fine d n m) → FineA ds n (ds.length * (m + 1))
  | [], _ => .nil
  | d :: ds, h => by
    have f := FineA.app (ds := [d]) (FineA.one (h d List.mem_cons_self)) (fineA_all fun q hq => h q (List.mem_cons_of_mem _ hq))
    refine f.mono (Nat.le_refl _) ?_
    rw [List.length_cons, Nat.succ_mul]
    omega
theorem fine_deed {d : Deed} (h1 : d.i < 2 ^ 199) (h2 : Sign d.w) (h3 : d.t < 2 ^ 199) : Fine d.data 1 3 := by
  refine (fineA_ints (xs := [(d.i : Int), d.w, (d.t : Int)]) (n := 0) (m := 3) (fun x hx => ?_) (Nat.le_refl 3)).tup
  simp only [List.mem_cons, List.not_mem_nil, or_false] at hx
  rcases hx with rfl | rfl | rfl
  · omega
  · rcases h2 with z | z <;> rw [z] <;> decide
  · omega
theorem fineA_deeds {ds : List Deed} (h : ∀ d ∈ ds, Fine d.data 1 3) : FineA (ds.map Deed.data) 1 (ds.length * 4) := by
  have f := fineA_all (ds := ds.map Deed.data) (n := 1) (m := 3) fun x hx => by
    obtain ⟨d, hd, rfl⟩ := List.mem_map.mp hx
    exact h d hd
  rw [List.length_map] at f
  exact f
section
variable {K : PySem.W.Frag} {H0 : Hp} {σ : L2.St} {n m : Nat}
theorem ft_all {t : TA} {len : Nat} (h : FA K H0 σ t n m len) (l : len ≤ 1000 := by decide) : FT K H0 σ (tTup t) n (len * (m + 1)) := fun H Q s q =>
  h H _ s fun vs ds H1 s1 hvs fs le => ⟨Nat.le_of_lt (small1000 (by rw [dpAll_len hvs, le]; exact l)), fun p np => q p vs ds _ (s1.trans (same_upd np)) (.of upd_same) (dpAll_same (same_upd np) hvs) (by rw [← le]; exact fineA_all fs)⟩
theorem fl_all {t : TA} {len : Nat} (h : FA K H0 σ t n m len) (l : len ≤ 1000 := by decide) : FL K H0 σ (tLst t) n (len * (m + 1)) := fun H Q s q =>
  h H _ s fun vs ds H1 s1 hvs fs le => ⟨Nat.le_of_lt (small1000 (by rw [dpAll_len hvs, le]; exact l)), fun p np => q p vs ds _ (s1.trans (same_upd np)) upd_same (dpAll_same (same_upd np) hvs) (by rw [← le]; exact fineA_all fs)⟩
end
end Ct

/-! what an expression gives, by a property of its data -/
namespace Ct
open PySem PySem.Spec PyProof.Rows L2
def Part.items : Part → List PyData
  | .wheel z ms => [.str "wheel", .int z, .tuple (ms.map PyData.int)]
  | .click => [.str "click"]
  | .rocker => [.str "rocker"]
  | .spring k => [.str "spring", .int k]
theorem Part.data_items (p : Part) : p.data = .tuple p.items := by cases p <;> rfl
/-- whatever part it is, it has few places -/
def SmP (d : PyData) : Prop := ∀ p : Part, d = p.data → p.places ≤ 61
theorem smP_list (ds : List PyData) : SmP (.list ds) := fun p h => by cases p <;> exact nomatch h
theorem smP_head {a : PyData} {ds : List PyData} (h1 : a ≠ .str "wheel") (h2 : a ≠ .str "spring") : SmP (.tuple (a :: ds)) := fun p h => by
  cases p with
  | wheel z ms => exact absurd (List.cons.inj (PyData.tuple.inj h)).1 h1
  | spring k => exact absurd (List.cons.inj (PyData.tuple.inj h)).1 h2
  | click => exact (by decide : (1 : Int) ≤ 61)
  | rocker => exact (by decide : (2 : Int) ≤ 61)
theorem str_ne {x y : Str} (h : x ≠ y) : PyData.str x ≠ .str y := fun z => h (PyData.str.inj z)
theorem smP_wheel {a b : PyData} {x : Str} (h : ∀ i, a = .int i → i ≤ 61) : SmP (.tuple [.str x, a, b]) := fun p e => by
  cases p with
  | wheel z ms => exact h z (List.cons.inj (List.cons.inj (PyData.tuple.inj e)).2).1
  | spring k => exact nomatch (List.cons.inj (List.cons.inj (PyData.tuple.inj e)).2).2
  | click => exact (by decide : (1 : Int) ≤ 61)
  | rocker => exact (by decide : (2 : Int) ≤ 61)
theorem smP_spring {a : PyData} {x : Str} (h : ∀ i, a = .int i → i ≤ 61) : SmP (.tuple [.str x, a]) := fun p e => by
  cases p with
  | wheel z ms => exact nomatch (List.cons.inj (List.cons.inj (PyData.tuple.inj e)).2).2
  | spring k => exact h k (List.cons.inj (List.cons.inj (PyData.tuple.inj e)).2).1
  | click => exact (by decide : (1 : Int) ≤ 61)
  | rocker => exact (by decide : (2 : Int) ≤ 61)
theorem smP_long {a b c d : PyData} {ds : List PyData} : SmP (.tuple (a :: b :: c :: d :: ds)) := fun p e => by
  have l := congrArg List.length (PyData.tuple.inj ((e.trans p.data_items)))
  cases p with
  | wheel z ms => exact absurd l (by show ¬ ds.length + 4 = 3; omega)
  | spring k => exact absurd l (by show ¬ ds.length + 4 = 2; omega)
  | click => exact (by decide : (1 : Int) ≤ 61)
  | rocker => exact (by decide : (2 : Int) ≤ 61)
theorem smP_one {a : PyData} : SmP (.tuple [a]) := fun p e => by
  cases p with
  | wheel z ms => exact nomatch (List.cons.inj (PyData.tuple.inj e)).2
  | spring k => exact nomatch (List.cons.inj (PyData.tuple.inj e)).2
  | click => exact (by decide : (1 : Int) ≤ 61)
  | rocker => exact (by decide : (2 : Int) ≤ 61)
theorem smP_nil : SmP (.tuple []) := fun p e => by cases p <;> exact nomatch (PyData.tuple.inj e)
theorem smP_more (p : Part) (h : p.places ≤ 60) (o : PyData) : SmP (.tuple (p.items ++ [o])) := by
  cases p with
  | wheel z ms => exact smP_long
  | click => exact smP_head (str_ne (by decide +kernel)) (str_ne (by decide +kernel))
  | rocker => exact smP_head (str_ne (by decide +kernel)) (str_ne (by decide +kernel))
  | spring k => exact smP_wheel fun i z => by cases z; exact Int.le_trans h (by decide)
def cutD (ds : List PyData) (lo hi : Option Int) : List PyData := (ds.drop (HT.sIx ds.length 0 lo)).take (HT.sIx ds.length ds.length hi - HT.sIx ds.length 0 lo)
theorem smP_less (p : Part) (h : p.places ≤ 60) : SmP (.tuple (cutD p.items none (some (-1)))) := by
  cases p with
  | wheel z ms => exact smP_spring (x := "wheel") fun i e => by cases e; exact Int.le_trans h (by decide)
  | click => exact smP_nil
  | rocker => exact smP_nil
  | spring k => exact smP_one
def smB : PyData → Bool
  | .tuple [.str _, .int z, _] => decide (z ≤ 61)
  | .tuple [.str _, .int k] => decide (k ≤ 61)
  | _ => true
theorem smB_ok {d : PyData} (h : smB d = true) : SmP d := fun p e => by
  cases p with
  | wheel z ms => rw [e] at h; exact of_decide_eq_true h
  | spring k => rw [e] at h; exact of_decide_eq_true h
  | click => exact (by decide : (1 : Int) ≤ 61)
  | rocker => exact (by decide : (2 : Int) ≤ 61)
theorem smB_all {ds : List PyData} (h : ds.all smB = true) : ∀ d ∈ ds, SmP d := fun d hd => smB_ok (List.all_eq_true.mp h d hd)
section
variable {K : PySem.W.Frag} {H0 : Hp} {σ : L2.St}
def FVP (K : PySem.W.Frag) (H0 : Hp) (σ : L2.St) (t : TE) (P : PyData → Prop) : Prop := ∀ (H : Hp) (Q : VK), Same H0 H → (∀ v d H', Same H H' → Dp K H' v d → P d → Q v H') → t σ H Q
def FTP (K : PySem.W.Frag) (H0 : Hp) (σ : L2.St) (t : TE) (P : List PyData → Prop) : Prop := ∀ (H : Hp) (Q : VK), Same H0 H → (∀ l vs ds H', Same H H' → SqT K H' l vs → DpAll K H' vs ds → P ds → Q (.ref l) H') → t σ H Q
def FAP (K : PySem.W.Frag) (H0 : Hp) (σ : L2.St) (t : TA) (P : PyData → Prop) (len : Nat) : Prop := ∀ (H : Hp) (Q : List V → Hp → Prop), Same H0 H → (∀ vs ds H', Same H H' → DpAll K H' vs ds → (∀ d ∈ ds, P d) → ds.length = len → Q vs H') → t σ H Q
theorem FVP.use {t : TE} {H : Hp} {Q : VK} {P : PyData → Prop} (h : FVP K H σ t P) (q : ∀ v d H', Same H H' → Dp K H' v d → P d → Q v H') : t σ H Q := h H Q (Same.refl H) q
theorem FVP.imp {t : TE} {P R : PyData → Prop} (h : FVP K H0 σ t P) (i : ∀ d, P d → R d) : FVP K H0 σ t R := fun H _ s q => h H _ s fun v d H' s' hv p => q v d H' s' hv (i d p)
theorem FV.fvp {t : TE} {n m : Nat} (h : FV K H0 σ t n m) : FVP K H0 σ t fun d => Fine d n m := h
theorem FL.fvp {t : TE} {n m : Nat} (h : FL K H0 σ t n m) : FVP K H0 σ t fun d => ∃ ds, d = .list ds ∧ FineA ds n m := fun H _ s q => h H _ s fun _ _ ds H' s' h1 h2 f => q _ _ H' s' (.lst (.of h1) h2) ⟨ds, rfl, f⟩
theorem Gv.fvp {t : TE} {d : PyData} {P : PyData → Prop} (h : Gv K H0 σ t d) (p : P d) : FVP K H0 σ t P := fun H _ s q => h H _ s fun v H' s' hv => q v d H' s' hv p
theorem fvp_two {t u : TE} {P R : PyData → Prop} (h : FVP K H0 σ t P) (g : FVP K H0 σ u R) : FVP K H0 σ (tTup (tCons t (tCons u tNil))) fun d => ∃ a b, d = .tuple [a, b] ∧ P a ∧ R b := fun H Q s q => h H _ s fun v d H1 s1 hv f => g H1 _ (s.trans s1) fun v2 d2 H2 s2 hv2 f2 =>
  ⟨len2 rfl, fun p np => q _ _ _ ((s1.trans s2).trans (same_upd np)) (.tup (.of upd_same) (.cons (dp_same (s2.trans (same_upd np)) hv) (.cons (dp_same (same_upd np) hv2) .nil))) ⟨d, d2, rfl, f, f2⟩⟩
theorem fvp_three {t u w : TE} {P R S : PyData → Prop} (h : FVP K H0 σ t P) (g : FVP K H0 σ u R) (g3 : FVP K H0 σ w S) : FVP K H0 σ (tTup (tCons t (tCons u (tCons w tNil)))) fun d => ∃ a b c, d = .tuple [a, b, c] ∧ P a ∧ R b ∧ S c := fun H Q s q =>
  h H _ s fun v d H1 s1 hv f => g H1 _ (s.trans s1) fun v2 d2 H2 s2 hv2 f2 => g3 H2 _ ((s.trans s1).trans s2) fun v3 d3 H3 s3 hv3 f3 =>
  ⟨len2 rfl, fun p np => q _ _ _ (((s1.trans s2).trans s3).trans (same_upd np)) (.tup (.of upd_same) (.cons (dp_same ((s2.trans s3).trans (same_upd np)) hv) (.cons (dp_same (s3.trans (same_upd np)) hv2) (.cons (dp_same (same_upd np) hv3) .nil)))) ⟨d, d2, d3, rfl, f, f2, f3⟩⟩
theorem FTP.fvp {t : TE} {P : List PyData → Prop} (h : FTP K H0 σ t P) : FVP K H0 σ t fun d => ∃ ds, d = .tuple ds ∧ P ds := fun H _ s q => h H _ s fun _ _ ds H' s' h1 h2 p => q _ _ H' s' (.tup h1 h2) ⟨ds, rfl, p⟩
theorem ftp_one {t : TE} {P : PyData → Prop} (h : FVP K H0 σ t P) : FTP K H0 σ (tTup (tCons t tNil)) fun ds => ∃ a, ds = [a] ∧ P a := fun H Q s q => h H _ s fun v d H1 s1 hv f =>
  ⟨len2 rfl, fun p np => q p [v] [d] _ (s1.trans (same_upd np)) (.of upd_same) (.cons (dp_same (same_upd np) hv) .nil) ⟨d, rfl, f⟩⟩
theorem ftp_var {i : Nat} {l : Addr} {vs : List V} {ds : List PyData} (h : SqT K H0 l vs) (hd : DpAll K H0 vs ds) (e : σ[i]? = some (some (.ref l))) : FTP K H0 σ (tVar i) fun es => es = ds := fun H _ s q =>
  ⟨_, e, q l vs ds H (Same.refl H) (Same.tup s h) (dpAll_same s hd) rfl⟩
theorem ftp_cat {ta tb : TE} {P R : List PyData → Prop} (ha : FTP K H0 σ ta P) (hb : FTP K H0 σ tb R) (lp : ∀ ds, P ds → ds.length ≤ 500) (lr : ∀ ds, R ds → ds.length ≤ 500) : FTP K H0 σ (tOp (rCatA K) ta tb) fun ds => ∃ a b, ds = a ++ b ∧ P a ∧ R b := fun H Q s q =>
  ha H _ s fun a xs ds H1 s1 h1 d1 f1 => hb H1 _ (s.trans s1) fun b ys es H2 s2 h2 d2 f2 => by
    have d3 := dpAll_app (dpAll_same s2 d1) d2
    refine ⟨a, b, xs, ys, rfl, rfl, Same.tup s2 h1, h2, Nat.le_of_lt (small1000 ?_), fun hx => ?_, fun _ hy => ?_, fun _ _ p np => ?_⟩
    · rw [dpAll_len d1, dpAll_len d2]
      have := lp _ f1
      have := lr _ f2
      omega
    · rw [hx, List.nil_append] at d3
      exact q b ys _ H2 (s1.trans s2) h2 d3 ⟨ds, es, rfl, f1, f2⟩
    · rw [hy, List.append_nil] at d3
      exact q a xs _ H2 (s1.trans s2) (Same.tup s2 h1) d3 ⟨ds, es, rfl, f1, f2⟩
    · exact q p _ _ _ ((s1.trans s2).trans (same_upd np)) (.of upd_same) (dpAll_same (same_upd np) d3) ⟨ds, es, rfl, f1, f2⟩
/-- a bound of a slice, exactly -/
def GO (H0 : Hp) (σ : L2.St) (t : TO) (i : Option Int) : Prop := ∀ (H : Hp) (Q : Option Int → Hp → Prop), Same H0 H → Q i H → t σ H Q
theorem go_none : GO H0 σ tNoPart none := fun _ _ _ q => q
theorem go_c {i : Int} : GO H0 σ (tPart (tC (.int i))) (some i) := fun _ _ _ q => ⟨i, rfl, q⟩
theorem go_neg {i : Int} : GO H0 σ (tPart (tUn (rU fun i => .int (-i)) (tC (.int i)))) (some (-i)) := fun _ _ _ q => ⟨i, rfl, -i, rfl, q⟩
theorem ftp_sl {te : TE} {tl th : TO} {ds : List PyData} {lo hi : Option Int} (h : FTP K H0 σ te fun es => es = ds) (hl : GO H0 σ tl lo) (hh : GO H0 σ th hi) : FTP K H0 σ (tSl (rSlA K) te tl th) fun es => es = cutD ds lo hi := fun H Q s q =>
  h H _ s fun a xs es H1 s1 h1 d1 e => hl H1 _ (s.trans s1) (hh H1 _ (s.trans s1) (by
    subst e
    have l := dpAll_len d1
    refine ⟨a, xs, rfl, h1, fun z => ?_, fun _ p np => ?_⟩
    · refine q a xs es H1 s1 h1 d1 ?_
      rw [l] at z
      unfold cutD
      rw [z.1, z.2, List.drop_zero, Nat.sub_zero, List.take_length]
    · refine q p _ _ _ (s1.trans (same_upd np)) (.of upd_same) (dpAll_same (same_upd np) (dpAll_take _ (dpAll_drop _ d1))) ?_
      rw [l]
      rfl))
theorem fap_nil {P : PyData → Prop} : FAP K H0 σ tNil P 0 := fun H _ _ q => q [] [] H (Same.refl H) .nil (fun _ h => nomatch h) rfl
theorem fap_cons {t : TE} {ts : TA} {len : Nat} {P : PyData → Prop} (h : FVP K H0 σ t P) (hs : FAP K H0 σ ts P len) : FAP K H0 σ (tCons t ts) P (len + 1) := fun H Q s q =>
  h H _ s fun v d H1 s1 hv f => hs H1 _ (s.trans s1) fun vs ds H2 s2 hvs fs e => q _ _ H2 (s1.trans s2) (.cons (dp_same s2 hv) hvs) (fun x hx => by
    rcases List.mem_cons.mp hx with rfl | hx
    · exact f
    · exact fs x hx) (by rw [List.length_cons, e])
theorem fvp_pick {ta : TA} {tx : TE} {len : Nat} {j : Int} {P : PyData → Prop} (h : FAP K H0 σ ta P len) (hx : FI H0 σ tx) (e : j = len) (p : 0 < j) (l : len ≤ 1000 := by decide) :
    FVP K H0 σ (tOp (rIxL K) (tLst ta) (tOp (rI (fun _ j => 0 < j) fun i j => .int (i % j)) tx (tC (.int j)))) P := fun H Q s q =>
  h H _ s fun vs ds H1 s1 hvs fs le => ⟨Nat.le_of_lt (small1000 (by rw [dpAll_len hvs, le]; exact l)), fun a na => hx _ _ ((s.trans s1).trans (same_upd na)) fun i => ⟨i, j, rfl, rfl, p, by
    refine w_some (.of upd_same) (dpAll_same (same_upd na) hvs) (Int.emod_nonneg _ (by omega)) (by rw [le, ← e]; exact Int.emod_lt_of_pos _ p) fun v d hd hv => ?_
    exact q v d _ (s1.trans (same_upd na)) hv (fs d hd)⟩⟩
theorem FAP.useL {t : TA} {len : Nat} {H : Hp} {Q : VK} {P : PyData → Prop} (h : FAP K H σ t P len) (l : len ≤ 1000) (q : ∀ a vs ds H', Same H H' → H' a = some (.lst vs) → DpAll K H' vs ds → (∀ d ∈ ds, P d) → ds.length = len → Q (.ref a) H') : tLst t σ H Q :=
  h H _ (Same.refl H) fun vs ds H1 s1 hvs fs le => ⟨Nat.le_of_lt (small1000 (by rw [dpAll_len hvs, le]; exact l)), fun p np => q p vs ds _ (s1.trans (same_upd np)) upd_same (dpAll_same (same_upd np) hvs) fs le⟩
theorem fvp_pickV {i : Nat} {tx : TE} {a : Addr} {vs : List V} {ds : List PyData} {j : Int} {P : PyData → Prop} (e : σ[i]? = some (some (.ref a))) (ha : H0 a = some (.lst vs)) (hd : DpAll K H0 vs ds) (fs : ∀ d ∈ ds, P d) (hx : FI H0 σ tx) (ej : j = ds.length) (p : 0 < j) :
    FVP K H0 σ (tOp (rIxL K) (tVar i) (tOp (rI (fun _ j => 0 < j) fun i j => .int (i % j)) tx (tC (.int j)))) P := fun H Q s q =>
  ⟨.ref a, e, hx _ _ s fun x => ⟨x, j, rfl, rfl, p, by
    refine w_some (.of (s _ _ ha)) (dpAll_same s hd) (Int.emod_nonneg _ (by omega)) (by rw [← ej]; exact Int.emod_lt_of_pos _ p) fun v d hd hv => ?_
    exact q v d H (Same.refl H) hv (fs d hd)⟩⟩
theorem part_items {H : Hp} {v : V} {p : Part} (h : Dp K H v p.data) : ∃ (a : Addr) (x : Str) (ws : List V) (r : List PyData), v = .ref a ∧ SqT K H a (.str x :: ws) ∧ DpAll K H (.str x :: ws) p.items ∧ p.items = .str x :: r ∧ ∀ n, Fine (.str x) n 6 := by
  have fx : ∀ n, Fine (.str "wheel") n 6 ∧ Fine (.str "click") n 6 ∧ Fine (.str "rocker") n 6 ∧ Fine (.str "spring") n 6 := fun n => ⟨⟨by decide +kernel, Nat.zero_le _, by decide +kernel⟩, ⟨by decide +kernel, Nat.zero_le _, by decide +kernel⟩, ⟨by decide +kernel, Nat.zero_le _, by decide +kernel⟩, ⟨by decide +kernel, Nat.zero_le _, by decide +kernel⟩⟩
  cases p with
  | wheel z ms =>
    obtain ⟨a, b, rfl, ha, hb⟩ := wheel_inv h
    exact ⟨a, _, _, _, rfl, ha, .cons (.str _) (.cons (.int _) (.cons (.tup hb (dpAll_ints ms)) .nil)), rfl, fun n => (fx n).1⟩
  | click =>
    obtain ⟨a, rfl, ha⟩ := click_inv h
    exact ⟨a, _, _, _, rfl, ha, .cons (.str _) .nil, rfl, fun n => (fx n).2.1⟩
  | rocker =>
    obtain ⟨a, rfl, ha⟩ := rocker_inv h
    exact ⟨a, _, _, _, rfl, ha, .cons (.str _) .nil, rfl, fun n => (fx n).2.2.1⟩
  | spring k =>
    obtain ⟨a, rfl, ha⟩ := spring_inv h
    exact ⟨a, _, _, _, rfl, ha, .cons (.str _) (.cons (.int _) .nil), rfl, fun n => (fx n).2.2.2⟩
end
theorem places_le_stands : ∀ {ps : List Part}, (∀ p ∈ ps, p.ok) → ∀ p ∈ ps, p.places ≤ stands ps
  | q :: qs, h, p, hp => by
    have h1 := (h q List.mem_cons_self).pos.1
    have h2 := stands_pos qs fun p hp => h p (List.mem_cons_of_mem _ hp)
    show p.places ≤ q.places * stands qs
    rcases List.mem_cons.mp hp with rfl | hp
    · have := Int.mul_le_mul_of_nonneg_left h2 (show 0 ≤ p.places by omega)
      omega
    · have h3 := places_le_stands (ps := qs) (fun p hp => h p (List.mem_cons_of_mem _ hp)) p hp
      have := Int.mul_le_mul_of_nonneg_right h1 (show 0 ≤ stands qs by omega)
      omega
theorem stands_cat : ∀ (ps qs : List Part), stands (ps ++ qs) = stands ps * stands qs
  | [], qs => by rw [List.nil_append, stands, Int.one_mul]
  | p :: ps, qs => by rw [List.cons_append, stands, stands, stands_cat ps qs, Int.mul_assoc]
/-- one part exchanged -/
theorem stands_bent {ps : List Part} {k : Nat} {p' : Part} (hok : ∀ p ∈ ps, p.ok) (hs : stands ps ≤ 60) (hk : k < ps.length) (h : p'.places ≤ 61) : stands (ps.take k ++ [p'] ++ ps.drop (k + 1)) ≤ 1000000 := by
  obtain ⟨p, hp⟩ : ∃ p, ps[k]? = some p := ⟨_, List.getElem?_eq_getElem hk⟩
  have e : ps = ps.take k ++ [p] ++ ps.drop (k + 1) := by
    rw [List.append_assoc, List.singleton_append, ← drop_at hp, List.take_append_drop]
  have a1 := stands_pos (ps.take k) fun p hp => hok p (List.mem_of_mem_take hp)
  have a2 := stands_pos (ps.drop (k + 1)) fun p hp => hok p (List.mem_of_mem_drop hp)
  have a3 := (hok p (List.mem_of_getElem? hp)).pos.1
  have e2 : stands ps = stands (ps.take k) * p.places * stands (ps.drop (k + 1)) := by
    conv => lhs; rw [e]
    rw [stands_cat, stands_cat]
    show _ * (p.places * 1) * _ = _
    rw [Int.mul_one]
  rw [stands_cat, stands_cat]
  show stands (ps.take k) * (p'.places * 1) * stands (ps.drop (k + 1)) ≤ 1000000
  rw [Int.mul_one]
  have b1 : stands (ps.take k) * 1 ≤ stands (ps.take k) * p.places := Int.mul_le_mul_of_nonneg_left a3 (by omega)
  have b2 : stands (ps.take k) * 1 * stands (ps.drop (k + 1)) ≤ stands (ps.take k) * p.places * stands (ps.drop (k + 1)) := Int.mul_le_mul_of_nonneg_right b1 (by omega)
  rw [Int.mul_one, ← e2] at b2
  have b3 : stands (ps.take k) * stands (ps.drop (k + 1)) * p'.places ≤ stands (ps.take k) * stands (ps.drop (k + 1)) * 61 := Int.mul_le_mul_of_nonneg_left h (by
    have := Int.mul_le_mul a1 a2 (by decide) (by omega)
    omega)
  rw [Int.mul_right_comm]
  omega
theorem stands_more {ps : List Part} {p' : Part} (hok : ∀ p ∈ ps, p.ok) (hs : stands ps ≤ 60) (h : p'.places ≤ 61) : stands (ps ++ [p']) ≤ 1000000 := by
  rw [stands_app]
  have a1 := stands_pos ps hok
  have b3 : stands ps * p'.places ≤ stands ps * 61 := Int.mul_le_mul_of_nonneg_left h (by omega)
  omega
/-- whatever train it is, it has few stands -/
def SmT (d : PyData) : Prop := ∀ ps : List Part, d = .list (ps.map Part.data) → stands ps ≤ 1000000
theorem smT_not {d : PyData} (h : ∀ ds, d ≠ .list ds) : SmT d := fun _ e => absurd e (h _)
theorem smT_more {ps : List Part} {o : PyData} (hok : ∀ p ∈ ps, p.ok) (hs : stands ps ≤ 60) (h : SmP o) : SmT (.list (ps.map Part.data ++ [o])) := fun qs e => by
  have e := PyData.list.inj e
  obtain ⟨q1, q2, rfl, h1, h2⟩ := List.map_eq_append_iff.mp e.symm
  obtain ⟨p', t, rfl, h3, h4⟩ := List.map_eq_cons_iff.mp h2
  cases List.map_eq_nil_iff.mp h4
  cases datas_inj h1
  exact stands_more hok hs (h p' h3.symm)
theorem smT_bent {ps : List Part} {o : PyData} {k : Nat} (hok : ∀ p ∈ ps, p.ok) (hs : stands ps ≤ 60) (hk : k < ps.length) (h : SmP o) : SmT (.list ((ps.map Part.data).take k ++ [o] ++ (ps.map Part.data).drop (k + 1))) := fun qs e => by
  have e := PyData.list.inj e
  obtain ⟨q1, q3, rfl, h1, h5⟩ := List.map_eq_append_iff.mp e.symm
  obtain ⟨q0, q2, rfl, h0, h2⟩ := List.map_eq_append_iff.mp h1
  obtain ⟨p', t, rfl, h3, h4⟩ := List.map_eq_cons_iff.mp h2
  cases List.map_eq_nil_iff.mp h4
  rw [← List.map_take] at h0
  rw [← List.map_drop] at h5
  cases datas_inj h0
  cases datas_inj h5
  exact stands_bent hok hs hk (h p' h3.symm)
end Ct
namespace Ct
open PySem PySem.Spec PyProof.Rows L2
section
variable {K : PySem.W.Frag} {H0 : Hp} {σ : L2.St}
theorem FT.fvp {t : TE} {n m : Nat} (h : FT K H0 σ t n m) : FVP K H0 σ t fun d => ∃ ds, d = .tuple ds ∧ FineA ds n m := fun H _ s q => h H _ s fun _ _ ds H' s' h1 h2 f => q _ _ H' s' (.tup h1 h2) ⟨ds, rfl, f⟩
def FLP (K : PySem.W.Frag) (H0 : Hp) (σ : L2.St) (t : TE) (P : List PyData → Prop) : Prop := ∀ (H : Hp) (Q : VK), Same H0 H → (∀ l vs ds H', Same H H' → H' l = some (.lst vs) → DpAll K H' vs ds → P ds → Q (.ref l) H') → t σ H Q
theorem FLP.fvp {t : TE} {P : List PyData → Prop} (h : FLP K H0 σ t P) : FVP K H0 σ t fun d => ∃ ds, d = .list ds ∧ P ds := fun H _ s q => h H _ s fun _ _ ds H' s' h1 h2 p => q _ _ H' s' (.lst (.of h1) h2) ⟨ds, rfl, p⟩
theorem flp_one {t : TE} {P : PyData → Prop} (h : FVP K H0 σ t P) : FLP K H0 σ (tLst (tCons t tNil)) fun ds => ∃ a, ds = [a] ∧ P a := fun H Q s q => h H _ s fun v d H1 s1 hv f =>
  ⟨len2 rfl, fun p np => q p [v] [d] _ (s1.trans (same_upd np)) upd_same (.cons (dp_same (same_upd np) hv) .nil) ⟨d, rfl, f⟩⟩
theorem flp_var {i : Nat} {l : Addr} {vs : List V} {ds : List PyData} (h : H0 l = some (.lst vs)) (hd : DpAll K H0 vs ds) (e : σ[i]? = some (some (.ref l))) : FLP K H0 σ (tVar i) fun es => es = ds := fun H _ s q =>
  ⟨_, e, q l vs ds H (Same.refl H) (s _ _ h) (dpAll_same s hd) rfl⟩
theorem flp_cat {ta tb : TE} {P R : List PyData → Prop} (ha : FLP K H0 σ ta P) (hb : FLP K H0 σ tb R) (lp : ∀ ds, P ds → ds.length ≤ 500) (lr : ∀ ds, R ds → ds.length ≤ 500) : FLP K H0 σ (tOp rCat ta tb) fun ds => ∃ a b, ds = a ++ b ∧ P a ∧ R b := fun H Q s q =>
  ha H _ s fun a xs ds H1 s1 h1 d1 f1 => hb H1 _ (s.trans s1) fun b ys es H2 s2 h2 d2 f2 => by
    refine ⟨a, b, xs, ys, rfl, rfl, s2 _ _ h1, h2, Nat.le_of_lt (small1000 ?_), fun p np => q p _ _ _ ((s1.trans s2).trans (same_upd np)) upd_same (dpAll_same (same_upd np) (dpAll_app (dpAll_same s2 d1) d2)) ⟨ds, es, rfl, f1, f2⟩⟩
    rw [dpAll_len d1, dpAll_len d2]
    have := lp _ f1
    have := lr _ f2
    omega
theorem flp_sl {te : TE} {tl th : TO} {ds : List PyData} {lo hi : Option Int} (h : FLP K H0 σ te fun es => es = ds) (hl : GO H0 σ tl lo) (hh : GO H0 σ th hi) : FLP K H0 σ (tSl (rSlL K) te tl th) fun es => es = cutD ds lo hi := fun H Q s q =>
  h H _ s fun a xs es H1 s1 h1 d1 e => hl H1 _ (s.trans s1) (hh H1 _ (s.trans s1) (by
    subst e
    have l := dpAll_len d1
    refine ⟨a, xs, rfl, .of h1, fun p np => ?_⟩
    refine q p _ _ _ (s1.trans (same_upd np)) upd_same (dpAll_same (same_upd np) (dpAll_take _ (dpAll_drop _ d1))) ?_
    rw [l]
    rfl))
theorem go_var {i : Nat} {x : Int} (e : σ[i]? = some (some (.int x))) : GO H0 σ (tPart (tVar i)) (some x) := fun _ _ _ q => ⟨_, e, x, rfl, q⟩
theorem go_next {i : Nat} {x : Int} (e : σ[i]? = some (some (.int x))) : GO H0 σ (tPart (tOp (rI0 fun i j => .int (i + j)) (tVar i) (tC (.int 1)))) (some (x + 1)) := fun _ _ _ q => ⟨_, e, x, 1, rfl, rfl, x + 1, rfl, q⟩
end
theorem cutD_to (xs : List PyData) (k : Nat) (h : k ≤ xs.length) : cutD xs none (some (k : Int)) = xs.take k := by
  unfold cutD
  rw [HT.sIx_none, HT.sIx_nat, List.drop_zero, Nat.min_eq_left h, Nat.sub_zero]
theorem cutD_from (xs : List PyData) (k : Nat) (h : k + 1 ≤ xs.length) : cutD xs (some ((k : Int) + 1)) none = xs.drop (k + 1) := by
  unfold cutD
  rw [show ((k : Int) + 1) = ((k + 1 : Nat) : Int) from rfl, HT.sIx_none, HT.sIx_nat, Nat.min_eq_left h, List.take_of_length_le (by rw [List.length_drop]; omega)]
theorem smT_one {o : PyData} (h : SmP o) : SmT (.list [o]) := fun qs e => by
  obtain ⟨p', t, rfl, h3, h4⟩ := List.map_eq_cons_iff.mp (PyData.list.inj e).symm
  cases List.map_eq_nil_iff.mp h4
  have := h p' h3.symm
  show p'.places * 1 ≤ 1000000
  omega
theorem smT_nil : SmT (.list []) := fun qs e => by
  cases List.map_eq_nil_iff.mp (PyData.list.inj e).symm
  exact (by decide : (1 : Int) ≤ 1000000)
end Ct
namespace Ct
open PySem PySem.Spec PyProof.Rows L2
theorem isC_nat {c : PyData} (h : isC c = true) : ∃ n : Nat, c = .int n := by
  match c, h with
  | .int i, h => exact ⟨i.toNat, by rw [Int.toNat_of_nonneg (of_decide_eq_true h)]⟩
theorem fine_nat {c : PyData} {n m : Nat} (f : Fine c n m) : ∀ k : Nat, c = .int k → k < 2 ^ 200 := fun k e => by
  rw [e] at f
  have h : ((k : Int)).natAbs < 2 ^ 200 := of_decide_eq_true f.ok
  exact h
end Ct

/-! a def that may raise, called where it does not -/
namespace Ct
open PySem PySem.Spec PyProof.Rows L2
theorem passE0 {P : Program} {w : World} {X : Cx} : Passes (L2.CX P w) X E0 := fun _ _ _ _ _ _ _ c => by
  obtain ⟨_, _, _, _, _, _, _, _, _, _, _, _, no⟩ := c
  exact no.elim
end Ct

/-! all(.. for .. in ..), any(.. for .. in ..): the generator's own frame -/
namespace Ct
open PySem PySem.Spec PyProof.Rows L2 GenW
/-- the table of a def's code objects, whatever it holds -/
def TabX (P : Addr) : HO := .ext fun h => ∃ ps : Array Value, h.get? P = some { cls := .none, data := .fields ps } ∧ TriplesOk ps.toList
theorem over_gen {A : Around} {elt : Expr} {gs : List Comprehension} {scope : Scope} {pos : Pos} {it acc : Value} {env : Env} : A.over (.compLoop (.GeneratorExp elt gs scope pos) 0 it acc env) [] = A.deeper env := by
  first
    | rfl
    | (obtain ⟨hd, d, fr, gu, u⟩ := A; simp [Around.over, Around.deeper, marksOver, frameCount, unitsOf, envsOf, guardsOf, pushEnvs, pushGuards, Code.envs, Code.env?, Code.isFrame, Code.guards, Code.isGuard, Code.weight, Code.frames, Code.isCreation, Code.isCaller, Code.cUnits])
theorem over_genS {A : Around} {elt : Expr} {gs : List Comprehension} {scope : Scope} {pos : Pos} {it acc : Value} {env : Env} : A.over (.compStart (.GeneratorExp elt gs scope pos) 0 it acc env) [] = A.deeper env := by
  first
    | rfl
    | (obtain ⟨hd, d, fr, gu, u⟩ := A; simp [Around.over, Around.deeper, marksOver, frameCount, unitsOf, envsOf, guardsOf, pushEnvs, pushGuards, Code.envs, Code.env?, Code.isFrame, Code.guards, Code.isGuard, Code.weight, Code.frames, Code.isCreation, Code.isCaller, Code.cUnits])
section
variable {X : Cx} {pins : List (Addr × Obj)} {σ : L2.St} {H : Hp} {s : Shared}
theorem tabx_ok {P0 : Program} {w : World} {H : Hp} {h : Heap} {P : Addr} {ps : Array Value} (hm : h.get? P = some { cls := .none, data := .fields ps }) (ht : TriplesOk ps.toList) : ObjOk P0 w H h P (TabX P) :=
  ⟨⟨ps, hm, ht⟩, ⟨_, hm⟩, fun h1 h2 ⟨qs, a, b⟩ st => ⟨qs, st _ a, b⟩⟩
/-- the table has grown, all else is kept -/
theorem inv_tabX {P : Addr} {ps : Array Value} {h' : Heap} {g' : Array GenState} {d' : Drawn} {t' : Nat} (I : Inv X pins σ H s) (hP : H P = some (TabX P)) (k : ∀ b o, b ≠ P → s.heap.get? b = some o → h'.get? b = some o)
    (hm : h'.get? P = some { cls := .none, data := .fields ps }) (ht : TriplesOk ps.toList) (hg : AllBare g') : Inv X pins σ H { s with heap := h', gens := g', drawn := d', toks := t' } := by
  have nP : ∀ b u, H b = some u → u ≠ TabX P → b ≠ P := fun b u e q z => by
    rw [z, hP] at e
    exact q (Option.some.inj e).symm
  have nN : ∀ b, H b = none → b ≠ P := fun b e z => by
    rw [z, hP] at e
    cases e
  refine I.step (g' := g') (d' := d') (ch := []) (fun b hb => absurd hb (by simp)) (fun b o _ _ _ e n => k b o (nN b n) e) (fun b o _ _ _ e n => ⟨o.slots, k b o (nN b n) e⟩)
    (fun b o _ e n => n) (fun b o _ e => ?_) (fun b xs e => e) (fun b o u e => e) (fun b qs e => ⟨#[], by rw [e]; simp⟩) (fun m hn => ?_) (fun b u e => ?_) hg
  · by_cases hb : b = P
    · rw [hb]
      exact ⟨_, hm⟩
    · exact ⟨o, k b o hb e⟩
  · obtain ⟨ob, es, ep, ho, r⟩ := hn
    exact ⟨ob, es, ep, k _ ob (nN _ I.free) ho, r⟩
  · by_cases hb2 : b = P
    · rw [hb2, hP] at e
      cases e
      rw [hb2]
      exact tabx_ok hm ht
    · refine (I.hok b u e).stay (fun d v hd q => k d v ?_ q) (fun d q => q) fun d xs q => q
      rcases hd with z | z
      · rw [z]
        exact hb2
      · exact nP d _ z (fun q => by unfold TabX at q; cases q)
/-- the context of a generator expression's frame: its iterator's objects at fp, what stands at pn -/
abbrev gxc (X : Cx) (B : Around) (s : Shared) (H : Hp) (scope : Scope) (cenv : Env) (fp : List Addr) (pn : List (Addr × Obj)) : Cx :=
  { X with A := B.deeper cenv, s_0 := s, H_0 := H, env := cenv, outer := X.stack, stack := cenv :: X.stack, ex := fp, fn := fun x => scope.names.lookup x == some .cell, pn := pn, xe := fun _ _ => False }
theorem lookup_clo {cells : List (Str × Addr)} {names : List (Str × NameKind)} {y : Str} {c : Addr} (e : (cloFrom cells names []).lookup y = some c) : (y, NameKind.free) ∈ names ∧ c = (cells.lookup y).getD 0 := by
  rcases cloFrom_mem (PySem.mem_of_lookup e) with z | z
  · cases z
  · exact z
/-- the frame is made -/
theorem gx_start {B : Around} {scope : Scope} {own : List (Str × Nat)} {fp : List Addr} {code : Value} {itv : Value} {h5 : Heap} {g5 : Array GenState} {t5 : Nat} {d5 : Drawn} {a : Addr} {go : Obj}
    (I : Inv X pins σ H s) (hB : B.frames = some X.stack) (hBh : B.handled = none) (ok : BlkOk X.N X.env.scope scope own) (hN : X.N.Nodup) (hcell : ∀ y ∈ scope.names, y.2 ≠ .cell) (hfp : ∀ b ∈ fp, FpOk X pins H b ∧ b < s.heap.objs.size)
    (hns : h5.Ns s.heap.objs.size (fun y => if y = ".0" then some itv else none)) (kp : ∀ b o, s.heap.get? b = some o → h5.get? b = some o)
    (ha : s.heap.objs.size < a) (hgo : h5.get? a = some go) (hgc : ∀ v, go.data ≠ .cell v) (hg5 : AllBare g5) :
    Inv (gxc X B s H scope (genEnv scope (cloFrom X.env.cells scope.names []) s.heap.objs.size code builtinsNs X.env) fp [(a, go)]) [] (wipe σ (own.map (·.2))) H { s with heap := h5, gens := g5, toks := t5, drawn := d5 } := by
  have hfree : ∀ y ∈ scope.names, y.2 = .free → ∃ c, X.env.cells.lookup y.1 = some c := fun y hy e => by
    rcases ok.free y hy e with k | k
    · exact I.ok.has _ (.inl k)
    · exact I.ok.has _ (.inr k)
  generalize hcenv : genEnv scope (cloFrom X.env.cells scope.names []) s.heap.objs.size code builtinsNs X.env = cenv
  have hL : cenv.locals = s.heap.objs.size := by rw [← hcenv]; rfl
  have hcl : cenv.cells = cloFrom X.env.cells scope.names [] := by rw [← hcenv]; rfl
  have hsc : cenv.scope = scope := by rw [← hcenv]; rfl
  have mem : ∀ {y c}, cenv.cells.lookup y = some c → X.env.cells.lookup y = some c ∧ c < s.heap.objs.size := fun {y c} e => by
    rw [hcl] at e
    obtain ⟨h1, rfl⟩ := lookup_clo e
    obtain ⟨c, hc⟩ := hfree _ h1 rfl
    rw [hc]
    obtain ⟨w, z⟩ := I.cell _ _ hc
    exact ⟨rfl, z.lt⟩
  have look : ∀ {y}, scope.names.lookup y = some .free → ∃ c, cenv.cells.lookup y = some c ∧ X.env.cells.lookup y = some c := fun {y} hl => by
    have hy : (y, NameKind.free) ∈ scope.names := PySem.mem_of_lookup hl
    obtain ⟨c', e'⟩ := mem_lookup (cloFrom_has (cells := X.env.cells) (acc := []) hy)
    rw [← hcl] at e'
    exact ⟨c', e', (mem e').1⟩
  have okB : (gxc X B s H scope cenv fp [(a, go)]).Ok := by
    refine ⟨I.ok.mod, by show cenv.scope.kind = _; rw [hsc]; exact ok.kind, by show cenv.globals = _; rw [← hcenv]; exact I.ok.glob, by show cenv.builtins = _; rw [← hcenv]; rfl, by show s.heap.objs.size ≤ cenv.locals; rw [hL]; exact Nat.le_refl _,
      fun y z c e1 e2 => I.ok.inj y z c (mem e1).1 (mem e2).1, fun y hy => ?_, fun y c z e => ?_, fun _ => hBh, Around.frames_deeper hB, .inr ⟨rfl, ?_⟩, fun b hb => ⟨?_, fun y c e z => ?_⟩, I.bs, Nat.le_trans I.ok.bsz I.sz, fun b o e hb => ?_, fun b hb z => ?_, I.stack, I.stkFree⟩
    · have hy : cenv.scope.names.lookup y = some .cell ∨ cenv.scope.names.lookup y = some .free := hy
      rw [hsc] at hy
      rcases hy with hy | hy
      · exact absurd rfl (hcell _ (PySem.mem_of_lookup hy))
      · obtain ⟨c, h1, _⟩ := look hy
        exact ⟨c, h1⟩
    · have z : (scope.names.lookup y == some NameKind.cell) = true := z
      have z : scope.names.lookup y = some .cell := by simpa using z
      exact absurd rfl (hcell _ (PySem.mem_of_lookup z))
    · show cenv.frame = some cenv.locals
      rw [← hcenv]
      rfl
    · show b ≠ cenv.locals
      rw [hL]
      exact Nat.ne_of_lt (hfp b hb).2
    · exact (hfp b hb).1.2.2.2.2.1 y c (mem e).1 z
    · rcases (hfp b hb).1.2.2.2.1 with z | z
      · exact I.ok.noex b o e z
      · exact absurd (Nat.lt_of_lt_of_le (Heap.lt_size e) (Nat.le_trans I.ok.bsz z)) (Nat.lt_irrefl _)
    · rcases List.mem_cons.mp (I.stkSub b z) with z | z
      · exact (hfp b hb).1.2.1 z
      · exact (hfp b hb).1.2.2.1 z
  refine ⟨okB, rfl, hg5, Un.kept kp, ⟨fun y => if y = ".0" then some itv else none, ?_, fun i y av e1 e2 e3 => ?_⟩, fun y c e => ?_, ?_, fun y c e => ?_, fun p hp => ?_, I.hok.kept kp, by rw [wipe_length]; exact I.len⟩
  · show Heap.Ns _ cenv.locals _
    rw [hL]
    exact hns
  · obtain ⟨e2, hne⟩ := wipe_some e2
    have hfr : scope.names.lookup y = some .free := by
      have e3 : Vis cenv.scope y := e3
      rw [hsc] at e3
      have no : ∀ k, scope.names.lookup y = some k → ¬ (k = .local ∨ k = .cell) := fun k e hh => by
        rcases ok.own _ (PySem.mem_of_lookup e) hh with e' | e'
        · obtain ⟨p, hp, hpy⟩ := List.mem_map.mp e'
          have e3 := ok.ix p hp
          have : p.1 = y := hpy
          rw [this] at e3
          exact hne (List.mem_map.mpr ⟨p, hp, nodup_ix hN e3 e1⟩)
        · exact e' (List.mem_of_getElem? e1)
      rcases e3 with e3 | e3 | e3
      · exact absurd (.inl rfl) (no _ e3)
      · exact absurd (.inr rfl) (no _ e3)
      · exact e3
    obtain ⟨m, hn, hl⟩ := I.loc
    have hvis : Vis X.env.scope y := (ok.free _ (PySem.mem_of_lookup hfr) rfl).elim (fun k => .inr (.inl k)) (fun k => .inr (.inr k))
    obtain ⟨w, r, q⟩ := hl i y av e1 e2 hvis
    refine ⟨w, r, .inr ⟨.inr (by show cenv.scope.names.lookup y = _; rw [hsc]; exact hfr), ?_⟩⟩
    obtain ⟨c, h1, h2⟩ := look hfr
    rcases q with ⟨k, _⟩ | ⟨_, c', e', z⟩
    · have k : X.env.scope.names.lookup y = some .local := k
      rcases ok.free _ (PySem.mem_of_lookup hfr) rfl with k' | k' <;> rw [show X.env.scope.names.lookup y = _ from k'] at k <;> cases k
    · rw [h2] at e'
      cases e'
      exact ⟨c, h1, z.keeps kp⟩
  · obtain ⟨w, z⟩ := I.cell y c (mem e).1
    exact ⟨w, z.keeps kp⟩
  · show H cenv.locals = none
    rw [hL]
    exact I.hok.fresh (Nat.le_refl _)
  · exact I.freeC y c (mem e).1
  · have hp : p ∈ [(a, go)] ++ [] := hp
    rw [List.append_nil, List.mem_singleton] at hp
    subst hp
    refine ⟨hgo, I.hok.fresh (Nat.le_of_lt ha), ?_, ?_, hgc⟩
    · show a ≠ cenv.locals
      rw [hL]
      exact Nat.ne_of_gt ha
    · show a ∉ frs X.stack
      intro z
      rcases List.mem_cons.mp (I.stkSub a z) with z | z
      · have h1 := I.lt
        rw [← z] at h1
        exact Nat.lt_irrefl _ (Nat.lt_trans h1 ha)
      · exact I.nofs (Nat.le_of_lt ha) z
end
end Ct
namespace Ct
open PySem PySem.Spec PyProof.Rows L2 GenW
section
variable {X : Cx}
/-- what is known where the whole is done: b the answer -/
def GFin (P : Program) (w : World) (fr fp : List Addr) (H4 : Hp) (h4 : Heap) (Q : VK) (b : Bool) (h : Heap) : Prop := ∃ H', Un fr fp H4 H' h4 h ∧ HOk P w H' h ∧ Q (.bl b) H'
def GDone (P : Program) (w : World) (fr fp : List Addr) (H4 : Hp) (s4 : Shared) (Q : VK) (st : Bool) : Nat → Shared → Shared → Prop := fun _ _ s1 => s1.os = s4.os ∧ AllBare s1.gens ∧ GFin P w fr fp H4 s4.heap Q (!st) s1.heap
/-- the generator hands out a truth: the one that ends the walk, or another one, and goes on -/
def GYld (P : Program) (w : World) (fr fp : List Addr) (H4 : Hp) (s4 : Shared) (Q : VK) (st : Bool) (a : Addr) (g : Nat) : Protocol := fun _ _ v s1 kap =>
  ∃ b, v = .bool b ∧ s1.os = s4.os ∧ AllBare s1.gens ∧ s1.heap.NoLimit ∧ s1.heap.IsGen a g ∧ (if b = st then GFin P w fr fp H4 s4.heap Q st s1.heap else ∀ s' : Shared, s'.heap = s1.heap → s'.os = s1.os → AllBare s'.gens → kap (.send .none) s')
/-- all(..) with st = false, any(..) with st = true -/
def tGen (P : Addr) (st : Bool) (wi : TI) (g : TG) (te : TE) (vs : List Nat) : TE := fun σ H Q => wi σ H fun J H1 => H1 P = some (TabX P) ∧ ∃ W : Nat → Nat → Hp → Prop, (∃ m, W 0 m H1) ∧ ∀ i m H, W i m H →
  (J.stop i H ∧ Q (.bl (!st)) H) ∨ (J.go i H ∧ ∃ Nx : Hp → Prop, (∀ H', Nx H' → ∃ m', m' < m ∧ W (i + 1) m' H') ∧ ∀ x H', J.yld i H x H' → g x (wipe σ vs) H' fun σ2 H2 => wipe σ2 vs = wipe σ vs ∧ te σ2 H2 fun y H3 => ∃ b, y = .bl b ∧ if b = st then Q (.bl st) H3 else Nx H3)

theorem seg_gx {B : Around} {scope : Scope} {own : List (Str × Nat)} {fp : List Addr} {s4 : Shared} {H4 : Hp} {cenv : Env} {a : Addr} {go : Obj} {gn : Nat} {elt tg iter : Expr} {pos : Pos} {it : Addr} {tn : Nat → Heap → Prop} {J : It} {g : TG} {te : TE} {σ : L2.St} {Q : VK} {st : Bool} {W : Nat → Nat → Hp → Prop}
    (hc : X.calm = true) (hco : cenv.scope.isCoroutine = false) (hgn : ∀ h : Heap, h.get? a = some go → h.IsGen a gn)
    (T : Turn X.prog X.w X.K tg J fp it tn) (pg : PG (gxc X B s4 H4 scope cenv fp [(a, go)]) tg g) (pe : PE (gxc X B s4 H4 scope cenv fp [(a, go)]) elt te) (hfa : ∀ b ∈ fp, b ≠ a)
    (turn : ∀ i m H, W i m H → (J.stop i H ∧ Q (.bl (!st)) H) ∨ (J.go i H ∧ ∃ Nx : Hp → Prop, (∀ H', Nx H' → ∃ m', m' < m ∧ W (i + 1) m' H') ∧ ∀ x H', J.yld i H x H' → g x (wipe σ (own.map (·.2))) H' fun σ2 H2 => wipe σ2 (own.map (·.2)) = wipe σ (own.map (·.2)) ∧ te σ2 H2 fun y H3 => ∃ b, y = .bl b ∧ if b = st then Q (.bl st) H3 else Nx H3)) :
    ∀ (m n : Nat), m < n → ∀ (i : Nat) (s₀ s : Shared) (H : Hp), W i m H → Inv (gxc X B s4 H4 scope cenv fp [(a, go)]) [] (wipe σ (own.map (·.2))) H s → tn i s.heap → (∀ b ∈ fp, H b = none) →
      Seg (model X.prog X.w) B (fun n s₀ r s₁ => r = .ok .next ∧ GDone X.prog X.w (frs X.stack) fp H4 s4 Q st n s₀ s₁) (GYld X.prog X.w (frs X.stack) fp H4 s4 Q st a gn) n s₀
        (.compLoop (.GeneratorExp elt [⟨tg, iter, [], 0⟩] scope pos) 0 (.ref it) .none cenv)
        ((model X.prog X.w).den (.compLoop (.GeneratorExp elt [⟨tg, iter, [], 0⟩] scope pos) 0 (.ref it) .none cenv)) [] s := by
  intro m
  induction m using Nat.strongRecOn with
  | ind m ih =>
    intro n hmn i s₀ s H w I st5 n5
    have stat : ∀ {σ' : L2.St} {H' : Hp} {s' : Shared}, Inv (gxc X B s4 H4 scope cenv fp [(a, go)]) [] σ' H' s' → (∀ b ∈ fp, H' b = none) → ∀ b ∈ fp, FpOk (gxc X B s4 H4 scope cenv fp [(a, go)]) [] H' b := fun {σ' H' s'} I' hn b hb =>
      ⟨hn b hb, (I'.ok.exf b hb).1, I'.ok.exfs b hb, .inl hb, fun x c e => (I'.ok.exf b hb).2 x c e, fun p hp => by
        have hp : p ∈ [(a, go)] ++ [] := hp
        rw [List.append_nil, List.mem_singleton] at hp
        subst hp
        exact fun z => hfa b hb z.symm⟩
    have pinned : ∀ {pins' : List (Addr × Obj)} {σ' : L2.St} {H' : Hp} {s' : Shared}, Inv (gxc X B s4 H4 scope cenv fp [(a, go)]) pins' σ' H' s' → s'.heap.IsGen a gn := fun {pins' σ' H' s'} I' =>
      hgn _ (I'.pin (a, go) (List.mem_append_left _ (List.mem_singleton.mpr rfl))).1
    show Seg _ B _ _ _ s₀ _ ((compTurn (.GeneratorExp elt [⟨tg, iter, [], 0⟩] scope pos) 0 (.ref it) .none cenv).onRaise (leaving cenv)) [] s
    rw [compTurn_gen, Sem.onRaise_eq_wrap]
    refine seg_bind_wrap (wpAny_standAt ?_)
    rcases turn i m H w with ⟨stop, qq⟩ | ⟨goes, Nx, hNx, step⟩
    · refine seg_bind_wrap ?_
      rw [over_gen]
      refine wpAny_mono (T.done (gxc X B s4 H4 scope cenv fp [(a, go)]) rfl rfl rfl hc i [] s _ H (fun _ _ => False) I (stat I n5) st5 stop) (fun r s6 hr => ?_) (fun _ _ z => z.elim)
      obtain ⟨rfl, I6⟩ := hr
      exact seg_end (.ok .next) ⟨rfl, I6.os, I6.bare, H, I6.base, I6.hok, qq⟩
    · refine seg_bind_wrap ?_
      rw [over_gen]
      refine wpAny_mono (T.item (gxc X B s4 H4 scope cenv fp [(a, go)]) rfl rfl rfl hc i [] s _ H (fun _ _ => False) I (stat I n5) st5 goes) (fun r s6 hr => ?_) (fun _ _ z => z.elim)
      obtain ⟨u, rfl, h6⟩ := hr
      refine seg_bind_wrap ?_
      rw [over_gen]
      refine wpAny_mono h6 (fun _ s7 h7 => ?_) (fun _ _ z => z.elim)
      obtain ⟨x, H7, I7, r7, y7, st7, n7⟩ := h7
      have I7' := I7.pinned (stat I7 n7) (T.obj _ _ st7)
      refine seg_bind_wrap ?_
      rw [over_gen]
      refine wpAny_mono (pg.run _ s7 _ H7 x u _ I7' r7 (step x H7 y7)) (fun _ s8 h8 => ?_) (fun _ _ z => z.elim)
      obtain ⟨σ8, H8, I8, hw8, q8⟩ := h8
      refine seg_bind_wrap (wpAny_tests_nil ?_)
      simp only [if_true]
      have hy : ∀ v, yieldOut cenv v = yieldValue v := fun v => by simp only [yieldOut, hco, Bool.false_eq_true, if_false]
      simp only [hy]
      rw [Sem.bind_eq_wrap', Sem.bind_eq_wrap', Sem.wrap_wrap, Sem.wrap_wrap]
      refine seg_wrap ?_
      rw [over_gen]
      refine wpAny_mono (pe.run _ s8 σ8 H8 _ I8 q8) (fun z s9 h9 => ?_) (fun _ _ z => z.elim)
      obtain ⟨y, H9, I9, r9, b, rfl, q9⟩ := h9
      have r9 : z = Value.bool b := r9
      subst r9
      have hlim : s9.heap.NoLimit := I9.nolimit
      by_cases hb : b = st
      · obtain ⟨k, rfl⟩ : ∃ k, n = k + 1 := ⟨n - 1, by omega⟩
        rw [if_pos hb] at q9
        refine seg_at (seg_yield rfl rfl rfl ⟨b, rfl, I9.os, I9.bare, hlim, pinned I9, ?_⟩)
        rw [if_pos hb]
        exact ⟨H9, I9.base, I9.hok, q9⟩
      · rw [if_neg hb] at q9
        obtain ⟨m', hm, w'⟩ := hNx H9 q9
        obtain ⟨k, rfl⟩ : ∃ k, n = k + 1 := ⟨n - 1, by omega⟩
        refine seg_at (seg_yield rfl rfl rfl ⟨b, rfl, I9.os, I9.bare, hlim, pinned I9, ?_⟩)
        rw [if_neg hb]
        intro s' e1 e2 e3
        have pin' : ∀ b ∈ fp, ∀ o, s7.heap.get? b = some o → s9.heap.get? b = some o ∧ H9 b = none := fun b hb o e =>
          let z := I9.pin (b, o) (List.mem_append_right _ (List.mem_append_right _ (mem_pinsAt hb e)))
          ⟨z.1, z.2.1⟩
        have hl : (wipe σ (own.map (·.2))).length = σ8.length := by rw [← hw8, wipe_length]
        have I10 : Inv (gxc X B s4 H4 scope cenv fp [(a, go)]) [] (wipe σ (own.map (·.2))) H9 s9 := (I9.unpinned (pins := [])).weak hl (fun j v e => by
          rw [← hw8] at e
          exact (wipe_some e).1)
        have I11 : Inv (gxc X B s4 H4 scope cenv fp [(a, go)]) [] (wipe σ (own.map (·.2))) H9 s' := by
          refine I10.call' (ch := []) e2 (Un.kept fun b o e => by rw [e1]; exact e) (by rw [e1]; exact I10.hok) e3 fun b z => by simp at z
        refine seg_again rfl (ih m' hm k (by omega) (i + 1) s' s' H9 w' I11 ?_ fun b hb => ?_)
        · rw [e1]
          exact T.keep _ _ _ st7 fun b hb o e => (pin' b hb o e).1
        · obtain ⟨o, e, _⟩ := T.obj _ _ st7 b hb
          exact (pin' b hb o e).2
end
end Ct
namespace Ct
open PySem PySem.Spec PyProof.Rows L2 GenW
section
variable {P : Program} {w : World} {A : Around} {fr fp : List Addr} {H4 : Hp} {s4 : Shared} {Q : VK} {a : Addr} {g : Nat} {R : Result → Shared → Prop}
theorem all_gx (hh : A.handled = none) (hd : A.depth < recursionLimit) (hend : ∀ b (s' : Shared), s'.os = s4.os → AllBare s'.gens → GFin P w fr fp H4 s4.heap Q b s'.heap → R (.ok (.ret (.bool b))) s') :
    ∀ (m : Nat) (s : Shared), s.heap.IsGen a g → s.heap.NoLimit →
      (∃ gs, s.gens[g]? = some gs ∧ gs.Goes (model P w) A.in1.in1 (fun n s₀ r s₁ => r = .ok .next ∧ GDone P w fr fp H4 s4 Q false n s₀ s₁) (GYld P w fr fp H4 s4 Q false a g) m (.send .none) (s.setGen g .running)) →
      codeAny (model P w) A (.builtin "all.loop" ⟨[.ref a], []⟩) R s := by
  intro m
  induction m with
  | zero =>
    intro s hg hl ⟨gs, hgs, hgo⟩
    refine codeAny_builtin F.entry_all_loop ?_
    rw [Around.under_plainId F.plain_all_loop _]
    show wpAny _ A.in1 (pyNext (.ref a) >>= _) _ _ s
    refine wpAny_bind (wpAny_pyNext_genexpQ (A := A.in1) hh hl hd hg hgs hgo (fun v s₁ gs' hbare hv => ?_) (fun s₁ hp h' hk => ?_))
    · obtain ⟨b, rfl, os1, hb1, hl1, hg1, q⟩ := hv
      refine wpAny_bind (wpAny_holding (wpAny_truthy_bool ?_))
      refine wpAny_bind (wpAny_letGo ?_)
      by_cases hb : b = false
      · rw [if_pos hb] at q
        subst hb
        simp only [Bool.false_eq_true, if_false]
        refine wpAny_bind (wpAny_rule (wpAny_pure ?_))
        exact hend false _ os1 (allBare_setGen hb1 hbare) q
      · rw [if_neg hb] at q
        exact False.elim (q s₁ rfl rfl hb1)
    · obtain ⟨os1, hb1, H', un, hok, hQ⟩ := hp
      refine wpAny_bind (wpAny_rule (wpAny_pure ?_))
      exact hend true _ os1 (allBare_setGen hb1 rfl) ⟨H', un.trans (Un.kept hk), hok.kept hk, hQ⟩
  | succ m ih =>
    intro s hg hl ⟨gs, hgs, hgo⟩
    have hgl : g < s.gens.size := (Array.getElem?_eq_some_iff.mp hgs).1
    refine codeAny_builtin F.entry_all_loop ?_
    rw [Around.under_plainId F.plain_all_loop _]
    show wpAny _ A.in1 (pyNext (.ref a) >>= _) _ _ s
    refine wpAny_bind (wpAny_gsz (n := g + 1) hgl (wpAny_pyNext_genexpQ (A := A.in1) hh hl hd hg hgs hgo (fun v s₁ gs' hbare hv => ?_) (fun s₁ hp h' hk => ?_)))
    · intro hsz
      obtain ⟨b, rfl, os1, hb1, hl1, hg1, q⟩ := hv
      refine wpAny_bind (wpAny_holding (wpAny_truthy_bool ?_))
      refine wpAny_bind (wpAny_letGo ?_)
      have hsz1 : g < s₁.gens.size := by
        have q : (s₁.setGen g gs').gens.size = s₁.gens.size := setGen_size _ _ _
        have hsz' : g + 1 ≤ (s₁.setGen g gs').gens.size := hsz
        omega
      by_cases hb : b = false
      · rw [if_pos hb] at q
        subst hb
        simp only [Bool.false_eq_true, if_false]
        refine wpAny_bind (wpAny_rule (wpAny_pure ?_))
        exact hend false _ os1 (allBare_setGen hb1 hbare) q
      · rw [if_neg hb] at q
        have hb2 : b = true := by
          cases b with
          | true => rfl
          | false => exact absurd rfl hb
        subst hb2
        simp only [if_true]
        refine wpAny_pure ⟨plainId_quiet F.plain_all_loop _, ?_⟩
        exact ih (s₁.setGen g gs') hg1 hl1 ⟨gs', setGen_at hsz1, q _ rfl rfl (allBare_setGen (allBare_setGen hb1 hbare) rfl)⟩
    · intro _
      obtain ⟨os1, hb1, H', un, hok, hQ⟩ := hp
      refine wpAny_bind (wpAny_rule (wpAny_pure ?_))
      exact hend true _ os1 (allBare_setGen hb1 rfl) ⟨H', un.trans (Un.kept hk), hok.kept hk, hQ⟩
theorem any_gx (hh : A.handled = none) (hd : A.depth < recursionLimit) (hend : ∀ b (s' : Shared), s'.os = s4.os → AllBare s'.gens → GFin P w fr fp H4 s4.heap Q b s'.heap → R (.ok (.ret (.bool b))) s') :
    ∀ (m : Nat) (s : Shared), s.heap.IsGen a g → s.heap.NoLimit →
      (∃ gs, s.gens[g]? = some gs ∧ gs.Goes (model P w) A.in1.in1 (fun n s₀ r s₁ => r = .ok .next ∧ GDone P w fr fp H4 s4 Q true n s₀ s₁) (GYld P w fr fp H4 s4 Q true a g) m (.send .none) (s.setGen g .running)) →
      codeAny (model P w) A (.builtin "any.loop" ⟨[.ref a], []⟩) R s := by
  intro m
  induction m with
  | zero =>
    intro s hg hl ⟨gs, hgs, hgo⟩
    refine codeAny_builtin F.entry_any_loop ?_
    rw [Around.under_plainId F.plain_any_loop _]
    show wpAny _ A.in1 (pyNext (.ref a) >>= _) _ _ s
    refine wpAny_bind (wpAny_pyNext_genexpQ (A := A.in1) hh hl hd hg hgs hgo (fun v s₁ gs' hbare hv => ?_) (fun s₁ hp h' hk => ?_))
    · obtain ⟨b, rfl, os1, hb1, hl1, hg1, q⟩ := hv
      refine wpAny_bind (wpAny_holding (wpAny_truthy_bool ?_))
      refine wpAny_bind (wpAny_letGo ?_)
      by_cases hb : b = true
      · rw [if_pos hb] at q
        subst hb
        simp only [if_true]
        refine wpAny_bind (wpAny_rule (wpAny_pure ?_))
        exact hend true _ os1 (allBare_setGen hb1 hbare) q
      · rw [if_neg hb] at q
        exact False.elim (q s₁ rfl rfl hb1)
    · obtain ⟨os1, hb1, H', un, hok, hQ⟩ := hp
      refine wpAny_bind (wpAny_rule (wpAny_pure ?_))
      exact hend false _ os1 (allBare_setGen hb1 rfl) ⟨H', un.trans (Un.kept hk), hok.kept hk, hQ⟩
  | succ m ih =>
    intro s hg hl ⟨gs, hgs, hgo⟩
    have hgl : g < s.gens.size := (Array.getElem?_eq_some_iff.mp hgs).1
    refine codeAny_builtin F.entry_any_loop ?_
    rw [Around.under_plainId F.plain_any_loop _]
    show wpAny _ A.in1 (pyNext (.ref a) >>= _) _ _ s
    refine wpAny_bind (wpAny_gsz (n := g + 1) hgl (wpAny_pyNext_genexpQ (A := A.in1) hh hl hd hg hgs hgo (fun v s₁ gs' hbare hv => ?_) (fun s₁ hp h' hk => ?_)))
    · intro hsz
      obtain ⟨b, rfl, os1, hb1, hl1, hg1, q⟩ := hv
      refine wpAny_bind (wpAny_holding (wpAny_truthy_bool ?_))
      refine wpAny_bind (wpAny_letGo ?_)
      have hsz1 : g < s₁.gens.size := by
        have q : (s₁.setGen g gs').gens.size = s₁.gens.size := setGen_size _ _ _
        have hsz' : g + 1 ≤ (s₁.setGen g gs').gens.size := hsz
        omega
      by_cases hb : b = true
      · rw [if_pos hb] at q
        subst hb
        simp only [if_true]
        refine wpAny_bind (wpAny_rule (wpAny_pure ?_))
        exact hend true _ os1 (allBare_setGen hb1 hbare) q
      · rw [if_neg hb] at q
        have hb2 : b = false := by
          cases b with
          | false => rfl
          | true => exact absurd rfl hb
        subst hb2
        simp only [Bool.false_eq_true, if_false]
        refine wpAny_pure ⟨plainId_quiet F.plain_any_loop _, ?_⟩
        exact ih (s₁.setGen g gs') hg1 hl1 ⟨gs', setGen_at hsz1, q _ rfl rfl (allBare_setGen (allBare_setGen hb1 hbare) rfl)⟩
    · intro _
      obtain ⟨os1, hb1, H', un, hok, hQ⟩ := hp
      refine wpAny_bind (wpAny_rule (wpAny_pure ?_))
      exact hend false _ os1 (allBare_setGen hb1 rfl) ⟨H', un.trans (Un.kept hk), hok.kept hk, hQ⟩
end
end Ct
namespace Ct
open PySem PySem.Spec PyProof.Rows L2 GenW
section
variable {X : Cx}
theorem gen_eval {pins : List (Addr × Obj)} {σ : L2.St} {H : Hp} {s : Shared} {Q : VK} {c P : Addr} {elt tg iter : Expr} {scope : Scope} {own : List (Str × Nat)} {pos : Pos} {wi : TI} {g : TG} {te : TE} {st : Bool} {k : Nat} {Q' : Value → Shared → Prop}
    (hr : Room (k + 1) X.A) (hc : X.calm = true) (hN : X.N.Nodup) (TB : GxR.TabB X.base X.mg c P) (hcode : X.env.code = .ref c) (hi : PI X tg iter wi) (ok : BlkOk X.N X.env.scope scope own) (hcell : ∀ y ∈ scope.names, y.2 ≠ .cell) (hco : scope.isCoroutine = false) (hdot : scope.names.lookup (".0" : Str) = some NameKind.local)
    (hg : ∀ (s : Shared) (H : Hp) (C : Addr) (cl : List (Str × Addr)) (cd : Value) (fp : List Addr) (pn : List (Addr × Obj)) (B : Around), PG (gxc X B s H scope (genEnv scope cl C cd builtinsNs X.env) fp pn) tg g)
    (he : ∀ (s : Shared) (H : Hp) (C : Addr) (cl : List (Str × Addr)) (cd : Value) (fp : List Addr) (pn : List (Addr × Obj)) (B : Around), Room k (B.deeper (genEnv scope cl C cd builtinsNs X.env)) → PE (gxc X B s H scope (genEnv scope cl C cd builtinsNs X.env) fp pn) elt te)
    (hs : ∀ x, genFold iter X.env x = pure x) (I : Inv X pins σ H s) (h : tGen P st wi g te (own.map (·.2)) σ H Q)
    (hQ : ∀ (a : Addr) (gn : Nat) (s4 s5 : Shared) (H4 : Hp) (fp : List Addr) (m : Nat) (gs : GenState), Inv X pins σ H4 s4 → (∀ b ∈ fp, FpOk X pins H4 b) → s5.heap.IsGen a gn → s5.heap.NoLimit → s5.gens[gn]? = some gs →
      gs.Goes (model X.prog X.w) X.A.in1.in1 (fun n s₀ r s₁ => r = .ok .next ∧ GDone X.prog X.w (frs X.stack) fp H4 s4 Q st n s₀ s₁) (GYld X.prog X.w (frs X.stack) fp H4 s4 Q st a gn) m (.send .none) (s5.setGen gn .running) → Q' (.ref a) s5) :
    wpAny (model X.prog X.w) X.A (eval (.GeneratorExp elt [⟨tg, iter, [], 0⟩] scope pos) X.env) Q' X.xe s := by
  have hfree : ∀ y ∈ scope.names, y.2 = .free → ∃ c, X.env.cells.lookup y.1 = some c := fun y hy e => by
    rcases ok.free y hy e with k | k
    · exact I.ok.has _ (.inl k)
    · exact I.ok.has _ (.inr k)
  refine wpAny_GeneratorExp_make hco (closure_ok hfree) hcell hdot ok.kind hr.depth (thn (hi.run pins s σ H _ I h) fun xv s1 hx => thn hx fun itv s2 h2 => ?_) hs
  obtain ⟨it, fp, tn, J, H2, rfl, I2, T, st2, f2, hTab, W, ⟨m0, w0⟩, turn⟩ := h2
  obtain ⟨⟨ps, hP2, ht⟩, _, _⟩ := I2.hok P _ hTab
  have hPlt : P < s2.heap.objs.size := Heap.lt_size hP2
  have cd : PySem.W.CodeHd s2.heap c P := TB.code.keeps I2.bk
  have nP : ∀ b, H2 b = none → b ≠ P := fun b e z => by
    rw [z, hTab] at e
    cases e
  have cont : ∀ (code : Value) (h3 : Heap) (tk : Nat) (ps' : Array Value), Heap.ExtBut P s2.heap h3 → s2.heap.objs.size ≤ h3.objs.size → h3.get? P = some { cls := .none, data := .fields ps' } → TriplesOk ps'.toList →
      wpAny (model X.prog X.w) X.A (builtinsFor X.env.globals X.env.builtins) (fun bi s₄ =>
        ∀ h', h'.Ns s₄.heap.objs.size (fun y => if y = ".0" then some (Value.ref it) else none) → Heap.SameBut s₄.heap.objs.size (s₄.heap.push { cls := .type "frame", data := .dict #[] }) h' →
          Q' (.ref h'.objs.size) { s₄ with
            gens := s₄.gens.push (.fresh (.compStart (.GeneratorExp elt [⟨tg, iter, [], 0⟩] scope pos) 0 (.ref it) .none (genEnv scope (cloFrom X.env.cells scope.names []) s₄.heap.objs.size code bi X.env))),
            toks := s₄.toks + 1 + 1 + 1,
            heap := h'.push { cls := .type "generator", data := .fields #[.int s₄.gens.size 0, .str "<genexpr>" (s₄.toks + 1), .str (X.env.qual ++ "<genexpr>") (s₄.toks + 1 + 1)] } }) X.xe { s2 with heap := h3, toks := tk } := by
    intro code h3 tk ps' hx hsz hP3 ht3
    obtain ⟨bm, ob, e1, e2, e3, e4, e5, e6, e7, e8⟩ := TB.bm
    have keep3 : ∀ b u, b ≠ P → s2.heap.get? b = some u → h3.get? b = some u := fun b u hb e => hx b u hb e
    refine wpAny_builtinsFor (m := X.mg) (by rw [I2.ok.glob]; exact (I2.mod.glob.keeps I2.bk).extBut hx TB.gP) e1 e2 (keep3 _ _ e4 (I2.bk _ _ e5)) e6 e7 e8 ?_
    intro h' hn' hs'
    have I4 : Inv X pins σ H2 { s2 with heap := h3, toks := tk } := inv_tabX (g' := s2.gens) (d' := s2.drawn) (t' := tk) I2 hTab keep3 hP3 ht3 I2.bare
    generalize hs4 : ({ s2 with heap := h3, toks := tk } : Shared) = s4 at *
    have h4 : s4.heap = h3 := by rw [← hs4]
    have keep' : ∀ b o, s4.heap.get? b = some o → h'.get? b = some o := fun b o e => hs'.extBut b o (Nat.ne_of_lt (Heap.lt_size e)) (Heap.get?_push_of_some _ e)
    have hsz' : h'.objs.size = s4.heap.objs.size + 1 := by rw [hs'.1, Heap.size_push]
    generalize hgo : ({ cls := .type "generator", data := .fields #[.int s4.gens.size 0, .str "<genexpr>" (s4.toks + 1), .str (X.env.qual ++ "<genexpr>") (s4.toks + 1 + 1)] } : Obj) = go
    have hgn : ∀ h : Heap, h.get? h'.objs.size = some go → h.IsGen h'.objs.size s4.gens.size := fun h e => ⟨go, _, _, e, by rw [← hgo], by rw [← hgo], by rw [← hgo]⟩
    have keep5 : ∀ b o, s4.heap.get? b = some o → (h'.push go).get? b = some o := fun b o e => Heap.get?_push_of_some _ (keep' b o e)
    have hgoat : (h'.push go).get? h'.objs.size = some go := Heap.get?_push_size _ (by rw [← hgo]; rfl)
    have f4 : ∀ b ∈ fp, FpOk X pins H2 b ∧ b < s4.heap.objs.size := fun b hb => by
      obtain ⟨o, e, _⟩ := T.obj _ _ st2 b hb
      refine ⟨f2 b hb, ?_⟩
      rw [h4]
      exact Heap.lt_size (keep3 b o (nP b (f2 b hb).1) e)
    have kfp : ∀ b ∈ fp, ∀ o, s2.heap.get? b = some o → (h'.push go).get? b = some o := fun b hb o e => keep5 b o (by rw [h4]; exact keep3 b o (nP b (f2 b hb).1) e)
    have lim5 : (h'.push go).NoLimit := I4.nolimit.keeps keep5
    refine hQ h'.objs.size s4.gens.size s4 _ H2 fp (m0 + 1) _ I4 f2 (hgn _ hgoat) lim5 (Array.getElem?_push_size ..) ?_
    have hns5 : (h'.push go).Ns s4.heap.objs.size (fun y => if y = ".0" then some (Value.ref it) else none) := hn'.push _
    have hfa : ∀ b ∈ fp, b ≠ h'.objs.size := fun b hb => by
      have := (f4 b hb).2
      intro z
      rw [z, hsz'] at this
      exact absurd (Nat.lt_trans (Nat.lt_succ_self _) this) (Nat.lt_irrefl _)
    have J5 : ∀ (g5 : Array GenState), AllBare g5 → Inv (gxc X X.A.in1.in1 s4 H2 scope (genEnv scope (cloFrom X.env.cells scope.names []) s4.heap.objs.size code builtinsNs X.env) fp [(h'.objs.size, go)]) [] (wipe σ (own.map (·.2))) H2 { s4 with heap := h'.push go, gens := g5, toks := s4.toks + 1 + 1 + 1, drawn := s4.drawn } := fun g5 b5 =>
      gx_start (B := X.A.in1.in1) I4 I4.ok.frames hr.hd ok hN hcell f4 hns5 keep5 (by rw [hsz']; exact Nat.lt_succ_self _) hgoat (fun v z => by rw [← hgo] at z; cases z) b5
    have room : Room k (X.A.in1.in1.deeper (genEnv scope (cloFrom X.env.cells scope.names []) s4.heap.objs.size code builtinsNs X.env)) :=
      ⟨hr.hd, by have := hr.dp; show X.A.depth + 1 + 3 * k + 5 < _; omega, by have := hr.un; show X.A.units + 1 + 1 + 3 + 16 * k + 200 < _; omega⟩
    have b5 : AllBare ((s4.gens.push (.fresh (.compStart (.GeneratorExp elt [⟨tg, iter, [], 0⟩] scope pos) 0 (.ref it) .none (genEnv scope (cloFrom X.env.cells scope.names []) s4.heap.objs.size code builtinsNs X.env)))).setIfInBounds s4.gens.size .running) :=
      allBare_setGen (s := { s4 with gens := s4.gens.push (.fresh (.compStart (.GeneratorExp elt [⟨tg, iter, [], 0⟩] scope pos) 0 (.ref it) .none (genEnv scope (cloFrom X.env.cells scope.names []) s4.heap.objs.size code builtinsNs X.env))) }) (g := s4.gens.size) (AllBare.push I4.bare rfl) rfl
    have loop := seg_gx (iter := iter) (pos := pos) (σ := σ) (own := own) (Q := Q) (st := st) hc hco hgn T (hg s4 H2 _ _ code fp [(h'.objs.size, go)] X.A.in1.in1) (he s4 H2 _ _ code fp [(h'.objs.size, go)] X.A.in1.in1 room) hfa turn m0 (m0 + 1) (Nat.lt_succ_self _) 0
      (Shared.setGen { s4 with heap := h'.push go, gens := s4.gens.push (.fresh (.compStart (.GeneratorExp elt [⟨tg, iter, [], 0⟩] scope pos) 0 (.ref it) .none (genEnv scope (cloFrom X.env.cells scope.names []) s4.heap.objs.size code builtinsNs X.env))), toks := s4.toks + 1 + 1 + 1 } s4.gens.size .running)
      (Shared.setGen { s4 with heap := h'.push go, gens := s4.gens.push (.fresh (.compStart (.GeneratorExp elt [⟨tg, iter, [], 0⟩] scope pos) 0 (.ref it) .none (genEnv scope (cloFrom X.env.cells scope.names []) s4.heap.objs.size code builtinsNs X.env))), toks := s4.toks + 1 + 1 + 1 } s4.gens.size .running)
      H2 w0 (J5 _ b5) (T.keep _ _ _ st2 kfp) (fun b hb => (f2 b hb).1)
    refine ⟨rfl, ?_⟩
    show Seg _ X.A.in1.in1 _ _ _ _ _ ((compStart (.GeneratorExp elt [⟨tg, iter, [], 0⟩] scope pos) 0 (.ref it) .none (genEnv scope (cloFrom X.env.cells scope.names []) s4.heap.objs.size code builtinsNs X.env)).onRaise (leaving (genEnv scope (cloFrom X.env.cells scope.names []) s4.heap.objs.size code builtinsNs X.env))) [] _
    unfold compStart
    rw [Sem.onRaise_eq_wrap]
    show Seg _ X.A.in1.in1 _ _ _ _ _ ((ask >>= _).wrap _ _ _ _) [] _
    refine seg_bind_wrap (wpAny_askSetting ?_)
    split
    · exact seg_again rfl loop
    · first
        | exact seg_bind_wrap (wpAny_rule (seg_bind_wrap (wpAny_standAt (seg_bind_wrap (T.self _ 0 _ _ _ (T.keep _ _ _ st2 kfp) (seg_again rfl loop))))))
        | (refine seg_bind_wrap (wpAny_rule ?_); show Seg _ _ _ _ _ _ _ ((standAt iter.pos >>= _).wrap _ _ _ _) [] _; exact seg_bind_wrap (wpAny_standAt (seg_bind_wrap (T.self _ 0 _ _ _ (T.keep _ _ _ st2 kfp) (seg_again rfl loop)))))
  refine ⟨I2.nolimit, ?_⟩
  cases hf : codeAmong pos ps.toList with
  | none =>
    refine wpAny_genexprCodeX hcode (cd.code hP2 ht) (cd.tab hP2) hf fun c' h' tk hx hge hlt hco' _ htab' _ => ?_
    obtain ⟨o1, vs, f1, tf, fl, tg, inF, tx, tt, op, _, _, _, _, _, _, _, _, _, htr, _⟩ := hco'
    exact cont _ h' tk _ hx (Nat.le_trans hge (Nat.le_of_lt hlt)) htab'.2 htr
  | some cv =>
    refine wpAny_genexprCode_hit hcode (cd.code hP2 ht) hf ?_
    exact cont cv s2.heap s2.toks ps (Heap.ExtBut.refl _ _) (Nat.le_refl _) hP2 ht
end
end Ct
namespace Ct
open PySem PySem.Spec PyProof.Rows L2 GenW
section
variable {X : Cx}
theorem gx_end {pins : List (Addr × Obj)} {σ : L2.St} {H4 : Hp} {s4 s' : Shared} {fp : List Addr} {Q : VK} {b : Bool} (I4 : Inv X pins σ H4 s4) (f4 : ∀ b ∈ fp, FpOk X pins H4 b) (os : s'.os = s4.os) (bare : AllBare s'.gens) (h : GFin X.prog X.w (frs X.stack) fp H4 s4.heap Q b s'.heap) : EP X pins σ Q (.bool b) s' := by
  obtain ⟨H', un, hok, q⟩ := h
  exact ⟨.bl b, H', I4.call' (ch := fp) os un hok bare fun b hb => ⟨(f4 b hb).2.2.2.1, (f4 b hb).2.1, (f4 b hb).2.2.2.2.1, (f4 b hb).2.2.2.2.2⟩, rfl, q⟩
/-- all(elt for tg in iter) -/
theorem pe_allX {c P : Addr} {elt tg iter : Expr} {scope : Scope} {own : List (Str × Nat)} {p pos gpos : Pos} {wi : TI} {g : TG} {te : TE} {k : Nat}
    (hr : Room (k + 1) X.A) (hgl : Gl X "all") (hm : X.mg "all" = none) (hc : X.calm = true) (hN : X.N.Nodup) (TB : GxR.TabB X.base X.mg c P) (hcode : X.env.code = .ref c) (hi : PI X tg iter wi) (ok : BlkOk X.N X.env.scope scope own) (hcell : ∀ y ∈ scope.names, y.2 ≠ .cell) (hco : scope.isCoroutine = false) (hdot : scope.names.lookup (".0" : Str) = some NameKind.local)
    (hg : ∀ (s : Shared) (H : Hp) (C : Addr) (cl : List (Str × Addr)) (cd : Value) (fp : List Addr) (pn : List (Addr × Obj)) (B : Around), PG (gxc X B s H scope (genEnv scope cl C cd builtinsNs X.env) fp pn) tg g)
    (he : ∀ (s : Shared) (H : Hp) (C : Addr) (cl : List (Str × Addr)) (cd : Value) (fp : List Addr) (pn : List (Addr × Obj)) (B : Around), Room k (B.deeper (genEnv scope cl C cd builtinsNs X.env)) → PE (gxc X B s H scope (genEnv scope cl C cd builtinsNs X.env) fp pn) elt te)
    (hs : ∀ x, genFold iter X.env x = pure x := by intro _; rfl) (hb : bootBuiltins "all" = some (.builtin "all") := by decide +kernel)
    (hst : starEach [.GeneratorExp elt [⟨tg, iter, [], 0⟩] scope gpos] X.env = (false, eval (.GeneratorExp elt [⟨tg, iter, [], 0⟩] scope gpos) X.env) :: starEach [] X.env := by rfl) :
    PE X (.Call (.Name "all" p) [.GeneratorExp elt [⟨tg, iter, [], 0⟩] scope gpos] [] pos) (tGen P false wi g te (own.map (·.2))) := by
  refine ⟨fun pins s σ H Q I h => ?_⟩
  refine wpAny_Call_Name_kw (ld_blt I hgl hm hb ?_)
  refine PyProof.Rows.callWith_builtin1 ?_ hst (by rfl)
  rw [hst]
  show wpAny _ _ (spliced ((false, eval (.GeneratorExp elt [⟨tg, iter, [], 0⟩] scope gpos) X.env) :: backTo pos (starEach [] X.env))) _ _ s
  refine Calls.spliced_cons (gen_eval hr hc hN TB hcode hi ok hcell hco hdot hg he hs I h fun a gn s4 s5 H4 fp m gs I4 f4 hgen hlim hgs hgo => ?_)
  refine Calls.spliced_nil ?_
  refine call_function_tree F.kind_all F.plain_all F.entry_all (F.args_all1 _) ?_
  unfold Builtin.«all»
  refine wpAny_bind (m := oneArg "all" _) (wpAny_pure ?_)
  refine wpAny_bind (wpAny_pyIter_gen hgen ?_)
  exact wpAny_pure ⟨plainId_quiet F.plain_all_loop _, all_gx hr.hd hr.depth (fun b s' os bare fin => gx_end I4 f4 os bare fin) m s5 hgen hlim ⟨gs, hgs, hgo⟩⟩
/-- any(elt for tg in iter) -/
theorem pe_anyX {c P : Addr} {elt tg iter : Expr} {scope : Scope} {own : List (Str × Nat)} {p pos gpos : Pos} {wi : TI} {g : TG} {te : TE} {k : Nat}
    (hr : Room (k + 1) X.A) (hgl : Gl X "any") (hm : X.mg "any" = none) (hc : X.calm = true) (hN : X.N.Nodup) (TB : GxR.TabB X.base X.mg c P) (hcode : X.env.code = .ref c) (hi : PI X tg iter wi) (ok : BlkOk X.N X.env.scope scope own) (hcell : ∀ y ∈ scope.names, y.2 ≠ .cell) (hco : scope.isCoroutine = false) (hdot : scope.names.lookup (".0" : Str) = some NameKind.local)
    (hg : ∀ (s : Shared) (H : Hp) (C : Addr) (cl : List (Str × Addr)) (cd : Value) (fp : List Addr) (pn : List (Addr × Obj)) (B : Around), PG (gxc X B s H scope (genEnv scope cl C cd builtinsNs X.env) fp pn) tg g)
    (he : ∀ (s : Shared) (H : Hp) (C : Addr) (cl : List (Str × Addr)) (cd : Value) (fp : List Addr) (pn : List (Addr × Obj)) (B : Around), Room k (B.deeper (genEnv scope cl C cd builtinsNs X.env)) → PE (gxc X B s H scope (genEnv scope cl C cd builtinsNs X.env) fp pn) elt te)
    (hs : ∀ x, genFold iter X.env x = pure x := by intro _; rfl) (hb : bootBuiltins "any" = some (.builtin "any") := by decide +kernel)
    (hst : starEach [.GeneratorExp elt [⟨tg, iter, [], 0⟩] scope gpos] X.env = (false, eval (.GeneratorExp elt [⟨tg, iter, [], 0⟩] scope gpos) X.env) :: starEach [] X.env := by rfl) :
    PE X (.Call (.Name "any" p) [.GeneratorExp elt [⟨tg, iter, [], 0⟩] scope gpos] [] pos) (tGen P true wi g te (own.map (·.2))) := by
  refine ⟨fun pins s σ H Q I h => ?_⟩
  refine wpAny_Call_Name_kw (ld_blt I hgl hm hb ?_)
  refine PyProof.Rows.callWith_builtin1 ?_ hst (by rfl)
  rw [hst]
  show wpAny _ _ (spliced ((false, eval (.GeneratorExp elt [⟨tg, iter, [], 0⟩] scope gpos) X.env) :: backTo pos (starEach [] X.env))) _ _ s
  refine Calls.spliced_cons (gen_eval hr hc hN TB hcode hi ok hcell hco hdot hg he hs I h fun a gn s4 s5 H4 fp m gs I4 f4 hgen hlim hgs hgo => ?_)
  refine Calls.spliced_nil ?_
  refine call_function_tree F.kind_any F.plain_any F.entry_any (F.args_any1 _) ?_
  unfold Builtin.«any»
  refine wpAny_bind (m := oneArg "any" _) (wpAny_pure ?_)
  refine wpAny_bind (wpAny_pyIter_gen hgen ?_)
  exact wpAny_pure ⟨plainId_quiet F.plain_any_loop _, any_gx hr.hd hr.depth (fun b s' os bare fin => gx_end I4 f4 os bare fin) m s5 hgen hlim ⟨gs, hgs, hgo⟩⟩
end
end Ct
namespace Ct
open PySem PySem.Spec PyProof.Rows L2
/-! walking it -/
def GB (P : Addr) (st : Bool) (J : It) (g : TG) (te : TE) (vs : List Nat) (σ : L2.St) (H : Hp) (Q : VK) : Prop := tGen P st (fun _ H R => R J H) g te vs σ H Q
theorem w_gen {P : Addr} {st : Bool} {wi : TI} {g : TG} {te : TE} {vs : List Nat} {σ : L2.St} {H : Hp} {Q : VK} (h : wi σ H fun J H1 => GB P st J g te vs σ H1 Q) : tGen P st wi g te vs σ H Q := h
theorem gb_it {P : Addr} {st : Bool} {J : It} {n : Nat} {G : Hp → Prop} {Y : Nat → Hp → V → Hp → Prop} (w : Walk J n G Y) {g : TG} {te : TE} {vs : List Nat} {σ : L2.St} {H : Hp} {Q : VK} (Pv : Nat → Hp → Prop) (hT : H P = some (TabX P)) (h0 : Pv 0 H) (hG : ∀ i H1, i ≤ n → Pv i H1 → G H1)
    (hs : ∀ i x H1 H2, i < n → Pv i H1 → Y i H1 x H2 → g x (wipe σ vs) H2 fun σ3 H3 => wipe σ3 vs = wipe σ vs ∧ te σ3 H3 fun y H4 => ∃ b, y = .bl b ∧ if b = st then Q (.bl st) H4 else Pv (i + 1) H4) (hd : ∀ H1, Pv n H1 → Q (.bl (!st)) H1) : GB P st J g te vs σ H Q := by
  refine ⟨hT, fun i m H1 => m = n - i ∧ i ≤ n ∧ Pv i H1, ⟨n, by simp, Nat.zero_le _, h0⟩, ?_⟩
  rintro i m H1 ⟨rfl, hi, p⟩
  have q := hG i H1 hi p
  by_cases hlt : i < n
  · exact .inr ⟨w.goes i H1 hlt q, Pv (i + 1), fun H' p' => ⟨n - (i + 1), by omega, rfl, hlt, p'⟩, fun x H' y => hs i x H1 H' hlt p (w.yields i H1 x H' hlt q y)⟩
  · have e : i = n := by omega
    subst e
    exact .inl ⟨w.stops H1 q, hd H1 p⟩
theorem gb_list {K : PySem.W.Frag} {P : Addr} {st : Bool} {a : Addr} (xs : List V) {g : TG} {te : TE} {vs : List Nat} {σ : L2.St} {H : Hp} {Q : VK} (Pv : Nat → Hp → Prop) (hT : H P = some (TabX P)) (h0 : Pv 0 H) (hl : ∀ i H1, i ≤ xs.length → Pv i H1 → SqL K H1 a xs)
    (hs : ∀ i x H1, xs[i]? = some x → Pv i H1 → g x (wipe σ vs) H1 fun σ3 H3 => wipe σ3 vs = wipe σ vs ∧ te σ3 H3 fun y H4 => ∃ b, y = .bl b ∧ if b = st then Q (.bl st) H4 else Pv (i + 1) H4) (hd : ∀ H1, Pv xs.length H1 → Q (.bl (!st)) H1) : GB P st (Itl K a) g te vs σ H Q :=
  gb_it (walk_list (xs := xs)) Pv hT h0 hl (fun i x H1 H2 _ p y => by
    obtain ⟨e, y⟩ := y
    subst e
    exact hs i x _ y p) hd
theorem gb_tup {K : PySem.W.Frag} {P : Addr} {st : Bool} {a : Addr} (xs : List V) {g : TG} {te : TE} {vs : List Nat} {σ : L2.St} {H : Hp} {Q : VK} (Pv : Nat → Hp → Prop) (hT : H P = some (TabX P)) (h0 : Pv 0 H) (hl : ∀ i H1, i ≤ xs.length → Pv i H1 → SqT K H1 a xs)
    (hs : ∀ i x H1, xs[i]? = some x → Pv i H1 → g x (wipe σ vs) H1 fun σ3 H3 => wipe σ3 vs = wipe σ vs ∧ te σ3 H3 fun y H4 => ∃ b, y = .bl b ∧ if b = st then Q (.bl st) H4 else Pv (i + 1) H4) (hd : ∀ H1, Pv xs.length H1 → Q (.bl (!st)) H1) : GB P st (Itt K a) g te vs σ H Q :=
  gb_it (walk_tup (xs := xs)) Pv hT h0 hl (fun i x H1 H2 _ p y => by
    obtain ⟨e, y⟩ := y
    subst e
    exact hs i x _ y p) hd
/-- the tables of the defs that hold generator expressions -/
def Tb (T : List Addr) (H : Hp) : Prop := ∀ P ∈ T, H P = some (TabX P)
theorem Tb.same {T : List Addr} {H H' : Hp} (h : Tb T H) (s : Same H H') : Tb T H' := fun P hP => s _ _ (h P hP)
/-- a def whose own code object is known -/
theorem okC {P : Program} {w : World} {K : PySem.W.Frag} {mg : Str → Option Value} {base : Heap} {x qual : Str} {st : Stmt} {f : Addr} {fd : FuncData} {N ps : List Str} {k : Nat} {sp : Sp} (F : Fun K x qual st f fd) (S : FnScope N ps (defScope st)) (len : ∀ vs H Q E, sp vs H Q E → vs.length = ps.length)
    (hbody : ∀ (A : Around) (outer : List Env) (s : Shared) (H : Hp) (vs : List V) (Q : VK) (E : XK), Room k (A.deeper (envOfC qual (defScope st) s.heap.objs.size f fd.code)) → sp vs H Q E →
      ∃ t, PSs (cxOf CX0 P w K mg base N qual (defScope st) f fd.code A outer s H E).nox (defBody st) t ∧ t { nx := fun _ H' => Q .non H', rt := Q } (start N vs) H) : FnOk P w K mg base CX0 (k + 1) f fd ps sp := by
  obtain ⟨oc, od, kV, doc, pm, an, cdv, ct, osl, rfl, lk, hcd⟩ := F.ex
  refine fn_of lk hcd S len fun A outer s H vs Q E hr hsp => ?_
  obtain ⟨t, h, q⟩ := hbody A outer s H vs Q E hr hsp
  exact ⟨t, h.nox, q⟩
end Ct

/-! the end of a law whose defs hold generator expressions -/
namespace Ct
open PySem PySem.Spec PyProof.Rows L2
def codeOf : Value → Addr
  | .ref c => c
  | _ => 0
/-- where the table of a code object stands -/
def tabOf (K : PySem.W.Frag) (cd : Value) : Addr := match K.lookup (codeOf cd) with
  | some ⟨_, _, .fields vs, _⟩ => (match (vs : Array Value)[11]? with | some (Value.ref P) => P | _ => 0)
  | _ => 0
def tabOkB (K : PySem.W.Frag) (cd : Value) : Bool := match cd with
  | .ref c => (match K.lookup c with
    | some ⟨_, _, .fields vs, _⟩ => (match (vs : Array Value)[11]? with | some (Value.ref P) => (K.lookup P).isNone | _ => false)
    | _ => false)
  | _ => false
theorem tab_inv {K : PySem.W.Frag} {cd : Value} (h : tabOkB K cd = true) : ∃ e dd vs sl, cd = .ref (codeOf cd) ∧ K.lookup (codeOf cd) = some ⟨e, dd, .fields vs, sl⟩ ∧ vs[11]? = some (.ref (tabOf K cd)) ∧ K.lookup (tabOf K cd) = none := by
  unfold tabOkB at h
  cases cd with
  | ref c =>
    cases q : K.lookup c with
    | none =>
      simp only [q] at h
      cases h
    | some o =>
      obtain ⟨e, dd, dt, sl⟩ := o
      cases dt with
      | fields vs =>
        simp only [q] at h
        cases r : vs[11]? with
        | none =>
          simp only [r] at h
          cases h
        | some u =>
          cases u with
          | ref P =>
            simp only [r] at h
            have t : tabOf K (.ref c) = P := by
              unfold tabOf codeOf
              simp only [q, r]
            refine ⟨e, dd, vs, sl, rfl, q, ?_, ?_⟩
            · rw [t]
              exact r
            · rw [t]
              exact Option.isNone_iff_eq_none.mp h
          | _ =>
            simp only [r] at h
            cases h
      | _ =>
        simp only [q] at h
        cases h
  | _ => cases h
/-- a def that is called on the script -/
def RunOk (P : Program) (w : World) (K : PySem.W.Frag) (mg : Str → Option Value) (base : Heap) (fa : Addr) (fd : FuncData) (x : Str) (sp : Sp) : Prop :=
  ∀ (z : Shared) (H : Hp) (ws : List Value) (vs : List V) (Q : VK) (E : XK), Env0 P w K mg base callerA [] z H → BindsTo z fd ⟨ws, []⟩ ([x].zip ws) → Vals vs ws → sp vs H Q E → codeAny (model P w) callerA (.call (.ref fa) ⟨ws, []⟩) (CR CX0 [] P w H z Q E) z
theorem law_callX {P : Program} {w : World} {K : PySem.W.Frag} {mg mb : Str → Option Value} {fa a : Addr} {cs : List (Addr × Addr)} {fd : FuncData} {x : Str} {sp : Sp} {s₁ : Shared} {vs : List Value} {ns : List Int}
    (KX : K.In s₁.heap) (hns : s₁.heap.Ns mainGlobals mg) (hb : s₁.heap.Ns builtinsNs mb) (hbb : ∀ x : Str, x ≠ "__name__" → mb x = bootBuiltins x) (hlim : s₁.heap.NoLimit) (hg : s₁.gens = #[])
    (hT : ∀ p ∈ cs, s₁.heap.get? p.2 = some { cls := .none, data := .fields #[] }) (nT : ∀ p ∈ cs, K.lookup p.2 = none) (C : ∀ p ∈ cs, PySem.W.CodeHd s₁.heap p.1 p.2)
    (hbm : ∃ (bm : Addr) (ob : Obj), mg "__builtins__" = some (.ref bm) ∧ bm ≠ builtinsNs ∧ s₁.heap.get? bm = some ob ∧ ob.cls = .type "module" ∧ ob.dict = some builtinsNs ∧ ob.data = .plain)
    (ha : s₁.heap.get? a = some { cls := .type "list", data := .seq vs.toArray }) (hi : IntsAre vs ns) (hl : ns.length ≤ sizeLine)
    (F : ∀ base : Heap, K.In base → base.Ns mainGlobals mg → (∀ p ∈ cs, GxR.TabB base mg p.1 p.2) → RunOk P w K mg base fa fd x sp) (hbind : ∀ (s : Shared) (u : Value), BindsTo s fd ⟨[u], []⟩ [(x, u)])
    (hsp : ∀ H : Hp, (∀ p ∈ cs, H p.2 = some (TabX p.2)) → SqL K H a (ns.map V.int) → sp [.ref a] H (fun v H' => v = .bl true ∧ Same H H') fun _ _ _ => False) :
    codeAny (model P w) callerA (.call (.ref fa) ⟨[.ref a], []⟩) (fun r s' => r = .ok (.ret (.bool true)) ∧ OldK s₁.heap s'.heap ∧ s'.os = s₁.os ∧ AllBare s'.gens) s₁ := by
  have rv := vals_ints hi
  have lenV := hi.length
  have isT : ∀ b : Addr, b ∈ cs.map (·.2) → s₁.heap.get? b = some { cls := .none, data := .fields #[] } := fun b hb => by
    obtain ⟨p, hp, e⟩ := List.mem_map.mp hb
    rw [← e]
    exact hT p hp
  have aT : a ∉ cs.map (·.2) := fun z => by
    have q := isT a z
    rw [ha] at q
    have z' : Data.seq vs.toArray _ = Data.fields #[] := congrArg Obj.data (Option.some.inj q)
    cases z'
  have memT : ∀ p ∈ cs, p.2 ∈ cs.map (·.2) := fun p hp => List.mem_map.mpr ⟨p, hp, rfl⟩
  have core : ∀ H : Hp, (∀ b, b ∈ cs.map (·.2) → H b = some (TabX b)) → (∀ b, H b = none ∨ b ∈ cs.map (·.2) ∨ ∃ o xs, H b = some (.frz o (.lst xs))) → SqL K H a (ns.map V.int) → HOk P w H s₁.heap → (∀ b, H b ≠ none → b = a ∨ b ∈ cs.map (·.2)) → (H a ≠ none → K.lookup a = none) →
      codeAny (model P w) callerA (.call (.ref fa) ⟨[.ref a], []⟩) (fun r s' => r = .ok (.ret (.bool true)) ∧ OldK s₁.heap s'.heap ∧ s'.os = s₁.os ∧ AllBare s'.gens) s₁ := by
    intro H hH hO hS hok hA hK
    have base_of : ∀ {b : Addr} {o : Obj}, s₁.heap.get? b = some o → H b = none → (hidT s₁.heap H).get? b = some o := fun e n => hidT_get e n
    have noD : ∀ {b : Addr} {o : Obj}, s₁.heap.get? b = some o → (∀ vs n, o.data ≠ .seq vs n) → o.data ≠ .fields #[] → H b = none := fun {b o} e h1 h2 => by
      cases q : H b with
      | none => rfl
      | some u =>
        rcases hA b (by rw [q]; simp) with e' | e'
        · rw [e', ha] at e
          cases e
          exact (h1 _ _ rfl).elim
        · rw [isT b e'] at e
          cases e
          exact (h2 rfl).elim
    have noA : ∀ {b : Addr} {o : Obj} {es : Array DictEntry} {ep : Nat}, s₁.heap.get? b = some o → o.data = .dict es ep → H b = none := fun {b o es ep} e d => by
      refine noD e (fun vs n z => ?_) fun z => ?_
      · rw [d] at z
        cases z
      · rw [d] at z
        cases z
    have nsK : ∀ {b : Addr} {m : Str → Option Value}, s₁.heap.Ns b m → (hidT s₁.heap H).Ns b m := fun {b m} ⟨o, es, ep, e, d, r⟩ => ⟨o, es, ep, base_of e (noA e d), d, r⟩
    have hKb : K.In (hidT s₁.heap H) := fun b o e => base_of (KX b o e) (by
      cases q : H b with
      | none => rfl
      | some u =>
        rcases hA b (by rw [q]; simp) with e' | e'
        · rw [e'] at e q
          rw [hK (by rw [q]; simp)] at e
          cases e
        · obtain ⟨p, hp, ep⟩ := List.mem_map.mp e'
          rw [← ep, nT p hp] at e
          cases e)
    have hM : L2.Mod K mg (hidT s₁.heap H) := ⟨hKb, nsK hns, ⟨mb, nsK hb, hbb⟩, let ⟨mc, h1, h2⟩ := hlim; ⟨mc, nsK h1, h2⟩⟩
    have TB : ∀ p ∈ cs, GxR.TabB (hidT s₁.heap H) mg p.1 p.2 := fun p hp => by
      have hTp := hT p hp
      refine ⟨?_, ?_, fun z => ?_⟩
      · obtain ⟨o, us, file, tf, flags, tg, inF, text, tt, e1, r1, r2, r3, r4, r5, r6, r7, r8, hne⟩ := C p hp
        refine ⟨o, us, file, tf, flags, tg, inF, text, tt, base_of e1 (noD e1 (fun vs n z => ?_) fun z => ?_), r1, r2, r3, r4, r5, r6, r7, r8, hne⟩
        · rw [r2] at z
          cases z
        · rw [r2] at z
          cases z
          simp at r3
      · obtain ⟨bm, ob, b1, b2, b3, b4, b5, b6⟩ := hbm
        have nG : bm ≠ mainGlobals := fun q => by
          obtain ⟨o, es, ep, e, hd, _⟩ := hns
          rw [q, e] at b3
          cases b3
          rw [hd] at b6
          cases b6
        have nP : bm ≠ p.2 := fun q => by
          rw [q, hTp] at b3
          cases b3
          cases b6
        refine ⟨bm, ob, b1, b2, nG, nP, base_of b3 (noD b3 (fun vs n z => ?_) fun z => ?_), b4, b5, b6⟩
        · rw [b6] at z
          cases z
        · rw [b6] at z
          cases z
      · obtain ⟨o, es, ep, e, hd, _⟩ := hns
        rw [z, hTp] at e
        cases e
        cases hd
    have e0 : Env0 P w K mg (hidT s₁.heap H) callerA [] s₁ H := ⟨rfl, hM, fun b o e => of_hidT e, Nat.le_of_eq (hidT_size _ _), trivial, fun b hb => absurd (show b ∈ ([] : List Addr) from hb) (by simp), hok, .of_eq hg⟩
    refine codeAny_mono (F _ hKb (nsK hns) TB s₁ H [.ref a] [.ref a] _ _ e0 (hbind s₁ (.ref a)) (.cons rfl .nil) (hsp H (fun p hp => hH _ (memT p hp)) hS)) fun r s' h => ?_
    cases r with
    | error e => exact (show False from h).elim
    | ok fl =>
      cases fl with
      | next => exact False.elim h
      | brk => exact False.elim h
      | cont => exact False.elim h
      | ret u =>
        obtain ⟨v, H', os, bare, un, hok', r', q, sm⟩ := h
        subst q
        obtain rfl : u = Value.bool true := r'
        have key : ∀ b o, b ∉ cs.map (·.2) → s₁.heap.get? b = some o → s'.heap.get? b = some o := fun b o nb e => by
          cases q : H b with
          | none => exact un.keep b o e q (by intro z; exact absurd (show b ∈ ([] : List Addr) from z) (by simp)) (by simp)
          | some u =>
            rcases hO b with z | z | ⟨ob, xs, z⟩
            · rw [q] at z; cases z
            · exact absurd z nb
            · have z2 := un.frzs b ob _ z
              obtain ⟨e1, _⟩ := hok b _ z
              obtain ⟨e2, _⟩ := hok' b _ z2
              rw [e] at e1; cases e1
              exact e2
        have grown : ∀ p ∈ cs, ∃ more : Array Value, s'.heap.get? p.2 = some { cls := .none, data := .fields more } := fun p hp => by
          obtain ⟨⟨more, z, _⟩, _⟩ := hok' p.2 _ (sm _ _ (hH _ (memT p hp)))
          exact ⟨_, z⟩
        refine ⟨rfl, ⟨fun b o e => ?_, fun b o e => ?_⟩, os, bare⟩
        · by_cases hb : b ∈ cs.map (·.2)
          · obtain ⟨p, hp, ep⟩ := List.mem_map.mp hb
            obtain ⟨more, hm⟩ := grown p hp
            rw [← ep] at e ⊢
            rw [hT p hp] at e
            cases e
            exact .inr (.inl ⟨((C p hp).tab (hT p hp)).isCodeTable, rfl, #[], more, rfl, by rw [Array.empty_append]; exact hm⟩)
          · exact .inl (key b o hb e)
        · by_cases hb : b ∈ cs.map (·.2)
          · obtain ⟨p, hp, ep⟩ := List.mem_map.mp hb
            obtain ⟨more, hm⟩ := grown p hp
            rw [← ep]
            exact ⟨_, hm⟩
          · exact ⟨o, key b o hb e⟩
  cases hk : K.lookup a with
  | some o =>
    have e := KX a o hk
    rw [ha] at e
    cases e
    refine core (fun b => if b ∈ cs.map (·.2) then some (TabX b) else none) (fun b hb => if_pos hb) (fun b => ?_) (.inr ⟨_, vs.toArray, _, hk, rfl, rfl, rfl, by rw [List.size_toArray, lenV]; exact hl, by simpa using rv⟩) (fun b u z => ?_) (fun b z => ?_) fun z => absurd (show (if a ∈ cs.map (·.2) then some (TabX a) else none) = none from if_neg aT) z
    · by_cases hb : b ∈ cs.map (·.2)
      · exact .inr (.inl hb)
      · exact .inl (if_neg hb)
    · by_cases hb : b ∈ cs.map (·.2)
      · have z' := (if_pos hb).symm.trans z
        cases z'
        exact tabx_ok (isT b hb) True.intro
      · have z' := (if_neg hb).symm.trans z
        cases z'
    · by_cases hb : b ∈ cs.map (·.2)
      · exact .inr hb
      · exact absurd (if_neg hb) z
  | none =>
    refine core (fun b => if b = a then some (.frz { cls := .type "list", data := .seq vs.toArray } (.lst (ns.map V.int))) else if b ∈ cs.map (·.2) then some (TabX b) else none) (fun b hb => (if_neg (show ¬ b = a from fun z => aT (by rw [← z]; exact hb))).trans (if_pos hb)) (fun b => ?_)
      (.inl (.inr ⟨{ cls := .type "list", data := .seq vs.toArray }, if_pos rfl⟩)) (fun b u z => ?_) (fun b z => ?_) fun _ => hk
    · by_cases hb : b = a
      · exact .inr (.inr ⟨_, _, if_pos hb⟩)
      · by_cases hb2 : b ∈ cs.map (·.2)
        · exact .inr (.inl hb2)
        · exact .inl ((if_neg hb).trans (if_neg hb2))
    · by_cases hb : b = a
      · have z' := (if_pos hb).symm.trans z
        cases z'
        rw [hb]
        exact ⟨ha, by rw [List.length_map]; exact hl, vs, _, rv, ha⟩
      · have z1 := (if_neg hb).symm.trans z
        by_cases hb2 : b ∈ cs.map (·.2)
        · have z' := (if_pos hb2).symm.trans z1
          cases z'
          exact tabx_ok (isT b hb2) True.intro
        · have z' := (if_neg hb2).symm.trans z1
          cases z'
    · by_cases hb : b = a
      · exact .inl hb
      · by_cases hb2 : b ∈ cs.map (·.2)
        · exact .inr hb2
        · exact absurd ((if_neg hb).trans (if_neg hb2)) z
/-- what is known of the law's promise: cs, the defs that hold generator expressions and their code objects -/
def LawAtX (l : PySem.W.OpenLaw) (w : World) (K : PySem.W.Frag) (n : Nat) (x : Str) (mg : Str → Option Value) (fa : Addr) (defs : List Str) : Prop :=
  ∃ (fd : FuncData) (cs : List (Str × Value)) (sp : Sp), (∀ p ∈ cs, p.1 ∈ defs ∧ ∃ (f : Addr) (oc : Value) (od : Option Addr) (fdx : FuncData) (osl : Array (Option Value)), mg p.1 = some (.ref f) ∧ K.lookup f = some ⟨oc, od, .func fdx, osl⟩ ∧ fdx.code = p.2 ∧ tabOkB K p.2 = true) ∧ (∀ (s : Shared) (u : Value), BindsTo s fd ⟨[u], []⟩ [(x, u)]) ∧
    (∀ (H : Hp) (a : Addr) (ns : List Int), ns.length ≤ n → (∀ p ∈ cs, H (tabOf K p.2) = some (TabX (tabOf K p.2))) → SqL K H a (ns.map V.int) → sp [.ref a] H (fun v H' => v = .bl true ∧ Same H H') fun _ _ _ => False) ∧
    ∀ base : Heap, K.In base → base.Ns mainGlobals mg → (∀ p ∈ cs, GxR.TabB base mg (codeOf p.2) (tabOf K p.2)) → RunOk l.prog w K mg base fa fd x sp
theorem walk_ofX {l : PySem.W.OpenLaw} {n : Nat} {q : Program} {loose : List Str} {XP : (Str → Option Value) → Heap → Prop} {YP : World → Heap → Prop} {d : DefRec} {K : Params → PySem.W.Frag} {x : Str} {defs : List Str}
    (hn : l.most = some n) (hn2 : n ≤ sizeLine) (hdf : d.params.defaults = []) (hrec : (defs.all fun y => (recsOf q).any fun e => e.name == y) = true) (hY : ∀ (w : World) (h : Heap), YP w h → (K w.params).In h)
    (F : ∀ (w : World) (mg : Str → Option Value) (fa : Addr) (h : Heap), (K w.params).In h → h.Ns mainGlobals mg → mg d.name = some (.ref fa) → LawAtX l w (K w.params) n x mg fa defs) :
    PySem.W.WalkO q loose XP YP l.row.toRowW d [] (fun f vs => PySem.call f vs) := by
  refine Att.attach_callB hn hdf fun w s₀ s₁ mg mb fa o pm cd doc a vs ns G Y ho hd hcd hmg hobj hints hlen hbits hg => ?_
  have KX := hY w _ Y
  obtain ⟨fd, cs, sp, hcs, hb, hsp, hF⟩ := F w mg fa _ KX G.T.g hmg
  have facts : ∀ p ∈ cs, s₁.heap.get? (tabOf (K w.params) p.2) = some { cls := .none, data := .fields #[] } ∧ (K w.params).lookup (tabOf (K w.params) p.2) = none ∧ PySem.W.CodeHd s₁.heap (codeOf p.2) (tabOf (K w.params) p.2) := fun p hp => by
    obtain ⟨hm, f, oc, od, fdx, osl, g1, g2, g3, g4⟩ := hcs p hp
    obtain ⟨e, dd, us, sl, t1, t2, t3, t4⟩ := tab_inv g4
    obtain ⟨dL, hdm, hn1⟩ := List.any_eq_true.mp (List.all_eq_true.mp hrec _ hm)
    have hn2 : dL.name = p.1 := beq_iff_eq.mp hn1
    obtain ⟨a', o', fd', c', P', h1, h2, h3, h4, h5, h6⟩ := G.T.tab dL hdm
    rw [hn2, g1] at h1
    cases h1
    rw [KX _ _ g2] at h2
    cases h2
    cases h3
    rw [g3, t1] at h4
    cases h4
    obtain ⟨⟨ob, vc, e1, e2, e3, e4⟩, hP⟩ := id h6
    rw [KX _ _ t2] at e1
    cases e1
    cases e3
    rw [t3] at e4
    cases e4
    exact ⟨hP, t4, .of h5 h6⟩
  refine law_callX (cs := cs.map fun p => (codeOf p.2, tabOf (K w.params) p.2)) KX G.T.g G.T.b G.T.builtins G.T.nolimit hg ?_ ?_ ?_ G.T.bmain hobj hints (Nat.le_trans hlen hn2) (fun base h1 h2 h3 => hF base h1 h2 fun p hp => h3 _ (List.mem_map.mpr ⟨p, hp, rfl⟩)) hb fun H hH hS => hsp H a ns hlen (fun p hp => hH _ (List.mem_map.mpr ⟨p, hp, rfl⟩)) hS
  · intro p hp
    obtain ⟨q, hq, rfl⟩ := List.mem_map.mp hp
    exact (facts q hq).1
  · intro p hp
    obtain ⟨q, hq, rfl⟩ := List.mem_map.mp hp
    exact (facts q hq).2.1
  · intro p hp
    obtain ⟨q, hq, rfl⟩ := List.mem_map.mp hp
    exact (facts q hq).2.2
theorem RunOk.of {P : Program} {w : World} {K : PySem.W.Frag} {mg : Str → Option Value} {base : Heap} {k : Nat} {fa : Addr} {fd : FuncData} {x : Str} {sp : Sp} (hr : Room k callerA) (F : FnOk P w K mg base CX0 k fa fd [x] sp) : RunOk P w K mg base fa fd x sp :=
  fun z H ws vs Q E e b r h => F.run callerA [] z H ⟨ws, []⟩ ws vs Q E hr e b r h
end Ct

/-! a def that raises and holds generator expressions -/
namespace Ct
open PySem PySem.Spec PyProof.Rows L2
theorem okXC {P : Program} {w : World} {K : PySem.W.Frag} {mg : Str → Option Value} {base : Heap} {x qual : Str} {st : Stmt} {f : Addr} {fd : FuncData} {N ps : List Str} {k : Nat} {sp : Sp} (F : Fun K x qual st f fd) (S : FnScope N ps (defScope st)) (len : ∀ vs H Q E, sp vs H Q E → vs.length = ps.length)
    (body : ∀ (A : Around) (outer : List Env) (s : Shared) (H : Hp) (vs : List V) (Q : VK) (E : XK), Room k (A.deeper (envOfC qual (defScope st) s.heap.objs.size f fd.code)) → sp vs H Q E →
      ∃ t, PSs (cxOf (L2.CX P w) P w K mg base N qual (defScope st) f fd.code A outer s H E) (defBody st) t ∧ t { nx := fun _ H' => Q .non H', rt := Q } (start N vs) H) : FnOk P w K mg base (L2.CX P w) (k + 1) f fd ps sp := by
  obtain ⟨oc, od, kV, doc, pm, an, cdv, ct, osl, rfl, lk, hcd⟩ := F.ex
  exact fn_of lk hcd S len body
end Ct

/-! a list of draws: a number, how often it was drawn from, a truth; it is written -/
namespace Ct
open PySem PySem.Spec PyProof.Rows L2
def DrO (a : Addr) (c : Nat) : HO := .ext fun h => ∃ (n : Int) (b : Bool) (its : List Value) (m : Nat), Vals [.int n, .int (c : Int), .bl b] its ∧ h.get? a = some { cls := .type "list", data := .seq its.toArray m }
theorem drO_ok {P : Program} {w : World} {H : Hp} {h : Heap} {a : Addr} {c : Nat} {n : Int} {b : Bool} {its : List Value} {m : Nat} (r : Vals [.int n, .int (c : Int), .bl b] its) (e : h.get? a = some { cls := .type "list", data := .seq its.toArray m }) : ObjOk P w H h a (DrO a c) :=
  ⟨⟨n, b, its, m, r, e⟩, ⟨_, e⟩, fun _ _ ⟨n, b, its, m, r, e⟩ keep => ⟨n, b, its, m, r, keep _ e⟩⟩
section
variable {X : Cx}
theorem dr_get {pins : List (Addr × Obj)} {σ : L2.St} {H : Hp} {s : Shared} {p : Addr} {c : Nat} (I : Inv X pins σ H s) (h : H p = some (DrO p c)) : ∃ (n : Int) (b : Bool) (its : List Value) (m : Nat), Vals [.int n, .int (c : Int), .bl b] its ∧ s.heap.get? p = some { cls := .type "list", data := .seq its.toArray m } :=
  (show ObjOk X.prog X.w H s.heap p (DrO p c) from I.hok p _ h).1
def rIxDr : R2 := fun x y H Q => ∃ (p : Addr) (i : Int) (c : Nat), x = .ref p ∧ y = .int i ∧ H p = some (DrO p c) ∧ (i = 0 ∧ (∀ n : Int, Q (.int n) H) ∨ i = 1 ∧ Q (.int (c : Int)) H ∨ i = 2 ∧ ∀ b, Q (.bl b) H)
theorem ix_dr : IxR X rIxDr := by
  intro value slice pins s σ H x y v u Q I rx ry h hs
  obtain ⟨p, i, c, rfl, rfl, hp, q⟩ := h
  cases rx
  obtain ⟨t, rfl⟩ := ry
  obtain ⟨n, b, its, m, r, e⟩ := dr_get I hp
  have pl : PlainL s.heap p its.toArray := ⟨_, m, e, rfl, rfl, rfl⟩
  have hl := r.length
  have hn := line63
  rcases q with ⟨rfl, q⟩ | ⟨rfl, q⟩ | ⟨rfl, q⟩
  · obtain ⟨w, ew, rw'⟩ := r.get (i := 0) (x := .int n) rfl
    exact item_listR pl.isList (by decide) (by omega) (by simpa using ew) ⟨.int n, H, I, rw', q n⟩ hs
  · obtain ⟨w, ew, rw'⟩ := r.get (i := 1) (x := .int (c : Int)) rfl
    exact item_listR pl.isList (by decide) (by omega) (by simpa using ew) ⟨.int (c : Int), H, I, rw', q⟩ hs
  · obtain ⟨w, ew, rw'⟩ := r.get (i := 2) (x := .bl b) rfl
    exact item_listR pl.isList (by decide) (by omega) (by simpa using ew) ⟨.bl b, H, I, rw', q b⟩ hs
def rSetDr : V → V → V → Hp → (Hp → Prop) → Prop := fun o i v H Q => ∃ (p : Addr) (k : Int) (c : Nat), o = .ref p ∧ i = .int k ∧ H p = some (DrO p c) ∧ (k = 0 ∧ (∃ n : Int, v = .int n) ∧ Q (upd H p (DrO p c)) ∨ k = 1 ∧ ∃ c' : Nat, v = .int (c' : Int) ∧ Q (upd H p (DrO p c')))
theorem dr_write {pins : List (Addr × Obj)} {σ : L2.St} {H : Hp} {s : Shared} {p : Addr} {c c' : Nat} {its its' : List Value} {m m' : Nat} {f : Obj → Obj} {n : Int} {b : Bool} (I : Inv X pins σ H s) (h : H p = some (DrO p c))
    (ho : s.heap.get? p = some { cls := .type "list", data := .seq its.toArray m }) (hf : f { cls := .type "list", data := .seq its.toArray m } = { cls := .type "list", data := .seq its'.toArray m' }) (r : Vals [.int n, .int (c' : Int), .bl b] its') (t : Nat) :
    Inv X pins σ (upd H p (DrO p c')) { s with heap := s.heap.update p f, toks := t } := by
  have e : (s.heap.update p f).get? p = some { cls := .type "list", data := .seq its'.toArray m' } := by
    rw [Heap.get?_update_self f ho (by rw [hf] <;> rfl), hf]
  exact I.write (x := p) (e := p) (by rw [h]; trivial) (.inl rfl) (fun b u hb q => (Heap.get?_update_other _ _ (Ne.symm hb)).trans q) ⟨_, e⟩ (drO_ok r e)
theorem set_dr : PSet X rSetDr := by
  intro pins s σ H o i v ov iv u Q I ro ri rv h
  obtain ⟨p, k, c, rfl, rfl, hp, q⟩ := h
  cases ro
  obtain ⟨t, rfl⟩ := ri
  obtain ⟨n, b, its, m, r, e⟩ := dr_get I hp
  have hl := r.length
  have hn := line63
  rcases q with ⟨rfl, ⟨n', rfl⟩, q⟩ | ⟨rfl, c', rfl, q⟩
  · have I' := dr_write I hp e (mapSeq_set its m 0 u) (r.set rv 0) s.toks
    exact PySem.W.ki_setAt e (by decide) (by omega) (by rw [List.size_toArray, ← hl]; show (0 : Int) < ((3 : Nat) : Int); decide) ⟨_, I', q⟩
  · have I' := dr_write I hp e (mapSeq_set its m 1 u) (r.set rv 1) s.toks
    exact PySem.W.ki_setAt e (by decide) (by omega) (by rw [List.size_toArray, ← hl]; show (1 : Int) < ((3 : Nat) : Int); decide) ⟨_, I', q⟩
def tLstDr (t : TA) : TE := fun σ H Q => t σ H fun xs H1 => ∃ (n : Int) (c : Nat) (b : Bool), xs = [.int n, .int (c : Int), .bl b] ∧ ∀ p, H1 p = none → Q (.ref p) (upd H1 p (DrO p c))
theorem pe_lstDr {es : List Expr} {t : TA} {pos : Pos} (h : PA X es t) : PE X (.List es pos) (tLstDr t) := by
  refine ⟨fun pins s σ H Q I hq => ?_⟩
  refine wpAny_List_spliced (thn (h.run pos pins s σ H _ I hq) fun us s1 ⟨xs, H1, I1, r, n, c, b, ex, q⟩ => ?_)
  subst ex
  refine ⟨by rw [← r.length]; show 3 ≤ sizeLine; decide, ?_⟩
  have hf : H1 s1.heap.objs.size = none := I1.hok.fresh (Nat.le_refl _)
  exact ⟨.ref s1.heap.objs.size, upd H1 s1.heap.objs.size (DrO _ c), I1.laid (t' := s1.toks) (fun b u e => Heap.get?_push_of_some _ e) (Nat.le_refl _) (drO_ok r (Heap.get?_push_size _ rfl)), rfl, q _ hf⟩
end
section
variable {H : Hp} {σ : L2.St} {Q : VK}
theorem w_lstDr {t : TA} (h : t σ H fun xs H1 => ∃ (n : Int) (c : Nat) (b : Bool), xs = [.int n, .int (c : Int), .bl b] ∧ ∀ p, H1 p = none → Q (.ref p) (upd H1 p (DrO p c))) : tLstDr t σ H Q := h
theorem w_dr0 {p : Addr} {c : Nat} (h : H p = some (DrO p c)) (q : ∀ n : Int, Q (.int n) H) : rIxDr (.ref p) (.int 0) H Q := ⟨p, 0, c, rfl, rfl, h, .inl ⟨rfl, q⟩⟩
theorem w_dr1 {p : Addr} {c : Nat} (h : H p = some (DrO p c)) (q : Q (.int (c : Int)) H) : rIxDr (.ref p) (.int 1) H Q := ⟨p, 1, c, rfl, rfl, h, .inr (.inl ⟨rfl, q⟩)⟩
theorem w_dr2 {p : Addr} {c : Nat} (h : H p = some (DrO p c)) (q : ∀ b, Q (.bl b) H) : rIxDr (.ref p) (.int 2) H Q := ⟨p, 2, c, rfl, rfl, h, .inr (.inr ⟨rfl, q⟩)⟩
end
/-- the draws at D were drawn from, c times by now; all else that was tracked stays -/
def Dr (D : Addr) (c : Nat) (H H' : Hp) : Prop := But D H H' ∧ H' D = some (DrO D c)
theorem Dr.refl {D : Addr} {c : Nat} {H : Hp} (h : H D = some (DrO D c)) : Dr D c H H := ⟨But.refl, h⟩
theorem Dr.next {D : Addr} {c : Nat} {H H' : Hp} (h : Dr D c H H') (c' : Nat) : Dr D c' H (upd H' D (DrO D c')) := ⟨h.1.trans but_upd, upd_same⟩
theorem Dr.same {D : Addr} {c : Nat} {H H' H2 : Hp} (h : Dr D c H H') (s : Same H' H2) : Dr D c H H2 := ⟨h.1.trans (but_same s), s _ _ h.2⟩
theorem Dr.trans {D : Addr} {c c' : Nat} {H H' H2 : Hp} (h : Dr D c H H') (g : Dr D c' H' H2) : Dr D c' H H2 := ⟨h.1.trans g.1, g.2⟩
theorem Dr.ext {D : Addr} {c : Nat} {H H' : Hp} (h : Dr D c H H') : Ext H' D := ⟨_, h.2⟩
theorem drO_ext {D : Addr} {c : Nat} {H : Hp} (h : H D = some (DrO D c)) : Ext H D := ⟨_, h⟩
theorem Dr.free {D : Addr} {c : Nat} {H H' : Hp} (h : Dr D c H H') {a : Addr} (n : H' a = none) : H a = none := by
  cases e : H a with
  | none => rfl
  | some o =>
    by_cases z : a = D
    · rw [z, h.2] at n
      cases n
    · rw [h.1 a o z e] at n
      cases n
/-- a list made in between is not the draws -/
theorem Dr.at {D l : Addr} {c c' : Nat} {H H' : Hp} {o : HO} (h : Dr D c H H') (hD : H D = some (DrO D c')) (hl : H l = some o) (ne : ∀ f, o ≠ .ext f := by intro f z; cases z) : H' l = some o :=
  h.1 l o (fun z => by rw [z, hD] at hl; exact ne _ (Option.some.inj hl).symm) hl
/-- a list made since is written -/
theorem Dr.put {D l : Addr} {c : Nat} {H H' : Hp} {o o' : HO} (h : Dr D c H H') (n : H l = none) (hl : H' l = some o) (ne : ∀ f, o ≠ .ext f := by intro f z; cases z) : Dr D c H (upd H' l o') := by
  have lD : l ≠ D := fun z => by rw [z, h.2] at hl; exact ne _ (Option.some.inj hl).symm
  refine ⟨fun a u na ha => ?_, by rw [upd_ne lD.symm]; exact h.2⟩
  rw [upd_ne (fun z => by rw [z, n] at ha; cases ha)]
  exact h.1 a u na ha
theorem rep_flat (w : V) : ∀ k : Nat, (List.replicate k [w]).flatten = List.replicate k w
  | 0 => rfl
  | k + 1 => by
    rw [List.replicate_succ, List.flatten_cons, rep_flat w k, List.replicate_succ]
    rfl
theorem cut_toB (xs : List V) (k : Nat) : cutV xs none (some (k : Int)) = xs.take k := by
  unfold cutV
  rw [HT.sIx_none, HT.sIx_nat, List.drop_zero, Nat.sub_zero]
  by_cases h : k ≤ xs.length
  · rw [Nat.min_eq_left h]
  · rw [Nat.min_eq_right (by omega), List.take_length, List.take_of_length_le (by omega)]
/-- a show: a way, and what was shown -/
def sh2D (s : Int × Int) : PyData := .tuple [.int s.1, .int s.2]
def Sh2Ok (s : Int × Int) : Prop := Sign s.1 ∧ (s.2 = 0 ∨ Sign s.2)
theorem sh2_inv {K : PySem.W.Frag} {H : Hp} {v : V} {s : Int × Int} (h : Dp K H v (sh2D s)) : ∃ a, v = .ref a ∧ SqT K H a [.int s.1, .int s.2] := by
  obtain ⟨a, vs, rfl, h1, h2⟩ := tup_inv h
  cases dpAll_ints_inv [s.1, s.2] h2
  exact ⟨a, rfl, h1⟩
theorem sh2_dp {K : PySem.W.Frag} {H : Hp} {a : Addr} {s : Int × Int} (h : SqT K H a [.int s.1, .int s.2]) : Dp K H (.ref a) (sh2D s) := .tup h (.cons (.int _) (.cons (.int _) .nil))
theorem sh2_upd {K : PySem.W.Frag} {H : Hp} {l : Addr} {ws : List V} {o : HO} (hl : H l = some (.lst ws)) {v : V} {s : Int × Int} (h : Dp K H v (sh2D s)) : Dp K (upd H l o) v (sh2D s) := by
  obtain ⟨g, rfl, hg⟩ := sh2_inv h
  exact sh2_dp (sqT_upd hg hl)
theorem sh2s_upd {K : PySem.W.Frag} {H : Hp} {l : Addr} {ws : List V} {o : HO} (hl : H l = some (.lst ws)) : ∀ {vs : List V} {ss : List (Int × Int)}, DpAll K H vs (ss.map sh2D) → DpAll K (upd H l o) vs (ss.map sh2D)
  | _, [], .nil => .nil
  | _, s :: ss, .cons h t => .cons (sh2_upd hl h) (sh2s_upd hl t)
theorem lay_sh2s (ss : List (Int × Int)) : (PyData.list (ss.map sh2D)).canLay0 = true ∧ (PyData.list (ss.map sh2D)).depth ≤ 2 := lay_lst fun d hd => by
  obtain ⟨w, _, rfl⟩ := List.mem_map.mp hd
  exact lay_tup (n := 0) (lay_ints [w.1, w.2] 0)
theorem Dr.step {D : Addr} {c : Nat} {H : Hp} (h : H D = some (DrO D c)) (c' : Nat) : Dr D c' H (upd H D (DrO D c')) := (Dr.refl h).next c'
theorem Dr.all {K : PySem.W.Frag} {D : Addr} {c c' : Nat} {H H' : Hp} (d : Dr D c' H H') (h : H D = some (DrO D c)) {vs : List V} {ds : List PyData} (x : DpAll K H vs ds) : DpAll K H' vs ds := dpAll_but (drO_ext h) d.1 x
/-- a pass: what came, at which tooth, what was shown -/
abbrev Pass := Int × Int × Int
def passD (s : Pass) : PyData := .tuple [.int s.1, .int s.2.1, .int s.2.2]
theorem pass_inv {K : PySem.W.Frag} {H : Hp} {v : V} {s : Pass} (h : Dp K H v (passD s)) : ∃ a, v = .ref a ∧ SqT K H a [.int s.1, .int s.2.1, .int s.2.2] := by
  obtain ⟨a, vs, rfl, h1, h2⟩ := tup_inv h
  cases dpAll_ints_inv [s.1, s.2.1, s.2.2] h2
  exact ⟨a, rfl, h1⟩
def unlk (p q : Pass) : Bool := !decide (p.1 = 0) && (!decide (q.1 = 0) && (decide (p.2.2 = 0) != decide (q.2.2 = 0)))
/-- two passes at the same tooth that are unlike -/
def Hit (ps : List Pass) (t : Int) (j k : Nat) : Prop := ∃ p q : Pass, ps[j]? = some p ∧ ps[k]? = some q ∧ p.2.1 % t = q.2.1 % t ∧ unlk p q = true
def NoHit (ps : List Pass) (t : Int) (n : Nat) : Prop := ∀ j k, j < k → k < n → ¬ Hit ps t j k
theorem unlk_came {p q : Pass} (h : unlk p q = true) : p.1 ≠ 0 ∧ q.1 ≠ 0 ∧ (decide (p.2.2 = 0) ≠ decide (q.2.2 = 0)) := by
  unfold unlk at h
  simp only [Bool.and_eq_true, Bool.not_eq_true', decide_eq_false_iff_not, bne_iff_ne, ne_eq] at h
  exact ⟨h.1, h.2.1, h.2.2⟩
theorem unlk_of {p q : Pass} (h1 : p.1 ≠ 0) (h2 : q.1 ≠ 0) (h : unlk p q = false) : decide (p.2.2 = 0) = decide (q.2.2 = 0) := by
  unfold unlk at h
  rw [decide_eq_false h1, decide_eq_false h2] at h
  simpa using h
theorem unlk_self (p : Pass) : unlk p p = false := by
  unfold unlk
  simp
/-- what is kept of the first n passes: the first one at each tooth -/
structure Kept (ps : List Pass) (t : Int) (n : Nat) (kvs : List (Key × V)) : Prop where
  is : ∀ r v, valV kvs (Sum.inl r) = some v → ∃ (j : Nat) (p : Pass), v = .int (j : Int) ∧ j < n ∧ ps[j]? = some p ∧ p.1 ≠ 0 ∧ p.2.1 % t = r ∧ ∀ i q, i < j → ps[i]? = some q → q.1 ≠ 0 → q.2.1 % t ≠ r
  no : ∀ r, valV kvs (Sum.inl r) = none → ∀ i q, i < n → ps[i]? = some q → q.1 ≠ 0 → q.2.1 % t ≠ r
theorem Kept.skip {ps : List Pass} {t : Int} {n : Nat} {kvs : List (Key × V)} (h : Kept ps t n kvs) {q : Pass} (hq : ps[n]? = some q) (z : q.1 = 0) : Kept ps t (n + 1) kvs := by
  refine ⟨fun r v e => ?_, fun r e i p hi hp hn => ?_⟩
  · obtain ⟨j, p, h1, h2, h3⟩ := h.is r v e
    exact ⟨j, p, h1, by omega, h3⟩
  · by_cases c : i < n
    · exact h.no r e i p c hp hn
    · have : i = n := by omega
      subst this
      cases Option.some.inj (hq.symm.trans hp)
      exact absurd z hn
theorem Kept.there {ps : List Pass} {t : Int} {n : Nat} {kvs : List (Key × V)} (h : Kept ps t n kvs) {q : Pass} (hq : ps[n]? = some q) {v : V} (e : valV kvs (Sum.inl (q.2.1 % t)) = some v) : Kept ps t (n + 1) kvs := by
  refine ⟨fun r v e => ?_, fun r e' i p hi hp hn => ?_⟩
  · obtain ⟨j, p, h1, h2, h3⟩ := h.is r v e
    exact ⟨j, p, h1, by omega, h3⟩
  · by_cases c : i < n
    · exact h.no r e' i p c hp hn
    · have : i = n := by omega
      subst this
      cases Option.some.inj (hq.symm.trans hp)
      intro z
      rw [z, e'] at e
      cases e
theorem Kept.new {ps : List Pass} {t : Int} {n : Nat} {kvs : List (Key × V)} (h : Kept ps t n kvs) {q : Pass} (hq : ps[n]? = some q) (hn : q.1 ≠ 0) (e : valV kvs (Sum.inl (q.2.1 % t)) = none) : Kept ps t (n + 1) (putK kvs (Sum.inl (q.2.1 % t)) (.int (n : Int))) := by
  refine ⟨fun r v e2 => ?_, fun r e2 i p hi hp hne => ?_⟩
  · rw [valV_put] at e2
    by_cases c : (Sum.inl r : Key) = Sum.inl (q.2.1 % t)
    · have c' : r = q.2.1 % t := Sum.inl.inj c
      subst c'
      rw [if_pos rfl] at e2
      cases Option.some.inj e2
      exact ⟨n, q, rfl, Nat.lt_succ_self n, hq, hn, rfl, fun i p hi hp hne => h.no _ e i p hi hp hne⟩
    · rw [if_neg c] at e2
      obtain ⟨j, p, h1, h2, h3⟩ := h.is r v e2
      exact ⟨j, p, h1, by omega, h3⟩
  · rw [valV_put] at e2
    by_cases c : (Sum.inl r : Key) = Sum.inl (q.2.1 % t)
    · rw [if_pos c] at e2
      cases e2
    · rw [if_neg c] at e2
      by_cases cc : i < n
      · exact h.no r e2 i p cc hp hne
      · have : i = n := by omega
        subst this
        cases Option.some.inj (hq.symm.trans hp)
        exact fun z => c (by rw [z])
theorem NoHit.more {ps : List Pass} {t : Int} {n : Nat} (h : NoHit ps t n) (g : ∀ j, j < n → ¬ Hit ps t j n) : NoHit ps t (n + 1) := fun j k jk kn => by
  by_cases c : k < n
  · exact h j k jk c
  · have : k = n := by omega
    subst this
    exact g j jk
theorem fb_enumL {K : PySem.W.Frag} {H : Hp} {σ : L2.St} {D : Ends} {a : Addr} (xs : List V) {g : TG} {tb : TS} (Pv : Nat → L2.St → Hp → Prop) (h0 : Pv 0 σ H) (hl : ∀ i σ H, i ≤ xs.length → Pv i σ H → SqL K H a xs)
    (hs : ∀ i v T σ H, xs[i]? = some v → Pv i σ H → H T = none → g (.ref T) σ (upd H T (.tup [.int (i : Nat), v])) fun σ2 H2 => tb { D with nx := Pv (i + 1), ct := Pv (i + 1), bk := D.nx } σ2 H2) (hd : ∀ σ H, Pv xs.length σ H → D.nx σ H) : FB (Ite K a) g tb D σ H :=
  for_it (walk_enum (xs := xs)) Pv h0 hl (fun i x σ H H' _ p y => by
    obtain ⟨T, u, v, rfl, hT, rfl, e1, e2⟩ := y
    cases Option.some.inj e1
    exact hs i v T σ H e2 p hT) hd
theorem w_ninT {K : PySem.W.Frag} {H : Hp} {Q : VK} {p : Addr} {x : Int} {ns : List Int} (h : SqT K H p (ns.map V.int)) (q : Q (.bl (!decide (x ∈ ns))) H) : rIn K true (.int x) (.ref p) H Q := by
  refine ⟨p, ns.map V.int, rfl, .inr h, rfl, ?_, ?_⟩
  · rw [List.all_map]
    exact List.all_eq_true.mpr fun _ _ => rfl
  · rw [if_pos rfl]
    rw [show inV (.int x) (ns.map V.int) = decide (x ∈ ns) from by
      unfold inV
      rw [List.any_map]
      by_cases e : x ∈ ns
      · rw [decide_eq_true e, List.any_eq_true]
        exact ⟨x, e, by show (x == x) = true; exact beq_self_eq_true x⟩
      · rw [decide_eq_false e, List.any_eq_false]
        intro y hy
        show ¬ (y == x) = true
        intro z
        exact e (eq_of_beq z ▸ hy)]
    exact q
section
variable {K : PySem.W.Frag} {H : Hp} {σ : L2.St} {D : Ends} {Q : VK} {R : It → Hp → Prop}
def IZL (K : PySem.W.Frag) (vs : List V) (H : Hp) (R : It → Hp → Prop) : Prop := iZip K (fun _ H Q => Q vs H) [] H R
theorem w_izip {ta : TA} (h : ta σ H fun vs H1 => IZL K vs H1 R) : iZip K ta σ H R := h
theorem w_IZL {a b : Addr} {xs ys : List V} (h1 : SqL K H a xs) (h2 : SqL K H b ys) (q : R (Itz K a b) H) : IZL K [.ref a, .ref b] H R := ⟨a, b, xs, ys, rfl, h1, h2, q⟩
theorem fb_zipL {a b : Addr} (xs ys : List V) (hl : xs.length = ys.length) {g : TG} {tb : TS} (Pv : Nat → L2.St → Hp → Prop) (h0 : Pv 0 σ H) (hq : ∀ i σ H, i ≤ xs.length → Pv i σ H → SqL K H a xs ∧ SqL K H b ys)
    (hs : ∀ i x y T σ H, xs[i]? = some x → ys[i]? = some y → Pv i σ H → H T = none → g (.ref T) σ (upd H T (.tup [x, y])) fun σ2 H2 => tb { D with nx := Pv (i + 1), ct := Pv (i + 1), bk := D.nx } σ2 H2) (hd : ∀ σ H, Pv xs.length σ H → D.nx σ H) : FB (Itz K a b) g tb D σ H :=
  for_it (walk_zip (xs := xs) (ys := ys) (n := xs.length) (by omega)) Pv h0 hq (fun i x σ H H' _ p y => by
    obtain ⟨T, u, v, rfl, hT, rfl, e1, e2⟩ := y
    exact hs i u v T σ H e1 e2 p hT) hd
end
/-- the passes of the first n shows -/
def passN (cs : List Int) (ss : List (Int × Int)) : Nat → List Pass
  | 0 => []
  | n + 1 => passN cs ss n ++ (match cs[n]?, ss[n]? with | some c, some s => [(c, (if c = 1 then (cs.take n).sum + 1 else (cs.take n).sum), s.2)] | _, _ => [])
theorem pass_upd {K : PySem.W.Frag} {H : Hp} {l : Addr} {ws : List V} {o : HO} (hl : H l = some (.lst ws)) {v : V} {s : Pass} (h : Dp K H v (passD s)) : Dp K (upd H l o) v (passD s) := by
  obtain ⟨g, rfl, hg⟩ := pass_inv h
  exact .tup (sqT_upd hg hl) (.cons (.int _) (.cons (.int _) (.cons (.int _) .nil)))
theorem passes_upd {K : PySem.W.Frag} {H : Hp} {l : Addr} {ws : List V} {o : HO} (hl : H l = some (.lst ws)) : ∀ {vs : List V} {ss : List Pass}, DpAll K H vs (ss.map passD) → DpAll K (upd H l o) vs (ss.map passD)
  | _, [], .nil => .nil
  | _, s :: ss, .cons h t => .cons (pass_upd hl h) (passes_upd hl t)
end Ct

/-! the smallest wheel: passes of shows, wheels that do them -/
namespace Ct
open PySem PySem.Spec PyProof.Rows L2
/-- data without lists in it -/
inductive NL : PyData → Prop
  | non : NL .none
  | bl (b : Bool) : NL (.bool b)
  | int (i : Int) : NL (.int i)
  | str (x : Str) : NL (.str x)
  | tup {ds : List PyData} : (∀ d ∈ ds, NL d) → NL (.tuple ds)
theorem NL.inv {ds : List PyData} : NL (.tuple ds) → ∀ d ∈ ds, NL d
  | .tup h => h
theorem NL.no {ds : List PyData} (h : NL (.list ds)) : False := nomatch h
mutual
theorem dp_wr {K : PySem.W.Frag} {H : Hp} {l : Addr} {ws : List V} {o : HO} (hl : H l = some (.lst ws)) : ∀ {v : V} {d : PyData}, Dp K H v d → (NL d → Dp K (upd H l o) v d)
  | _, _, .non => fun _ => .non
  | _, _, .bl b => fun _ => .bl b
  | _, _, .int i => fun _ => .int i
  | _, _, .str x => fun _ => .str x
  | _, _, .lst _ _ => fun n => n.no.elim
  | _, _, .tup h t => fun n => .tup (sqT_upd h hl) (dpAll_wr hl t n.inv)
theorem dpAll_wr {K : PySem.W.Frag} {H : Hp} {l : Addr} {ws : List V} {o : HO} (hl : H l = some (.lst ws)) : ∀ {vs : List V} {ds : List PyData}, DpAll K H vs ds → ((∀ d ∈ ds, NL d) → DpAll K (upd H l o) vs ds)
  | _, _, .nil => fun _ => .nil
  | _, _, .cons h t => fun n => .cons (dp_wr hl h (n _ List.mem_cons_self)) (dpAll_wr hl t fun d hd => n d (List.mem_cons_of_mem _ hd))
end
def toothN (cs : List Int) (n : Nat) : Int := if cs[n]? = some 1 then (cs.take n).sum + 1 else (cs.take n).sum
theorem passN_all (cs : List Int) (ss : List (Int × Int)) : ∀ n, n ≤ cs.length → n ≤ ss.length → (passN cs ss n).length = n ∧ ∀ i c s, i < n → cs[i]? = some c → ss[i]? = some s → (passN cs ss n)[i]? = some (c, toothN cs i, s.2)
  | 0, _, _ => ⟨rfl, fun i _ _ h => absurd h (Nat.not_lt_zero i)⟩
  | n + 1, h1, h2 => by
    obtain ⟨l, g⟩ := passN_all cs ss n (by omega) (by omega)
    obtain ⟨c, hc⟩ : ∃ c, cs[n]? = some c := ⟨_, List.getElem?_eq_getElem (by omega)⟩
    obtain ⟨s, hs⟩ : ∃ s, ss[n]? = some s := ⟨_, List.getElem?_eq_getElem (by omega)⟩
    have e : passN cs ss (n + 1) = passN cs ss n ++ [(c, toothN cs n, s.2)] := by
      rw [passN, hc, hs]
      unfold toothN
      rw [hc]
      simp only [Option.some.injEq]
    rw [e]
    refine ⟨by rw [List.length_append, l]; rfl, fun i c' s' hi hc' hs' => ?_⟩
    by_cases z : i < n
    · rw [List.getElem?_append_left (by omega)]
      exact g i c' s' z hc' hs'
    · have : i = n := by omega
      subst this
      rw [List.getElem?_append_right (by omega), l, Nat.sub_self]
      cases Option.some.inj (hc.symm.trans hc')
      cases Option.some.inj (hs.symm.trans hs')
      rfl
theorem tooth_step {cs : List Int} (h : ∀ c ∈ cs, c = 1 ∨ c = 0 ∨ c = -1) {n : Nat} (hn : n + 1 < cs.length) : toothN cs (n + 1) - toothN cs n ≤ 1 ∧ toothN cs n - toothN cs (n + 1) ≤ 1 := by
  obtain ⟨c, hc⟩ : ∃ c, cs[n]? = some c := ⟨_, List.getElem?_eq_getElem (by omega)⟩
  obtain ⟨d, hd⟩ : ∃ d, cs[n + 1]? = some d := ⟨_, List.getElem?_eq_getElem (by omega)⟩
  have e : (cs.take (n + 1)).sum = (cs.take n).sum + c := by
    rw [List.take_add_one, hc, Option.toList_some, List.sum_append]
    simp
  have c3 := h c (List.mem_of_getElem? hc)
  have d3 := h d (List.mem_of_getElem? hd)
  unfold toothN
  rw [hc, hd, e]
  simp only [Option.some.injEq]
  rcases c3 with rfl | rfl | rfl <;> rcases d3 with rfl | rfl | rfl <;> simp <;> omega
theorem tooth_near {cs : List Int} (h : ∀ c ∈ cs, c = 1 ∨ c = 0 ∨ c = -1) (j : Nat) : ∀ d : Nat, j + d < cs.length → toothN cs (j + d) - toothN cs j ≤ d ∧ toothN cs j - toothN cs (j + d) ≤ d
  | 0, _ => ⟨by simp, by simp⟩
  | d + 1, hd => by
    have a := tooth_near h j d (by omega)
    have b := tooth_step h (n := j + d) (by omega)
    rw [show j + (d + 1) = j + d + 1 by omega]
    omega
def Walky (ps : List Pass) : Prop := ∀ (j k : Nat) (p q : Pass), j < k → ps[j]? = some p → ps[k]? = some q → p.2.1 - q.2.1 < ps.length ∧ q.2.1 - p.2.1 < ps.length
theorem walky_pass {cs : List Int} {ss : List (Int × Int)} (h : ∀ c ∈ cs, c = 1 ∨ c = 0 ∨ c = -1) (hl : cs.length = ss.length) : Walky (passN cs ss ss.length) := by
  obtain ⟨l, g⟩ := passN_all cs ss ss.length (by omega) (Nat.le_refl _)
  intro j k p q jk hp hq
  have kl : k < ss.length := by rw [← l]; exact (List.getElem?_eq_some_iff.mp hq).1
  have at_ : ∀ i, i < ss.length → ∃ c s, (passN cs ss ss.length)[i]? = some (c, toothN cs i, s) := fun i hi => by
    obtain ⟨c, hc⟩ : ∃ c, cs[i]? = some c := ⟨_, List.getElem?_eq_getElem (by omega)⟩
    obtain ⟨s, hs⟩ : ∃ s, ss[i]? = some s := ⟨_, List.getElem?_eq_getElem (by omega)⟩
    exact ⟨c, s.2, g i c s hi hc hs⟩
  obtain ⟨c1, s1, e1⟩ := at_ j (by omega)
  obtain ⟨c2, s2, e2⟩ := at_ k kl
  cases Option.some.inj (e1.symm.trans hp)
  cases Option.some.inj (e2.symm.trans hq)
  have n := tooth_near h j (k - j) (by omega)
  rw [show j + (k - j) = k by omega] at n
  rw [l]
  show toothN cs j - toothN cs k < _ ∧ toothN cs k - toothN cs j < _
  omega
theorem emod_near {p q n : Int} (h : p % n = q % n) (h1 : p - q < n) (h2 : q - p < n) : p = q := by
  have e1 := Int.mul_ediv_add_emod p n
  have e2 := Int.mul_ediv_add_emod q n
  have d : n * (p / n - q / n) = p - q := by rw [Int.mul_sub]; omega
  generalize p / n - q / n = k at d
  have k0 : k = 0 := by
    rcases Int.lt_trichotomy k 0 with z | z | z
    · have := Int.mul_le_mul_of_nonneg_left (a := k) (b := -1) (c := n) (by omega) (by omega)
      omega
    · exact z
    · have := Int.mul_le_mul_of_nonneg_left (a := 1) (b := k) (c := n) (by omega) (by omega)
      omega
  subst k0
  omega
theorem hit_all {ps : List Pass} (wk : Walky ps) {j k : Nat} (jk : j < k) (h : Hit ps ps.length j k) (t : Int) : Hit ps t j k := by
  obtain ⟨p, q, e1, e2, e3, e4⟩ := h
  obtain ⟨a, b⟩ := wk j k p q jk e1 e2
  exact ⟨p, q, e1, e2, by rw [emod_near e3 a b], e4⟩
def hitB (ps : List Pass) (t : Int) (j k : Nat) : Bool := match ps[j]?, ps[k]? with
  | some p, some q => decide (p.2.1 % t = q.2.1 % t) && unlk p q
  | _, _ => false
theorem hitB_iff {ps : List Pass} {t : Int} {j k : Nat} : hitB ps t j k = true ↔ Hit ps t j k := by
  unfold hitB Hit
  cases hj : ps[j]? with
  | none => exact ⟨(fun z => nomatch z), fun ⟨_, _, e, _⟩ => nomatch e⟩
  | some p =>
    cases hk : ps[k]? with
    | none => exact ⟨(fun z => nomatch z), fun ⟨_, _, _, e, _⟩ => nomatch e⟩
    | some q =>
      simp only [Bool.and_eq_true, decide_eq_true_eq]
      exact ⟨fun ⟨a, b⟩ => ⟨p, q, rfl, rfl, a, b⟩, fun ⟨p', q', e1, e2, a, b⟩ => by
        cases e1
        cases e2
        exact ⟨a, b⟩⟩
def freeB (ps : List Pass) (t : Int) : Bool := (List.range ps.length).all fun k => (List.range k).all fun j => !hitB ps t j k
theorem freeB_iff {ps : List Pass} {t : Int} : freeB ps t = true ↔ NoHit ps t ps.length := by
  unfold freeB NoHit
  rw [List.all_eq_true]
  constructor
  · intro h j k jk kn z
    have := List.all_eq_true.mp (h k (List.mem_range.mpr kn)) j (List.mem_range.mpr jk)
    rw [hitB_iff.mpr z] at this
    cases this
  · intro h k hk
    rw [List.all_eq_true]
    intro j hj
    cases e : hitB ps t j k with
    | false => rfl
    | true => exact absurd (hitB_iff.mp e) (h j k (List.mem_range.mp hj) (List.mem_range.mp hk))
def wrongB (p : Pass) : Bool := !(decide (p.2.2 = p.1) || decide (p.2.2 = 0))
theorem wrongB_no {p : Pass} (h : wrongB p = false) : p.2.2 = p.1 ∨ p.2.2 = 0 := by
  by_cases e : p.2.2 = p.1
  · exact .inl e
  · by_cases z : p.2.2 = 0
    · exact .inr z
    · unfold wrongB at h
      rw [decide_eq_false e, decide_eq_false z] at h
      cases h
/-- the pair that is found first -/
def IsCl (ps : List Pass) (t : Int) (j k : Nat) : Prop := j < k ∧ Hit ps t j k ∧ NoHit ps t k ∧ ∀ i, i < j → ¬ Hit ps t i k
theorem IsCl.uniq {ps : List Pass} {t : Int} {j k j' k' : Nat} (a : IsCl ps t j k) (b : IsCl ps t j' k') : j = j' ∧ k = k' := by
  obtain ⟨a1, a2, a3, a4⟩ := a
  obtain ⟨b1, b2, b3, b4⟩ := b
  have e : k = k' := by
    rcases Nat.lt_trichotomy k k' with z | z | z
    · exact absurd a2 (b3 j k a1 z)
    · exact z
    · exact absurd b2 (a3 j' k' b1 z)
  subst e
  refine ⟨?_, rfl⟩
  rcases Nat.lt_trichotomy j j' with z | z | z
  · exact absurd a2 (b4 j z)
  · exact z
  · exact absurd b2 (a4 j' z)
theorem Hit.lt {ps : List Pass} {t : Int} {j k : Nat} (h : Hit ps t j k) : k < ps.length := by
  obtain ⟨_, _, _, e, _⟩ := h
  exact (List.getElem?_eq_some_iff.mp e).1
theorem IsCl.not {ps : List Pass} {t : Int} {j k : Nat} (a : IsCl ps t j k) : freeB ps t = false := by
  cases e : freeB ps t with
  | false => rfl
  | true => exact absurd a.2.1 (freeB_iff.mp e j k a.1 a.2.1.lt)
def IsMarks (ps : List Pass) (t : Int) (ms : List Int) : Prop := ms.Pairwise (· < ·) ∧ ∀ r, r ∈ ms ↔ ∃ p ∈ ps, p.2.2 ≠ 0 ∧ p.2.1 % t = r
theorem rise_eq : ∀ {l m : List Int}, l.Pairwise (· < ·) → m.Pairwise (· < ·) → (∀ r, r ∈ l ↔ r ∈ m) → l = m
  | [], [], _, _, _ => rfl
  | [], y :: m, _, _, h => absurd ((h y).mpr List.mem_cons_self) (by simp)
  | x :: l, [], _, _, h => absurd ((h x).mp List.mem_cons_self) (by simp)
  | x :: l, y :: m, a, b, h => by
    obtain ⟨a1, a2⟩ := List.pairwise_cons.mp a
    obtain ⟨b1, b2⟩ := List.pairwise_cons.mp b
    have xy : x = y := by
      rcases List.mem_cons.mp ((h x).mp List.mem_cons_self) with e | e
      · exact e
      · rcases List.mem_cons.mp ((h y).mpr List.mem_cons_self) with f | f
        · exact f.symm
        · have := a1 y f
          have := b1 x e
          omega
    subst xy
    rw [rise_eq a2 b2 fun r => ?_]
    constructor
    · intro hr
      rcases List.mem_cons.mp ((h r).mp (List.mem_cons_of_mem _ hr)) with e | e
      · have := a1 r hr
        omega
      · exact e
    · intro hr
      rcases List.mem_cons.mp ((h r).mpr (List.mem_cons_of_mem _ hr)) with e | e
      · have := b1 r hr
        omega
      · exact e
theorem IsMarks.uniq {ps : List Pass} {t : Int} {l m : List Int} (a : IsMarks ps t l) (b : IsMarks ps t m) : l = m := rise_eq a.1 b.1 fun r => (a.2 r).trans (b.2 r).symm
theorem IsMarks.rise {ps : List Pass} {t : Int} {l : List Int} (a : IsMarks ps t l) (ht : 1 ≤ t) : Rise t l := ⟨a.1, fun m hm => by
  obtain ⟨p, _, _, e⟩ := (a.2 m).mp hm
  rw [← e]
  exact ⟨Int.emod_nonneg _ (by omega), Int.emod_lt_of_pos _ (by omega)⟩⟩
/-- whether a wheel of t teeth with these marks shows so -/
def doesB (t : Int) (ms : List Int) (ps : List Pass) : Bool := ps.all fun p => decide (p.2.2 = if p.2.1 % t ∈ ms then p.1 else 0)
theorem nohit_sym {ps : List Pass} {t : Int} (nh : NoHit ps t ps.length) {p q : Pass} (hp : p ∈ ps) (hq : q ∈ ps) (e : p.2.1 % t = q.2.1 % t) (cp : p.1 ≠ 0) (cq : q.1 ≠ 0) : p.2.2 = 0 ↔ q.2.2 = 0 := by
  obtain ⟨j, hj⟩ := List.mem_iff_getElem?.mp hp
  obtain ⟨k, hk⟩ := List.mem_iff_getElem?.mp hq
  have kl := (List.getElem?_eq_some_iff.mp hk).1
  have jl := (List.getElem?_eq_some_iff.mp hj).1
  rcases Nat.lt_trichotomy j k with z | z | z
  · have u : unlk p q = false := by
      cases c : unlk p q with
      | false => rfl
      | true => exact absurd ⟨p, q, hj, hk, e, c⟩ (nh j k z kl)
    have := unlk_of cp cq u
    simpa using this
  · subst z
    cases Option.some.inj (hj.symm.trans hk)
    exact Iff.rfl
  · have u : unlk q p = false := by
      cases c : unlk q p with
      | false => rfl
      | true => exact absurd ⟨q, p, hk, hj, e.symm, c⟩ (nh k j z jl)
    have := unlk_of cq cp u
    simpa using this.symm
theorem does_marks {ps : List Pass} {t : Int} {ms : List Int} (nw : ∀ p ∈ ps, wrongB p = false) (nh : NoHit ps t ps.length) (im : IsMarks ps t ms) : doesB t ms ps = true := by
  unfold doesB
  rw [List.all_eq_true]
  intro p hp
  rw [decide_eq_true_eq]
  by_cases h : p.2.1 % t ∈ ms
  · rw [if_pos h]
    obtain ⟨q, hq, q0, e⟩ := (im.2 _).mp h
    by_cases c : p.1 = 0
    · rcases wrongB_no (nw p hp) with z | z
      · exact z
      · rw [z, c]
    · have cq : q.1 ≠ 0 := by
        rcases wrongB_no (nw q hq) with z | z
        · rw [← z]; exact q0
        · exact absurd z q0
      rcases wrongB_no (nw p hp) with z | z
      · exact z
      · exact absurd ((nohit_sym nh hq hp e cq c).mpr z) q0
  · rw [if_neg h]
    by_cases c : p.2.2 = 0
    · exact c
    · exact absurd ((im.2 _).mpr ⟨p, hp, c, rfl⟩) h
theorem does_needs {ps : List Pass} {t : Int} {ms : List Int} (h : doesB t ms ps = true) : (∀ p ∈ ps, wrongB p = false) ∧ NoHit ps t ps.length ∧ ∀ l, IsMarks ps t l → ∀ r ∈ l, r ∈ ms := by
  have d : ∀ p ∈ ps, p.2.2 = if p.2.1 % t ∈ ms then p.1 else 0 := fun p hp => by simpa using List.all_eq_true.mp h p hp
  refine ⟨fun p hp => ?_, fun j k jk kn ⟨p, q, hp, hq, e, u⟩ => ?_, fun l im r hr => ?_⟩
  · have := d p hp
    unfold wrongB
    by_cases c : p.2.1 % t ∈ ms
    · rw [if_pos c] at this
      rw [this]
      simp
    · rw [if_neg c] at this
      rw [this]
      simp
  · obtain ⟨cp, cq, ne⟩ := unlk_came u
    have dp := d p (List.mem_of_getElem? hp)
    have dq := d q (List.mem_of_getElem? hq)
    apply ne
    by_cases c : p.2.1 % t ∈ ms
    · rw [if_pos c] at dp
      rw [if_pos (e ▸ c)] at dq
      rw [dp, dq, decide_eq_false cp, decide_eq_false cq]
    · rw [if_neg c] at dp
      rw [if_neg (e ▸ c)] at dq
      rw [dp, dq]
  · obtain ⟨p, hp, p0, e⟩ := (im.2 r).mp hr
    have := d p hp
    by_cases c : p.2.1 % t ∈ ms
    · rw [← e]; exact c
    · rw [if_neg c] at this
      exact absurd this p0
theorem sub_len : ∀ (l m : List Int), l.Nodup → (∀ x ∈ l, x ∈ m) → l.length ≤ m.length
  | [], _, _, _ => Nat.zero_le _
  | x :: l, m, nd, h => by
    obtain ⟨h1, h2⟩ := List.nodup_cons.mp nd
    have a := sub_len l (m.erase x) h2 fun y hy => (List.mem_erase_of_ne (fun (e : y = x) => h1 (by rw [← e]; exact hy))).mpr (h y (List.mem_cons_of_mem _ hy))
    have b := List.length_erase_of_mem (h x List.mem_cons_self)
    have c : 0 < m.length := List.length_pos_of_mem (h x List.mem_cons_self)
    rw [List.length_cons]
    omega
theorem rise_nodup {l : List Int} (h : l.Pairwise (· < ·)) : l.Nodup := h.imp fun {a b} z => by omega
/-- all rising lists of numbers below n -/
def allM : Nat → List (List Int)
  | 0 => [[]]
  | n + 1 => allM n ++ (allM n).map (· ++ [(n : Int)])
theorem allM_rise : ∀ (n : Nat) (l : List Int), l ∈ allM n → Rise n l
  | 0, l, h => by
    rw [List.mem_singleton.mp h]
    exact ⟨List.Pairwise.nil, fun _ z => nomatch z⟩
  | n + 1, l, h => by
    rcases List.mem_append.mp h with h | h
    · obtain ⟨a, b⟩ := allM_rise n l h
      exact ⟨a, fun m hm => by have := b m hm; omega⟩
    · obtain ⟨r, hr, rfl⟩ := List.mem_map.mp h
      obtain ⟨a, b⟩ := allM_rise n r hr
      refine ⟨List.pairwise_append.mpr ⟨a, List.pairwise_singleton _ _, fun x hx y hy => ?_⟩, fun m hm => ?_⟩
      · rw [List.mem_singleton.mp hy]
        exact (b x hx).2
      · rcases List.mem_append.mp hm with hm | hm
        · have := b m hm
          omega
        · rw [List.mem_singleton.mp hm]
          omega
theorem rise_allM : ∀ (n : Nat) (l : List Int), Rise n l → l ∈ allM n
  | 0, l, h => by
    cases l with
    | nil => exact List.mem_singleton.mpr rfl
    | cons x l =>
      have := h.2 x List.mem_cons_self
      omega
  | n + 1, l, h => by
    refine List.mem_append.mpr ?_
    rcases List.eq_nil_or_concat l with rfl | ⟨r, x, rfl⟩
    · exact .inl (rise_allM n [] ⟨List.Pairwise.nil, fun _ z => nomatch z⟩)
    · obtain ⟨a, b⟩ := h
      rw [List.concat_eq_append] at a b ⊢
      obtain ⟨a1, _, a3⟩ := List.pairwise_append.mp a
      have lt : ∀ y ∈ r, y < x := fun y hy => a3 y hy x (List.mem_singleton.mpr rfl)
      have bx := b x (List.mem_append_right _ (List.mem_singleton.mpr rfl))
      by_cases e : x = (n : Int)
      · subst e
        refine .inr (List.mem_map.mpr ⟨r, rise_allM n r ⟨a1, fun m hm => ⟨(b m (List.mem_append_left _ hm)).1, lt m hm⟩⟩, rfl⟩)
      · refine .inl (rise_allM n _ ⟨a, fun m hm => ⟨(b m hm).1, ?_⟩⟩)
        rcases List.mem_append.mp hm with hm | hm
        · have := lt m hm
          omega
        · rw [List.mem_singleton.mp hm]
          omega
/-- passes from a number on -/
def passF : Int → List (Int × Int) → List Pass
  | _, [] => []
  | o, s :: r => (s.1, (if s.1 = 1 then o + 1 else o), s.2) :: passF (o + s.1) r
theorem passF_get : ∀ (ss : List (Int × Int)) (o : Int) (i : Nat) (s : Int × Int), ss[i]? = some s → (passF o ss)[i]? = some (s.1, o + toothN (ss.map (·.1)) i, s.2)
  | [], _, _, _, h => by simp at h
  | z :: r, o, 0, s, h => by
    cases Option.some.inj h
    show some (z.1, (if z.1 = 1 then o + 1 else o), z.2) = some (z.1, o + toothN (z.1 :: r.map (·.1)) 0, z.2)
    unfold toothN
    rw [List.getElem?_cons_zero, List.take_zero]
    by_cases e : z.1 = 1
    · rw [if_pos e, if_pos (by rw [e])]
      rfl
    · rw [if_neg e, if_neg (fun c => e (Option.some.inj c))]
      simp
  | z :: r, o, i + 1, s, h => by
    have := passF_get r (o + z.1) i s h
    show (passF (o + z.1) r)[i]? = _
    rw [this]
    show some (s.1, o + z.1 + toothN (r.map (·.1)) i, s.2) = some (s.1, o + toothN (z.1 :: r.map (·.1)) (i + 1), s.2)
    unfold toothN
    rw [List.getElem?_cons_succ, List.take_succ_cons, List.sum_cons]
    split <;> simp <;> omega
theorem passF_len : ∀ (ss : List (Int × Int)) (o : Int), (passF o ss).length = ss.length
  | [], _ => rfl
  | s :: r, o => by
    show (passF (o + s.1) r).length + 1 = _
    rw [passF_len r]
    rfl
theorem passN_F (ss : List (Int × Int)) : passN (ss.map (·.1)) ss ss.length = passF 0 ss := by
  obtain ⟨l, g⟩ := passN_all (ss.map (·.1)) ss ss.length (by rw [List.length_map]; exact Nat.le_refl _) (Nat.le_refl _)
  refine List.ext_getElem? fun i => ?_
  by_cases h : i < ss.length
  · obtain ⟨s, hs⟩ : ∃ s, ss[i]? = some s := ⟨_, List.getElem?_eq_getElem h⟩
    rw [g i s.1 s h (by rw [List.getElem?_map, hs]; rfl) hs, passF_get ss 0 i s hs, Int.zero_add]
  · rw [List.getElem?_eq_none (by omega), List.getElem?_eq_none (by rw [passF_len]; omega)]
/-- whether a wheel from place x on shows so -/
def shownB (t : Int) (ms : List Int) : Int → List (Int × Int) → Bool
  | _, [] => true
  | x, s :: r => decide ((pp (.wheel t ms) x s.1).2 = s.2) && shownB t ms (pp (.wheel t ms) x s.1).1 r
theorem shownB_does (t : Int) (ms : List Int) : ∀ (ss : List (Int × Int)) (o : Int), shownB t ms (o % t) ss = doesB t ms (passF o ss)
  | [], _ => rfl
  | s :: r, o => by
    show (decide ((if (if s.1 = 1 then (o % t + s.1) % t else o % t) ∈ ms then s.1 else 0) = s.2) && shownB t ms ((o % t + s.1) % t) r) = (decide (s.2 = if (if s.1 = 1 then o + 1 else o) % t ∈ ms then s.1 else 0) && doesB t ms (passF (o + s.1) r))
    rw [Int.emod_add_emod, shownB_does t ms r (o + s.1)]
    congr 1
    by_cases e : s.1 = 1
    · rw [if_pos e, if_pos e, e]
      exact decide_eq_decide.mpr ⟨Eq.symm, Eq.symm⟩
    · rw [if_neg e, if_neg e]
      exact decide_eq_decide.mpr ⟨Eq.symm, Eq.symm⟩
theorem ways_ok {ss : List (Int × Int)} (h : ∀ s ∈ ss, Sh2Ok s) : ∀ c ∈ ss.map (·.1), c = 1 ∨ c = 0 ∨ c = -1 := fun c hc => by
  obtain ⟨s, hs, rfl⟩ := List.mem_map.mp hc
  rcases (h s hs).1 with e | e
  · exact .inl e
  · exact .inr (.inr e)
def barD (b : Nat × Nat) : PyData := .tuple [.int b.1, .int b.2]
theorem barD_nl (bs : List (Nat × Nat)) : ∀ d ∈ bs.map barD, NL d := fun d hd => by
  obtain ⟨b, _, rfl⟩ := List.mem_map.mp hd
  refine .tup fun d hd => ?_
  rcases List.mem_cons.mp hd with e | hd
  · rw [e]; exact .int _
  · rw [List.mem_singleton.mp hd]; exact .int _
def SmNone (ps : List Pass) (j k : Nat) : Prop := (∃ p, ps[k]? = some p ∧ wrongB p = true ∧ j = k ∧ ∀ i q, i < k → ps[i]? = some q → wrongB q = false) ∨ ((∀ p ∈ ps, wrongB p = false) ∧ IsCl ps ps.length j k)
structure SmWheel (ps : List Pass) (t : Nat) (ms : List Int) (bars : List (Nat × Nat)) : Prop where
  nw : ∀ p ∈ ps, wrongB p = false
  t1 : 1 ≤ t
  tn : t ≤ max 1 ps.length
  free : freeB ps t = true
  marks : IsMarks ps t ms
  len : bars.length = t - 1
  bars : ∀ (i : Nat) (b : Nat × Nat), bars[i]? = some b → IsCl ps ((i + 1 : Nat) : Int) b.1 b.2
/-- what smallest_of tells, at g -/
def SmOk (K : PySem.W.Frag) (ps : List Pass) (H H' : Hp) (g : Addr) : Prop := H g = none ∧
  ((∃ j k : Nat, H' g = some (.tup [.str "none", .int j, .int k]) ∧ SmNone ps j k) ∨
   (∃ (t : Nat) (m b : Addr) (ms : List Int) (us : List V) (bars : List (Nat × Nat)), H' g = some (.tup [.str "wheel", .int t, .ref m, .ref b]) ∧ H' m = some (.tup (ms.map V.int)) ∧ H' b = some (.lst us) ∧ DpAll K H' us (bars.map barD) ∧ H m = none ∧ H b = none ∧ SmWheel ps t ms bars))
theorem none_does {ps : List Pass} {j k : Nat} (wk : Walky ps) (h : SmNone ps j k) (t : Int) (ms : List Int) : doesB t ms ps = false := by
  cases e : doesB t ms ps with
  | false => rfl
  | true =>
    obtain ⟨a, b, _⟩ := does_needs e
    rcases h with ⟨p, hp, w, _⟩ | ⟨_, c⟩
    · rw [a p (List.mem_of_getElem? hp)] at w
      cases w
    · exact absurd (hit_all wk c.1 c.2.1 t) (b j k c.1 c.2.1.lt)
theorem SmWheel.least {ps : List Pass} {t : Nat} {ms : List Int} {bars : List (Nat × Nat)} (h : SmWheel ps t ms bars) {u : Nat} (u1 : 1 ≤ u) (ut : u < t) (l : List Int) : doesB u l ps = false := by
  cases e : doesB u l ps with
  | false => rfl
  | true =>
    obtain ⟨_, b, _⟩ := does_needs e
    obtain ⟨x, hx⟩ : ∃ x, bars[u - 1]? = some x := ⟨_, List.getElem?_eq_getElem (by rw [h.len]; omega)⟩
    have c := h.bars _ _ hx
    rw [show u - 1 + 1 = u by omega] at c
    exact absurd c.2.1 (b _ _ c.1 c.2.1.lt)
end Ct
namespace Ct
open PySem PySem.Spec PyProof.Rows L2
/-- all numbers of teeth up to most that do -/
def teethB (ps : List Pass) (most : Nat) : List Int := if ps.any wrongB = true then [] else ((List.range most).map fun (i : Nat) => ((i + 1 : Nat) : Int)).filter fun t => freeB ps t
end Ct
namespace Ct
open PySem PySem.Spec PyProof.Rows L2
def marksF (ps : List Pass) (t : Nat) : List Int := ((List.range t).map fun (i : Nat) => (i : Int)).filter fun r => ps.any fun p => !decide (p.2.2 = 0) && decide (p.2.1 % (t : Int) = r)
theorem marksF_is (ps : List Pass) {t : Nat} (ht : 1 ≤ t) : IsMarks ps t (marksF ps t) := by
  refine ⟨List.Pairwise.filter _ ?_, fun r => ?_⟩
  · rw [List.pairwise_map]
    exact List.pairwise_lt_range.imp fun {a b} h => by omega
  · unfold marksF
    rw [List.mem_filter, List.any_eq_true]
    constructor
    · rintro ⟨_, p, hp, h⟩
      simp only [Bool.and_eq_true, Bool.not_eq_true', decide_eq_false_iff_not, decide_eq_true_eq] at h
      exact ⟨p, hp, h⟩
    · rintro ⟨p, hp, h1, h2⟩
      refine ⟨List.mem_map.mpr ⟨r.toNat, List.mem_range.mpr ?_, ?_⟩, p, hp, ?_⟩
      · have := Int.emod_lt_of_pos p.2.1 (b := (t : Int)) (by omega)
        omega
      · have := Int.emod_nonneg p.2.1 (b := (t : Int)) (by omega)
        omega
      · simp only [Bool.and_eq_true, Bool.not_eq_true', decide_eq_false_iff_not, decide_eq_true_eq]
        exact ⟨h1, h2⟩
def okT (ps : List Pass) (t : Int) : Bool := !ps.any wrongB && freeB ps t
theorem okT_of {ps : List Pass} {t : Int} {l : List Int} (h : doesB t l ps = true) : okT ps t = true := by
  obtain ⟨a, b, _⟩ := does_needs h
  have : ps.any wrongB = false := List.any_eq_false.mpr fun p hp => by rw [a p hp]; decide
  unfold okT
  rw [this, freeB_iff.mpr b]
  rfl
theorem okT_nw {ps : List Pass} {t : Int} (h : okT ps t = true) : (∀ p ∈ ps, wrongB p = false) ∧ freeB ps t = true := by
  unfold okT at h
  rw [Bool.and_eq_true] at h
  refine ⟨fun p hp => ?_, h.2⟩
  cases e : wrongB p with
  | false => rfl
  | true =>
    rw [List.any_eq_true.mpr ⟨p, hp, e⟩] at h
    exact nomatch h.1
theorem okT_does {ps : List Pass} {t : Nat} (ht : 1 ≤ t) (h : okT ps t = true) : doesB t (marksF ps t) ps = true := does_marks (okT_nw h).1 (freeB_iff.mp (okT_nw h).2) (marksF_is ps ht)
def fine (ps : List Pass) (t : Nat) : List (List Int) := (allM t).filter fun m => doesB t m ps
theorem fine_nil {ps : List Pass} {t : Nat} (ht : 1 ≤ t) (h : fine ps t = []) : okT ps t = false := by
  cases e : okT ps t with
  | false => rfl
  | true =>
    have : marksF ps t ∈ fine ps t := List.mem_filter.mpr ⟨rise_allM t _ ((marksF_is ps ht).rise (by omega)), okT_does ht e⟩
    rw [h] at this
    cases this
theorem fine_cons {ps : List Pass} {t : Nat} {m : List Int} (h : m ∈ fine ps t) : okT ps t = true := okT_of (List.mem_filter.mp h).2
def doesN (ps : List Pass) (n : Nat) : List Int := ((List.range n).map fun (i : Nat) => ((i + 1 : Nat) : Int)).filter fun t => okT ps t
theorem doesN_succ (ps : List Pass) (n : Nat) : doesN ps (n + 1) = doesN ps n ++ (if okT ps ((n + 1 : Nat) : Int) = true then [((n + 1 : Nat) : Int)] else []) := by
  unfold doesN
  rw [List.range_succ, List.map_append, List.filter_append]
  congr 1
  show List.filter (fun t => okT ps t) [((n + 1 : Nat) : Int)] = _
  by_cases e : okT ps ((n + 1 : Nat) : Int) = true
  · rw [if_pos e, List.filter_cons_of_pos (p := fun t => okT ps t) e, List.filter_nil]
  · rw [if_neg e, List.filter_cons_of_neg (p := fun t => okT ps t) e, List.filter_nil]
theorem mem_doesN {ps : List Pass} {n t : Nat} (t1 : 1 ≤ t) (tn : t ≤ n) (h : okT ps t = true) : (t : Int) ∈ doesN ps n := List.mem_filter.mpr ⟨List.mem_map.mpr ⟨t - 1, List.mem_range.mpr (by omega), by omega⟩, h⟩
theorem doesN_mem {ps : List Pass} {n : Nat} {x : Int} (h : x ∈ doesN ps n) : ∃ t : Nat, x = (t : Int) ∧ 1 ≤ t ∧ t ≤ n ∧ okT ps t = true := by
  obtain ⟨h1, h2⟩ := List.mem_filter.mp h
  obtain ⟨i, hi, rfl⟩ := List.mem_map.mp h1
  have := List.mem_range.mp hi
  exact ⟨i + 1, rfl, by omega, by omega, h2⟩
theorem doesN_len (ps : List Pass) (n : Nat) : (doesN ps n).length ≤ n := Nat.le_trans (List.length_filter_le _ _) (by rw [List.length_map, List.length_range]; exact Nat.le_refl _)
theorem teethB_eq (ps : List Pass) (n : Nat) : teethB ps n = doesN ps n := by
  unfold teethB doesN
  cases e : ps.any wrongB with
  | true =>
    rw [if_pos rfl]
    refine (List.filter_eq_nil_iff.mpr fun t _ => ?_).symm
    unfold okT
    rw [e]
    exact Bool.false_ne_true
  | false =>
    rw [if_neg Bool.false_ne_true]
    congr 1
    funext t
    unfold okT
    rw [e]
    rfl
def leastV : List Int → V
  | [] => .non
  | t :: _ => .int t
theorem SmWheel.okT {ps : List Pass} {t : Nat} {ms : List Int} {bars : List (Nat × Nat)} (h : SmWheel ps t ms bars) : Ct.okT ps t = true := okT_of (does_marks h.nw (freeB_iff.mp h.free) h.marks)
theorem SmWheel.mem {ps : List Pass} {t : Nat} {ms : List Int} {bars : List (Nat × Nat)} (h : SmWheel ps t ms bars) : ms ∈ fine ps t := List.mem_filter.mpr ⟨rise_allM t _ (h.marks.rise (by have := h.t1; omega)), does_marks h.nw (freeB_iff.mp h.free) h.marks⟩
theorem SmWheel.le {ps : List Pass} {t u : Nat} {ms : List Int} {bars : List (Nat × Nat)} (h : SmWheel ps t ms bars) (u1 : 1 ≤ u) (hu : Ct.okT ps u = true) : t ≤ u := by
  rcases Nat.lt_or_ge u t with z | z
  · have := h.least u1 z (marksF ps u)
    rw [okT_does u1 hu] at this
    cases this
  · exact z
theorem none_okT {ps : List Pass} {j k : Nat} (wk : Walky ps) (h : SmNone ps j k) {t : Nat} (t1 : 1 ≤ t) : okT ps t = false := by
  cases e : okT ps t with
  | false => rfl
  | true =>
    have := none_does wk h t (marksF ps t)
    rw [okT_does t1 e] at this
    cases this
theorem w_rNeW {H : Hp} {Q : VK} {x y : Str} {b : Bool} (e : (!decide (V.str x = V.str y)) = b) (h : Q (.bl b) H) : rNe (.str x) (.str y) H Q := ⟨rfl, by rw [e]; exact h⟩
end Ct
namespace Ct
open PySem PySem.Spec PyProof.Rows L2
/-- the spot that push i passes on t teeth -/
def spotV (cs : List Int) (t : Int) (i : Nat) : V := if cs[i]? = some 0 then .non else .int (toothN cs i % t)
/-- known by the first of each spot: whether it showed nothing -/
structure KeptB (ps : List Pass) (t : Int) (n : Nat) (kvs : List (Key × V)) : Prop where
  ex : ∃ k0, Kept ps t n k0 ∧ ∀ r, (valV k0 (Sum.inl r) = none → valV kvs (Sum.inl r) = none) ∧ ∀ (j : Nat) (p : Pass), valV k0 (Sum.inl r) = some (.int (j : Int)) → ps[j]? = some p → valV kvs (Sum.inl r) = some (.bl (decide (p.2.2 = 0)))
theorem KeptB.nil (ps : List Pass) (t : Int) : KeptB ps t 0 [] := ⟨[], ⟨(fun _ _ h => nomatch h), fun _ _ i _ hi => absurd hi (Nat.not_lt_zero i)⟩, fun _ => ⟨fun h => h, fun _ _ h => nomatch h⟩⟩
theorem KeptB.skip {ps : List Pass} {t : Int} {n : Nat} {kvs : List (Key × V)} (h : KeptB ps t n kvs) {q : Pass} (hq : ps[n]? = some q) (z : q.1 = 0) : KeptB ps t (n + 1) kvs := by
  obtain ⟨k0, a, b⟩ := h.ex
  exact ⟨k0, a.skip hq z, b⟩
/-- the first one at this spot is known: like it, or a hit -/
theorem KeptB.there {ps : List Pass} {t : Int} {n : Nat} {kvs : List (Key × V)} (h : KeptB ps t n kvs) {q : Pass} (hq : ps[n]? = some q) (hn : q.1 ≠ 0) {v : V} (e : valV kvs (Sum.inl (q.2.1 % t)) = some v) : ∃ b : Bool, v = .bl b ∧ (b = decide (q.2.2 = 0) → KeptB ps t (n + 1) kvs ∧ (NoHit ps t n → NoHit ps t (n + 1))) ∧ (b ≠ decide (q.2.2 = 0) → ∃ j, j < n ∧ Hit ps t j n) := by
  obtain ⟨k0, a, b⟩ := h.ex
  cases e0 : valV k0 (Sum.inl (q.2.1 % t)) with
  | none =>
    rw [(b _).1 e0] at e
    cases e
  | some u =>
    obtain ⟨j, p, rfl, jn, hj, c0, r0, first⟩ := a.is _ _ e0
    rw [(b _).2 j p e0 hj] at e
    cases Option.some.inj e
    refine ⟨_, rfl, fun eq => ⟨⟨k0, a.there hq e0, b⟩, fun nh => nh.more fun i hi ⟨p1, q1, e1, e2, e3, e4⟩ => ?_⟩, fun ne => ⟨j, jn, p, q, hj, hq, r0, ?_⟩⟩
    · cases Option.some.inj (hq.symm.trans e2)
      obtain ⟨n1, n2, n3⟩ := unlk_came e4
      by_cases c : i = j
      · subst c
        cases Option.some.inj (hj.symm.trans e1)
        exact n3 eq
      · by_cases lt : i < j
        · exact first i p1 lt e1 n1 e3
        · have un2 : unlk p p1 = false := by
            cases z : unlk p p1 with
            | false => rfl
            | true => exact absurd ⟨p, p1, hj, e1, by rw [r0, e3], z⟩ (nh j i (by omega) hi)
          exact n3 ((unlk_of c0 n1 un2).symm.trans eq)
    · unfold unlk
      rw [decide_eq_false c0, decide_eq_false hn]
      cases z : (decide (p.2.2 = 0) != decide (q.2.2 = 0)) with
      | true => rfl
      | false => exact absurd (by simpa using z) ne
theorem KeptB.new {ps : List Pass} {t : Int} {n : Nat} {kvs : List (Key × V)} (h : KeptB ps t n kvs) {q : Pass} (hq : ps[n]? = some q) (hn : q.1 ≠ 0) (e : valV kvs (Sum.inl (q.2.1 % t)) = none) : KeptB ps t (n + 1) (putK kvs (Sum.inl (q.2.1 % t)) (.bl (decide (q.2.2 = 0)))) ∧ (NoHit ps t n → NoHit ps t (n + 1)) := by
  obtain ⟨k0, a, b⟩ := h.ex
  have e0 : valV k0 (Sum.inl (q.2.1 % t)) = none := by
    cases z : valV k0 (Sum.inl (q.2.1 % t)) with
    | none => rfl
    | some u =>
      obtain ⟨j, p, rfl, jn, hj, _⟩ := a.is _ _ z
      rw [(b _).2 j p z hj] at e
      cases e
  refine ⟨⟨_, a.new hq hn e0, fun r => ?_⟩, fun nh => nh.more fun i hi ⟨p1, q1, e1, e2, e3, e4⟩ => ?_⟩
  · rw [valV_put, valV_put]
    by_cases c : (Sum.inl r : Key) = Sum.inl (q.2.1 % t)
    · rw [if_pos c, if_pos c]
      refine ⟨(fun z => nomatch z), fun j p z hj => ?_⟩
      have z := V.int.inj (Option.some.inj z)
      have : n = j := by omega
      subst this
      cases Option.some.inj (hq.symm.trans hj)
      rfl
    · rw [if_neg c, if_neg c]
      exact b r
  · cases Option.some.inj (hq.symm.trans e2)
    exact a.no _ e0 i p1 hi e1 (unlk_came e4).1 e3
def wrongAt (ps : List Pass) (k : Nat) : Bool := match ps[k]? with
  | some p => wrongB p
  | none => false
def wrongs (ps : List Pass) (n : Nat) : List Int := ((List.range n).filter (wrongAt ps)).map fun (k : Nat) => (k : Int)
theorem wrongs_succ {ps : List Pass} {n : Nat} {p : Pass} (h : ps[n]? = some p) : wrongs ps (n + 1) = wrongs ps n ++ (if wrongB p = true then [(n : Int)] else []) := by
  unfold wrongs
  rw [List.range_succ, List.filter_append, List.map_append]
  congr 1
  have e : wrongAt ps n = wrongB p := by unfold wrongAt; rw [h]
  by_cases c : wrongB p = true
  · rw [if_pos c, List.filter_cons_of_pos (by rw [e]; exact c), List.filter_nil]
    rfl
  · rw [if_neg c, List.filter_cons_of_neg (by rw [e]; exact c), List.filter_nil]
    rfl
theorem wrongs_len (ps : List Pass) (n : Nat) : (wrongs ps n).length ≤ n := by
  unfold wrongs
  rw [List.length_map]
  exact Nat.le_trans (List.length_filter_le _ _) (by rw [List.length_range]; exact Nat.le_refl _)
theorem wrongs_nil {ps : List Pass} (h : wrongs ps ps.length = []) : ∀ p ∈ ps, wrongB p = false := fun p hp => by
  obtain ⟨k, hk⟩ := List.mem_iff_getElem?.mp hp
  cases e : wrongB p with
  | false => rfl
  | true =>
    have : (k : Int) ∈ wrongs ps ps.length := List.mem_map.mpr ⟨k, List.mem_filter.mpr ⟨List.mem_range.mpr (List.getElem?_eq_some_iff.mp hk).1, by unfold wrongAt; rw [hk]; exact e⟩, rfl⟩
    rw [h] at this
    cases this
theorem wrongs_any {ps : List Pass} : ps.any wrongB = !decide (wrongs ps ps.length = []) := by
  by_cases h : wrongs ps ps.length = []
  · rw [decide_eq_true h]
    exact List.any_eq_false.mpr fun p hp => by rw [wrongs_nil h p hp]; decide
  · rw [decide_eq_false h]
    cases e : wrongs ps ps.length with
    | nil => exact absurd e h
    | cons x r =>
      have : x ∈ wrongs ps ps.length := by rw [e]; exact List.mem_cons_self
      obtain ⟨k, hk, _⟩ := List.mem_map.mp this
      obtain ⟨_, hk⟩ := List.mem_filter.mp hk
      unfold wrongAt at hk
      cases z : ps[k]? with
      | none => rw [z] at hk; cases hk
      | some p =>
        rw [z] at hk
        exact List.any_eq_true.mpr ⟨p, List.mem_of_getElem? z, hk⟩
theorem pass_at {cs : List Int} {ss : List (Int × Int)} (hl : cs.length = ss.length) {i : Nat} {c : Int} {s : Int × Int} (hc : cs[i]? = some c) (hs : ss[i]? = some s) : (passN cs ss ss.length)[i]? = some (c, toothN cs i, s.2) :=
  (passN_all cs ss ss.length (by omega) (Nat.le_refl _)).2 i c s (List.getElem?_eq_some_iff.mp hs).1 hc hs
theorem pass_len {cs : List Int} {ss : List (Int × Int)} (hl : cs.length = ss.length) : (passN cs ss ss.length).length = ss.length := (passN_all cs ss ss.length (by omega) (Nat.le_refl _)).1
end Ct
namespace Ct
open PySem PySem.Spec PyProof.Rows L2
theorem w_inL {K : PySem.W.Frag} {H : Hp} {Q : VK} {p : Addr} {x : Int} {ns : List Int} (h : SqL K H p (ns.map V.int)) (q : Q (.bl (decide (x ∈ ns))) H) : rIn K false (.int x) (.ref p) H Q := by
  refine ⟨p, ns.map V.int, rfl, .inl h, rfl, ?_, ?_⟩
  · rw [List.all_map]
    exact List.all_eq_true.mpr fun _ _ => rfl
  · rw [if_neg Bool.false_ne_true]
    rw [show inV (.int x) (ns.map V.int) = decide (x ∈ ns) from by
      unfold inV
      rw [List.any_map]
      by_cases e : x ∈ ns
      · rw [decide_eq_true e, List.any_eq_true]
        exact ⟨x, e, by show (x == x) = true; exact beq_self_eq_true x⟩
      · rw [decide_eq_false e, List.any_eq_false]
        intro y hy
        show ¬ (y == x) = true
        intro z
        exact e (eq_of_beq z ▸ hy)]
    exact q
theorem free_mul {ps : List Pass} {t k : Int} (h : freeB ps t = true) : freeB ps (t * k) = true := by
  refine freeB_iff.mpr fun j m jm mn ⟨p, q, hp, hq, e, u⟩ => freeB_iff.mp h j m jm mn ⟨p, q, hp, hq, ?_, u⟩
  have d : t ∣ t * k := ⟨k, rfl⟩
  rw [← Int.emod_emod_of_dvd p.2.1 d, e, Int.emod_emod_of_dvd q.2.1 d]
theorem teeth_mul {ps : List Pass} {most : Nat} {t : Int} (h : t ∈ teethB ps most) {k : Nat} (k1 : 1 ≤ k) (hk : t * k ≤ most) : t * (k : Int) ∈ teethB ps most := by
  unfold teethB at h ⊢
  by_cases e : ps.any wrongB = true
  · rw [if_pos e] at h
    cases h
  · rw [if_neg e] at h ⊢
    obtain ⟨h1, h2⟩ := List.mem_filter.mp h
    obtain ⟨i, hi, rfl⟩ := List.mem_map.mp h1
    have pos : 1 ≤ (((i + 1) * k : Nat) : Int) := by
      have := Nat.mul_pos (show 0 < i + 1 by omega) k1
      omega
    have e2 : ((i + 1 : Nat) : Int) * (k : Int) = (((i + 1) * k : Nat) : Int) := by rw [Int.natCast_mul]
    refine List.mem_filter.mpr ⟨List.mem_map.mpr ⟨(i + 1) * k - 1, List.mem_range.mpr ?_, ?_⟩, free_mul h2⟩
    · rw [e2] at hk
      omega
    · rw [e2]
      omega
theorem teethB_mem {ps : List Pass} {most : Nat} {t : Int} (h : t ∈ teethB ps most) : 1 ≤ t ∧ t ≤ most := by
  unfold teethB at h
  by_cases e : ps.any wrongB = true
  · rw [if_pos e] at h
    cases h
  · rw [if_neg e] at h
    obtain ⟨i, hi, rfl⟩ := List.mem_map.mp (List.mem_filter.mp h).1
    have := List.mem_range.mp hi
    omega
theorem teethB_len (ps : List Pass) (most : Nat) : (teethB ps most).length ≤ most := by
  unfold teethB
  split
  · exact Nat.zero_le _
  · exact Nat.le_trans (List.length_filter_le _ _) (by rw [List.length_map, List.length_range]; exact Nat.le_refl _)
end Ct
namespace Ct
open PySem PySem.Spec PyProof.Rows L2
theorem wrongs_first {ps : List Pass} {n : Nat} {x : Int} {r : List Int} (h : wrongs ps n = x :: r) : ∃ (k : Nat) (p : Pass), x = (k : Int) ∧ ps[k]? = some p ∧ wrongB p = true ∧ ∀ i q, i < k → ps[i]? = some q → wrongB q = false := by
  have up : (wrongs ps n).Pairwise (· < ·) := by
    unfold wrongs
    rw [List.pairwise_map]
    exact (List.Pairwise.filter _ List.pairwise_lt_range).imp fun {a b} h => by omega
  have mem : x ∈ wrongs ps n := by rw [h]; exact List.mem_cons_self
  obtain ⟨k, hk, rfl⟩ := List.mem_map.mp mem
  obtain ⟨kr, hk⟩ := List.mem_filter.mp hk
  unfold wrongAt at hk
  cases z : ps[k]? with
  | none => rw [z] at hk; cases hk
  | some p =>
    rw [z] at hk
    refine ⟨k, p, rfl, z, hk, fun i q hi hq => ?_⟩
    cases e : wrongB q with
    | false => rfl
    | true =>
      have mi : (i : Int) ∈ wrongs ps n := List.mem_map.mpr ⟨i, List.mem_filter.mpr ⟨List.mem_range.mpr (by have := List.mem_range.mp kr; omega), by unfold wrongAt; rw [hq]; exact e⟩, rfl⟩
      rw [h] at mi up
      rcases List.mem_cons.mp mi with c | c
      · omega
      · have := (List.pairwise_cons.mp up).1 _ c
        omega
end Ct
namespace Ct
open PySem PySem.Spec PyProof.Rows L2
theorem comes_ok {ps : List Part} {xs : List Int} {ss : List (Int × Int)} (h : ∀ s ∈ ss, Sh2Ok s) : ∀ c ∈ (fedS ps xs (ss.map (·.1))).2, c = 1 ∨ c = 0 ∨ c = -1 := fun c hc => by
  rcases fedS_sg (ps := ps) (ss := ss.map (·.1)) (xs := xs) (fun s hs => by
    obtain ⟨z, hz, rfl⟩ := List.mem_map.mp hs
    exact .inr (h z hz).1) c hc with e | e | e
  · exact .inr (.inl e)
  · exact .inl e
  · exact .inr (.inr e)
end Ct

/-! set comprehensions, sorted(set) of any number of whole numbers -/
namespace Ct
open PySem PySem.Spec PyProof.Rows L2
/-- the sets that a comprehension may make: what is tracked of one, how it begins, what one member more makes of it -/
structure SetKd (X : Cx) (α : Type) where
  O : Addr → α → HO
  nil : α
  more : Hp → α → V → α → Prop
  laid : ∀ (H : Hp) (h : Heap), ObjOk X.prog X.w H (h.push { cls := .type "set", dict := none, data := .set #[] 0 (.fresh 0 0 (!X.w.params.followText "set-order")) }) h.objs.size (O h.objs.size nil)
  add : ∀ (Y : Cx), Y.prog = X.prog → Y.w = X.w → Y.A = X.A → Y.calm = X.calm → Y.K = X.K → ∀ {pins : List (Addr × Obj)} {σ : L2.St} {H : Hp} {s : Shared} {E : Value → Shared → Prop} {D : Addr} {x x' : α} {y : V} {u : Value} {Q : Value → Shared → Prop}, Inv Y pins σ H s → H D = some (O D x) → RelV y u → more H x y x' →
    (∀ z, Inv Y pins σ (upd H D (O D x')) z → Q .none z) → wpAny (model Y.prog Y.w) Y.A (call (.builtin "set.add") [.ref D, u]) Q E s
section
variable {X : Cx} {α : Type}
/-- {elt for target in iter if ..}; D the new set -/
def tScG (O : Addr → α → HO) (nil : α) (more : Hp → α → V → α → Prop) (wi : TI) (g : TG) (tt : TT) (te : TE) (vs : List Nat) : TE := fun σ H Q => wi σ H fun J H1 => ∀ D, H1 D = none → ∃ W : Nat → Nat → Hp → Prop, (∃ m, W 0 m (upd H1 D (O D nil))) ∧ ∀ i m Hi, W i m Hi →
  (J.stop i Hi ∧ Q (.ref D) Hi) ∨ (J.go i Hi ∧ ∃ Nx : Hp → Prop, (∀ H', Nx H' → ∃ m', m' < m ∧ W (i + 1) m' H') ∧ ∀ x H', J.yld i Hi x H' → g x (wipe σ vs) H' fun σ2 H2 => wipe σ2 vs = wipe σ vs ∧ tt σ2 H2 fun yes H3 =>
    if yes = true then te σ2 H3 fun y H4 => ∃ x x' : α, H4 D = some (O D x) ∧ more H4 x y x' ∧ Nx (upd H4 D (O D x')) else Nx H3)
theorem scG_core (kd : SetKd X α) {pins : List (Addr × Obj)} {s : Shared} {σ : L2.St} {H : Hp} {Q : VK} {use : Option (Value → Sem Unit)} {Qf : Value → Shared → Prop} {ex tg iter : Expr} {ifs : List Expr} {scope : Scope} {own : List (Str × Nat)} {pos pos' : Pos} {wi : TI} {g : TG} {tt : TT} {te : TE} (calm : X.calm = true) (nd : X.N.Nodup) (src : PI X tg iter wi) (blk : BlkOk X.N X.env.scope scope own)
    (pG : ∀ (z : Shared) (G : Hp) (C : Addr) (cl : List (Str × Addr)) (fp : List Addr), PG (X.blk z G scope (compEnvC scope cl C X.env) fp) tg g) (pT : ∀ (z : Shared) (G : Hp) (C : Addr) (cl : List (Str × Addr)) (fp : List Addr), PTs (X.blk z G scope (compEnvC scope cl C X.env) fp) ifs tt)
    (pE : ∀ (z : Shared) (G : Hp) (C : Addr) (cl : List (Str × Addr)) (fp : List Addr), PE (X.blk z G scope (compEnvC scope cl C X.env) fp) ex te) (plain : ∀ x, foldedSetIterable iter X.env x = pure x)
    (inv : Inv X pins σ H s) (wish : tScG kd.O kd.nil kd.more wi g tt te (own.map (·.2)) σ H Q)
    (post : ∀ D C z m G, Inv X pins σ G z → Q (.ref D) G → z.heap.Ns C m → FpOk X pins G C → compPost (model X.prog X.w) X.A X.xe use Qf (.ref D) C (.ok .next) z) :
    wpAny (model X.prog X.w) X.A (comprehension (.SetComp ex [⟨tg, iter, ifs, 0⟩] scope pos) scope X.env pos' (newSet (.type "set")) false (eval iter X.env) use) Qf X.xe s := by
  have cells : ∀ y ∈ scope.names, y.2 = .free → ∃ c, X.env.cells.lookup y.1 = some c := fun y hy e => (blk.free y hy e).elim (fun k => inv.ok.has _ (.inl k)) fun k => inv.ok.has _ (.inr k)
  refine wpAny_comprehension_free (use := use) rfl plain (closure_ok cells) blk.kind (fun y hy e => by rw [blk.uniq y hy, e]) ?_
  refine thn (src.run pins s σ H _ inv wish) fun _ sA hA => thn hA fun _ sB hB => ?_
  obtain ⟨it, fp, at_, walk, HB, rfl, invB, T, stB, fpB, told⟩ := hB
  refine PpSet.newSet_ok (newEnv_comp ?_)
  have free : HB sB.heap.objs.size = none := invB.hok.fresh (Nat.le_refl _)
  obtain ⟨W, ⟨m0, w0⟩, turn⟩ := told sB.heap.objs.size free
  have below : ∀ b ∈ fp, b < sB.heap.objs.size := fun b hb => let ⟨_, e, _⟩ := T.obj _ _ stB b hb; Heap.lt_size e
  generalize hD : sB.heap.objs.size = D at *
  generalize hC : ({ sB with heap := sB.heap.push { cls := .type "set", dict := none, data := .set #[] 0 (.fresh 0 0 (!X.w.params.followText "set-order")) } } : Shared) = sC
  have heapC : sC.heap = sB.heap.push { cls := .type "set", dict := none, data := .set #[] 0 (.fresh 0 0 (!X.w.params.followText "set-order")) } := by rw [← hC]
  have invC : Inv X pins σ (upd HB D (kd.O D kd.nil)) sC := by
    subst hC
    refine invB.laid (t' := sB.toks) (fun b o e => Heap.get?_push_of_some _ e) (Nat.le_of_eq hD) ?_
    subst hD
    exact kd.laid _ _
  have oldC : ∀ b o, sB.heap.get? b = some o → sC.heap.get? b = some o := fun b o e => by rw [heapC]; exact Heap.get?_push_of_some _ e
  have fpC : ∀ b ∈ fp, FpOk X pins (upd HB D (kd.O D kd.nil)) b ∧ b < sC.heap.objs.size := fun b hb => by
    have lt := below b hb
    have l2 : b < sC.heap.objs.size := by
      rw [heapC, Heap.size_push, hD]
      exact Nat.lt_succ_of_lt lt
    exact ⟨⟨by rw [upd_ne (Nat.ne_of_lt lt)]; exact (fpB b hb).1, (fpB b hb).2⟩, l2⟩
  have invD := block_start invC blk nd fpC
  generalize hcl : cellsFrom (sC.heap.objs.size + 1) scope.names (cloFrom X.env.cells scope.names []) = cl at *
  show codeAny _ _ (.compStart (.SetComp ex [⟨tg, iter, ifs, 0⟩] scope pos) 0 (.ref it) (.ref D) (compEnvC scope cl sC.heap.objs.size X.env)) (compPost (model X.prog X.w) X.A X.xe use Qf (.ref D) sC.heap.objs.size) { sC with heap := pushCells (sC.heap.push { cls := .type "dict", data := .dict #[] }) scope.names }
  have loc : (compEnvC scope cl sC.heap.objs.size X.env).locals = sC.heap.objs.size := rfl
  have qG := pG sC (upd HB D (kd.O D kd.nil)) sC.heap.objs.size cl fp
  have qT := pT sC (upd HB D (kd.O D kd.nil)) sC.heap.objs.size cl fp
  have qE := pE sC (upd HB D (kd.O D kd.nil)) sC.heap.objs.size cl fp
  have noneC : ∀ b ∈ fp, (upd HB D (kd.O D kd.nil)) b = none := fun b hb => (fpC b hb).1.1
  generalize hE : compEnvC scope cl sC.heap.objs.size X.env = ce at invD qG qT qE loc ⊢
  generalize hG : upd HB D (kd.O D kd.nil) = HC at invC invD qG qT qE w0 noneC fpC
  generalize hZ : ({ sC with heap := pushCells (sC.heap.push { cls := .type "dict", data := .dict #[] }) scope.names } : Shared) = sD at invD ⊢
  have stD : at_ 0 sD.heap := T.keep _ _ _ stB fun b _ o e => by rw [← hZ]; exact pushCells_keeps _ _ _ _ (Heap.get?_push_of_some _ (oldC b o e))
  have calmly : ∀ {τ : L2.St} {G : Hp} {z : Shared}, Inv (X.blk sC HC scope ce fp) [] τ G z → (∀ b ∈ fp, G b = none) → ∀ b ∈ fp, FpOk (X.blk sC HC scope ce fp) [] G b := fun {τ G z} i n b hb =>
    ⟨n b hb, (i.ok.exf b hb).1, i.ok.exfs b hb, .inl hb, fun x c e => (i.ok.exf b hb).2 x c e, fun p hp => absurd (show p ∈ ([] : List (Addr × Obj)) ++ [] from hp) (by simp)⟩
  refine (fun loop => PpSet.codeAny_compStart_set loop (T.self X.A 0 _ _ _ stD loop)) ?_
  refine PpSet.compLoopS_any (fun n z => ∃ i G, Inv (X.blk sC HC scope ce fp) [] (wipe σ (own.map (·.2))) G z ∧ at_ i z.heap ∧ (∀ b ∈ fp, G b = none) ∧ W i n G) ?_ m0 ⟨0, HC, invD, stD, noneC, w0⟩
  rintro n z5 ⟨i, G5, inv5, st5, n5, w5⟩
  rcases turn i n G5 w5 with ⟨stop, fin⟩ | ⟨go, Nx, less, step⟩
  · refine thnF (T.done (X.blk sC HC scope ce fp) rfl rfl rfl calm i [] z5 _ G5 (fun _ _ => False) inv5 (calmly inv5 n5) st5 stop) ?_
    rintro r z6 ⟨rfl, inv6⟩
    have back : Inv X pins σ G5 z6 := invC.call' (ch := fp) inv6.os inv6.base inv6.hok inv6.bare fun b hb => ⟨(fpC b hb).1.2.2.2.1, (fpC b hb).1.2.1, (fpC b hb).1.2.2.2.2.1, (fpC b hb).1.2.2.2.2.2⟩
    have nL : G5 sC.heap.objs.size = none := by
      rw [← loc]
      exact inv6.free
    obtain ⟨m, names, _⟩ := inv6.loc
    have names' : z6.heap.Ns sC.heap.objs.size m := by
      rw [← loc]
      exact names
    exact post D sC.heap.objs.size z6 m G5 back fin names' (invC.fpOk (Nat.le_refl _) nL)
  · refine thnF (T.item (X.blk sC HC scope ce fp) rfl rfl rfl calm i [] z5 _ G5 (fun _ _ => False) inv5 (calmly inv5 n5) st5 go) ?_
    rintro r z6 ⟨u, rfl, h6⟩
    refine thnF h6 ?_
    rintro _ z7 ⟨x, G7, inv7, r7, y7, st7, n7⟩
    refine thnF (qG.run _ z7 _ G7 x u _ (inv7.pinned (calmly inv7 n7) (T.obj _ _ st7)) r7 (step x G7 y7)) ?_
    rintro _ z8 ⟨σ8, G8, inv8, same8, q8⟩
    refine thnF (qT.run _ z8 σ8 G8 _ inv8 q8) ?_
    rintro yes z9 ⟨G9, inv9, q9⟩
    have next : ∀ {z : Shared} {G : Hp}, Inv (X.blk sC HC scope ce fp) ([] ++ pinsAt fp z7.heap) σ8 G z → Nx G → ∃ m, m < n ∧ ∃ i G, Inv (X.blk sC HC scope ce fp) [] (wipe σ (own.map (·.2))) G z ∧ at_ i z.heap ∧ (∀ b ∈ fp, G b = none) ∧ W i m G := fun {z G} i' nx => by
      obtain ⟨m', lt, w'⟩ := less G nx
      have pinned : ∀ b ∈ fp, ∀ o, z7.heap.get? b = some o → z.heap.get? b = some o ∧ G b = none := fun b hb o e =>
        let p := i'.pin (b, o) (List.mem_append_right _ (List.mem_append_right _ (mem_pinsAt hb e)))
        ⟨p.1, p.2.1⟩
      refine ⟨m', lt, i + 1, G, (i'.unpinned (pins := [])).weak (by rw [← same8, wipe_length]) (fun j v e => ?_), T.keep _ _ _ st7 fun b hb o e => (pinned b hb o e).1, fun b hb => ?_, w'⟩
      · rw [← same8] at e
        exact (wipe_some e).1
      · obtain ⟨o, e, _⟩ := T.obj _ _ st7 b hb
        exact (pinned b hb o e).2
    cases yes with
    | false =>
      simp only [Bool.false_eq_true, if_false] at q9 ⊢
      exact next inv9 q9
    | true =>
      simp only [if_true] at q9 ⊢
      refine thnF (qE.run _ z9 σ8 G9 _ inv9 q9) ?_
      rintro eu z10 ⟨ye, G10, inv10, r10, x0, x1, hD10, mo, nx⟩
      exact kd.add (X.blk sC HC scope ce fp) rfl rfl rfl rfl rfl inv10 hD10 r10 mo fun z12 inv12 => next inv12 nx
theorem pe_scG (kd : SetKd X α) {ex tg iter : Expr} {ifs : List Expr} {scope : Scope} {own : List (Str × Nat)} {pos : Pos} {wi : TI} {g : TG} {tt : TT} {te : TE} (calm : X.calm = true) (nd : X.N.Nodup) (src : PI X tg iter wi) (blk : BlkOk X.N X.env.scope scope own)
    (pG : ∀ (z : Shared) (G : Hp) (C : Addr) (cl : List (Str × Addr)) (fp : List Addr), PG (X.blk z G scope (compEnvC scope cl C X.env) fp) tg g) (pT : ∀ (z : Shared) (G : Hp) (C : Addr) (cl : List (Str × Addr)) (fp : List Addr), PTs (X.blk z G scope (compEnvC scope cl C X.env) fp) ifs tt)
    (pE : ∀ (z : Shared) (G : Hp) (C : Addr) (cl : List (Str × Addr)) (fp : List Addr), PE (X.blk z G scope (compEnvC scope cl C X.env) fp) ex te) (plain : ∀ x, foldedSetIterable iter X.env x = pure x := by intro _; rfl) :
    PE X (.SetComp ex [⟨tg, iter, ifs, 0⟩] scope pos) (tScG kd.O kd.nil kd.more wi g tt te (own.map (·.2))) := by
  constructor
  intro pins s σ H Q inv wish
  rw [PpSet.eval_SetComp]
  refine scG_core kd calm nd src blk pG pT pE plain inv wish ?_
  intro D C z m G back fin names ⟨f0, f1, f2, f3, f4, f5⟩
  exact ⟨m, names, fun h'' sb => ⟨.ref D, G, back.turned (t' := z.toks) (fun b o hb e => (sb.2 b hb).trans e) f0 f1 f3 f4 f5, rfl, fin⟩⟩
theorem pe_scW (kd : SetKd X α) {O : Addr → α → HO} {nil : α} {more : Hp → α → V → α → Prop} (eO : kd.O = O) (en : kd.nil = nil) (em : kd.more = more) {ex tg iter : Expr} {ifs : List Expr} {scope : Scope} {own : List (Str × Nat)} {pos : Pos} {wi : TI} {g : TG} {tt : TT} {te : TE} (calm : X.calm = true) (nd : X.N.Nodup) (src : PI X tg iter wi) (blk : BlkOk X.N X.env.scope scope own)
    (pG : ∀ (z : Shared) (G : Hp) (C : Addr) (cl : List (Str × Addr)) (fp : List Addr), PG (X.blk z G scope (compEnvC scope cl C X.env) fp) tg g) (pT : ∀ (z : Shared) (G : Hp) (C : Addr) (cl : List (Str × Addr)) (fp : List Addr), PTs (X.blk z G scope (compEnvC scope cl C X.env) fp) ifs tt)
    (pE : ∀ (z : Shared) (G : Hp) (C : Addr) (cl : List (Str × Addr)) (fp : List Addr), PE (X.blk z G scope (compEnvC scope cl C X.env) fp) ex te) (plain : ∀ x, foldedSetIterable iter X.env x = pure x := by intro _; rfl) :
    PE X (.SetComp ex [⟨tg, iter, ifs, 0⟩] scope pos) (tScG O nil more wi g tt te (own.map (·.2))) := by
  subst eO en em
  exact pe_scG kd calm nd src blk pG pT pE plain
/-- sets of whole numbers: the members told by S, n of them -/
def IntSet (w : World) (a : Addr) (x : (Int → Bool) × Nat) : HO := SetO w a x.1 x.2
def moreI (_ : Hp) (x : (Int → Bool) × Nat) (y : V) (x' : (Int → Bool) × Nat) : Prop := ∃ k : Int, y = .int k ∧ x.2 + 1 < scanBound ∧ x' = (fun j => x.1 j || decide (j = k), if x.1 k = true then x.2 else x.2 + 1)
theorem add_int {Y : Cx} {pins : List (Addr × Obj)} {σ : L2.St} {H : Hp} {s : Shared} {E : Value → Shared → Prop} {D : Addr} {x x' : (Int → Bool) × Nat} {y : V} {u : Value} {Q : Value → Shared → Prop} (J : Inv Y pins σ H s) (hD : H D = some (IntSet Y.w D x)) (r : RelV y u) (mo : moreI H x y x')
    (q : ∀ z, Inv Y pins σ (upd H D (IntSet Y.w D x')) z → Q .none z) : wpAny (model Y.prog Y.w) Y.A (call (.builtin "set.add") [.ref D, u]) Q E s := by
  obtain ⟨k, rfl, room, rfl⟩ := mo
  obtain ⟨tk, rfl⟩ := r
  refine setR_add (setO_get J hD) room fun h' sb made => ?_
  obtain ⟨o, _, _, _, ho, _⟩ := id made
  refine q _ (J.write (e := D) (t' := s.toks + 1) ?_ (.inl rfl) (fun b u hb hu => (sb.2 b hb).trans hu) ⟨o, ho⟩ (setO_new made))
  rw [hD]
  exact True.intro
def kdI (X : Cx) : SetKd X ((Int → Bool) × Nat) where
  O := IntSet X.w
  nil := (fun _ => false, 0)
  more := moreI
  laid := fun _ _ => setO_new (setR_fresh X.w)
  add := fun Y e1 e2 _ _ _ {_ _ _ _ _ _ _ _ _ _ _} J hD r mo q => by
    rw [← e2] at hD q
    exact add_int J hD r mo q
theorem pe_scI {w0 : World} (hw : X.w = w0) {ex tg iter : Expr} {ifs : List Expr} {scope : Scope} {own : List (Str × Nat)} {pos : Pos} {wi : TI} {g : TG} {tt : TT} {te : TE} (calm : X.calm = true) (nd : X.N.Nodup) (src : PI X tg iter wi) (blk : BlkOk X.N X.env.scope scope own)
    (pG : ∀ (z : Shared) (G : Hp) (C : Addr) (cl : List (Str × Addr)) (fp : List Addr), PG (X.blk z G scope (compEnvC scope cl C X.env) fp) tg g) (pT : ∀ (z : Shared) (G : Hp) (C : Addr) (cl : List (Str × Addr)) (fp : List Addr), PTs (X.blk z G scope (compEnvC scope cl C X.env) fp) ifs tt)
    (pE : ∀ (z : Shared) (G : Hp) (C : Addr) (cl : List (Str × Addr)) (fp : List Addr), PE (X.blk z G scope (compEnvC scope cl C X.env) fp) ex te) (plain : ∀ x, foldedSetIterable iter X.env x = pure x := by intro _; rfl) :
    PE X (.SetComp ex [⟨tg, iter, ifs, 0⟩] scope pos) (tScG (IntSet w0) (fun _ => false, 0) moreI wi g tt te (own.map (·.2))) := by
  subst hw
  exact pe_scW (kdI X) rfl rfl rfl calm nd src blk pG pT pE plain
theorem lt_of_le_nd : ∀ {l : List Int}, l.Pairwise (· ≤ ·) → l.Nodup → l.Pairwise (· < ·) := fun {l} h d => lt_of_le_nodup l h d
/-- sorted(found), any number of them -/
theorem sorted_setI {P : Program} {w : World} {A : Around} {E : Value → Shared → Prop} {s : Shared} {a : Addr} {S : Int → Bool} {n : Nat} {Q : Value → Shared → Prop} (R : SetR w s.heap a S n) (calm : A.handled = none)
    (q : ∀ (z : Shared) (p : Addr) (out : List Value) (c : Nat) (ns : List Int), (∀ b o, s.heap.get? b = some o → z.heap.get? b = some o) → z.gens = s.gens → z.os = s.os → s.heap.objs.size ≤ p → z.heap.get? p = some (seqObj "list" out.toArray c) → IntsAre out ns → ns.Pairwise (· < ·) → (∀ k, k ∈ ns ↔ S k = true) → ns.length = n → Q (.ref p) z) :
    wpAny (model P w) A (call (.builtin "sorted") [.ref a]) Q E s := by
  obtain ⟨o, es, ep, tb, at_, exact_, data, good, apart, mem, few, fits, size, rises, order⟩ := R
  refine Calls.call_function_entry kind_sorted plain_sorted entry_sorted (args_sorted1 _) ?_
  unfold Builtin.«sorted»; refine wpAny_bind (m := checkCount "sorted" 1 1 _) (wpAny_pure ?_)
  refine wpAny_bind (collect_set (A := A.in1) calm ⟨o, at_, exact_.1, data⟩ fits few rises order ?_)
  intro z vs keep big gens os perm
  have vl : vs.length = n := by
    rw [perm.length_eq, List.length_map, Array.length_toList]
    exact size
  have small : vs.length ≤ sizeLine := by
    rw [vl, ← size]
    exact fits_of_scanBound few
  have nums : IntsAre vs (vs.map Builtin.Re.reRawOf) := ints_of vs fun v hv => by
    obtain ⟨e, he, rfl⟩ := List.mem_map.mp (perm.mem_iff.mp hv)
    obtain ⟨k, tk, h1, _⟩ := good e he
    exact ⟨k, tk, h1⟩
  have keys : (vs.map Builtin.Re.reRawOf).Perm (es.toList.map keyOf) := by
    have := perm.map Builtin.Re.reRawOf
    rw [List.map_map] at this
    exact this
  refine wpAny_bind (wpAny_newList ?_ small)
  have list : (z.heap.push (seqObj "list" vs.toArray 0)).get? z.heap.objs.size = some (seqObj "list" vs.toArray 0) := Heap.get?_push_size _ rfl
  refine wpAny_bind (wpAny_holding (wpAny_call_entry slot_list_sort ⟨_, list, rfl⟩ entry_list_sort ?_ (args_list_sort _)))
  refine SrtO.list_sort_ord SrtO.swo_int list small (fun two => SrtO.ints_sortable nums two) fun out sorted stable => ⟨_, rfl, ?_⟩
  obtain ⟨i1, i2, i3⟩ := SrtO.ints_out nums sorted stable
  obtain ⟨c, made⟩ := sortedHeap_at (vs := vs) (out := out.toArray) list
  have all : (out.map SrtO.iv).Perm (es.toList.map keyOf) := i2.trans keys
  refine wpAny_pure ⟨_, rfl, q _ z.heap.objs.size out c (out.map SrtO.iv) (fun b u e => ?_) gens os big made i1 (lt_of_le_nd i3 (all.nodup_iff.mpr apart)) (fun k => by rw [all.mem_iff, ← mem k]) ?_⟩
  · have old := keep b u e
    have lt := Heap.lt_size old
    show (sortedHeap (z.heap.push (seqObj "list" vs.toArray 0)) z.heap.objs.size vs out.toArray).get? b = some u
    rw [sortedHeap_old (Nat.ne_of_lt lt) (by rw [size_push']; exact Nat.lt_succ_of_lt lt)]
    exact Heap.get?_push_of_some _ old
  · rw [all.length_eq, List.length_map, Array.length_toList]
    exact size
def rSrtI (w : World) : List V → Hp → VK → Prop := fun vs H Q => ∃ (a : Addr) (x : (Int → Bool) × Nat), vs = [V.ref a] ∧ H a = some (IntSet w a x) ∧
  ∀ (ns : List Int) (p : Addr), ns.Pairwise (· < ·) → (∀ k : Int, k ∈ ns ↔ x.1 k = true) → ns.length = x.2 → H p = none → Q (.ref p) (upd H p (.lst (ns.map V.int)))
theorem cr_srtI (calm : X.calm = true) : CallR X (.builtin "sorted") (rSrtI X.w) := by
  rintro pins s σ H vs us Q J r ⟨a, x, rfl, ha, q⟩
  have R := setO_get J ha
  have few : x.2 ≤ sizeLine := by
    obtain ⟨_, es, _, _, _, _, _, _, _, _, lt, _, n, _⟩ := id R
    rw [← n]
    exact fits_of_scanBound lt
  rw [Vals.ref1 r]
  refine sorted_setI R (J.ok.hd calm) ?_
  intro z p out c ns keep gens os big made nums up mem len
  have free : H p = none := J.hok.fresh big
  have K' : Inv X pins σ (upd H p (.lst (ns.map V.int))) { s with heap := z.heap, gens := z.gens, drawn := z.drawn, toks := z.toks } :=
    J.call (ch := []) (Un.laid keep big free) (J.hok.laid keep big ⟨by rw [List.length_map, len]; exact few, out, c, vals_of_ints nums, made⟩) (by rw [gens]; exact J.bare) (fun _ y => nomatch y)
  have same : z = { s with heap := z.heap, gens := z.gens, drawn := z.drawn, toks := z.toks } := by
    cases z; cases s
    cases os
    rfl
  rw [same]
  exact ⟨.ref p, _, K', rfl, q ns p up mem len free⟩
end
section
variable {α : Type} {K : PySem.W.Frag} {H : Hp} {σ : L2.St} {Q : VK} {O : Addr → α → HO} {nil : α} {more : Hp → α → V → α → Prop}
def SB (O : Addr → α → HO) (nil : α) (more : Hp → α → V → α → Prop) (J : It) (g : TG) (tt : TT) (te : TE) (vs : List Nat) (σ : L2.St) (H : Hp) (Q : VK) : Prop := tScG O nil more (fun _ H R => R J H) g tt te vs σ H Q
theorem w_scG {wi : TI} {g : TG} {tt : TT} {te : TE} {vs : List Nat} (h : wi σ H fun J H1 => SB O nil more J g tt te vs σ H1 Q) : tScG O nil more wi g tt te vs σ H Q := h
theorem sb_list {a : Addr} (xs : List V) {g : TG} {tt : TT} {te : TE} {vs : List Nat} (Pv : Addr → Nat → Hp → Prop) (h0 : ∀ D, H D = none → Pv D 0 (upd H D (O D nil))) (hl : ∀ D, H D = none → ∀ i H1, i ≤ xs.length → Pv D i H1 → SqL K H1 a xs)
    (hs : ∀ D, H D = none → ∀ i x H1, xs[i]? = some x → Pv D i H1 → g x (wipe σ vs) H1 fun σ2 H2 => wipe σ2 vs = wipe σ vs ∧ tt σ2 H2 fun yes H3 =>
      if yes = true then te σ2 H3 fun y H4 => ∃ x x' : α, H4 D = some (O D x) ∧ more H4 x y x' ∧ Pv D (i + 1) (upd H4 D (O D x')) else Pv D (i + 1) H3) (hd : ∀ D, H D = none → ∀ H1, Pv D xs.length H1 → Q (.ref D) H1) : SB O nil more (Itl K a) g tt te vs σ H Q := by
  intro D hD
  refine ⟨fun i m G => m = xs.length - i ∧ i ≤ xs.length ∧ Pv D i G, ⟨_, rfl, Nat.zero_le _, h0 D hD⟩, ?_⟩
  rintro i m G ⟨rfl, le, p⟩
  have seq := hl D hD i G le p
  rcases Nat.lt_or_ge i xs.length with lt | ge
  · refine .inr ⟨⟨xs, xs[i], seq, by simp [lt]⟩, Pv D (i + 1), fun G' p' => ⟨xs.length - (i + 1), by omega, rfl, lt, p'⟩, ?_⟩
    rintro x G' ⟨rfl, is⟩
    exact hs D hD i x _ (is xs seq) p
  · have e : i = xs.length := by omega
    subst e
    exact .inl ⟨⟨xs, seq, Nat.le_refl _⟩, hd D hD G p⟩
end
end Ct

/-! set(xs) of a list or a tuple of whole numbers -/
namespace Ct
open PySem PySem.Spec PyProof.Rows L2
@[reducible] def fresh0 (w : World) : Obj := { cls := .type "set", dict := none, data := .set #[] 0 (.fresh 0 0 (!w.params.followText "set-order")) }
set_option maxHeartbeats 6400000 in
theorem set_of_list {P : Program} {w : World} {A : Around} {E : Value → Shared → Prop} {s : Shared} {l : Addr} {its : Array Value} (ns : List Int) {Q : Value → Shared → Prop} (calm : A.handled = none) (src : s.heap.IsList l its) (nums : IntsAre its.toList ns) (few : ns.length + 1 < scanBound)
    (q : ∀ (h' : Heap) (tk c : Nat), SetR w h' s.heap.objs.size (fun j => decide (j ∈ ns)) c → c ≤ ns.length → (∀ b o, s.heap.get? b = some o → h'.get? b = some o) → Q (.ref s.heap.objs.size) { s with heap := h', toks := tk }) : wpAny (model P w) A (call (.type "set") [.ref l]) Q E s := by
  have many : its.size = ns.length := by
    have := IntsAre.length nums
    rw [Array.length_toList] at this
    exact this
  obtain ⟨_, _, m0⟩ := F.called_set.mro
  have m1 := F.called_set.made; have m2 := F.called_set.sub
  refine wpAny_call (codeAny_of_tree ?_); show wpAny _ _ (callAny (.type "set") _) _ _ _
  refine wpAny_pure ⟨Code.quiet_builtin _ (by decide +kernel), codeAny_builtin F.entry_type_call ?_⟩; rw [Around.under_plain (weight_type_call_type "set" [.ref l] []) rfl]
  have m3 := F.called_set.notType; have m4 := F.called_set.canCreate; have m5 := F.typeCall_set_1 (.ref l)
  repeat (any_goals (first | assumption | wp_step))
  refine codeAny_mono (code_set_led1 (.ref l) (E := E) (Q₁ := fun obj z => obj = .ref s.heap.objs.size ∧ z = { s with heap := s.heap.push (fresh0 w) }) ⟨rfl, rfl⟩) fun r z hr => ?_
  match r, hr with
  | .error e, hr => exact hr
  | .ok (.ret obj), hr =>
    obtain ⟨rfl, rfl⟩ := hr
    have made : (s.heap.push (fresh0 w)).get? s.heap.objs.size = some (fresh0 w) := Heap.get?_push_size _ rfl
    have ty : Shared.TypeIs { s with heap := s.heap.push (fresh0 w) } (.ref s.heap.objs.size) "set" := ⟨_, made, rfl⟩
    have m6 := F.called_set.init.lookup; have m7 := F.called_set.init.bind (.ref s.heap.objs.size)
    repeat (any_goals (first | assumption | wp_step))
    refine codeAny_mono (codeAny_call_builtin (R := wants (fun r y => r = .none ∧ ∃ h' tk c, y = { s with heap := h', toks := tk } ∧ SetR w h' s.heap.objs.size (fun j => decide (j ∈ ns)) c ∧ c ≤ ns.length ∧ ∀ b o, s.heap.get? b = some o → h'.get? b = some o) E) F.called_set.init.plain F.entry_set_init (check_set_init_1 ty ?_)) fun r y hr => ?_
    · obtain ⟨⟨cl, dc, dt, sls⟩, at_, c0, n0, d0⟩ := src
      simp only at c0 d0
      subst c0; subst d0
      have there : (s.heap.push (fresh0 w)).get? l = some { cls := .type "list", dict := dc, data := .seq its n0, slots := sls } := Heap.get?_push_of_some _ at_
      have m8 := F.sub_list_set; have m9 := F.sub_list_frozenset
      have mA : (Value.type "list" == Value.type "dict") = false := by decide
      have lst : (s.heap.push (fresh0 w)).IsList l its := ⟨_, there, rfl, n0, rfl⟩
      unfold Builtin.«set.__init__» noKeywords Builtin.Frozenset.updateFrom; generalize keepIt : pyIter = PI
      wp_walk
      subst keepIt
      refine wpAny_pyIter_list lst (wpAny_bind (wpAny_runValue ?_))
      have lt : l < s.heap.objs.size := Heap.lt_size at_
      have calm3 : A.in1.in1.in1.handled = none := by simp [calm]
      have apart : l ≠ (s.heap.push (fresh0 w)).objs.size := by
        rw [Heap.size_push]
        exact Nat.ne_of_lt (Nat.lt_succ_of_lt lt)
      have out : s.heap.objs.size ∉ [(s.heap.push (fresh0 w)).objs.size, l] := by
        rw [Heap.size_push]
        simp only [List.mem_cons, List.not_mem_nil, or_false, not_or]
        exact ⟨Nat.ne_of_lt (Nat.lt_succ_self _), Nat.ne_of_gt lt⟩
      have vals : ∀ (i : Nat) (v : Value), its[i]? = some v → ∃ k t, ns[i]? = some k ∧ v = .int k t := fun i v hv => by
        have hi : i < ns.length := by
          rw [← many]
          exact (Array.getElem?_eq_some_iff.mp hv).1
        obtain ⟨t, e⟩ := PyProof.Rows.IntsAre.int_at nums i v (by rw [Array.getElem?_toList]; exact hv)
        exact ⟨ns[i], t, List.getElem?_eq_getElem hi, by rw [e, List.getD_eq_getElem?_getD, List.getElem?_eq_getElem hi]; rfl⟩
      refine set_update_ints ((Walks.list calm3 _ l apart its).toS) s.heap.objs.size out ns many few vals (its.size - 0) 0 _ (by omega) (Nat.zero_le _) ⟨⟨_, Heap.get?_push_size _ rfl, rfl, rfl⟩, (lst.push _)⟩ ⟨0, Nat.le_refl 0, setR_new_at (Heap.get?_push_of_some _ made)⟩ ?_
      rintro ⟨h', g2, d', tk', os'⟩ c' mv le sr
      have e1 : g2 = s.gens := mv.gens
      have e2 : d' = s.drawn := mv.drawn
      have e3 : os' = s.os := mv.os
      subst e1 e2 e3
      show wpAny _ _ _ _ _ _
      refine wpAny_pure ?_
      show wpAny _ _ (ret Value.none) _ _ _
      rw [many] at le
      refine wpAny_pure ⟨rfl, h', tk', c', rfl, sr, le, fun b o e => ?_⟩
      have lb : b < s.heap.objs.size := Heap.lt_size e
      refine mv.heap b o ?_ (Heap.get?_push_of_some _ (Heap.get?_push_of_some _ e))
      rw [Heap.size_push]
      simp only [List.mem_cons, List.not_mem_nil, or_false, not_or]
      exact ⟨Nat.ne_of_lt lb, Nat.ne_of_lt (Nat.lt_succ_of_lt lb)⟩
    · match r, hr with
      | .error e, hr => exact hr
      | .ok (.ret u), hr =>
        obtain ⟨rfl, h', tk, c', rfl, sr, le, keep⟩ := hr
        repeat (any_goals (first | assumption | wp_step))
        exact q _ _ _ sr le keep
      | .ok .next, hr => exact hr.elim
      | .ok .brk, hr => exact hr.elim
      | .ok .cont, hr => exact hr.elim
  | .ok .next, hr => exact hr.elim
  | .ok .brk, hr => exact hr.elim
  | .ok .cont, hr => exact hr.elim
section
variable {X : Cx}
def rSetI (K : PySem.W.Frag) (w : World) : List V → Hp → VK → Prop := fun xs H Q => ∃ (l : Addr) (ns : List Int), xs = [V.ref l] ∧ (SqL K H l (ns.map V.int) ∨ SqT K H l (ns.map V.int)) ∧ ns.length ≤ 4000 ∧ ∀ a c, H a = none → c ≤ ns.length → Q (.ref a) (upd H a (IntSet w a (fun j => decide (j ∈ ns), c)))
theorem cr_setI (calm : X.calm = true) : CallR X (.type "set") (rSetI X.K X.w) := by
  rintro pins s σ H xs us Q J r ⟨l, ns, rfl, src, few, q⟩
  rw [Vals.ref1 r]
  have fin : ∀ (h' : Heap) (tk c : Nat), SetR X.w h' s.heap.objs.size (fun j => decide (j ∈ ns)) c → c ≤ ns.length → (∀ b o, s.heap.get? b = some o → h'.get? b = some o) → EP X pins σ Q (.ref s.heap.objs.size) { s with heap := h', toks := tk } := fun h' tk c sr le keep =>
    ⟨.ref _, upd H s.heap.objs.size (IntSet X.w s.heap.objs.size (fun j => decide (j ∈ ns), c)), J.laid (t' := tk) keep (Nat.le_refl _) (setO_new sr), rfl, q _ c (J.hok.fresh (Nat.le_refl _)) le⟩
  have few' : ns.length + 1 < scanBound := by show ns.length + 1 < 4096; omega
  rcases src with src | src
  · obtain ⟨its, rv, lst, _⟩ := J.list src
    exact set_of_list ns (J.ok.hd calm) lst.isList (by simpa using rv.ints) few' fin
  · obtain ⟨its, rv, tup, _⟩ := J.tuple src
    exact call_set_tupI ns (J.ok.hd calm) tup (by simpa using rv.ints) few' fin
end
end Ct

/-! a <= b <= c < d; enumerate(xs, start=k) -/
namespace Ct
open PySem PySem.Spec PyProof.Rows L2
section
variable {X : Cx}
def tCh3 (r r' r'' : R2) (ta tb tc td : TE) : TE := fun σ H Q => ta σ H fun x H1 => tb σ H1 fun y H2 => r x y H2 fun z H3 => ∃ k, z = .bl k ∧ (if k = true then tc σ H3 fun w H4 => r' y w H4 fun z' H5 => ∃ k', z' = .bl k' ∧ (if k' = true then td σ H5 fun u H6 => r'' w u H6 Q else Q (.bl false) H5) else Q (.bl false) H3)
theorem pe_chain3 {a b c d : Expr} {op op' op'' : CmpOp} {pos : Pos} {ta tb tc td : TE} {r r' r'' : R2} (ho : OpR X (compareOp op) r) (ho' : OpR X (compareOp op') r') (ho'' : OpR X (compareOp op'') r'') (ha : PE X a ta) (hb : PE X b tb) (hc : PE X c tc) (hd : PE X d td)
    (hm : lastMarks [op, op', op''] [b, c, d] = false := by with_unfolding_all rfl) : PE X (.Compare a [op, op', op''] [b, c, d] pos) (tCh3 r r' r'' ta tb tc td) := by
  constructor
  intro pins s σ H Q I h
  refine Compare_chain (thn (ha.run pins s σ H _ I h) ?_) hm
  rintro v s1 ⟨x, H1, I1, r1, q1⟩
  refine chain_link (thn (hb.run pins s1 σ H1 _ I1 q1) ?_)
  rintro u s2 ⟨y, H2, I2, r2, q2⟩
  refine thn (ho pins s2 σ H2 x y v u _ I2 r1 r2 q2) ?_
  rintro _ s3 ⟨_, H3, I3, r3, k, rfl, q3⟩
  cases r3
  refine wpAny_truthy_bool ?_
  cases k with
  | false => exact ite_ff ⟨.bl false, H3, I3, rfl, q3⟩
  | true =>
    refine ite_tt (chain_link (thn (hc.run pins s3 σ H3 _ I3 q3) ?_))
    rintro u' s4 ⟨y', H4, I4, r4, q4⟩
    refine thn (ho' pins s4 σ H4 y y' u u' _ I4 r2 r4 q4) ?_
    rintro _ s5 ⟨_, H5, I5, r5, k', rfl, q5⟩
    cases r5
    refine wpAny_truthy_bool ?_
    cases k' with
    | false => exact ite_ff ⟨.bl false, H5, I5, rfl, q5⟩
    | true =>
      refine ite_tt (chain_last (thn (hd.run pins s5 σ H5 _ I5 q5) ?_))
      rintro w' s6 ⟨z', H6, I6, r6, q6⟩
      exact ho'' pins s6 σ H6 y' z' u' w' Q I6 r4 r6 q6
theorem w_ch3 {r r' r'' : R2} {ta tb tc td : TE} {σ : L2.St} {H : Hp} {Q : VK} (h : ta σ H fun x H1 => tb σ H1 fun y H2 => r x y H2 fun z H3 => ∃ k, z = .bl k ∧ (if k = true then tc σ H3 fun w H4 => r' y w H4 fun z' H5 => ∃ k', z' = .bl k' ∧ (if k' = true then td σ H5 fun u H6 => r'' w u H6 Q else Q (.bl false) H5) else Q (.bl false) H3)) : tCh3 r r' r'' ta tb tc td σ H Q := h
end
/-- a list, its items numbered from k on -/
def ItS (K : PySem.W.Frag) (a : Addr) (k : Int) : It where
  go := fun i H => ∃ (xs : List V) (x : V), SqL K H a xs ∧ xs[i]? = some x
  yld := fun i H v H' => ∃ T x, v = .ref T ∧ H T = none ∧ H' = upd H T (.tup [.int (k + (i : Int)), x]) ∧ ∀ xs, SqL K H a xs → xs[i]? = some x
  stop := fun i H => ∃ xs : List V, SqL K H a xs ∧ xs.length = i
theorem turnS {P : Program} {w : World} {K : PySem.W.Frag} {es : List Expr} {kk : Nat} {tp : Pos} {a N : Nat} {k : Int} (ha : a < N) :
    Turn P w K (.Tuple es kk tp) (ItS K a k) [N + 1, N] (N + 1) (fun i h => (∃ old, IsEnum h (N + 1) N (k + (i : Int)) old) ∧ h.IsListIter N a i) := by
  have nef : N + 1 ∉ [N, a] := by
    simp only [List.mem_cons, List.not_mem_nil, or_false, not_or]
    omega
  refine ⟨List.mem_cons_self, fun i h st c hc => ?_, fun i h h' st keep => ?_, ?_, ?_, fun A i s Q E st h => ?_⟩
  · obtain ⟨⟨old, s1⟩, ⟨o1, g1, _, d1⟩⟩ := st
    simp only [List.mem_cons, List.not_mem_nil, or_false] at hc
    rcases hc with e | e <;> subst e
    · exact ⟨_, s1, fun v q => nomatch q⟩
    · exact ⟨o1, g1, fun v q => by rw [d1] at q; cases q⟩
  · obtain ⟨⟨old, s1⟩, s4⟩ := st
    exact ⟨⟨old, keep _ (by simp) _ s1⟩, s4.at fun o q => keep N (by simp) o q⟩
  · intro X eP ew eK calm i pins s σ H E I hf st hg
    subst eP ew eK
    obtain ⟨xs, x, lx, gx⟩ := hg
    obtain ⟨us, rx, px, _⟩ := I.list lx
    obtain ⟨s1, s4⟩ := st
    have hh : X.A.in1.handled = none := I.ok.hd calm
    have G := GoesN.enumFrom (elts := es) (x1 := kk) (pos := tp) k (Draws.list (prog := X.prog) (w := X.w) hh N a (Nat.ne_of_lt ha) us.toArray) (N + 1) (Nat.succ_ne_self N) nef List.mem_cons_self
    have lu := rx.length
    have ix : i < xs.length := (List.getElem?_eq_some_iff.mp gx).1
    refine G.goes i s _ E (by rw [List.size_toArray]; omega) ⟨s1, ⟨s4, px.isList⟩⟩ fun v h' tk hY st' hk _ => ?_
    obtain ⟨T, t1, u1, rfl, hT, q1, hTu⟩ := hY
    obtain ⟨w1, e1, r1⟩ := rx.get gx
    have f1 : w1 = u1 := Option.some.inj (e1.symm.trans (by simpa using q1))
    subst f1
    have new : ObjOk X.prog X.w (upd H T (.tup [.int (k + (i : Int)), x])) h' T (.tup [.int (k + (i : Int)), x]) := ⟨len2 rfl, [.int (k + (i : Int)) t1, w1], .cons ⟨_, rfl⟩ (.cons r1 .nil), hTu⟩
    refine ⟨.ref T, _, I.turnedNew (t' := tk) (fun c o hc e => hk c o hc e) hf hT new, rfl, ⟨T, x, rfl, I.hok.fresh hT, rfl, fun l hl => by rw [I.list_inj hl lx]; exact gx⟩, ⟨st'.1, st'.2.1⟩, fun c hc => ?_⟩
    obtain ⟨o, g, _⟩ : ∃ o, s.heap.get? c = some o ∧ True := by
      obtain ⟨old, s1⟩ := s1
      obtain ⟨o1, g1, _⟩ := s4
      simp only [List.mem_cons, List.not_mem_nil, or_false] at hc
      rcases hc with e | e <;> subst e
      · exact ⟨_, s1, trivial⟩
      · exact ⟨_, g1, trivial⟩
    rw [upd_ne (Nat.ne_of_lt (Nat.lt_of_lt_of_le (Heap.lt_size g) hT))]
    exact (hf c hc).1
  · intro X eP ew eK calm i pins s σ H E I hf st hg
    subst eP ew eK
    obtain ⟨xs, lx, hm⟩ := hg
    obtain ⟨us, rx, px, _⟩ := I.list lx
    obtain ⟨s1, s4⟩ := st
    have hh : X.A.in1.handled = none := I.ok.hd calm
    have G := GoesN.enumFrom (elts := es) (x1 := kk) (pos := tp) k (Draws.list (prog := X.prog) (w := X.w) hh N a (Nat.ne_of_lt ha) us.toArray) (N + 1) (Nat.succ_ne_self N) nef List.mem_cons_self
    have lu := rx.length
    have hn : us.toArray.size = i := by rw [List.size_toArray]; omega
    rw [hn] at G
    exact G.stops s _ E ⟨s1, ⟨s4, px.isList⟩⟩ fun h' tk hk _ => I.turnedL (t' := tk) (fun c o hc e => hk c o hc e) hf
  · obtain ⟨⟨old, s1⟩, _⟩ := st
    exact wpAny_pyIter_enum s1 h
end Ct
namespace Ct
open PySem PySem.Spec PyProof.Rows L2
theorem callT_kw {M : Model} {A : Around} {E : Value → Shared → Prop} {s : Shared} {env : Env} {pos : Pos} {T : String} {e : Expr} {rest : List Expr} {kws : List Keyword} {Q : Value → Shared → Prop}
    (h : wpAny M A (spliced (backTo pos (starEach (e :: rest) env))) (fun vs z => wpAny M A (evalAll ((backToKw pos (keywordEach kws env)).map (·.2))) (fun kvs y => wpAny M A (call (.type T) vs (((backToKw pos (keywordEach kws env)).filterMap (·.1)).zip kvs)) Q E y) E z) E s)
    (one : backTo pos (starEach (e :: rest) env) = (false, eval e env) :: backTo pos (starEach rest env)) (plain : (backTo pos (starEach (e :: rest) env)).any (·.1) = false) (named : (backToKw pos (keywordEach kws env)).all (·.1.isSome) = true) (none_ : (backToKw pos (keywordEach kws env)).any (·.1.isNone) = false) :
    wpAny M A (callWith pos (.type T) [] (backTo pos (starEach (e :: rest) env)) (backToKw pos (keywordEach kws env))) Q E s := by
  unfold callWith; refine wpAny_bind (wpAny_holding (wpAny_mono (Q := fun a z => wpAny M A (call (.type T) ([] ++ a.pos) a.kw) Q E z) ?_ (fun a z hz => wpAny_bind (wpAny_standAt ?_)) fun _ _ x => x))
  · rw [one] at h ⊢
    exact evalArgs_kwB named h
  · simp only [plain, none_, Bool.or_false]
    refine wpAny_bind (wpAny_pure (wpAny_bind (wpAny_mono hz (fun r y hr => ?_) fun _ _ x => x)))
    exact wpAny_bind (wpAny_holding (wpAny_point (wpAny_pure hr)))
def iEnS (K : PySem.W.Frag) (ta tk : TA) : TI := fun σ H R => ta σ H fun vs H1 => tk σ H1 fun zs H2 => ∃ a xs k, vs = [.ref a] ∧ zs = [.int k] ∧ SqL K H2 a xs ∧ -(2 ^ 63) ≤ k ∧ k < 2 ^ 63 ∧ R (ItS K a k) H2
theorem pi_enumS {X : Cx} {e : Expr} {ta tk : TA} {p pos tp : Pos} {es : List Expr} {kk : Nat} {kws : List Keyword} (gl : Gl X "enumerate") (me : X.mg "enumerate" = none) (pa : PA X [e] ta) (pk : PK X kws tk)
    (one : backTo pos (starEach [e] X.env) = (false, eval e X.env) :: backTo pos (starEach [] X.env) := by rfl) (plain : (backTo pos (starEach [e] X.env)).any (·.1) = false := by rfl) (named : (backToKw pos (keywordEach kws X.env)).all (·.1.isSome) = true := by rfl) (none_ : (backToKw pos (keywordEach kws X.env)).any (·.1.isNone) = false := by rfl)
    (start : (backToKw pos (keywordEach kws X.env)).filterMap (·.1) = [Str.ofString "start"] := by rfl) : PI X (.Tuple es kk tp) (.Call (.Name "enumerate" p) [e] kws pos) (iEnS X.K ta tk) := by
  constructor
  intro pins s σ H R I h
  refine wpAny_Call_Name_kw (ld_blt I gl me boot_enumerate (callT_kw (thn (pa.run pos pins s σ H _ I h) ?_) one plain named none_))
  rintro us s1 ⟨vs, H1, I1, r1, q1⟩
  refine thn (pk.run pos pins s1 σ H1 _ I1 q1) ?_
  rintro kv s2 ⟨zs, H2, I2, r2, a, xs, k, rfl, rfl, lx, k0, k1, q⟩
  rw [start]
  obtain ⟨u, rfl, ru⟩ := vals1 r1
  obtain ⟨v, rfl, rv⟩ := vals1 r2
  cases (show u = Value.ref a from ru)
  obtain ⟨t, rfl⟩ := rv
  obtain ⟨its, rx, px, _⟩ := I2.list lx
  refine enum_begins_start (begins_list a its.toArray) px.isList k0 k1 fun h' he hit _ hk => wpAny_pyIter_enum he ?_
  have I3 : Inv X pins σ H2 { s2 with heap := h' } := I2.kept (t' := s2.toks) hk
  refine ⟨_, [s2.heap.objs.size + 1, s2.heap.objs.size], _, _, H2, rfl, I3, turnS (k := k) px.lt, ⟨⟨.none, by rw [show k + ((0 : Nat) : Int) = k by omega]; exact he⟩, ⟨_, hit, rfl, rfl⟩⟩, fun c hc => ?_, q⟩
  have hle : s2.heap.objs.size ≤ c := by
    simp only [List.mem_cons, List.not_mem_nil, or_false] at hc
    rcases hc with e | e <;> subst e <;> first | exact Nat.le_add_right _ _ | exact Nat.le_refl _
  exact I2.fpOk hle (I2.hok.fresh hle)
theorem walkS {K : PySem.W.Frag} {a : Addr} {k : Int} (xs : List V) : Walk (ItS K a k) xs.length (fun H => SqL K H a xs) (fun i H v H' => ∃ T x, v = .ref T ∧ H T = none ∧ H' = upd H T (.tup [.int (k + (i : Int)), x]) ∧ xs[i]? = some x) where
  goes := fun i H hi h => ⟨xs, xs[i], h, by simp [hi]⟩
  yields := fun i H v H' _ h ⟨T, x, e1, e2, e3, e4⟩ => ⟨T, x, e1, e2, e3, e4 xs h⟩
  stops := fun H h => ⟨xs, h, rfl⟩
section
variable {K : PySem.W.Frag} {H : Hp} {σ : L2.St} {R : It → Hp → Prop}
def IES (K : PySem.W.Frag) (vs zs : List V) (H : Hp) (R : It → Hp → Prop) : Prop := iEnS K (fun _ H Q => Q vs H) (fun _ H Q => Q zs H) [] H R
theorem w_iens {ta tk : TA} (h : ta σ H fun vs H1 => tk σ H1 fun zs H2 => IES K vs zs H2 R) : iEnS K ta tk σ H R := h
theorem w_IES {a : Addr} {xs : List V} {k : Int} (h : SqL K H a xs) (k0 : -(2 ^ 63) ≤ k) (k1 : k < 2 ^ 63) (q : R (ItS K a k) H) : IES K [.ref a] [.int k] H R := ⟨a, xs, k, rfl, rfl, h, k0, k1, q⟩
end
end Ct

/-! the judge of the smallest wheel, of any data -/
namespace Ct
open PySem PySem.Spec PyProof.Rows L2
def plB (x y : PyData) (n : Nat) : Bool := match x, y with
  | .int j, .int k => decide (0 ≤ j) && (decide (j ≤ k) && decide (k < (n : Int)))
  | _, _ => false
def twoN (x y : PyData) (f : Nat → Nat → Bool) : Bool := match x, y with
  | .int j, .int k => f j.toNat k.toNat
  | _, _ => false
theorem plB_inv {x y : PyData} {n : Nat} (h : plB x y n = true) : ∃ j k : Nat, x = .int (j : Int) ∧ y = .int (k : Int) ∧ j ≤ k ∧ k < n := by
  unfold plB at h
  split at h
  · rename_i j k
    simp only [Bool.and_eq_true, decide_eq_true_eq] at h
    exact ⟨j.toNat, k.toNat, by congr 1; omega, by congr 1; omega, by omega, by omega⟩
  · cases h
theorem plB_nat {j k n : Nat} (h1 : j ≤ k) (h2 : k < n) : plB (.int (j : Int)) (.int (k : Int)) n = true := by
  show (decide (0 ≤ (j : Int)) && (decide ((j : Int) ≤ (k : Int)) && decide ((k : Int) < (n : Int)))) = true
  rw [decide_eq_true (by omega), decide_eq_true (by omega), decide_eq_true (by omega)]
  rfl
def barN (ps : List Pass) (t : Int) (j k : Nat) : Bool := match ps[j]?, ps[k]? with
  | some p, some q => decide ((p.2.1 - q.2.1) % t = 0) && unlk p q
  | _, _ => false
def noneN (ps : List Pass) (j k : Nat) : Bool := match ps[j]?, ps[k]? with
  | some p, some q => if j = k then wrongB p else (decide (p.2.1 = q.2.1) && unlk p q)
  | _, _ => false
def isBarB (ps : List Pass) (t : Int) : PyData → Bool
  | .tuple [x, y] => plB x y ps.length && twoN x y (barN ps t)
  | _ => false
def barsF (ps : List Pass) : Nat → List PyData → Bool
  | _, [] => true
  | i, b :: r => isBarB ps ((i + 1 : Nat) : Int) b && barsF ps (i + 1) r
def marksD : PyData → List Int
  | .tuple ds => ds.filterMap fun d => match d with | .int i => some i | _ => none
  | _ => []
def twB (ps : List Pass) (d1 d2 d3 : PyData) : Bool := match d1, d3 with
  | .int t, .list bs => decide (1 ≤ t) && (decide ((bs.length : Int) = t - 1) && (barsF ps 0 bs && (areM d2 t && doesB t (marksD d2) ps)))
  | _, _ => false
def tnB (ps : List Pass) (x y : PyData) : Bool := plB x y ps.length && twoN x y (noneN ps)
def rightB (ps : List Pass) : PyData → Bool
  | .tuple [w, a, b, c] => PyData.eqv w (.str "wheel") && twB ps a b c
  | .tuple [w, a, b] => PyData.eqv w (.str "none") && tnB ps a b
  | _ => false
theorem rises_ints : ∀ {ds : List PyData} {l z : Int}, risesD l z ds = true → ∃ ms : List Int, ds = ms.map PyData.int ∧ ms.Pairwise (· < ·) ∧ ∀ m ∈ ms, l < m ∧ m < z
  | [], _, _, _ => ⟨[], rfl, List.Pairwise.nil, fun _ h => nomatch h⟩
  | d :: ds, l, z, h => by
    cases d with
    | int i =>
      have h : (if i ≤ l ∨ i ≥ z then false else risesD i z ds) = true := h
      by_cases c : i ≤ l ∨ i ≥ z
      · rw [if_pos c] at h
        cases h
      · rw [if_neg c] at h
        obtain ⟨ms, e, up, b⟩ := rises_ints h
        refine ⟨i :: ms, by rw [e]; rfl, List.pairwise_cons.mpr ⟨fun m hm => (b m hm).1, up⟩, fun m hm => ?_⟩
        rcases List.mem_cons.mp hm with e | hm
        · omega
        · have := b m hm
          omega
    | none => cases h
    | bool _ => cases h
    | str _ => cases h
    | list _ => cases h
    | tuple _ => cases h
    | dict _ => cases h
theorem areM_inv {d : PyData} {z : Int} (h : areM d z = true) : ∃ ms : List Int, d = tupD ms ∧ Rise z ms ∧ marksD d = ms := by
  unfold areM at h
  split at h
  · obtain ⟨ms, rfl, up, b⟩ := rises_ints h
    refine ⟨ms, rfl, ⟨up, fun m hm => by have := b m hm; omega⟩, ?_⟩
    show (ms.map PyData.int).filterMap _ = ms
    rw [List.filterMap_map]
    exact List.filterMap_some
  · cases h
end Ct
namespace Ct
open PySem PySem.Spec PyProof.Rows L2
theorem twB_low {ps : List Pass} {t : Int} {d2 d3 : PyData} (h : t < 1) : twB ps (.int t) d2 d3 = false := by
  cases d3 with
  | list bs =>
    show (decide (1 ≤ t) && _) = false
    rw [decide_eq_false (by omega)]
    rfl
  | none => rfl
  | bool _ => rfl
  | int _ => rfl
  | str _ => rfl
  | tuple _ => rfl
  | dict _ => rfl
theorem lay_ins : ∀ {ds : List PyData} {n : Nat}, PyData.canLayAll0 ds = true → PyData.depthAll ds ≤ n → ∀ d ∈ ds, d.canLay0 = true ∧ d.depth ≤ n
  | [], _, _, _, _, h => nomatch h
  | x :: xs, n, h1, h2, d, h => by
    rw [PyData.canLayAll0, Bool.and_eq_true] at h1
    rw [PyData.depthAll] at h2
    rcases List.mem_cons.mp h with e | h
    · subst e
      exact ⟨h1.1, by omega⟩
    · exact lay_ins h1.2 (by omega) d h
end Ct

/-! d.setdefault(k, v), called at once -/
namespace Ct
open PySem PySem.Spec PyProof.Rows L2
section
variable {X : Cx}
theorem mt_setd : MtR X "dict.setdefault" rSetd := by
  intro pins s σ H x xs v us Q I rx rv h
  obtain ⟨a, kvs, k, v0, rfl, rfl, ea, hl, w1, w2⟩ := h
  cases rx
  cases rv with
  | cons ry rv =>
    cases rv with
    | cons rd rv =>
      cases rv
      obtain ⟨z, hd, vs0, rel, dd⟩ := dk_of I.hok ea
      have hz : vs0.length ≤ sizeLine := by rw [← rel.length]; exact z
      refine call_meetsIn PySem.F.slot_dict_setdefault dd.typeIs PySem.F.entry_dict_setdefault (PySem.F.args_dict_setdefault_3 _ _ _) (kt_meets_setdefault (mixKind X.prog X.w) _ (kV_is ry) hd _) ⟨vs0, dd, hz, fun u hu => ?_, fun hn h' dd' hs => ?_⟩
      · have rr := rel.val k
        rw [hu] at rr
        cases hv : valV kvs k with
        | none => rw [hv] at rr; exact False.elim rr
        | some x =>
          rw [hv] at rr
          exact (⟨x, H, I.tok _, rr, w1 x hv⟩ : EP X pins σ Q u _)
      · have rr := rel.val k
        rw [hn] at rr
        cases hv : valV kvs k with
        | some x => rw [hv] at rr; exact False.elim rr
        | none =>
          have hl2 : (putK kvs k v0).length ≤ sizeLine := by have := length_putK kvs k v0; omega
          exact (⟨v0, _, d_write (t' := s.toks + 1) I (by rw [ea]; exact True.intro) hs (let ⟨q, _, _, hq, _⟩ := dd'; ⟨q, hq⟩) (dk_new hl2 hd (rel.put k rd) dd'), rd, w2 hv⟩ : EP X pins σ Q _ _)
end
end Ct

/-! more displays of data, exactly: tuples cut and put together -/
namespace Ct
open PySem PySem.Spec PyProof.Rows L2
section
variable {K : PySem.W.Frag} {H0 : Hp} {σ : L2.St}
theorem gvT_tupV {i : Nat} {a : Addr} {vs : List V} {ds : List PyData} {r : List V → Hp → VK → Prop} (e : σ[i]? = some (some (.ref a))) (h : H0 a = some (.lst vs)) (hd : DpAll K H0 vs ds)
    (er : r = fun xs H Q => ∃ p ys, xs = [.ref p] ∧ ((SqL K H p ys ∧ ∀ l, H l = none → Q (.ref l) (upd H l (.tup ys))) ∨ (SqT K H p ys ∧ Q (.ref p) H))) : GvT K H0 σ (tCB r (tCons (tVar i) tNil)) ds := fun H Q s q => by
  rw [er]
  exact ⟨_, e, a, vs, rfl, .inl ⟨.of (s _ _ h), fun p np => q p vs _ (same_upd np) (.of upd_same) (dpAll_same (s.trans (same_upd np)) hd)⟩⟩
theorem gvL_lstV {i : Nat} {t : Addr} {vs : List V} {ds : List PyData} {r : List V → Hp → VK → Prop} (e : σ[i]? = some (some (.ref t))) (h : SqT K H0 t vs) (hd : DpAll K H0 vs ds)
    (er : r = fun xs H Q => ∃ p ys, xs = [.ref p] ∧ (SqL K H p ys ∨ SqT K H p ys) ∧ ∀ l, H l = none → Q (.ref l) (upd H l (.lst ys))) : GvL K H0 σ (tCB r (tCons (tVar i) tNil)) ds := fun H Q s q => by
  rw [er]
  exact ⟨_, e, t, vs, rfl, .inr (Same.tup s h), fun p np => q p vs _ (same_upd np) upd_same (dpAll_same (s.trans (same_upd np)) hd)⟩
theorem gvT_cat {ta tb : TE} {ds es : List PyData} (ha : GvT K H0 σ ta ds) (hb : GvT K H0 σ tb es) (l : ds.length + es.length ≤ 1000) : GvT K H0 σ (tOp (rCatA K) ta tb) (ds ++ es) := fun H Q s q =>
  ha H _ s fun a xs H1 s1 h1 d1 => hb H1 _ (s.trans s1) fun b ys H2 s2 h2 d2 =>
    w_catA (Same.tup s2 h1) h2 (by rw [dpAll_len d1, dpAll_len d2]; exact l) fun u H' s3 hu => q u _ H' ((s1.trans s2).trans s3) hu (dpAll_same s3 (dpAll_app (dpAll_same s2 d1) d2))
def GvO (H0 : Hp) (σ : L2.St) (t : TO) (o : Option Int) : Prop := ∀ (H : Hp) (Q : Option Int → Hp → Prop), Same H0 H → Q o H → t σ H Q
theorem gvo_no : GvO H0 σ tNoPart none := fun _ _ _ q => q
theorem gvo_var {j : Nat} {k : Int} (e : σ[j]? = some (some (.int k))) : GvO H0 σ (tPart (tVar j)) (some k) := fun H Q _ q => ⟨_, e, k, rfl, q⟩
theorem gvo_c {k : Int} : GvO H0 σ (tPart (tC (.int k))) (some k) := fun H Q _ q => ⟨k, rfl, q⟩
theorem gvo_add {j : Nat} {k m : Int} {g : Int → Int → V} (e : σ[j]? = some (some (.int k))) (eg : g k m = .int (k + m)) : GvO H0 σ (tPart (tOp (rI0 g) (tVar j) (tC (.int m)))) (some (k + m)) := fun H Q _ q => ⟨_, e, ⟨k, m, rfl, rfl, by rw [eg]; exact ⟨k + m, rfl, q⟩⟩⟩
theorem gvT_sl {te : TE} {tl th : TO} {lo hi : Option Int} {ds : List PyData} (h : GvT K H0 σ te ds) (hl : GvO H0 σ tl lo) (hh : GvO H0 σ th hi) : GvT K H0 σ (tSl (rSlA K) te tl th) (cutD ds lo hi) := fun H Q s q =>
  h H _ s fun a xs H1 s1 h1 d1 => hl H1 _ (s.trans s1) (hh H1 _ (s.trans s1) (by
    have d2 : DpAll K H1 (cutV xs lo hi) (cutD ds lo hi) := by
      unfold cutV cutD
      rw [dpAll_len d1]
      exact dpAll_take _ (dpAll_drop _ d1)
    refine ⟨a, xs, rfl, h1, fun w => ?_, fun _ p np => q p _ _ (s1.trans (same_upd np)) (.of upd_same) (dpAll_same (same_upd np) d2)⟩
    refine q a xs H1 s1 h1 ?_
    have : cutV xs lo hi = xs := by
      unfold cutV
      rw [w.1, w.2, List.drop_zero, Nat.sub_zero, List.take_length]
    rw [this] at d2
    exact d2))
theorem cutD_upto {ds : List PyData} {k : Nat} (h : k ≤ ds.length) : cutD ds none (some (k : Int)) = ds.take k := by
  unfold cutD
  rw [HT.sIx_none, HT.sIx_nat, List.drop_zero, Nat.min_eq_left h, Nat.sub_zero]
theorem cutD_past {ds : List PyData} {k : Nat} (h : k ≤ ds.length) : cutD ds (some (k : Int)) none = ds.drop k := by
  unfold cutD
  rw [HT.sIx_none, HT.sIx_nat, Nat.min_eq_left h, List.take_of_length_le (by rw [List.length_drop]; omega)]
/-- t[:k] + (x,) + t[k + 1:] -/
theorem gvT_mid {i j : Nat} {t : Addr} {vs : List V} {ds : List PyData} {d : PyData} {k : Nat} {tx : TE} {g : Int → Int → V} (e : σ[i]? = some (some (.ref t))) (h : SqT K H0 t vs) (hd : DpAll K H0 vs ds) (e2 : σ[j]? = some (some (.int (k : Int)))) (kl : k < ds.length) (dl : ds.length ≤ 900) (eg : g (k : Int) 1 = .int ((k : Int) + 1)) (hx : Gv K H0 σ tx d) :
    GvT K H0 σ (tOp (rCatA K) (tOp (rCatA K) (tSl (rSlA K) (tVar i) tNoPart (tPart (tVar j))) (tTup (tCons tx tNil))) (tSl (rSlA K) (tVar i) (tPart (tOp (rI0 g) (tVar j) (tC (.int 1)))) tNoPart)) (ds.take k ++ [d] ++ ds.drop (k + 1)) := by
  have a := gvT_sl (gvT_var e h hd) gvo_no (gvo_var e2)
  have b := gvT_sl (gvT_var e h hd) (gvo_add e2 eg) gvo_no
  rw [cutD_upto (by omega)] at a
  rw [show ((k : Int) + 1) = ((k + 1 : Nat) : Int) from rfl, cutD_past (by omega)] at b
  refine gvT_cat (gvT_cat a (gvT_tup (gv_cons hx gv_nil) (show 1 ≤ 1000 by decide)) ?_) b ?_
  · rw [List.length_take]
    show min k ds.length + 1 ≤ 1000
    omega
  · rw [List.length_append, List.length_take, List.length_drop]
    show min k ds.length + 1 + (ds.length - (k + 1)) ≤ 1000
    omega
end
theorem st_in : ∀ {ps : List Part} {es : List PyData}, stOk ps es = true → ∀ d ∈ es, ∃ p ∈ ps, ∃ x : Int, d = .int x ∧ 0 ≤ x ∧ x < p.places
  | [], [], _, _, hd => nomatch hd
  | p :: ps, .int x :: es, h, d, hd => by
    rw [stOk, Bool.and_eq_true, Bool.and_eq_true] at h
    rcases List.mem_cons.mp hd with e | hd
    · exact ⟨p, List.mem_cons_self, x, e, of_decide_eq_true h.1.1, of_decide_eq_true h.1.2⟩
    · obtain ⟨q, hq, r⟩ := st_in h.2 d hd
      exact ⟨q, List.mem_cons_of_mem _ hq, r⟩
/-- no stand, for a thing in it -/
theorem no_st {ps : List Part} {es : List PyData} {d : PyData} (hd : d ∈ es) (no : ∀ p ∈ ps, ∀ x : Int, d = .int x → ¬ (0 ≤ x ∧ x < p.places)) : isSt ps (.tuple es) = false := by
  cases c : isSt ps (.tuple es) with
  | false => rfl
  | true =>
    have c : (es.length == ps.length && stOk ps es) = true := c
    rw [Bool.and_eq_true] at c
    obtain ⟨p, hp, x, e, r⟩ := st_in c.2 d hd
    exact absurd r (no p hp x e)
theorem no_len {ps : List Part} {es : List PyData} (h : es.length ≠ ps.length) : isSt ps (.tuple es) = false := by
  show (es.length == ps.length && stOk ps es) = false
  rw [beq_false_of_ne h]
  rfl
theorem no_part {ds : List PyData} {d : PyData} (hd : d ∈ ds) (no : isP d = false) : isT (.list ds) = false := by
  show (!ds.isEmpty && ds.all isP) = false
  rw [show ds.all isP = false from List.all_eq_false.mpr ⟨d, hd, by rw [no]; exact Bool.false_ne_true⟩, Bool.and_false]
end Ct
namespace Ct
open PySem PySem.Spec PyProof.Rows L2
theorem gvT_tail {K : PySem.W.Frag} {H0 : Hp} {σ : L2.St} {i : Nat} {t : Addr} {vs : List V} {ds : List PyData} (e : σ[i]? = some (some (.ref t))) (h : SqT K H0 t vs) (hd : DpAll K H0 vs ds) (l : 1 ≤ ds.length) : GvT K H0 σ (tSl (rSlA K) (tVar i) (tPart (tC (.int 1))) tNoPart) (ds.drop 1) := by
  have z := gvT_sl (gvT_var e h hd) (gvo_c (k := 1)) gvo_no
  rw [show (1 : Int) = ((1 : Nat) : Int) from rfl, cutD_past l] at z
  exact z
theorem FineA.take {ds : List PyData} {n m : Nat} (h : FineA ds n m) (k : Nat) : FineA (ds.take k) n m := by
  have := h.cut 0 k
  rw [List.drop_zero] at this
  exact this
theorem FineA.drop {ds : List PyData} {n m : Nat} (h : FineA ds n m) (k : Nat) : FineA (ds.drop k) n m := by
  have := h.cut k (ds.drop k).length
  rw [List.take_length] at this
  exact this
theorem FineA.mid {ds : List PyData} {d : PyData} {n m m' : Nat} (h : FineA ds n m) (g : Fine d n m') (k : Nat) : FineA (ds.take k ++ [d] ++ ds.drop (k + 1)) n (m + (m' + 1) + m) := FineA.app (FineA.app (h.take k) (.one g)) (h.drop _)
theorem mid_mem {ds : List PyData} {d : PyData} {k : Nat} : d ∈ ds.take k ++ [d] ++ ds.drop (k + 1) := List.mem_append_left _ (List.mem_append_right _ List.mem_cons_self)
end Ct
/-! list + list, of lists that are known by their data alone -/
namespace Ct
open PySem PySem.Spec PyProof.Rows L2
def rCatS (K : PySem.W.Frag) : R2 := fun x y H Q => ∃ l b xs zs, x = .ref l ∧ y = .ref b ∧ SqL K H l xs ∧ SqL K H b zs ∧ xs.length + zs.length ≤ sizeLine ∧ ∀ p, H p = none → Q (.ref p) (upd H p (.lst (xs ++ zs)))
theorem op_catS {X : Cx} : OpR X (binaryOp .Add) (rCatS X.K) := by
  rintro pins s σ H x y v u Q I rx ry ⟨l, b, xs, zs, rfl, rfl, hl, hb, fits, q⟩
  cases rx
  cases ry
  obtain ⟨its, r, ⟨⟨c1, dd, t1, sl⟩, n, e1, k1, _, f1⟩, _⟩ := I.list hl
  obtain ⟨its2, r2, ⟨⟨c2, dd2, t2, sl2⟩, n2, e2, k2, _, f2⟩, _⟩ := I.list hb
  simp only at k1 f1 k2 f2
  subst k1 f1 k2 f2
  have l1 := r.length
  have l2 := r2.length
  refine concat_meets ⟨_, e1, rfl⟩ ⟨_, e2, rfl⟩ noFill_list_add seq_list_add PySem.F.slot_list_add PySem.F.entry_list_add (PySem.F.args_list_add_2 _ _) (list_addW l b its.toArray its2.toArray n n2 dd dd2 sl sl2 (by rw [List.size_toArray, List.size_toArray]; omega)) ⟨e1, e2, ?_⟩
  rw [show its.toArray ++ its2.toArray = (its ++ its2).toArray by simp]
  exact ⟨.ref _, _, I.lnew (t' := s.toks) (r.append r2) (by rw [List.length_append]; omega), rfl, q _ I.fresh⟩
theorem w_catS {K : PySem.W.Frag} {H : Hp} {Q : VK} {l b : Addr} {xs zs : List V} (hl : SqL K H l xs) (hb : SqL K H b zs) (f : xs.length + zs.length ≤ 1000) (q : ∀ p, H p = none → Q (.ref p) (upd H p (.lst (xs ++ zs)))) : rCatS K (.ref l) (.ref b) H Q := ⟨l, b, xs, zs, rfl, rfl, hl, hb, Nat.le_of_lt (small1000 f), q⟩
end Ct
namespace Ct
open PySem PySem.Spec PyProof.Rows L2
/-- isinstance of an error that was kept, or of None -/
def rIsXn (K : PySem.W.Frag) : List V → Hp → VK → Prop := fun xs H Q => rIsX K xs H Q ∨ rIsi K xs H Q
theorem call_isXn {X : Cx} : CallR X (.builtin "isinstance") (rIsXn X.K) := fun pins s σ H xs us Q J r h => h.elim (call_isX pins s σ H xs us Q J r) (call_isi pins s σ H xs us Q J r)
end Ct
namespace Ct
open PySem PySem.Spec PyProof.Rows L2
theorem stOk_of : ∀ {ps : List Part} {xs : List Int}, StandL ps xs → stOk ps (xs.map PyData.int) = true
  | [], [], _ => rfl
  | p :: ps, x :: xs, ⟨_, h1, h2, h3⟩ => by
    rw [List.map_cons, stOk, stOk_of h3, decide_eq_true h1, decide_eq_true h2]
    rfl
theorem isSt_of {ps : List Part} {xs : List Int} (hok : ∀ p ∈ ps, p.ok) (h : StandOk ps xs) : isSt ps (.tuple (xs.map PyData.int)) = true := by
  show ((xs.map PyData.int).length == ps.length && stOk ps (xs.map PyData.int)) = true
  rw [stOk_of (standL_of hok h), List.length_map, h.1, beq_self_eq_true]
  rfl
theorem dp_dr {K : PySem.W.Frag} {H H' : Hp} {v : V} {d : PyData} {c c' : Nat} {D : Addr} (h : Dp K H v d) (r : Dr D c' H H') (hD : H D = some (DrO D c)) : Dp K H' v d := by
  cases r.all hD (.cons h .nil) with
  | cons g _ => exact g
theorem fineA_sh2 : ∀ {ss : List (Int × Int)}, (∀ s ∈ ss, Sh2Ok s) → FineA (ss.map sh2D) 1 (3 * ss.length)
  | [], _ => .nil
  | s :: r, h => by
    have hs := h s List.mem_cons_self
    have t := fineA_sh2 (ss := r) fun y hy => h y (List.mem_cons_of_mem _ hy)
    have b1 : s.1.natAbs < 2 ^ 200 := by rcases hs.1 with e | e <;> rw [e] <;> decide
    have b2 : s.2.natAbs < 2 ^ 200 := by rcases hs.2 with e | e | e <;> rw [e] <;> decide
    have one : Fine (sh2D s) 1 2 := (FineA.app (ds := [.int s.1]) (.one (m := 0) (fine_int b1)) (.one (n := 0) (m := 0) (fine_int b2))).tup.mono (Nat.le_refl _) (by decide)
    have z := FineA.app (FineA.one one) t
    exact z.mono (Nat.le_refl _) (by rw [List.length_cons]; omega)
/-- [n] or nothing -/
def dL (b : Bool) (n : Int) : List V := if b = true then [.int n] else []
theorem rep_dL (b : Bool) (n : Int) : (List.replicate (Int.toNat (if b = true then 1 else 0)) [V.int n]).flatten = dL b n := by cases b <;> rfl
end Ct

local macro_rules | `(tactic| walk_at "ct") => `(tactic| repeat (first
  | with_reducible refine Ct.w_seq ?_ | with_reducible refine Ct.w_gen ?_ | with_reducible refine Ct.w_asg ?_ | with_reducible refine Ct.w_ret ?_ | with_reducible refine Ct.w_ifS ?_ | with_reducible refine Ct.w_drop ?_ | with_reducible refine Ct.w_next ?_
  | with_reducible refine Ct.w_op ?_ | with_reducible refine Ct.w_c ?_ | with_reducible refine Ct.w_chain ?_ | with_reducible refine Ct.w_un ?_ | with_reducible refine Ct.w_test ?_ | with_reducible refine Ct.w_B ?_ | with_reducible refine Ct.w_and ?_ | with_reducible refine Ct.w_or ?_ | with_reducible refine Ct.w_not ?_ | with_reducible refine Ct.w_if ?_
  | with_reducible refine Ct.w_andV ?_ | with_reducible refine Ct.w_orV ?_ | with_reducible refine Ct.w_notV ?_
  | with_reducible refine Ct.w_nil ?_ | with_reducible refine Ct.w_cons ?_ | with_reducible refine Ct.w_cb ?_ | with_reducible refine Ct.w_call ?_ | with_reducible refine Ct.w_tup ?_ | with_reducible refine Ct.w_lst ?_ | with_reducible refine Ct.w_bm ?_
  | with_reducible refine Ct.w_for ?_ | with_reducible refine Ct.w_rng1 ?_ | with_reducible refine Ct.w_rng2 ?_ | with_reducible refine Ct.w_ilist ?_ | with_reducible refine Ct.w_itup ?_ | with_reducible refine Ct.w_im ?_ | with_reducible refine Ct.w_enum ?_ | with_reducible refine Ct.w_irev ?_ | with_reducible refine Ct.w_dcT ?_ | with_reducible refine Ct.w_bm0 ?_ | with_reducible refine Ct.w_dnewT ?_ | with_reducible refine Ct.w_dnotin ?_ | with_reducible refine Ct.w_dget ?_ | with_reducible refine Ct.w_dput ?_ | with_reducible refine Ct.w_lc ?_ | with_reducible refine Ct.w_lc2 ?_ | with_reducible refine Ct.w_star ?_ | with_reducible refine Ct.w_revL ?_ | with_reducible refine Ct.w_yes ?_
  | with_reducible refine Ct.w_gcons ?_ | with_reducible refine Ct.w_gnil ?_ | with_reducible refine Ct.w_gsub ?_ | with_reducible refine Ct.w_sl ?_ | with_reducible refine Ct.w_nopart ?_ | with_reducible refine Ct.w_part ?_
  | with_reducible refine Ct.w_rI0 ?_ | with_reducible refine Ct.w_rU ?_ | with_reducible refine Ct.w_rEqI ?_ | with_reducible refine Ct.w_rNeI ?_ | with_reducible refine Ct.w_ipI ?_ | with_reducible refine Ct.w_bl ?_ | with_reducible refine Ct.w_in ?_ | with_reducible refine Ct.w_break ?_ | with_reducible refine Ct.w_cont ?_ | with_reducible refine Ct.w_nT ?_ | with_reducible refine Ct.w_nF ?_ | with_reducible refine L2.iteT ?_ | with_reducible refine L2.iteF ?_
  | ((with_reducible refine Ct.w_rEqS (b := true) ?ceq ?_); (case ceq => decide +kernel)) | ((with_reducible refine Ct.w_rEqS (b := false) ?ceq ?_); (case ceq => decide +kernel))
  | with_reducible refine Ct.w_var rfl ?_
  | ((with_reducible refine' Ct.w_ixT ?cas ?cix ?_); (case cas => assumption); (case cix => first | exact Ct.at0 | exact Ct.at1 | exact Ct.at2 | exact rfl))
  | ((with_reducible refine' Ct.w_name ?cnm ?_); (case cnm => simp only [L2.wipe, List.map, List.set_cons_zero, List.set_cons_succ]; exact rfl)) ))
local macro_rules | `(tactic| walk_at "cq") => `(tactic| repeat (first
  | with_reducible refine Ct.w_gen ?_ | with_reducible refine Ct.w_asg ?_ | with_reducible refine Ct.w_ret ?_ | with_reducible refine Ct.w_ifS ?_ | with_reducible refine Ct.w_drop ?_ | with_reducible refine Ct.w_next ?_
  | with_reducible refine Ct.w_op ?_ | with_reducible refine Ct.w_c ?_ | with_reducible refine Ct.w_chain ?_ | with_reducible refine Ct.w_un ?_ | with_reducible refine Ct.w_test ?_ | with_reducible refine Ct.w_B ?_ | with_reducible refine Ct.w_and ?_ | with_reducible refine Ct.w_or ?_ | with_reducible refine Ct.w_not ?_ | with_reducible refine Ct.w_if ?_
  | with_reducible refine Ct.w_andV ?_ | with_reducible refine Ct.w_orV ?_ | with_reducible refine Ct.w_notV ?_
  | with_reducible refine Ct.w_nil ?_ | with_reducible refine Ct.w_cons ?_ | with_reducible refine Ct.w_cb ?_ | with_reducible refine Ct.w_call ?_ | with_reducible refine Ct.w_tup ?_ | with_reducible refine Ct.w_lst ?_ | with_reducible refine Ct.w_bm ?_
  | with_reducible refine Ct.w_for ?_ | with_reducible refine Ct.w_rng1 ?_ | with_reducible refine Ct.w_rng2 ?_ | with_reducible refine Ct.w_ilist ?_ | with_reducible refine Ct.w_itup ?_ | with_reducible refine Ct.w_im ?_ | with_reducible refine Ct.w_enum ?_ | with_reducible refine Ct.w_irev ?_ | with_reducible refine Ct.w_dcT ?_ | with_reducible refine Ct.w_bm0 ?_ | with_reducible refine Ct.w_dnewT ?_ | with_reducible refine Ct.w_dnotin ?_ | with_reducible refine Ct.w_dget ?_ | with_reducible refine Ct.w_dput ?_ | with_reducible refine Ct.w_lc ?_ | with_reducible refine Ct.w_lc2 ?_ | with_reducible refine Ct.w_star ?_ | with_reducible refine Ct.w_revL ?_ | with_reducible refine Ct.w_yes ?_
  | with_reducible refine Ct.w_gcons ?_ | with_reducible refine Ct.w_gnil ?_ | with_reducible refine Ct.w_gsub ?_ | with_reducible refine Ct.w_sl ?_ | with_reducible refine Ct.w_nopart ?_ | with_reducible refine Ct.w_part ?_
  | with_reducible refine Ct.w_rI0 ?_ | with_reducible refine Ct.w_rU ?_ | with_reducible refine Ct.w_rEqI ?_ | with_reducible refine Ct.w_rNeI ?_ | with_reducible refine Ct.w_ipI ?_ | with_reducible refine Ct.w_bl ?_ | with_reducible refine Ct.w_in ?_ | with_reducible refine Ct.w_break ?_ | with_reducible refine Ct.w_cont ?_ | with_reducible refine Ct.w_nT ?_ | with_reducible refine Ct.w_nF ?_ | with_reducible refine L2.iteT ?_ | with_reducible refine L2.iteF ?_
  | ((with_reducible refine Ct.w_rEqS (b := true) ?ceq ?_); (case ceq => decide +kernel)) | ((with_reducible refine Ct.w_rEqS (b := false) ?ceq ?_); (case ceq => decide +kernel))
  | with_reducible refine Ct.w_var rfl ?_
  | ((with_reducible refine' Ct.w_ixT ?cas ?cix ?_); (case cas => assumption); (case cix => first | exact Ct.at0 | exact Ct.at1 | exact Ct.at2 | exact rfl))
  | ((with_reducible refine' Ct.w_name ?cnm ?_); (case cnm => simp only [L2.wipe, List.map, List.set_cons_zero, List.set_cons_succ]; exact rfl)) ))

local macro_rules | `(tactic| walk_at "gv") => `(tactic| repeat (first
  | with_reducible exact Ct.gv_nil | with_reducible refine Ct.gv_cons ?_ ?_ | with_reducible exact Ct.gv_int | with_reducible exact Ct.gv_str | with_reducible exact Ct.gv_bl | with_reducible exact Ct.gv_non
  | with_reducible refine Ct.GvT.gv (Ct.gvT_tup ?_) | with_reducible refine Ct.GvL.gv (Ct.gvL_lst ?_) | with_reducible refine Ct.gvL_lst ?_ | with_reducible refine Ct.gvT_tup ?_ | exact Ct.gv_rI0 rfl | exact Ct.gv_var rfl (.int _) | exact Ct.gv_rI0V rfl rfl | exact Ct.gv_pow ⟨by decide, by decide⟩ rfl))

namespace My
open PySem PySem.Spec PyProof.Rows L2 Ct
def topS (i : Nat) : Stmt := PySem.Challenge.pw_clicktrain_k64_shows_refused.main.body.getD i (.Pass ⟨0, 0, 0, 0⟩)
section
variable {P : Program} {w : World} {K : PySem.W.Frag} {mg : Str → Option Value} {base : Heap}
abbrev S_is_whole : Stmt := topS 10
theorem sc_is_whole : FnScope ["thing"] ["thing"] (defScope S_is_whole) := ⟨rfl, rfl, rfl, by decide +kernel, rfl, by decide +kernel, by decide +kernel⟩
def sp_is_whole (K : PySem.W.Frag) : Sp := fun vs H Q _ => ∃ (v : V) (d : PyData), vs = [v] ∧ Dp K H v d ∧ Q (.bl (isW d)) H
theorem ok_is_whole {f : Addr} {fd : FuncData} (F : Fun K "is_whole" "is_whole" S_is_whole f fd) (m_isinstance : mg "isinstance" = none) (m_int : mg "int" = none) (m_bool : mg "bool" = none) :
    FnOk P w K mg base CX0 1 f fd ["thing"] (sp_is_whole K) := by
  refine F.ok sc_is_whole (fun vs H Q E h => ?_) (fun cdv A outer s H vs Q E hr h => ?_)
  ·
    obtain ⟨v, d, rfl, _⟩ := h
    rfl
  ·
    obtain ⟨v, d, rfl, hd, q⟩ := h
    refine ⟨_, (pss_one (ps_ret (pe_and (pe_callB (r := rIsi K) call_isi (by rfl) m_isinstance (by decide +kernel) (pa_cons (pv 0) (pa_cons (pe_bltn (v := .ty "int") (u := .type "int") (by rfl) m_int (by decide +kernel) rfl) pa_nil))) (pe_one (pe_not (pe_callB (r := rIsi K) call_isi (by rfl) m_isinstance (by decide +kernel) (pa_cons (pv 0) (pa_cons (pe_bltn (v := .ty "bool") (u := .type "bool") (by rfl) m_bool (by decide +kernel) rfl) pa_nil)))))))), ?_⟩
    refine w_st (σ' := [some v]) rfl ?_
    walk_at "ct"
    cases hd with
    | non =>
      refine w_isi (b := false) (.base .non) (kit_ty (by decide +kernel)) ?_
      walk_at "ct"
      exact q
    | bl b =>
      refine w_isi (b := true) (.base (.bl b)) (kit_ty (by decide +kernel)) ?_
      walk_at "ct"
      refine w_isi (b := true) (.base (.bl b)) (kit_ty (by decide +kernel)) ?_
      walk_at "ct"
      exact q
    | int i =>
      refine w_isi (b := true) (.base (.int i)) (kit_ty (by decide +kernel)) ?_
      walk_at "ct"
      refine w_isi (b := false) (.base (.int i)) (kit_ty (by decide +kernel)) ?_
      walk_at "ct"
      exact q
    | str x =>
      refine w_isi (b := false) (.base (.str x)) (kit_ty (by decide +kernel)) ?_
      walk_at "ct"
      exact q
    | lst hs ht =>
      refine w_isi (b := false) (tyx_L hs) (kit_ty (by decide +kernel)) ?_
      walk_at "ct"
      exact q
    | tup hs ht =>
      refine w_isi (b := false) (tyx_T hs) (kit_ty (by decide +kernel)) ?_
      walk_at "ct"
      exact q
abbrev S_are_marks : Stmt := topS 11
theorem sc_are_marks : FnScope ["thing", "teeth", "last", "mark"] ["thing", "teeth"] (defScope S_are_marks) := ⟨rfl, rfl, rfl, by decide +kernel, rfl, by decide +kernel, by decide +kernel⟩
def sp_are_marks (K : PySem.W.Frag) : Sp := fun vs H Q _ => ∃ (v : V) (d : PyData) (z : Int), vs = [v, .int z] ∧ Dp K H v d ∧ Q (.bl (areM d z)) H
theorem ok_are_marks {f : Addr} {fd : FuncData} {f_is_whole : Addr} {fd_is_whole : FuncData} (F : Fun K "are_marks" "are_marks" S_are_marks f fd)
    (F_is_whole : Fun K "is_whole" "is_whole" S_is_whole f_is_whole fd_is_whole) (b_is_whole : Binds K fd_is_whole ["thing"] []) (g_is_whole : mg "is_whole" = some (.ref f_is_whole)) (G_is_whole : FnOk P w K mg base CX0 1 f_is_whole fd_is_whole ["thing"] (sp_is_whole K)) (m_isinstance : mg "isinstance" = none) (m_tuple : mg "tuple" = none) :
    FnOk P w K mg base CX0 2 f fd ["thing", "teeth"] (sp_are_marks K) := by
  refine F.ok sc_are_marks (fun vs H Q E h => ?_) (fun cdv A outer s H vs Q E hr h => ?_)
  ·
    obtain ⟨v, d, z, rfl, _⟩ := h
    rfl
  ·
    obtain ⟨v, d, z, rfl, hd, q⟩ := h
    refine ⟨_, (pss_cons (ps_if (pt_not (pt_val (pe_callB (r := rIsi K) call_isi (by rfl) m_isinstance (by decide +kernel) (pa_cons (pv 0) (pa_cons (pe_bltn (v := .ty "tuple") (u := .type "tuple") (by rfl) m_tuple (by decide +kernel) rfl) pa_nil))))) (pss_one (ps_ret pe_bl)) pss_nil)
      (pss_cons (ps_set (i := 2) sc_are_marks.nd rfl (.inl rfl) (pe_un un_neg pe_int))
      (pss_cons (ps_for PassesOwn.never rfl (pi_tup (pv 0)) (pg_name (i := 3) sc_are_marks.nd rfl (.inl rfl))
      (pss_cons (ps_if (PW.pt (pw_or (pt_not (pt_val (pe_call G_is_whole (hr.mono (by decide)) (by rfl) g_is_whole F_is_whole.kp b_is_whole .nil pass0 (pa_cons (pv 3) pa_nil)))) (pw_or (pt_cmpR op_le (pv 3) (pv 2) (nomark _)) (pw_or1 (pt_cmpR op_ge (pv 3) (pv 1) (nomark _)))))) (pss_one (ps_ret pe_bl)) pss_nil)
      (pss_one (ps_set (i := 2) sc_are_marks.nd rfl (.inl rfl) (pv 3)))))
      (pss_one (ps_ret pe_bl))))), ?_⟩
    refine w_st (σ' := [some v, some (.int z), none, none]) rfl ?_
    walk_at "ct"
    cases hd with
    | non =>
      refine w_isi (b := false) (.base .non) (kit_ty (by decide +kernel)) ?_
      walk_at "ct"
      exact q
    | bl b =>
      refine w_isi (b := false) (.base (.bl b)) (kit_ty (by decide +kernel)) ?_
      walk_at "ct"
      exact q
    | int i =>
      refine w_isi (b := false) (.base (.int i)) (kit_ty (by decide +kernel)) ?_
      walk_at "ct"
      exact q
    | str x =>
      refine w_isi (b := false) (.base (.str x)) (kit_ty (by decide +kernel)) ?_
      walk_at "ct"
      exact q
    | lst hs ht =>
      refine w_isi (b := false) (tyx_L hs) (kit_ty (by decide +kernel)) ?_
      walk_at "ct"
      exact q
    | @tup a xs ds hs ht =>
      refine w_isi (b := true) (tyx_T hs) (kit_ty (by decide +kernel)) ?_
      walk_at "ct"
      refine w_IT hs ?_
      have hxl := dpAll_len ht
      refine fb_tup xs (fun n σ H' => ∃ (last : Int) (y : Option V), σ = [some (.ref a), some (.int z), some (.int last), y] ∧ H' = H ∧ risesD (-1) z ds = risesD last z (ds.drop n)) ⟨-1, none, rfl, rfl, rfl⟩ ?_ ?_ ?_
      · rintro n σ H' hn ⟨last, y, rfl, rfl, _⟩
        exact hs
      · rintro n x σ H' hx ⟨last, y, rfl, rfl, hr⟩
        have hn : n < xs.length := (List.getElem?_eq_some_iff.mp hx).1
        obtain ⟨e, he⟩ : ∃ e, ds[n]? = some e := ⟨_, List.getElem?_eq_getElem (by omega)⟩
        obtain ⟨x', hx', hde⟩ := dpAll_get ht he
        cases Option.some.inj (hx.symm.trans hx')
        have hdr : ds.drop n = e :: ds.drop (n + 1) := by
          rw [List.drop_eq_getElem_cons (by omega)]
          congr 1
          rw [List.getElem?_eq_getElem (by omega)] at he
          exact Option.some.inj he
        rw [hdr] at hr
        have hq : risesD last z (e :: ds.drop (n + 1)) = false → Q (.bl false) H' := fun z => by
          rw [z] at hr
          rw [show areM (.tuple ds) _ = risesD (-1) _ ds from rfl, hr] at q
          exact q
        walk_at "ct"
        refine ⟨x, e, rfl, hde, ?_⟩
        cases hde with
        | int m =>
          refine w_bl (w_nT ?_)
          walk_at "ct"
          refine w_ite (fun e1 => ?_) (fun e1 => ?_)
          · walk_at "ct"
            exact hq (if_pos (.inl e1))
          · walk_at "ct"
            refine w_ite (fun e2 => ?_) (fun e2 => ?_)
            · walk_at "ct"
              exact hq (if_pos (.inr e2))
            · walk_at "ct"
              exact ⟨m, _, rfl, rfl, hr.trans (if_neg (by omega))⟩
        | non =>
          refine w_bl (w_nF ?_)
          walk_at "ct"
          exact hq rfl
        | bl b =>
          refine w_bl (w_nF ?_)
          walk_at "ct"
          exact hq rfl
        | str s =>
          refine w_bl (w_nF ?_)
          walk_at "ct"
          exact hq rfl
        | lst h1 h2 =>
          refine w_bl (w_nF ?_)
          walk_at "ct"
          exact hq rfl
        | tup h1 h2 =>
          refine w_bl (w_nF ?_)
          walk_at "ct"
          exact hq rfl
      · rintro σ H' ⟨last, y, rfl, rfl, hr⟩
        walk_at "ct"
        rw [show areM (.tuple ds) z = risesD (-1) z ds from rfl, hr, List.drop_of_length_le (by omega)] at q
        exact q
abbrev S_is_part : Stmt := topS 12
theorem sc_is_part : FnScope ["thing"] ["thing"] (defScope S_is_part) := ⟨rfl, rfl, rfl, by decide +kernel, rfl, by decide +kernel, by decide +kernel⟩
def sp_is_part (K : PySem.W.Frag) : Sp := fun vs H Q _ => ∃ (v : V) (d : PyData) (n : Nat), vs = [v] ∧ Dp K H v d ∧ d.canLay0 = true ∧ d.depth ≤ n ∧ n ≤ 60 ∧ ∀ H', Same H H' → Q (.bl (isP d)) H'
theorem ok_is_part {f : Addr} {fd : FuncData} {f_is_whole : Addr} {fd_is_whole : FuncData} {f_are_marks : Addr} {fd_are_marks : FuncData} (F : Fun K "is_part" "is_part" S_is_part f fd)
    (F_is_whole : Fun K "is_whole" "is_whole" S_is_whole f_is_whole fd_is_whole) (b_is_whole : Binds K fd_is_whole ["thing"] []) (g_is_whole : mg "is_whole" = some (.ref f_is_whole)) (G_is_whole : FnOk P w K mg base CX0 1 f_is_whole fd_is_whole ["thing"] (sp_is_whole K))
    (F_are_marks : Fun K "are_marks" "are_marks" S_are_marks f_are_marks fd_are_marks) (b_are_marks : Binds K fd_are_marks ["thing", "teeth"] []) (g_are_marks : mg "are_marks" = some (.ref f_are_marks)) (G_are_marks : FnOk P w K mg base CX0 2 f_are_marks fd_are_marks ["thing", "teeth"] (sp_are_marks K)) (m_isinstance : mg "isinstance" = none) (m_tuple : mg "tuple" = none) (m_len : mg "len" = none) :
    FnOk P w K mg base CX0 3 f fd ["thing"] (sp_is_part K) := by
  refine F.ok sc_is_part (fun vs H Q E h => ?_) (fun cdv A outer s H vs Q E hr h => ?_)
  ·
    obtain ⟨v, d, n, rfl, _⟩ := h
    rfl
  ·
    obtain ⟨v, d, n, rfl, hd, lay, dep, n60, q⟩ := h
    refine ⟨_, (pss_cons (ps_if (PW.pt (pw_or (pt_not (pt_val (pe_callB (r := rIsi K) call_isi (by rfl) m_isinstance (by decide +kernel) (pa_cons (pv 0) (pa_cons (pe_bltn (v := .ty "tuple") (u := .type "tuple") (by rfl) m_tuple (by decide +kernel) rfl) pa_nil))))) (pw_or1 (pt_cmpR op_eq (pe_callB call_len_seq (by rfl) m_len (by decide +kernel) (pa_cons (pv 0) pa_nil)) pe_int (nomark _))))) (pss_one (ps_ret pe_bl)) pss_nil)
      (pss_cons (ps_if (pt_cmpR (r := rEqD K) (op_eqD hr.units) (pe_ix (r := rIxT K) ix_tup (pv 0) pe_int (fun _ _ => rfl)) pe_str (nomark _)) (pss_one (ps_ret (pe_and (pe_cmpR op_eq (pe_callB call_len_seq (by rfl) m_len (by decide +kernel) (pa_cons (pv 0) pa_nil)) pe_int (nomark _)) (pe_and (pe_call G_is_whole (hr.mono (by decide)) (by rfl) g_is_whole F_is_whole.kp b_is_whole .nil pass0 (pa_cons (pe_ix (r := rIxT K) ix_tup (pv 0) pe_int (fun _ _ => rfl)) pa_nil)) (pe_and (pe_cmpR op_ge (pe_ix (r := rIxT K) ix_tup (pv 0) pe_int (fun _ _ => rfl)) pe_int (nomark _)) (pe_one (pe_call G_are_marks (hr.mono (by decide)) (by rfl) g_are_marks F_are_marks.kp b_are_marks .nil pass0 (pa_cons (pe_ix (r := rIxT K) ix_tup (pv 0) pe_int (fun _ _ => rfl)) (pa_cons (pe_ix (r := rIxT K) ix_tup (pv 0) pe_int (fun _ _ => rfl)) pa_nil))))))))) pss_nil)
      (pss_cons (ps_if (pt_cmpR (r := rEqD K) (op_eqD hr.units) (pe_ix (r := rIxT K) ix_tup (pv 0) pe_int (fun _ _ => rfl)) pe_str (nomark _)) (pss_one (ps_ret (pe_and (pe_cmpR op_eq (pe_callB call_len_seq (by rfl) m_len (by decide +kernel) (pa_cons (pv 0) pa_nil)) pe_int (nomark _)) (pe_and (pe_call G_is_whole (hr.mono (by decide)) (by rfl) g_is_whole F_is_whole.kp b_is_whole .nil pass0 (pa_cons (pe_ix (r := rIxT K) ix_tup (pv 0) pe_int (fun _ _ => rfl)) pa_nil)) (pe_one (pe_cmpR op_ge (pe_ix (r := rIxT K) ix_tup (pv 0) pe_int (fun _ _ => rfl)) pe_int (nomark _))))))) pss_nil)
      (pss_one (ps_ret (pe_or (pe_cmpR (r := rEqD K) (op_eqD hr.units) (pv 0) (pe_tup (pa_cons pe_str pa_nil)) (nomark _)) (pe_one (pe_cmpR (r := rEqD K) (op_eqD hr.units) (pv 0) (pe_tup (pa_cons pe_str pa_nil)) (nomark _))))))))), ?_⟩
    refine w_st (σ' := [some v]) rfl ?_
    walk_at "ct"
    cases hd with
    | non =>
      refine w_isi (b := false) (.base .non) (kit_ty (by decide +kernel)) ?_
      walk_at "ct"
      exact q H (Same.refl H)
    | bl b =>
      refine w_isi (b := false) (.base (.bl b)) (kit_ty (by decide +kernel)) ?_
      walk_at "ct"
      exact q H (Same.refl H)
    | int i =>
      refine w_isi (b := false) (.base (.int i)) (kit_ty (by decide +kernel)) ?_
      walk_at "ct"
      exact q H (Same.refl H)
    | str x =>
      refine w_isi (b := false) (.base (.str x)) (kit_ty (by decide +kernel)) ?_
      walk_at "ct"
      exact q H (Same.refl H)
    | lst hs ht =>
      refine w_isi (b := false) (tyx_L hs) (kit_ty (by decide +kernel)) ?_
      walk_at "ct"
      exact q H (Same.refl H)
    | @tup a xs ds hs ht =>
      refine w_isi (b := true) (tyx_T hs) (kit_ty (by decide +kernel)) ?_
      walk_at "ct"
      refine ⟨a, xs, rfl, .inr hs, ?_⟩
      walk_at "ct"
      cases ht with
      | nil =>
        refine w_ite (fun e => ?_) (fun e => absurd rfl e)
        walk_at "ct"
        exact q H (Same.refl H)
      | @cons v0 vs0 d0 ds0 h0 t0 =>
        have hw : SeqAt.shaped (.str "wheel") = true := by decide +kernel
        have hsp : SeqAt.shaped (.str "spring") = true := by decide +kernel
        rw [PyData.canLay0, PyData.canLayAll0, Bool.and_eq_true] at lay
        rw [PyData.depth, PyData.depthAll] at dep
        have sh0 : SeqAt.shaped d0 = true := shaped_of (n := n) ⟨lay.1, by omega⟩ (by omega)
        have hwhole : ∀ H', Same H H' → Dp K H' (.ref a) (.tuple (d0 :: ds0)) := fun H' s => .tup (Same.tup s hs) (.cons (dp_same s h0) (dpAll_same s t0))
        have shw : SeqAt.shaped (.tuple (d0 :: ds0)) = true := shaped_of (n := n) ⟨by rw [PyData.canLay0, PyData.canLayAll0, lay.1, lay.2]; rfl, by rw [PyData.depth, PyData.depthAll]; omega⟩ (by omega)
        refine w_ite (fun e => absurd e (by rw [List.length_cons]; omega)) (fun e => ?_)
        walk_at "ct"
        refine ⟨d0, .str "wheel", h0, .str _, sh0, hw, ?_⟩
        walk_at "ct"
        by_cases e1 : PyData.eqv d0 (.str "wheel") = true
        · rw [if_pos e1]
          have hq : ∀ b : Bool, b = isP (.tuple (d0 :: ds0)) → Q (.bl b) H := fun b hb => by
            rw [hb]
            exact q H (Same.refl H)
          have hP : isP (.tuple (d0 :: ds0)) = wheelT ds0 := by
            simp only [isP, if_pos e1]
          walk_at "ct"
          refine ⟨a, _, rfl, .inr hs, ?_⟩
          walk_at "ct"
          have l0 := dpAll_len t0
          cases t0 with
          | nil =>
            refine w_ite (fun e => absurd e (by show ¬ ((1 : Nat) : Int) = 3; decide)) (fun e => ?_)
            exact hq _ hP.symm
          | @cons v1 vs1 d1 ds1 h1 t1 =>
            cases t1 with
            | nil =>
              refine w_ite (fun e => absurd e (by show ¬ ((2 : Nat) : Int) = 3; decide)) (fun e => ?_)
              exact hq _ (by rw [hP]; cases d1 <;> rfl)
            | @cons v2 vs2 d2 ds2 h2 t2 =>
              cases t2 with
              | nil =>
                refine w_ite (fun e => ?_) (fun e => absurd rfl e)
                walk_at "ct"
                refine ⟨v1, d1, rfl, h1, ?_⟩
                cases h1 with
                | int z =>
                  refine w_bl ?_
                  refine iteT ?_
                  walk_at "ct"
                  refine w_ite (fun e => ?_) (fun e => ?_)
                  · walk_at "ct"
                    refine ⟨v2, d2, z, rfl, h2, ?_⟩
                    exact hq _ (by rw [hP]; show _ = (decide (1 ≤ z) && areM d2 z); rw [decide_eq_true e]; rfl)
                  · exact hq _ (by rw [hP]; show _ = (decide (1 ≤ z) && areM d2 z); rw [decide_eq_false e]; rfl)
                | non => exact w_bl (iteF (hq _ hP.symm))
                | bl b => exact w_bl (iteF (hq _ hP.symm))
                | str s => exact w_bl (iteF (hq _ hP.symm))
                | lst g1 g2 => exact w_bl (iteF (hq _ hP.symm))
                | tup g1 g2 => exact w_bl (iteF (hq _ hP.symm))
              | @cons v3 vs3 d3 ds3 h3 t3 =>
                refine w_ite (fun e => absurd e (by rw [List.length_cons, List.length_cons, List.length_cons, List.length_cons]; omega)) (fun e => ?_)
                exact hq _ (by rw [hP]; cases d1 <;> rfl)
        · rw [if_neg e1]
          walk_at "ct"
          refine ⟨d0, .str "spring", h0, .str _, sh0, hsp, ?_⟩
          walk_at "ct"
          by_cases e2 : PyData.eqv d0 (.str "spring") = true
          · rw [if_pos e2]
            have hq : ∀ b : Bool, b = isP (.tuple (d0 :: ds0)) → Q (.bl b) H := fun b hb => by
              rw [hb]
              exact q H (Same.refl H)
            have hP : isP (.tuple (d0 :: ds0)) = springT ds0 := by
              simp only [isP, if_neg e1, if_pos e2]
            walk_at "ct"
            refine ⟨a, _, rfl, .inr hs, ?_⟩
            walk_at "ct"
            cases t0 with
            | nil =>
              refine w_ite (fun e => absurd e (by show ¬ ((1 : Nat) : Int) = 2; decide)) (fun e => ?_)
              exact hq _ hP.symm
            | @cons v1 vs1 d1 ds1 h1 t1 =>
              cases t1 with
              | nil =>
                refine w_ite (fun e => ?_) (fun e => absurd rfl e)
                walk_at "ct"
                refine ⟨v1, d1, rfl, h1, ?_⟩
                cases h1 with
                | int z =>
                  refine w_bl ?_
                  refine iteT ?_
                  walk_at "ct"
                  exact hq _ hP.symm
                | non => exact w_bl (iteF (hq _ hP.symm))
                | bl b => exact w_bl (iteF (hq _ hP.symm))
                | str s => exact w_bl (iteF (hq _ hP.symm))
                | lst g1 g2 => exact w_bl (iteF (hq _ hP.symm))
                | tup g1 g2 => exact w_bl (iteF (hq _ hP.symm))
              | @cons v2 vs2 d2 ds2 h2 t2 =>
                refine w_ite (fun e => absurd e (by rw [List.length_cons, List.length_cons, List.length_cons]; omega)) (fun e => ?_)
                exact hq _ (by rw [hP]; cases d1 <;> rfl)
          · rw [if_neg e2]
            have hP : isP (.tuple (d0 :: ds0)) = (PyData.eqv (.tuple (d0 :: ds0)) (.tuple [.str "click"]) || PyData.eqv (.tuple (d0 :: ds0)) (.tuple [.str "rocker"])) := by
              simp only [isP, if_neg e1, if_neg e2]
            rw [hP] at q
            walk_at "ct"
            refine ⟨len2 rfl, fun p np => ?_⟩
            have s1 : Same H (upd H p (.tup [.str "click"])) := same_upd np
            refine ⟨.tuple (d0 :: ds0), .tuple [.str "click"], hwhole _ s1, .tup (.of upd_same) (.cons (.str _) .nil), shw, by decide +kernel, ?_⟩
            walk_at "ct"
            by_cases e3 : PyData.eqv (.tuple (d0 :: ds0)) (.tuple [.str "click"]) = true
            · rw [if_pos e3]
              rw [e3] at q
              exact q _ s1
            · rw [if_neg e3]
              rw [Bool.not_eq_true] at e3
              rw [e3] at q
              walk_at "ct"
              refine ⟨len2 rfl, fun p2 np2 => ?_⟩
              have s2 := same_new (o := .tup [.str "rocker"]) s1 (s1.free np2)
              refine ⟨.tuple (d0 :: ds0), .tuple [.str "rocker"], hwhole _ s2, .tup (.of upd_same) (.cons (.str _) .nil), shw, by decide +kernel, ?_⟩
              exact q _ s2
abbrev S_check_train : Stmt := topS 13
theorem sc_check_train : FnScope ["train", "part"] ["train"] (defScope S_check_train) := ⟨rfl, rfl, rfl, by decide +kernel, rfl, by decide +kernel, by decide +kernel⟩
def sp_check_train (K : PySem.W.Frag) (c_NoTrain : Addr) : Sp := fun vs H Q E => ∃ (v : V) (d : PyData), vs = [v] ∧ Dp K H v d ∧ Fine d 30 600 ∧ (isT d = true → ∀ H', Same H H' → Q .non H') ∧ (isT d = false → ∀ H', Same H H' → E (.ref c_NoTrain) none H')
theorem ok_check_train {f : Addr} {fd : FuncData} {f_is_part : Addr} {fd_is_part : FuncData} {c_NoTrain : Addr} (F : Fun K "check_train" "check_train" S_check_train f fd)
    (F_is_part : Fun K "is_part" "is_part" S_is_part f_is_part fd_is_part) (b_is_part : Binds K fd_is_part ["thing"] []) (g_is_part : mg "is_part" = some (.ref f_is_part)) (G_is_part : FnOk P w K mg base CX0 3 f_is_part fd_is_part ["thing"] (sp_is_part K)) (m_isinstance : mg "isinstance" = none) (m_list : mg "list" = none) (m_len : mg "len" = none)
    (g_NoTrain : mg "NoTrain" = some (.ref c_NoTrain)) (E_NoTrain : ErrC K mg "NoTrain" c_NoTrain) :
    FnOk P w K mg base (L2.CX P w) 4 f fd ["train"] (sp_check_train K c_NoTrain) := by
  refine F.okX sc_check_train (fun vs H Q E h => ?_) (fun cdv A outer s H vs Q E hr h => ?_)
  ·
    obtain ⟨v, d, rfl, _⟩ := h
    rfl
  ·
    obtain ⟨v, d, rfl, hd, fine, qT, qF⟩ := h
    refine ⟨_, (pss_cons (ps_if (PW.pt (pw_or (pt_not (pt_val (pe_callB (r := rIsi K) call_isi (by rfl) m_isinstance (by decide +kernel) (pa_cons (pv 0) (pa_cons (pe_bltn (v := .ty "list") (u := .type "list") (by rfl) m_list (by decide +kernel) rfl) pa_nil))))) (pw_or1 (pt_cmpR op_eq (pe_callB call_len_seq (by rfl) m_len (by decide +kernel) (pa_cons (pv 0) pa_nil)) pe_int (nomark _))))) (pss_one (ps_raiseC (C := c_NoTrain) rfl (takes_of rfl rfl rfl rfl) E_NoTrain (by rfl))) pss_nil)
      (pss_one (ps_for (passes_of rfl) rfl (pi_list (pv 0)) (pg_name (i := 1) sc_check_train.nd rfl (.inl rfl))
      (pss_one (ps_if (pt_not (pt_val (pe_call G_is_part (hr.mono (by decide)) (by rfl) g_is_part F_is_part.kp b_is_part .nil pass0 (pa_cons (pv 1) pa_nil)))) (pss_one (ps_raiseC (C := c_NoTrain) rfl (takes_of rfl rfl rfl rfl) E_NoTrain (by rfl))) pss_nil))))), ?_⟩
    refine w_st (σ' := [some v, none]) rfl ?_
    walk_at "ct"
    cases hd with
    | non =>
      refine w_isi (b := false) (.base .non) (kit_ty (by decide +kernel)) ?_
      walk_at "ct"
      exact qF rfl H (Same.refl H)
    | bl b =>
      refine w_isi (b := false) (.base (.bl b)) (kit_ty (by decide +kernel)) ?_
      walk_at "ct"
      exact qF rfl H (Same.refl H)
    | int i =>
      refine w_isi (b := false) (.base (.int i)) (kit_ty (by decide +kernel)) ?_
      walk_at "ct"
      exact qF rfl H (Same.refl H)
    | str x =>
      refine w_isi (b := false) (.base (.str x)) (kit_ty (by decide +kernel)) ?_
      walk_at "ct"
      exact qF rfl H (Same.refl H)
    | tup hs ht =>
      refine w_isi (b := false) (tyx_T hs) (kit_ty (by decide +kernel)) ?_
      walk_at "ct"
      exact qF rfl H (Same.refl H)
    | @lst a vs ds hv hds =>
      refine w_isi (b := true) (tyx_L hv) (kit_ty (by decide +kernel)) ?_
      walk_at "ct"
      refine ⟨a, vs, rfl, .inl hv, ?_⟩
      walk_at "ct"
      have hl := dpAll_len hds
      refine w_ite (fun e => ?_) (fun e => ?_)
      · walk_at "ct"
        have e0 : ds = [] := List.length_eq_zero_iff.mp (by omega)
        exact qF (by rw [e0]; rfl) H (Same.refl H)
      · walk_at "ct"
        have ne : ds.isEmpty = false := by
          cases ds with
          | nil => exact absurd (by rw [hl]; rfl) e
          | cons _ _ => rfl
        refine w_IL hv ?_
        refine fb_list vs (fun n σ H' => ∃ y, σ = [some (.ref a), y] ∧ Same H H' ∧ (ds.take n).all isP = true) ⟨none, rfl, Same.refl H, rfl⟩ ?_ ?_ ?_
        · rintro n σ H' hn ⟨y, rfl, sm, _⟩
          exact sm.seq hv
        · rintro n v σ H' hx ⟨y, rfl, sm, all⟩
          have hn : n < vs.length := (List.getElem?_eq_some_iff.mp hx).1
          obtain ⟨p, hp⟩ : ∃ p, ds[n]? = some p := ⟨_, List.getElem?_eq_getElem (by omega)⟩
          obtain ⟨v', hv1, hd1⟩ := dpAll_get hds hp
          cases Option.some.inj (hx.symm.trans hv1)
          have pm : p ∈ ds := List.mem_of_getElem? hp
          have dp : p.depth ≤ 30 := Nat.le_trans (depth_mem p pm) (by have := fine.dep; rw [PyData.depth] at this; omega)
          walk_at "ct"
          refine ⟨v, p, 30, rfl, dp_same sm hd1, (okN_facts p (okAll_mem fine.ok p pm)).1, dp, by decide, fun H1 s1 => ?_⟩
          cases c : isP p with
          | true =>
            walk_at "ct"
            refine ⟨_, rfl, sm.trans s1, ?_⟩
            rw [List.take_succ, hp, List.all_append, all]
            simp [c]
          | false =>
            walk_at "ct"
            refine qF ?_ H1 (sm.trans s1)
            rw [isT, ne, Bool.not_false, Bool.true_and]
            exact List.all_eq_false.mpr ⟨p, pm, by rw [c]; exact Bool.false_ne_true⟩
        · rintro σ H' ⟨y, rfl, sm, all⟩
          refine qT ?_ H' sm
          rw [List.take_of_length_le (by omega)] at all
          rw [isT, ne, all]
          rfl
abbrev S_place_count : Stmt := topS 14
theorem sc_place_count : FnScope ["part"] ["part"] (defScope S_place_count) := ⟨rfl, rfl, rfl, by decide +kernel, rfl, by decide +kernel, by decide +kernel⟩
def sp_place_count (K : PySem.W.Frag) : Sp := fun vs H Q _ => ∃ (v : V) (p : Part), vs = [v] ∧ Dp K H v p.data ∧ Q (.int p.places) H
theorem ok_place_count {f : Addr} {fd : FuncData} (F : Fun K "place_count" "place_count" S_place_count f fd) :
    FnOk P w K mg base CX0 1 f fd ["part"] (sp_place_count K) := by
  refine F.ok sc_place_count (fun vs H Q E h => ?_) (fun cdv A outer s H vs Q E hr h => ?_)
  ·
    obtain ⟨v, p, rfl, _⟩ := h
    rfl
  ·
    obtain ⟨v, p, rfl, hp, q⟩ := h
    refine ⟨_, (pss_cons (ps_if (pt_cmpR op_eq (pe_ix (r := rIxT K) ix_tup (pv 0) pe_int (fun _ _ => rfl)) pe_str (nomark _)) (pss_one (ps_ret pe_int)) pss_nil)
      (pss_cons (ps_if (pt_cmpR op_eq (pe_ix (r := rIxT K) ix_tup (pv 0) pe_int (fun _ _ => rfl)) pe_str (nomark _)) (pss_one (ps_ret pe_int)) pss_nil)
      (pss_one (ps_ret (pe_ix (r := rIxT K) ix_tup (pv 0) pe_int (fun _ _ => rfl)))))), ?_⟩
    refine w_st (σ' := [some v]) rfl ?_
    cases p with
    | wheel z ms =>
      obtain ⟨a, b, rfl, ha, hb⟩ := wheel_inv hp
      walk_at "ct"
      exact q
    | click =>
      obtain ⟨a, rfl, ha⟩ := click_inv hp
      walk_at "ct"
      exact q
    | rocker =>
      obtain ⟨a, rfl, ha⟩ := rocker_inv hp
      walk_at "ct"
      exact q
    | spring k =>
      obtain ⟨a, rfl, ha⟩ := spring_inv hp
      walk_at "ct"
      exact q
abbrev S_is_stand : Stmt := topS 15
theorem sc_is_stand : FnScope ["train", "thing", "part", "place"] ["train", "thing"] (defScope S_is_stand) := ⟨rfl, rfl, rfl, by decide +kernel, rfl, by decide +kernel, by decide +kernel⟩
def sp_is_stand (K : PySem.W.Frag) : Sp := fun vs H Q _ => ∃ (v w : V) (ps : List Part) (e : PyData), vs = [v, w] ∧ Dp K H v (.list (ps.map Part.data)) ∧ Dp K H w e ∧ ∀ H', Same H H' → Q (.bl (isSt ps e)) H'
theorem ok_is_stand {f : Addr} {fd : FuncData} {f_place_count : Addr} {fd_place_count : FuncData} {f_is_whole : Addr} {fd_is_whole : FuncData} (F : Fun K "is_stand" "is_stand" S_is_stand f fd)
    (F_place_count : Fun K "place_count" "place_count" S_place_count f_place_count fd_place_count) (b_place_count : Binds K fd_place_count ["part"] []) (g_place_count : mg "place_count" = some (.ref f_place_count)) (G_place_count : FnOk P w K mg base CX0 1 f_place_count fd_place_count ["part"] (sp_place_count K))
    (F_is_whole : Fun K "is_whole" "is_whole" S_is_whole f_is_whole fd_is_whole) (b_is_whole : Binds K fd_is_whole ["thing"] []) (g_is_whole : mg "is_whole" = some (.ref f_is_whole)) (G_is_whole : FnOk P w K mg base CX0 1 f_is_whole fd_is_whole ["thing"] (sp_is_whole K)) (m_zip : mg "zip" = none) (m_isinstance : mg "isinstance" = none) (m_tuple : mg "tuple" = none) (m_len : mg "len" = none) :
    FnOk P w K mg base CX0 2 f fd ["train", "thing"] (sp_is_stand K) := by
  refine F.ok sc_is_stand (fun vs H Q E h => ?_) (fun cdv A outer s H vs Q E hr h => ?_)
  ·
    obtain ⟨v, w, ps, e, rfl, _⟩ := h
    rfl
  ·
    obtain ⟨v, w, ps, e, rfl, hd0, he, q⟩ := h
    refine ⟨_, (pss_cons (ps_if (PW.pt (pw_or (pt_not (pt_val (pe_callB (r := rIsi K) call_isi (by rfl) m_isinstance (by decide +kernel) (pa_cons (pv 1) (pa_cons (pe_bltn (v := .ty "tuple") (u := .type "tuple") (by rfl) m_tuple (by decide +kernel) rfl) pa_nil))))) (pw_or1 (pt_cmpR op_ne (pe_callB call_len_seq (by rfl) m_len (by decide +kernel) (pa_cons (pv 1) pa_nil)) (pe_callB call_len_seq (by rfl) m_len (by decide +kernel) (pa_cons (pv 0) pa_nil)) (nomark _))))) (pss_one (ps_ret pe_bl)) pss_nil)
      (pss_cons (ps_for PassesOwn.never rfl (pi_zipM (by rfl) m_zip (pa_cons (pv 0) (pa_cons (pv 1) pa_nil))) (pg_tup rfl (pgs_cons (pg_name (i := 2) sc_is_stand.nd rfl (.inl rfl)) (pgs_cons (pg_name (i := 3) sc_is_stand.nd rfl (.inl rfl)) pgs_nil)))
      (pss_one (ps_if (PW.pt (pw_or (pt_not (pt_val (pe_call G_is_whole (hr.mono (by decide)) (by rfl) g_is_whole F_is_whole.kp b_is_whole .nil pass0 (pa_cons (pv 3) pa_nil)))) (pw_or (pt_cmpR op_lt (pv 3) pe_int (nomark _)) (pw_or1 (pt_cmpR op_ge (pv 3) (pe_call G_place_count (hr.mono (by decide)) (by rfl) g_place_count F_place_count.kp b_place_count .nil pass0 (pa_cons (pv 2) pa_nil)) (nomark _)))))) (pss_one (ps_ret pe_bl)) pss_nil)))
      (pss_one (ps_ret pe_bl)))), ?_⟩
    refine w_st (σ' := [some v, some w, none, none]) rfl ?_
    have qF : isSt ps e = false → ∀ H', Same H H' → Q (.bl false) H' := fun z H' s => by rw [z] at q; exact q H' s
    have qT : isSt ps e = true → ∀ H', Same H H' → Q (.bl true) H' := fun z H' s => by rw [z] at q; exact q H' s
    clear q
    obtain ⟨a, vs, rfl, hv, hd⟩ := lst_inv hd0
    have hvl : vs.length = ps.length := by rw [dpAll_len hd, List.length_map]
    have s1 := Same.refl H
    walk_at "ct"
    cases he with
    | non =>
      refine w_isi (b := false) (.base .non) (kit_ty (by decide +kernel)) ?_
      walk_at "ct"
      exact qF rfl H s1
    | bl b =>
      refine w_isi (b := false) (.base (.bl b)) (kit_ty (by decide +kernel)) ?_
      walk_at "ct"
      exact qF rfl H s1
    | int i =>
      refine w_isi (b := false) (.base (.int i)) (kit_ty (by decide +kernel)) ?_
      walk_at "ct"
      exact qF rfl H s1
    | str x =>
      refine w_isi (b := false) (.base (.str x)) (kit_ty (by decide +kernel)) ?_
      walk_at "ct"
      exact qF rfl H s1
    | lst g1 g2 =>
      refine w_isi (b := false) (tyx_L (s1.seq g1)) (kit_ty (by decide +kernel)) ?_
      walk_at "ct"
      exact qF rfl H s1
    | @tup t es ds hS hds =>
      have hxl := dpAll_len hds
      refine w_isi (b := true) (tyx_T (Same.tup s1 hS)) (kit_ty (by decide +kernel)) ?_
      walk_at "ct"
      refine ⟨t, _, rfl, .inr (Same.tup s1 hS), ?_⟩
      walk_at "ct"
      refine ⟨a, _, rfl, .inl (s1.seq hv), ?_⟩
      walk_at "ct"
      refine w_iteN (fun e => ?_) (fun e => ?_)
      · walk_at "ct"
        exact qF (by rw [isSt, beq_false_of_ne (by omega)]; rfl) H s1
      walk_at "ct"
      have hlen : ds.length = ps.length := by omega
      have hgo : isSt ps (.tuple ds) = stOk ps ds := by rw [isSt, hlen, beq_self_eq_true, Bool.true_and]
      refine w_IM (s1.seq hv) (Same.tup s1 hS) ?_
      refine fb_zipM vs es (by omega) (fun n σ H' => ∃ y z, σ = [some (.ref a), some (.ref t), y, z] ∧ Same H H' ∧ stOk ps ds = stOk (ps.drop n) (ds.drop n)) ⟨none, none, rfl, s1, rfl⟩ ?_ ?_ ?_
      · rintro n σ H' hn ⟨y, z, rfl, sm, _⟩
        exact ⟨sm.seq hv, Same.tup sm hS⟩
      · rintro n v u T σ H' hx hu ⟨y, z, rfl, sm, hr⟩ hT
        have hn : n < vs.length := (List.getElem?_eq_some_iff.mp hx).1
        obtain ⟨p, hp⟩ : ∃ p, ps[n]? = some p := ⟨_, List.getElem?_eq_getElem (by omega)⟩
        obtain ⟨v', hv1, hd1⟩ := TrainAt.at (a := a) hd hp
        cases Option.some.inj (hx.symm.trans hv1)
        obtain ⟨x, hxx⟩ : ∃ x, ds[n]? = some x := ⟨_, List.getElem?_eq_getElem (by omega)⟩
        obtain ⟨u', hu1, hdx⟩ := dpAll_get hds hxx
        cases Option.some.inj (hu.symm.trans hu1)
        have d1 : ps.drop n = p :: ps.drop (n + 1) := drop_at hp
        have d2 : ds.drop n = x :: ds.drop (n + 1) := drop_at hxx
        rw [d1, d2] at hr
        have s2 : Same H (upd H' T (.tup [v, u])) := same_new sm (sm.free hT)
        refine w_gtup (.of upd_same) rfl ?_
        walk_at "ct"
        refine ⟨u, x, rfl, dp_same s2 hdx, ?_⟩
        have no : stOk (p :: ps.drop (n + 1)) (x :: ds.drop (n + 1)) = false → isSt ps (.tuple ds) = false := fun z => by rw [hgo, hr, z]
        cases hdx with
        | int m =>
          refine w_bl (w_nT ?_)
          walk_at "ct"
          refine w_ite (fun e => ?_) (fun e => ?_)
          · walk_at "ct"
            exact qF (no (by rw [stOk, decide_eq_false (by omega)]; rfl)) _ s2
          walk_at "ct"
          refine ⟨v, p, rfl, dp_same s2 hd1, ?_⟩
          walk_at "ct"
          refine w_ite (fun e2 => ?_) (fun e2 => ?_)
          · walk_at "ct"
            exact qF (no (by rw [stOk, decide_eq_false (show ¬ m < p.places by omega), Bool.and_false]; rfl)) _ s2
          walk_at "ct"
          refine ⟨_, _, rfl, s2, hr.trans ?_⟩
          rw [stOk, decide_eq_true (show 0 ≤ m by omega), decide_eq_true (show m < p.places by omega)]
          rfl
        | non =>
          refine w_bl (w_nF ?_)
          walk_at "ct"
          exact qF (no rfl) _ s2
        | bl b =>
          refine w_bl (w_nF ?_)
          walk_at "ct"
          exact qF (no rfl) _ s2
        | str s =>
          refine w_bl (w_nF ?_)
          walk_at "ct"
          exact qF (no rfl) _ s2
        | lst h1 h2 =>
          refine w_bl (w_nF ?_)
          walk_at "ct"
          exact qF (no rfl) _ s2
        | tup h1 h2 =>
          refine w_bl (w_nF ?_)
          walk_at "ct"
          exact qF (no rfl) _ s2
      · rintro σ H' ⟨y, z, rfl, sm, hr⟩
        walk_at "ct"
        refine qT ?_ H' sm
        rw [hgo, hr, List.drop_of_length_le (by omega), List.drop_of_length_le (by omega)]
        rfl
abbrev S_check_stand : Stmt := topS 16
theorem sc_check_stand : FnScope ["train", "stand"] ["train", "stand"] (defScope S_check_stand) := ⟨rfl, rfl, rfl, by decide +kernel, rfl, by decide +kernel, by decide +kernel⟩
def sp_check_stand (K : PySem.W.Frag) (c_NoTrain : Addr) (c_NoStand : Addr) : Sp := fun vs H Q E => ∃ (v w : V) (d e : PyData), vs = [v, w] ∧ Dp K H v d ∧ Dp K H w e ∧ Fine d 30 600 ∧ (isT d = false → ∀ H', Same H H' → E (.ref c_NoTrain) none H') ∧
  ∀ ps : List Part, d = .list (ps.map Part.data) → (∀ p ∈ ps, p.ok) → 1 ≤ ps.length → (isSt ps e = true → ∀ H', Same H H' → Q .non H') ∧ (isSt ps e = false → ∀ H', Same H H' → E (.ref c_NoStand) none H')
theorem ok_check_stand {f : Addr} {fd : FuncData} {f_is_stand : Addr} {fd_is_stand : FuncData} {f_check_train : Addr} {fd_check_train : FuncData} {c_NoStand : Addr} {c_NoTrain : Addr} (F : Fun K "check_stand" "check_stand" S_check_stand f fd)
    (F_is_stand : Fun K "is_stand" "is_stand" S_is_stand f_is_stand fd_is_stand) (b_is_stand : Binds K fd_is_stand ["train", "thing"] []) (g_is_stand : mg "is_stand" = some (.ref f_is_stand)) (G_is_stand : FnOk P w K mg base CX0 2 f_is_stand fd_is_stand ["train", "thing"] (sp_is_stand K))
    (F_check_train : Fun K "check_train" "check_train" S_check_train f_check_train fd_check_train) (b_check_train : Binds K fd_check_train ["train"] []) (g_check_train : mg "check_train" = some (.ref f_check_train)) (G_check_train : FnOk P w K mg base (L2.CX P w) 4 f_check_train fd_check_train ["train"] (sp_check_train K c_NoTrain))
    (g_NoStand : mg "NoStand" = some (.ref c_NoStand)) (E_NoStand : ErrC K mg "NoStand" c_NoStand) :
    FnOk P w K mg base (L2.CX P w) 5 f fd ["train", "stand"] (sp_check_stand K c_NoTrain c_NoStand) := by
  refine F.okX sc_check_stand (fun vs H Q E h => ?_) (fun cdv A outer s H vs Q E hr h => ?_)
  ·
    obtain ⟨v, w, d, e, rfl, _⟩ := h
    rfl
  ·
    obtain ⟨v, w, d, e, rfl, hd0, he, fine, qN, qP⟩ := h
    refine ⟨_, (pss_cons (ps_expr (pe_call (E := E) G_check_train (hr.mono (by decide)) (by rfl) g_check_train F_check_train.kp b_check_train .nil (passes_call (takes_of rfl rfl rfl rfl) fun _ _ _ _ h => h) (pa_cons (pv 0) pa_nil)))
      (pss_one (ps_if (pt_not (pt_val (pe_call G_is_stand (hr.mono (by decide)) (by rfl) g_is_stand F_is_stand.kp b_is_stand .nil pass0 (pa_cons (pv 0) (pa_cons (pv 1) pa_nil))))) (pss_one (ps_raiseC (C := c_NoStand) rfl (takes_of rfl rfl rfl rfl) E_NoStand (by rfl))) pss_nil))), ?_⟩
    refine w_st (σ' := [some v, some w]) rfl ?_
    walk_at "ct"
    refine ⟨v, d, rfl, hd0, fine, fun ht H1 s1 => ?_, qN⟩
    obtain ⟨ps, rfl, hok, hps⟩ := train_of ht fine (by decide)
    obtain ⟨qT, qF⟩ := qP ps rfl hok hps
    walk_at "ct"
    refine ⟨v, w, ps, e, rfl, dp_same s1 hd0, dp_same s1 he, fun H2 s2 => ?_⟩
    cases c : isSt ps e with
    | true =>
      walk_at "ct"
      exact qT c H2 (s1.trans s2)
    | false =>
      walk_at "ct"
      exact qF c H2 (s1.trans s2)
abbrev S_is_way : Stmt := topS 17
theorem sc_is_way : FnScope ["thing"] ["thing"] (defScope S_is_way) := ⟨rfl, rfl, rfl, by decide +kernel, rfl, by decide +kernel, by decide +kernel⟩
def isWay : PyData → Bool
  | .int i => decide (i = 1) || decide (i = -1)
  | _ => false
def sp_is_way (K : PySem.W.Frag) : Sp := fun vs H Q _ => ∃ (v : V) (d : PyData), vs = [v] ∧ Dp K H v d ∧ ∀ H', Same H H' → Q (.bl (isWay d)) H'
theorem ok_is_way {f : Addr} {fd : FuncData} {f_is_whole : Addr} {fd_is_whole : FuncData} (F : Fun K "is_way" "is_way" S_is_way f fd)
    (F_is_whole : Fun K "is_whole" "is_whole" S_is_whole f_is_whole fd_is_whole) (b_is_whole : Binds K fd_is_whole ["thing"] []) (g_is_whole : mg "is_whole" = some (.ref f_is_whole)) (G_is_whole : FnOk P w K mg base CX0 1 f_is_whole fd_is_whole ["thing"] (sp_is_whole K)) :
    FnOk P w K mg base CX0 2 f fd ["thing"] (sp_is_way K) := by
  refine F.ok sc_is_way (fun vs H Q E h => ?_) (fun cdv A outer s H vs Q E hr h => ?_)
  ·
    obtain ⟨v, d, rfl, _⟩ := h
    rfl
  ·
    obtain ⟨v, d, rfl, hd, q⟩ := h
    refine ⟨_, (pss_one (ps_ret (pe_and (pe_call G_is_whole (hr.mono (by decide)) (by rfl) g_is_whole F_is_whole.kp b_is_whole .nil pass0 (pa_cons (pv 0) pa_nil)) (pe_one (pe_cmpR (r := rIn K false) op_in_seq (pv 0) (pe_tup (pa_cons pe_int (pa_cons (pe_un un_neg pe_int) pa_nil))) (by rfl)))))), ?_⟩
    refine w_st (σ' := [some v]) rfl ?_
    walk_at "ct"
    refine ⟨v, d, rfl, hd, ?_⟩
    cases hd with
    | int i =>
      refine w_bl (iteT ?_)
      walk_at "ct"
      refine ⟨len2 rfl, fun p np => ?_⟩
      refine w_inT (ns := [1, -1]) (.of upd_same) ?_
      have e : decide (i ∈ ([1, -1] : List Int)) = isWay (.int i) := by
        rw [Bool.eq_iff_iff, decide_eq_true_iff, isWay, Bool.or_eq_true, decide_eq_true_iff, decide_eq_true_iff]
        simp
      rw [e]
      exact q _ (same_upd np)
    | non =>
      refine w_bl (iteF ?_)
      exact q H (Same.refl H)
    | bl b =>
      refine w_bl (iteF ?_)
      exact q H (Same.refl H)
    | str s =>
      refine w_bl (iteF ?_)
      exact q H (Same.refl H)
    | lst g1 g2 =>
      refine w_bl (iteF ?_)
      exact q H (Same.refl H)
    | tup g1 g2 =>
      refine w_bl (iteF ?_)
      exact q H (Same.refl H)
abbrev S_wheel_pushed : Stmt := topS 18
theorem sc_wheel_pushed : FnScope ["part", "place", "way", "after", "tooth"] ["part", "place", "way"] (defScope S_wheel_pushed) := ⟨rfl, rfl, rfl, by decide +kernel, rfl, by decide +kernel, by decide +kernel⟩
def sp_wheel_pushed (K : PySem.W.Frag) : Sp := fun vs H Q _ => ∃ (v : V) (z : Int) (ms : List Int) (x w : Int), vs = [v, .int x, .int w] ∧ Dp K H v (Part.wheel z ms).data ∧ 1 ≤ z ∧ Sign w ∧ ∀ t H', Same H H' → H t = none → H' t = some (.tup [.int (pp (.wheel z ms) x w).1, .int (pp (.wheel z ms) x w).2]) → Q (.ref t) H'
theorem ok_wheel_pushed {f : Addr} {fd : FuncData} (F : Fun K "wheel_pushed" "wheel_pushed" S_wheel_pushed f fd) :
    FnOk P w K mg base CX0 1 f fd ["part", "place", "way"] (sp_wheel_pushed K) := by
  refine F.ok sc_wheel_pushed (fun vs H Q E h => ?_) (fun cdv A outer s H vs Q E hr h => ?_)
  ·
    obtain ⟨v, z, ms, x, w, rfl, _⟩ := h
    rfl
  ·
    obtain ⟨v, z, ms, x, w, rfl, hp, hz, hw, q⟩ := h
    refine ⟨_, (pss_cons (ps_set (i := 3) sc_wheel_pushed.nd rfl (.inl rfl) (pe_op op_mod (pe_op op_add (pv 1) (pv 2)) (pe_ix (r := rIxT K) ix_tup (pv 0) pe_int (fun _ _ => rfl))))
      (pss_cons (ps_set (i := 4) sc_wheel_pushed.nd rfl (.inl rfl) (pe_ifExp (pt_cmpR op_eq (pv 2) pe_int (nomark _)) (pv 3) (pv 1)))
      (pss_one (ps_ret (pe_tup (pa_cons (pv 3) (pa_cons (pe_ifExp (pt_cmpR (r := rIn K false) op_in_seq (pv 4) (pe_ix (r := rIxT K) ix_tup (pv 0) pe_int (fun _ _ => rfl)) (by rfl)) (pv 2) pe_int) pa_nil))))))), ?_⟩
    obtain ⟨a, b, rfl, ha, hb⟩ := wheel_inv hp
    refine w_st (σ' := [some (.ref a), some (.int x), some (.int w), none, none]) rfl ?_
    walk_at "ct"
    refine w_rI (by omega) ?_
    walk_at "ct"
    refine w_ite (fun e => ?_) (fun e => ?_)
    · walk_at "ct"
      refine w_inT hb ?_
      walk_at "ct"
      refine w_ite (fun e2 => ?_) (fun e2 => ?_)
      · walk_at "ct"
        refine ⟨len2 rfl, fun p np => ?_⟩
        refine q _ _ (same_upd np) np ?_
        rw [upd_same]
        simp only [pp]
        rw [if_pos e, if_pos e2]
      · walk_at "ct"
        refine ⟨len2 rfl, fun p np => ?_⟩
        refine q _ _ (same_upd np) np ?_
        rw [upd_same]
        simp only [pp]
        rw [if_pos e, if_neg e2]
    · walk_at "ct"
      refine w_inT hb ?_
      walk_at "ct"
      refine w_ite (fun e2 => ?_) (fun e2 => ?_)
      · walk_at "ct"
        refine ⟨len2 rfl, fun p np => ?_⟩
        refine q _ _ (same_upd np) np ?_
        rw [upd_same]
        simp only [pp]
        rw [if_neg e, if_pos e2]
      · walk_at "ct"
        refine ⟨len2 rfl, fun p np => ?_⟩
        refine q _ _ (same_upd np) np ?_
        rw [upd_same]
        simp only [pp]
        rw [if_neg e, if_neg e2]
abbrev S_rocker_pushed : Stmt := topS 19
theorem sc_rocker_pushed : FnScope ["place", "way"] ["place", "way"] (defScope S_rocker_pushed) := ⟨rfl, rfl, rfl, by decide +kernel, rfl, by decide +kernel, by decide +kernel⟩
def sp_rocker_pushed (K : PySem.W.Frag) : Sp := fun vs H Q _ => ∃ (x w : Int), vs = [.int x, .int w] ∧ Sign w ∧ ∀ t H', Same H H' → H t = none → H' t = some (.tup [.int (pp .rocker x w).1, .int (pp .rocker x w).2]) → Q (.ref t) H'
theorem ok_rocker_pushed {f : Addr} {fd : FuncData} (F : Fun K "rocker_pushed" "rocker_pushed" S_rocker_pushed f fd) :
    FnOk P w K mg base CX0 1 f fd ["place", "way"] (sp_rocker_pushed K) := by
  refine F.ok sc_rocker_pushed (fun vs H Q E h => ?_) (fun cdv A outer s H vs Q E hr h => ?_)
  ·
    obtain ⟨x, w, rfl, _⟩ := h
    rfl
  ·
    obtain ⟨x, w, rfl, hw, q⟩ := h
    refine ⟨_, (pss_cons (ps_if (pt_cmpR op_eq (pv 1) pe_int (nomark _)) (pss_one (ps_ret (pe_tup (pa_cons pe_int (pa_cons (pe_ifExp (pt_cmpR op_eq (pv 0) pe_int (nomark _)) pe_int pe_int) pa_nil))))) pss_nil)
      (pss_one (ps_ret (pe_tup (pa_cons pe_int (pa_cons pe_int pa_nil)))))), ?_⟩
    refine w_st (σ' := [some (.int x), some (.int w)]) rfl ?_
    walk_at "ct"
    refine w_ite (fun e => ?_) (fun e => ?_)
    · walk_at "ct"
      refine w_ite (fun e2 => ?_) (fun e2 => ?_)
      · walk_at "ct"
        refine ⟨len2 rfl, fun p np => ?_⟩
        refine q _ _ (same_upd np) np ?_
        rw [upd_same]
        simp only [pp]
        rw [if_pos e, if_pos ⟨e, e2⟩]
      · walk_at "ct"
        refine ⟨len2 rfl, fun p np => ?_⟩
        refine q _ _ (same_upd np) np ?_
        rw [upd_same]
        simp only [pp]
        rw [if_pos e, if_neg fun z => e2 z.2]
    · walk_at "ct"
      refine ⟨len2 rfl, fun p np => ?_⟩
      refine q _ _ (same_upd np) np ?_
      rw [upd_same]
      simp only [pp]
      rw [if_neg e, if_neg fun z => e z.1]
abbrev S_spring_pushed : Stmt := topS 20
theorem sc_spring_pushed : FnScope ["part", "place", "way"] ["part", "place", "way"] (defScope S_spring_pushed) := ⟨rfl, rfl, rfl, by decide +kernel, rfl, by decide +kernel, by decide +kernel⟩
def sp_spring_pushed (K : PySem.W.Frag) : Sp := fun vs H Q _ => ∃ (v : V) (k x w : Int), vs = [v, .int x, .int w] ∧ Dp K H v (Part.spring k).data ∧ 0 ≤ x ∧ Sign w ∧ ∀ t H', Same H H' → H t = none → H' t = some (.tup [.int (pp (.spring k) x w).1, .int (pp (.spring k) x w).2]) → Q (.ref t) H'
theorem ok_spring_pushed {f : Addr} {fd : FuncData} (F : Fun K "spring_pushed" "spring_pushed" S_spring_pushed f fd) (m_max : mg "max" = none) :
    FnOk P w K mg base CX0 1 f fd ["part", "place", "way"] (sp_spring_pushed K) := by
  refine F.ok sc_spring_pushed (fun vs H Q E h => ?_) (fun cdv A outer s H vs Q E hr h => ?_)
  ·
    obtain ⟨v, k, x, w, rfl, _⟩ := h
    rfl
  ·
    obtain ⟨v, k, x, w, rfl, hp, x0, hw, q⟩ := h
    refine ⟨_, (pss_cons (ps_if (pt_cmpR op_eq (pv 2) (pe_un un_neg pe_int) (nomark _)) (pss_one (ps_ret (pe_tup (pa_cons (pe_callB (call_max2 rfl) (by rfl) m_max (by decide +kernel) (pa_cons pe_int (pa_cons (pe_op op_sub (pv 1) pe_int) pa_nil))) (pa_cons pe_int pa_nil))))) pss_nil)
      (pss_cons (ps_if (pt_cmpR op_eq (pv 1) (pe_op op_sub (pe_ix (r := rIxT K) ix_tup (pv 0) pe_int (fun _ _ => rfl)) pe_int) (nomark _)) (pss_one (ps_ret (pe_tup (pa_cons pe_int (pa_cons pe_int pa_nil))))) pss_nil)
      (pss_one (ps_ret (pe_tup (pa_cons (pe_op op_add (pv 1) pe_int) (pa_cons pe_int pa_nil))))))), ?_⟩
    obtain ⟨a, rfl, ha⟩ := spring_inv hp
    refine w_st (σ' := [some (.ref a), some (.int x), some (.int w)]) rfl ?_
    walk_at "ct"
    refine w_ite (fun e => ?_) (fun e => ?_)
    · walk_at "ct"
      refine ⟨_, _, rfl, ?_⟩
      walk_at "ct"
      refine ⟨len2 rfl, fun p np => ?_⟩
      refine q _ _ (same_upd np) np ?_
      rw [upd_same]
      simp only [pp]
      rw [if_neg (show ¬ w = 1 by omega)]
    · have e1 : w = 1 := hw.elim id fun z => absurd z e
      walk_at "ct"
      refine w_ite (fun e2 => ?_) (fun e2 => ?_)
      · walk_at "ct"
        refine ⟨len2 rfl, fun p np => ?_⟩
        refine q _ _ (same_upd np) np ?_
        rw [upd_same]
        simp only [pp]
        rw [if_pos e1, if_pos e2]
      · walk_at "ct"
        refine ⟨len2 rfl, fun p np => ?_⟩
        refine q _ _ (same_upd np) np ?_
        rw [upd_same]
        simp only [pp]
        rw [if_pos e1, if_neg e2]
abbrev S_part_pushed : Stmt := topS 21
theorem sc_part_pushed : FnScope ["part", "place", "way"] ["part", "place", "way"] (defScope S_part_pushed) := ⟨rfl, rfl, rfl, by decide +kernel, rfl, by decide +kernel, by decide +kernel⟩
def sp_part_pushed (K : PySem.W.Frag) : Sp := fun vs H Q _ => ∃ (v : V) (p : Part) (x w : Int), vs = [v, .int x, .int w] ∧ Dp K H v p.data ∧ p.ok ∧ 0 ≤ x ∧ x < p.places ∧ Sign w ∧ ∀ t H', Same H H' → H t = none → H' t = some (.tup [.int (pp p x w).1, .int (pp p x w).2]) → Q (.ref t) H'
theorem ok_part_pushed {f : Addr} {fd : FuncData} {f_spring_pushed : Addr} {fd_spring_pushed : FuncData} {f_rocker_pushed : Addr} {fd_rocker_pushed : FuncData} {f_wheel_pushed : Addr} {fd_wheel_pushed : FuncData} (F : Fun K "part_pushed" "part_pushed" S_part_pushed f fd)
    (F_spring_pushed : Fun K "spring_pushed" "spring_pushed" S_spring_pushed f_spring_pushed fd_spring_pushed) (b_spring_pushed : Binds K fd_spring_pushed ["part", "place", "way"] []) (g_spring_pushed : mg "spring_pushed" = some (.ref f_spring_pushed)) (G_spring_pushed : FnOk P w K mg base CX0 1 f_spring_pushed fd_spring_pushed ["part", "place", "way"] (sp_spring_pushed K))
    (F_rocker_pushed : Fun K "rocker_pushed" "rocker_pushed" S_rocker_pushed f_rocker_pushed fd_rocker_pushed) (b_rocker_pushed : Binds K fd_rocker_pushed ["place", "way"] []) (g_rocker_pushed : mg "rocker_pushed" = some (.ref f_rocker_pushed)) (G_rocker_pushed : FnOk P w K mg base CX0 1 f_rocker_pushed fd_rocker_pushed ["place", "way"] (sp_rocker_pushed K))
    (F_wheel_pushed : Fun K "wheel_pushed" "wheel_pushed" S_wheel_pushed f_wheel_pushed fd_wheel_pushed) (b_wheel_pushed : Binds K fd_wheel_pushed ["part", "place", "way"] []) (g_wheel_pushed : mg "wheel_pushed" = some (.ref f_wheel_pushed)) (G_wheel_pushed : FnOk P w K mg base CX0 1 f_wheel_pushed fd_wheel_pushed ["part", "place", "way"] (sp_wheel_pushed K)) :
    FnOk P w K mg base CX0 2 f fd ["part", "place", "way"] (sp_part_pushed K) := by
  refine F.ok sc_part_pushed (fun vs H Q E h => ?_) (fun cdv A outer s H vs Q E hr h => ?_)
  ·
    obtain ⟨v, p, x, w, rfl, _⟩ := h
    rfl
  ·
    obtain ⟨v, p, x, w, rfl, hp, hok, x0, x1, hw, q⟩ := h
    refine ⟨_, (pss_cons (ps_if (pt_cmpR op_eq (pe_ix (r := rIxT K) ix_tup (pv 0) pe_int (fun _ _ => rfl)) pe_str (nomark _)) (pss_one (ps_ret (pe_call G_wheel_pushed (hr.mono (by decide)) (by rfl) g_wheel_pushed F_wheel_pushed.kp b_wheel_pushed .nil pass0 (pa_cons (pv 0) (pa_cons (pv 1) (pa_cons (pv 2) pa_nil)))))) pss_nil)
      (pss_cons (ps_if (pt_cmpR op_eq (pe_ix (r := rIxT K) ix_tup (pv 0) pe_int (fun _ _ => rfl)) pe_str (nomark _)) (pss_one (ps_ret (pe_call G_rocker_pushed (hr.mono (by decide)) (by rfl) g_rocker_pushed F_rocker_pushed.kp b_rocker_pushed .nil pass0 (pa_cons (pv 1) (pa_cons (pv 2) pa_nil))))) pss_nil)
      (pss_cons (ps_if (pt_cmpR op_eq (pe_ix (r := rIxT K) ix_tup (pv 0) pe_int (fun _ _ => rfl)) pe_str (nomark _)) (pss_one (ps_ret (pe_call G_spring_pushed (hr.mono (by decide)) (by rfl) g_spring_pushed F_spring_pushed.kp b_spring_pushed .nil pass0 (pa_cons (pv 0) (pa_cons (pv 1) (pa_cons (pv 2) pa_nil)))))) pss_nil)
      (pss_one (ps_ret (pe_tup (pa_cons (pv 1) (pa_cons (pe_ifExp (pt_cmpR op_eq (pv 2) pe_int (nomark _)) pe_int pe_int) pa_nil)))))))), ?_⟩
    refine w_st (σ' := [some v, some (.int x), some (.int w)]) rfl ?_
    cases p with
    | wheel z ms =>
      obtain ⟨a, b, rfl, ha, hb⟩ := wheel_inv hp
      walk_at "ct"
      exact ⟨_, z, ms, x, w, rfl, hp, hok.1, hw, q⟩
    | click =>
      obtain ⟨a, rfl, ha⟩ := click_inv hp
      have x2 : x < 1 := x1
      have ex : x = 0 := by omega
      subst ex
      walk_at "ct"
      refine w_ite (fun e => ?_) (fun e => ?_)
      · walk_at "ct"
        refine ⟨len2 rfl, fun p np => ?_⟩
        refine q _ _ (same_upd np) np ?_
        rw [upd_same]
        simp only [pp]
        rw [if_pos e]
      · walk_at "ct"
        refine ⟨len2 rfl, fun p np => ?_⟩
        refine q _ _ (same_upd np) np ?_
        rw [upd_same]
        simp only [pp]
        rw [if_neg e]
    | rocker =>
      obtain ⟨a, rfl, ha⟩ := rocker_inv hp
      walk_at "ct"
      exact ⟨x, w, rfl, hw, q⟩
    | spring k =>
      obtain ⟨a, rfl, ha⟩ := spring_inv hp
      walk_at "ct"
      exact ⟨_, k, x, w, rfl, hp, x0, hw, q⟩
abbrev S_pushed : Stmt := topS 22
theorem sc_pushed : FnScope ["train", "stand", "i", "way", "places", "given", "number"] ["train", "stand", "i", "way"] (defScope S_pushed) := ⟨rfl, rfl, rfl, by decide +kernel, rfl, by decide +kernel, by decide +kernel⟩
def sp_pushed (K : PySem.W.Frag) : Sp := fun vs H Q _ => ∃ (a t : Addr) (ps : List Part) (xs : List Int) (i : Nat) (w : Int), vs = [.ref a, .ref t, .int i, .int w] ∧ TrainAt K H a ps ∧ (∀ p ∈ ps, p.ok) ∧ SqT K H t (xs.map V.int) ∧ StandOk ps xs ∧ i ≤ ps.length ∧ ps.length ≤ 1000 ∧ Sign w ∧
  ∀ q u H', Same H H' → H u = none → H q = none → H' u = some (.tup ((run ps xs i w).1.map V.int)) → H' q = some (.tup [.ref u, .int (run ps xs i w).2]) → Q (.ref q) H'
theorem ok_pushed {f : Addr} {fd : FuncData} {f_part_pushed : Addr} {fd_part_pushed : FuncData} (F : Fun K "pushed" "pushed" S_pushed f fd)
    (F_part_pushed : Fun K "part_pushed" "part_pushed" S_part_pushed f_part_pushed fd_part_pushed) (b_part_pushed : Binds K fd_part_pushed ["part", "place", "way"] []) (g_part_pushed : mg "part_pushed" = some (.ref f_part_pushed)) (G_part_pushed : FnOk P w K mg base CX0 2 f_part_pushed fd_part_pushed ["part", "place", "way"] (sp_part_pushed K)) (m_list : mg "list" = none) (m_range : mg "range" = none) (m_len : mg "len" = none) (m_tuple : mg "tuple" = none) :
    FnOk P w K mg base CX0 3 f fd ["train", "stand", "i", "way"] (sp_pushed K) := by
  refine F.ok sc_pushed (fun vs H Q E h => ?_) (fun cdv A outer s H vs Q E hr h => ?_)
  ·
    obtain ⟨a, t, ps, xs, i, w, rfl, _⟩ := h
    rfl
  ·
    obtain ⟨a, t, ps, xs, i, w, rfl, ⟨vs, hv, hd⟩, hok, hS, hso, hi, hps, hw, q⟩ := h
    refine ⟨_, (pss_cons (ps_set (i := 4) sc_pushed.nd rfl (.inl rfl) (pe_callTy call_list_of (by rfl) m_list (by decide +kernel) (pa_cons (pv 1) pa_nil)))
      (pss_cons (ps_set (i := 5) sc_pushed.nd rfl (.inl rfl) (pv 3))
      (pss_cons (ps_for PassesOwn.never rfl (pi_range2 (by rfl) m_range (pa_cons (pv 2) (pa_cons (pe_callB call_len_seq (by rfl) m_len (by decide +kernel) (pa_cons (pv 0) pa_nil)) pa_nil))) (pg_name (i := 6) sc_pushed.nd rfl (.inl rfl))
      (pss_cons (ps_if (pt_cmpR op_eq (pv 5) pe_int (nomark _)) (pss_one ps_break) pss_nil)
      (pss_one (ps_asg (pe_call G_part_pushed (hr.mono (by decide)) (by rfl) g_part_pushed F_part_pushed.kp b_part_pushed .nil pass0 (pa_cons (pe_ix (r := rIxL K) ix_list (pv 0) (pv 6) (fun _ _ => rfl)) (pa_cons (pe_ix (r := rIxL K) ix_list (pv 4) (pv 6) (fun _ _ => rfl)) (pa_cons (pv 5) pa_nil)))) (pg_tup rfl (pgs_cons (pg_sub (pv 4) (pv 6) set_list) (pgs_cons (pg_name (i := 5) sc_pushed.nd rfl (.inl rfl)) pgs_nil)))))))
      (pss_one (ps_ret (pe_tup (pa_cons (pe_callTy call_tuple_of (by rfl) m_tuple (by decide +kernel) (pa_cons (pv 4) pa_nil)) (pa_cons (pv 5) pa_nil)))))))), ?_⟩
    refine w_st (σ' := [some (.ref a), some (.ref t), some (.int i), some (.int w), none, none, none]) rfl ?_
    have hvl : vs.length = ps.length := by rw [dpAll_len hd, List.length_map]
    have hxl : xs.length = ps.length := hso.1
    walk_at "ct"
    refine ⟨t, _, rfl, .inr hS, fun l nl => ?_⟩
    walk_at "ct"
    refine ⟨a, vs, rfl, .inl ((same_upd nl).seq hv), ?_⟩
    walk_at "ct"
    refine w_RG2 (by omega) (by omega) (by omega) (by omega) ?_
    rw [show ((vs.length : Int) - (i : Int)).toNat = ps.length - i by omega]
    refine fb_range (fun n σ H' => ∃ y, σ = [some (.ref a), some (.ref t), some (.int i), some (.int w), some (.ref l), some (.int (runN ps i (xs, w) n).2), y] ∧ Same H H' ∧ H' l = some (.lst ((runN ps i (xs, w) n).1.map V.int))) ⟨none, rfl, same_upd nl, upd_same⟩ ?_ ?_
    · rintro n σ H' hn ⟨y, rfl, sm, hl⟩
      obtain ⟨p, hp⟩ : ∃ p, ps[i + n]? = some p := ⟨_, List.getElem?_eq_getElem (by omega)⟩
      obtain ⟨v, hv1, hd1⟩ := TrainAt.at (a := a) hd hp
      obtain ⟨x, hx⟩ : ∃ x, xs[i + n]? = some x := ⟨_, List.getElem?_eq_getElem (by omega)⟩
      have hx2 : (runN ps i (xs, w) n).1[i + n]? = some x := by
        rw [runN_ahead ps i (xs, w) n (i + n) (Nat.le_refl _)]
        exact hx
      have hx0 := hso.2 _ _ _ hp hx
      walk_at "ct"
      refine w_ite (fun e => ?_) (fun e => ?_)
      · walk_at "ct"
        have er : run ps xs i w = runN ps i (xs, w) n := by
          unfold Ct.run
          rw [show ps.length - i = n + (ps.length - i - n) by omega]
          exact runN_zero e _
        rw [← er] at hl
        rw [← er]
        refine ⟨l, _, rfl, .inl ⟨.of hl, fun u nu => ?_⟩⟩
        walk_at "ct"
        refine ⟨len2 rfl, fun p np => ?_⟩
        have s2 : Same H (upd H' u (.tup ((run ps xs i w).1.map V.int))) := same_new sm (sm.free nu)
        exact q p u _ (same_new s2 (s2.free np)) (sm.free nu) (s2.free np) (by rw [upd_ne (ne_of_none upd_same np)]; exact upd_same) upd_same
      ·
        walk_at "ct"
        refine w_ixL (sm.seq hv) (at_of (j := i + n) (by omega) hv1) ?_
        walk_at "ct"
        refine w_ixL (.of hl) (at_of (j := i + n) (by omega) (by rw [List.getElem?_map, hx2]; rfl)) ?_
        walk_at "ct"
        refine ⟨v, p, x, _, rfl, dp_same sm hd1, hok p (List.mem_of_getElem? hp), hx0.1, hx0.2, (runN_sign ps i (xs, w) hw n).resolve_left e, fun u H1 s1 n1 hu => ?_⟩
        refine w_gtup (.of hu) rfl ?_
        walk_at "ct"
        refine w_setL (s1 _ _ hl) (ix_at (j := i + n) (by omega) (by rw [List.length_map, runN_len]; show i + n < xs.length; omega)) ?_
        walk_at "ct"
        have er : runN ps i (xs, w) (n + 1) = ((runN ps i (xs, w) n).1.set (i + n) (pp p x (runN ps i (xs, w) n).2).1, (pp p x (runN ps i (xs, w) n).2).2) := stp_at e hp hx2
        refine ⟨some (.int ((i : Int) + (n : Int))), ?_, same_new (sm.trans s1) nl, ?_⟩
        · rw [er]
        · rw [er, upd_same, List.map_set]
    · rintro σ H' ⟨y, rfl, sm, hl⟩
      ·
        walk_at "ct"
        refine ⟨l, _, rfl, .inl ⟨.of hl, fun u nu => ?_⟩⟩
        walk_at "ct"
        refine ⟨len2 rfl, fun p np => ?_⟩
        have s2 : Same H (upd H' u (.tup ((run ps xs i w).1.map V.int))) := same_new sm (sm.free nu)
        exact q p u _ (same_new s2 (s2.free np)) (sm.free nu) (s2.free np) (by rw [upd_ne (ne_of_none upd_same np)]; exact upd_same) upd_same
abbrev S_is_sign : Stmt := topS 24
theorem sc_is_sign : FnScope ["thing"] ["thing"] (defScope S_is_sign) := ⟨rfl, rfl, rfl, by decide +kernel, rfl, by decide +kernel, by decide +kernel⟩
def sp_is_sign (K : PySem.W.Frag) : Sp := fun vs H Q _ => ∃ (v : V) (d : PyData), vs = [v] ∧ Dp K H v d ∧ ∀ H', Same H H' → Q (.bl (isSg d)) H'
theorem ok_is_sign {f : Addr} {fd : FuncData} {f_is_whole : Addr} {fd_is_whole : FuncData} (F : Fun K "is_sign" "is_sign" S_is_sign f fd)
    (F_is_whole : Fun K "is_whole" "is_whole" S_is_whole f_is_whole fd_is_whole) (b_is_whole : Binds K fd_is_whole ["thing"] []) (g_is_whole : mg "is_whole" = some (.ref f_is_whole)) (G_is_whole : FnOk P w K mg base CX0 1 f_is_whole fd_is_whole ["thing"] (sp_is_whole K)) :
    FnOk P w K mg base CX0 2 f fd ["thing"] (sp_is_sign K) := by
  refine F.ok sc_is_sign (fun vs H Q E h => ?_) (fun cdv A outer s H vs Q E hr h => ?_)
  ·
    obtain ⟨v, d, rfl, _⟩ := h
    rfl
  ·
    obtain ⟨v, d, rfl, hd, q⟩ := h
    refine ⟨_, (pss_one (ps_ret (pe_and (pe_call G_is_whole (hr.mono (by decide)) (by rfl) g_is_whole F_is_whole.kp b_is_whole .nil pass0 (pa_cons (pv 0) pa_nil)) (pe_one (pe_cmpR (r := rIn K false) op_in_seq (pv 0) (pe_tup (pa_cons pe_int (pa_cons (pe_un un_neg pe_int) (pa_cons pe_int pa_nil)))) (by rfl)))))), ?_⟩
    refine w_st (σ' := [some v]) rfl ?_
    walk_at "ct"
    refine ⟨v, d, rfl, hd, ?_⟩
    cases hd with
    | int i =>
      refine w_bl ?_
      refine iteT ?_
      walk_at "ct"
      refine ⟨len2 rfl, fun p np => ?_⟩
      refine w_inT (ns := [1, -1, 0]) (.of upd_same) ?_
      exact q _ (same_upd np)
    | non => exact w_bl (iteF (q H (Same.refl H)))
    | bl b => exact w_bl (iteF (q H (Same.refl H)))
    | str s => exact w_bl (iteF (q H (Same.refl H)))
    | lst g1 g2 => exact w_bl (iteF (q H (Same.refl H)))
    | tup g1 g2 => exact w_bl (iteF (q H (Same.refl H)))
abbrev S_fed : Stmt := topS 25
theorem sc_fed : FnScope ["train", "stand", "signs", "shown", "sign", "given", "thing"] ["train", "stand", "signs"] (defScope S_fed) := ⟨rfl, rfl, rfl, by decide +kernel, rfl, by decide +kernel, by decide +kernel⟩
def sp_fed (K : PySem.W.Frag) (T : List Addr) : Sp := fun vs H Q _ => ∃ (a t b : Addr) (ps : List Part) (xs ss : List Int), vs = [.ref a, .ref t, .ref b] ∧ TrainAt K H a ps ∧ (∀ p ∈ ps, p.ok) ∧ 1 ≤ ps.length ∧ ps.length ≤ 1000 ∧ SqT K H t (xs.map V.int) ∧ StandOk ps xs ∧ SqL K H b (ss.map V.int) ∧ (∀ s ∈ ss, s = 0 ∨ Sign s) ∧ ss.length ≤ 1000 ∧ Tb T H ∧ Fine (.list (ps.map Part.data)) 30 600 ∧ isSt ps (.tuple (xs.map PyData.int)) = true ∧
  ∀ l u g H', Same H H' → H l = none → H' l = some (.lst ((fedS ps xs ss).2.map V.int)) → SqT K H' u ((fedS ps xs ss).1.map V.int) → H' g = some (.tup [.ref u, .ref l]) → Q (.ref g) H'
theorem ok_fed {f : Addr} {fd : FuncData} {f_pushed : Addr} {fd_pushed : FuncData} {f_is_sign : Addr} {fd_is_sign : FuncData} {f_check_stand : Addr} {fd_check_stand : FuncData} {c_NoPushes : Addr} {c_NoTrain : Addr} {c_NoStand : Addr} {T : List Addr} {cT PT : Addr} (F : Fun K "fed" "fed" S_fed f fd)
    (F_pushed : Fun K "pushed" "pushed" S_pushed f_pushed fd_pushed) (b_pushed : Binds K fd_pushed ["train", "stand", "i", "way"] []) (g_pushed : mg "pushed" = some (.ref f_pushed)) (G_pushed : FnOk P w K mg base CX0 3 f_pushed fd_pushed ["train", "stand", "i", "way"] (sp_pushed K))
    (F_is_sign : Fun K "is_sign" "is_sign" S_is_sign f_is_sign fd_is_sign) (b_is_sign : Binds K fd_is_sign ["thing"] []) (g_is_sign : mg "is_sign" = some (.ref f_is_sign)) (G_is_sign : FnOk P w K mg base CX0 2 f_is_sign fd_is_sign ["thing"] (sp_is_sign K))
    (F_check_stand : Fun K "check_stand" "check_stand" S_check_stand f_check_stand fd_check_stand) (b_check_stand : Binds K fd_check_stand ["train", "stand"] []) (g_check_stand : mg "check_stand" = some (.ref f_check_stand)) (G_check_stand : FnOk P w K mg base (L2.CX P w) 5 f_check_stand fd_check_stand ["train", "stand"] (sp_check_stand K c_NoTrain c_NoStand)) (m_isinstance : mg "isinstance" = none) (m_list : mg "list" = none) (m_all : mg "all" = none)
    (g_NoPushes : mg "NoPushes" = some (.ref c_NoPushes)) (E_NoPushes : ErrC K mg "NoPushes" c_NoPushes)
    (TB_fed : GxR.TabB base mg cT PT) (HC_fed : fd.code = .ref cT) (tm : PT ∈ T) :
    FnOk P w K mg base (L2.CX P w) 7 f fd ["train", "stand", "signs"] (sp_fed K T) := by
  refine okXC F sc_fed (fun vs H Q E h => ?_) (fun A outer s H vs Q E hr h => ?_)
  ·
    obtain ⟨a, t, b, ps, xs, ss, rfl, _⟩ := h
    rfl
  ·
    obtain ⟨a, t, b, ps, xs, ss, rfl, hT, hok, hps, hps2, hS, hso, hG, hss, hsl, hTb, fine, ist, q⟩ := h
    refine ⟨_, (pss_cons (ps_expr (pe_call (E := E) G_check_stand (hr.mono (by decide)) (by rfl) g_check_stand F_check_stand.kp b_check_stand .nil (passes_call (takes_of rfl rfl rfl rfl) fun _ _ _ _ h => h) (pa_cons (pv 0) (pa_cons (pv 1) pa_nil))))
      (pss_cons (ps_if (PW.pt (pw_or (pt_not (pt_val (pe_callB (r := rIsi K) call_isi (by rfl) m_isinstance (by decide +kernel) (pa_cons (pv 2) (pa_cons (pe_bltn (v := .ty "list") (u := .type "list") (by rfl) m_list (by decide +kernel) rfl) pa_nil))))) (pw_or1 (pt_not (pt_val (pe_allX (own := [("thing", 6)]) (g := (gName 6)) hr (by rfl) m_all rfl sc_fed.nd TB_fed HC_fed (pi_list (pv 2)) (blkOk_by (own := [("thing", 6)]) (N := ["train", "stand", "signs", "shown", "sign", "given", "thing"]) (sc := defScope S_fed) (by decide +kernel)) (by decide +kernel) rfl (by decide +kernel) (fun _ _ _ _ _ _ _ _ => (pg_name (i := 6) sc_fed.nd rfl (Or.inl rfl))) (fun _ _ _ _ _ _ _ _ hr => (pe_call G_is_sign (hr.mono (by decide)) (by rfl) g_is_sign F_is_sign.kp b_is_sign .nil pass0 (pa_cons (pv 6) pa_nil))))))))) (pss_one (ps_raiseC (C := c_NoPushes) rfl (takes_of rfl rfl rfl rfl) E_NoPushes (by rfl))) pss_nil)
      (pss_cons (ps_set (i := 3) sc_fed.nd rfl (.inl rfl) (pe_lst pa_nil))
      (pss_cons (ps_for (passes_of rfl) rfl (pi_list (pv 2)) (pg_name (i := 4) sc_fed.nd rfl (.inl rfl))
      (pss_cons (ps_set (i := 5) sc_fed.nd rfl (.inl rfl) pe_int)
      (pss_cons (ps_if (pt_cmpR op_ne (pv 4) pe_int (nomark _)) (pss_one (ps_asg (pe_call G_pushed (hr.mono (by decide)) (by rfl) g_pushed F_pushed.kp b_pushed .nil pass0 (pa_cons (pv 0) (pa_cons (pv 1) (pa_cons pe_int (pa_cons (pv 4) pa_nil))))) (pg_tup rfl (pgs_cons (pg_name (i := 1) sc_fed.nd rfl (.inl rfl)) (pgs_cons (pg_name (i := 5) sc_fed.nd rfl (.inl rfl)) pgs_nil))))) pss_nil)
      (pss_one (ps_expr (pe_bm PySem.F.plainAttrs_list PySem.F.slot_list_append PySem.F.type_list_append mt_append (pv 3) (pa_cons (pv 5) pa_nil)))))))
      (pss_one (ps_ret (pe_tup (pa_cons (pv 1) (pa_cons (pv 3) pa_nil))))))))), ?_⟩
    refine w_st (σ' := [some (.ref a), some (.ref t), some (.ref b), none, none, none, none]) rfl ?_
    have hstl := standL_of hok hso
    walk_at "ct"
    obtain ⟨tv, hTv, hTd⟩ := id hT
    refine ⟨.ref a, .ref t, _, _, rfl, .lst hTv hTd, .tup hS (dpAll_ints xs), fine, fun z => absurd (isT_of hok hps) (by rw [z]; exact Bool.false_ne_true), fun ps' hps' _ _ => ?_⟩
    cases trains_inj hps'
    refine ⟨fun _ H1 s1 => ?_, fun z => absurd ist (by rw [z]; exact Bool.false_ne_true)⟩
    walk_at "ct"
    refine w_isi (b := true) (tyx_L (s1.seq hG)) (kit_ty (by decide +kernel)) ?_
    walk_at "ct"
    refine w_IL (s1.seq hG) ?_
    refine gb_list (ss.map V.int) (fun i H2 => Same H1 H2) ((hTb.same s1) _ tm) (Same.refl _) (fun i H2 _ s2 => (s1.trans s2).seq hG) ?_ ?_
    · rintro i x H2 hx s2
      obtain ⟨c, hc, rfl⟩ : ∃ c : Int, (c = 0 ∨ Sign c) ∧ x = .int c := by
        obtain ⟨k, hk, rfl⟩ := List.mem_map.mp (List.mem_of_getElem? hx)
        exact ⟨k, hss k hk, rfl⟩
      walk_at "ct"
      refine ⟨rfl, ?_⟩
      walk_at "ct"
      refine ⟨_, .int c, rfl, .int c, fun H3 s3 => ⟨_, rfl, ?_⟩⟩
      rw [isSg_of hc, if_neg (by decide)]
      exact s2.trans s3
    · intro H2 s2
      have s12 := s1.trans s2
      walk_at "ct"
      refine ⟨len2 rfl, fun l nl => ?_⟩
      walk_at "ct"
      refine w_IL ((s12.trans (same_upd nl)).seq hG) ?_
      have nl0 : H l = none := s12.free nl
      refine fb_list (ss.map V.int) (fun k σ H3 => ∃ (u : Addr) (y4 y5 : Option V), σ = [some (.ref a), some (.ref u), some (.ref b), some (.ref l), y4, y5, none] ∧ Same H H3 ∧ H3 l = some (.lst ((fedS ps xs (ss.take k)).2.map V.int)) ∧ SqT K H3 u ((fedS ps xs (ss.take k)).1.map V.int))
        ⟨t, none, none, rfl, s12.trans (same_upd nl), upd_same, Same.tup (s12.trans (same_upd nl)) hS⟩ ?_ ?_ ?_
      · rintro k σ H3 _ ⟨u, y4, y5, rfl, s3, _⟩
        exact s3.seq hG
      · rintro k x σ H3 hx ⟨u, y4, y5, rfl, s3, hl, hu⟩
        obtain ⟨c, hc, rfl⟩ : ∃ c : Int, ss[k]? = some c ∧ x = .int c := by
          rw [List.getElem?_map] at hx
          cases e : ss[k]? with
          | none => rw [e] at hx; cases hx
          | some c => rw [e] at hx; exact ⟨c, rfl, (Option.some.inj hx).symm⟩
        have hk : k < ss.length := (List.getElem?_eq_some_iff.mp hc).1
        have hcs := hss c (List.mem_of_getElem? hc)
        have hst := fedS_stand (ss := ss.take k) hps hstl fun s hs => hss s (List.mem_of_mem_take hs)
        have ft := fedS_take (ps := ps) xs hc
        have fl : (fedS ps xs (ss.take k)).2.length ≤ 1000 := by
          rw [fedS_len, List.length_take]
          omega
        walk_at "ct"
        refine w_iteN (fun e => ?_) (fun e => ?_)
        · walk_at "ct"
          refine ⟨a, u, ps, _, 0, c, rfl, hT.same s3, hok, hu, hst.ok, by omega, hps2, hcs.resolve_left e, fun g v H4 s4 _ _ hv hg => ?_⟩
          refine w_gtup (.of hg) rfl ?_
          walk_at "ct"
          have hl4 := s4 _ _ hl
          refine ⟨ty_list hl4, ?_⟩
          walk_at "ct"
          refine w_append hl4 (by rw [List.length_map]; exact small1000 fl) ?_
          walk_at "ct"
          refine ⟨v, _, _, rfl, same_new (s3.trans s4) nl0, ?_, ?_⟩
          · rw [upd_same, ft, List.map_append]
            rfl
          · rw [ft]
            exact sqT_upd (.of hv) hl4
        · walk_at "ct"
          refine ⟨ty_list hl, ?_⟩
          walk_at "ct"
          refine w_append hl (by rw [List.length_map]; exact small1000 fl) ?_
          walk_at "ct"
          rw [e, run_zero] at ft
          refine ⟨u, _, _, rfl, same_new s3 nl0, ?_, ?_⟩
          · rw [upd_same, ft, List.map_append]
            rfl
          · rw [ft]
            exact sqT_upd hu hl
      · rintro σ H3 ⟨u, y4, y5, rfl, s3, hl, hu⟩
        rw [List.length_map, List.take_length] at hl hu
        walk_at "ct"
        refine ⟨len2 rfl, fun g ng => ?_⟩
        have s4 : Same H3 (upd H3 g (.tup [.ref u, .ref l])) := same_upd ng
        exact q l u g _ (s3.trans s4) nl0 (s4 _ _ hl) (Same.tup s4 hu) upd_same
abbrev S_is_show : Stmt := topS 28
theorem sc_is_show : FnScope ["thing"] ["thing"] (defScope S_is_show) := ⟨rfl, rfl, rfl, by decide +kernel, rfl, by decide +kernel, by decide +kernel⟩
def isShn : PyData → Bool
  | .int i => decide (i ∈ [(1 : Int), -1, 0])
  | _ => false
def isShow : PyData → Bool
  | .tuple [a, b] => isWay a && isShn b
  | _ => false
theorem isShow_ok {s : Int × Int} (h : Sh2Ok s) : isShow (sh2D s) = true := by
  show (isWay (.int s.1) && decide (s.2 ∈ [(1 : Int), -1, 0])) = true
  rw [show isWay (.int s.1) = true by
    rcases h.1 with e | e
    · rw [e]; rfl
    · rw [e]; rfl, decide_eq_true (show s.2 ∈ [(1 : Int), -1, 0] by rcases h.2 with e | e | e <;> rw [e] <;> decide)]
  rfl
def isShows : PyData → Bool
  | .list ds => ds.all isShow
  | _ => false
theorem isShows_ok {ss : List (Int × Int)} (h : ∀ s ∈ ss, Sh2Ok s) : isShows (.list (ss.map sh2D)) = true := by
  show (ss.map sh2D).all isShow = true
  rw [List.all_eq_true]
  intro d hd
  obtain ⟨s, hs, rfl⟩ := List.mem_map.mp hd
  exact isShow_ok (h s hs)
def isMost : PyData → Bool
  | .int i => decide (1 ≤ i) && decide (i ≤ 200)
  | _ => false
def sp_is_show (K : PySem.W.Frag) : Sp := fun vs H Q _ => ∃ (v : V) (d : PyData), vs = [v] ∧ Dp K H v d ∧ ∀ H', Same H H' → Q (.bl (isShow d)) H'
theorem ok_is_show {f : Addr} {fd : FuncData} {f_is_whole : Addr} {fd_is_whole : FuncData} {f_is_way : Addr} {fd_is_way : FuncData} (F : Fun K "is_show" "is_show" S_is_show f fd)
    (F_is_whole : Fun K "is_whole" "is_whole" S_is_whole f_is_whole fd_is_whole) (b_is_whole : Binds K fd_is_whole ["thing"] []) (g_is_whole : mg "is_whole" = some (.ref f_is_whole)) (G_is_whole : FnOk P w K mg base CX0 1 f_is_whole fd_is_whole ["thing"] (sp_is_whole K))
    (F_is_way : Fun K "is_way" "is_way" S_is_way f_is_way fd_is_way) (b_is_way : Binds K fd_is_way ["thing"] []) (g_is_way : mg "is_way" = some (.ref f_is_way)) (G_is_way : FnOk P w K mg base CX0 2 f_is_way fd_is_way ["thing"] (sp_is_way K)) (m_isinstance : mg "isinstance" = none) (m_tuple : mg "tuple" = none) (m_len : mg "len" = none) :
    FnOk P w K mg base CX0 3 f fd ["thing"] (sp_is_show K) := by
  refine F.ok sc_is_show (fun vs H Q E h => ?_) (fun cdv A outer s H vs Q E hr h => ?_)
  ·
    obtain ⟨v, d, rfl, _⟩ := h
    rfl
  ·
    obtain ⟨v, d, rfl, hd, q⟩ := h
    refine ⟨_, (pss_cons (ps_if (PW.pt (pw_or (pt_not (pt_val (pe_callB (r := rIsi K) call_isi (by rfl) m_isinstance (by decide +kernel) (pa_cons (pv 0) (pa_cons (pe_bltn (v := .ty "tuple") (u := .type "tuple") (by rfl) m_tuple (by decide +kernel) rfl) pa_nil))))) (pw_or1 (pt_cmpR op_ne (pe_callB call_len_seq (by rfl) m_len (by decide +kernel) (pa_cons (pv 0) pa_nil)) pe_int (nomark _))))) (pss_one (ps_ret pe_bl)) pss_nil)
      (pss_one (ps_ret (pe_and (pe_call G_is_way (hr.mono (by decide)) (by rfl) g_is_way F_is_way.kp b_is_way .nil pass0 (pa_cons (pe_ix (r := rIxT K) ix_tup (pv 0) pe_int (fun _ _ => rfl)) pa_nil)) (pe_and (pe_call G_is_whole (hr.mono (by decide)) (by rfl) g_is_whole F_is_whole.kp b_is_whole .nil pass0 (pa_cons (pe_ix (r := rIxT K) ix_tup (pv 0) pe_int (fun _ _ => rfl)) pa_nil)) (pe_one (pe_cmpR (r := rIn K false) op_in_seq (pe_ix (r := rIxT K) ix_tup (pv 0) pe_int (fun _ _ => rfl)) (pe_tup (pa_cons pe_int (pa_cons (pe_un un_neg pe_int) (pa_cons pe_int pa_nil)))) (by rfl)))))))), ?_⟩
    refine w_st (σ' := [some v]) rfl ?_
    walk_at "ct"
    cases hd with
    | non =>
      refine w_isi (b := false) (.base .non) (kit_ty (by decide +kernel)) ?_
      walk_at "ct"
      exact q H (Same.refl H)
    | bl b =>
      refine w_isi (b := false) (.base (.bl b)) (kit_ty (by decide +kernel)) ?_
      walk_at "ct"
      exact q H (Same.refl H)
    | int i =>
      refine w_isi (b := false) (.base (.int i)) (kit_ty (by decide +kernel)) ?_
      walk_at "ct"
      exact q H (Same.refl H)
    | str x =>
      refine w_isi (b := false) (.base (.str x)) (kit_ty (by decide +kernel)) ?_
      walk_at "ct"
      exact q H (Same.refl H)
    | lst hs ht =>
      refine w_isi (b := false) (tyx_L hs) (kit_ty (by decide +kernel)) ?_
      walk_at "ct"
      exact q H (Same.refl H)
    | tup hs ht =>
      refine w_isi (b := true) (tyx_T hs) (kit_ty (by decide +kernel)) ?_
      walk_at "ct"
      refine ⟨_, _, rfl, .inr hs, ?_⟩
      cases ht with
      | nil =>
        walk_at "ct"
        refine w_iteN (fun _ => ?_) (fun e => absurd e (by decide))
        walk_at "ct"
        exact q H (Same.refl H)
      | cons h1 t1 =>
        cases t1 with
        | nil =>
          walk_at "ct"
          refine w_iteN (fun _ => ?_) (fun e => absurd e (by simp))
          walk_at "ct"
          exact q H (Same.refl H)
        | cons h2 t2 =>
          cases t2 with
          | cons h3 t3 =>
            walk_at "ct"
            refine w_iteN (fun _ => ?_) (fun e => absurd e (by simp only [List.length_cons]; omega))
            walk_at "ct"
            exact q H (Same.refl H)
          | nil =>
            rename_i v1 d1 v2 d2
            walk_at "ct"
            refine w_iteN (fun e => absurd rfl e) (fun _ => ?_)
            walk_at "ct"
            refine ⟨_, _, rfl, h1, fun H1 s1 => ?_⟩
            have q : ∀ H', Same H H' → Q (.bl (isWay d1 && isShn d2)) H' := q
            cases e : isWay d1 with
            | false =>
              rw [e] at q
              walk_at "ct"
              exact q H1 s1
            | true =>
              rw [e] at q
              have hs1 := Same.tup s1 hs
              walk_at "ct"
              refine ⟨_, _, rfl, dp_same s1 h2, ?_⟩
              cases h2 with
              | int i =>
                rw [show isW (.int i) = true from rfl]
                walk_at "ct"
                refine ⟨len2 rfl, fun p np => ?_⟩
                refine w_inT (ns := [1, -1, 0]) (.of upd_same) ?_
                exact q _ (s1.trans (same_upd np))
              | non =>
                rw [show isW .none = false from rfl]
                walk_at "ct"
                exact q _ s1
              | bl b =>
                rw [show isW (.bool b) = false from rfl]
                walk_at "ct"
                exact q _ s1
              | str x =>
                rw [show isW (.str x) = false from rfl]
                walk_at "ct"
                exact q _ s1
              | lst a1 a2 =>
                rw [show isW (.list _) = false from rfl]
                walk_at "ct"
                exact q _ s1
              | tup a1 a2 =>
                rw [show isW (.tuple _) = false from rfl]
                walk_at "ct"
                exact q _ s1
abbrev S_check_shows : Stmt := topS 29
theorem sc_check_shows : FnScope ["shows", "thing"] ["shows"] (defScope S_check_shows) := ⟨rfl, rfl, rfl, by decide +kernel, rfl, by decide +kernel, by decide +kernel⟩
def sp_check_shows (K : PySem.W.Frag) (T : List Addr) (c_NoRow : Addr) : Sp := fun vs H Q E => ∃ (v : V) (d : PyData), vs = [v] ∧ Dp K H v d ∧ Tb T H ∧ (isShows d = true → ∀ H', Same H H' → Q .non H') ∧ (isShows d = false → ∀ H', Same H H' → E (.ref c_NoRow) none H')
theorem ok_check_shows {f : Addr} {fd : FuncData} {f_is_show : Addr} {fd_is_show : FuncData} {c_NoRow : Addr} {T : List Addr} {cT PT : Addr} (F : Fun K "check_shows" "check_shows" S_check_shows f fd)
    (F_is_show : Fun K "is_show" "is_show" S_is_show f_is_show fd_is_show) (b_is_show : Binds K fd_is_show ["thing"] []) (g_is_show : mg "is_show" = some (.ref f_is_show)) (G_is_show : FnOk P w K mg base CX0 3 f_is_show fd_is_show ["thing"] (sp_is_show K)) (m_isinstance : mg "isinstance" = none) (m_list : mg "list" = none) (m_all : mg "all" = none)
    (g_NoRow : mg "NoRow" = some (.ref c_NoRow)) (E_NoRow : ErrC K mg "NoRow" c_NoRow)
    (TB_check_shows : GxR.TabB base mg cT PT) (HC_check_shows : fd.code = .ref cT) (tm : PT ∈ T) :
    FnOk P w K mg base (L2.CX P w) 5 f fd ["shows"] (sp_check_shows K T c_NoRow) := by
  refine okXC F sc_check_shows (fun vs H Q E h => ?_) (fun A outer s H vs Q E hr h => ?_)
  ·
    obtain ⟨v, d, rfl, _⟩ := h
    rfl
  ·
    obtain ⟨v, d, rfl, hd, hTb, qT, qF⟩ := h
    refine ⟨_, (pss_one (ps_if (PW.pt (pw_or (pt_not (pt_val (pe_callB (r := rIsi K) call_isi (by rfl) m_isinstance (by decide +kernel) (pa_cons (pv 0) (pa_cons (pe_bltn (v := .ty "list") (u := .type "list") (by rfl) m_list (by decide +kernel) rfl) pa_nil))))) (pw_or1 (pt_not (pt_val (pe_allX (own := [("thing", 1)]) (g := (gName 1)) hr (by rfl) m_all rfl sc_check_shows.nd TB_check_shows HC_check_shows (pi_list (pv 0)) (blkOk_by (own := [("thing", 1)]) (N := ["shows", "thing"]) (sc := defScope S_check_shows) (by decide +kernel)) (by decide +kernel) rfl (by decide +kernel) (fun _ _ _ _ _ _ _ _ => (pg_name (i := 1) sc_check_shows.nd rfl (Or.inl rfl))) (fun _ _ _ _ _ _ _ _ hr => (pe_call G_is_show (hr.mono (by decide)) (by rfl) g_is_show F_is_show.kp b_is_show .nil pass0 (pa_cons (pv 1) pa_nil))))))))) (pss_one (ps_raiseC (C := c_NoRow) rfl (takes_of rfl rfl rfl rfl) E_NoRow (by rfl))) pss_nil)), ?_⟩
    refine w_st (σ' := [some v, none]) rfl ?_
    walk_at "ct"
    cases hd with
    | non =>
      refine w_isi (b := false) (.base .non) (kit_ty (by decide +kernel)) ?_
      walk_at "ct"
      exact qF rfl H (Same.refl H)
    | bl b =>
      refine w_isi (b := false) (.base (.bl b)) (kit_ty (by decide +kernel)) ?_
      walk_at "ct"
      exact qF rfl H (Same.refl H)
    | int i =>
      refine w_isi (b := false) (.base (.int i)) (kit_ty (by decide +kernel)) ?_
      walk_at "ct"
      exact qF rfl H (Same.refl H)
    | str x =>
      refine w_isi (b := false) (.base (.str x)) (kit_ty (by decide +kernel)) ?_
      walk_at "ct"
      exact qF rfl H (Same.refl H)
    | tup hs ht =>
      refine w_isi (b := false) (tyx_T hs) (kit_ty (by decide +kernel)) ?_
      walk_at "ct"
      exact qF rfl H (Same.refl H)
    | lst hs ht =>
      rename_i b ws ds
      refine w_isi (b := true) (tyx_L hs) (kit_ty (by decide +kernel)) ?_
      walk_at "ct"
      refine w_IL hs ?_
      have wl : ws.length = ds.length := dpAll_len ht
      refine gb_list ws (fun i H2 => Same H H2 ∧ (ds.take i).all isShow = true) (hTb _ tm) ⟨Same.refl _, rfl⟩ (fun i H2 _ s2 => s2.1.seq hs) ?_ ?_
      · rintro i x H2 hx ⟨s2, h2⟩
        have hi : i < ws.length := (List.getElem?_eq_some_iff.mp hx).1
        obtain ⟨z, hz⟩ : ∃ z, ds[i]? = some z := ⟨_, List.getElem?_eq_getElem (by omega)⟩
        obtain ⟨v', hv1, hd1⟩ := dpAll_get ht (i := i) hz
        cases Option.some.inj (hx.symm.trans hv1)
        walk_at "ct"
        refine ⟨rfl, ?_⟩
        walk_at "ct"
        refine ⟨x, z, rfl, dp_same s2 hd1, fun H3 s3 => ⟨_, rfl, ?_⟩⟩
        cases e : isShow z with
        | false =>
          rw [if_pos rfl]
          walk_at "ct"
          refine qF ?_ H3 (s2.trans s3)
          show ds.all isShow = false
          rw [List.all_eq_false]
          exact ⟨z, List.mem_of_getElem? hz, by rw [e]; exact Bool.false_ne_true⟩
        | true =>
          rw [if_neg (by decide)]
          refine ⟨s2.trans s3, ?_⟩
          rw [List.take_add_one, hz, Option.toList_some, List.all_append, h2, List.all_cons, e]
          rfl
      · rintro H2 ⟨s2, h2⟩
        rw [List.take_of_length_le (by omega)] at h2
        walk_at "ct"
        exact qT h2 H2 s2
abbrev S_passes_of : Stmt := topS 30
theorem sc_passes_of : FnScope ["comes", "shows", "passes", "total", "came", "way", "shown", "tooth"] ["comes", "shows"] (defScope S_passes_of) := ⟨rfl, rfl, rfl, by decide +kernel, rfl, by decide +kernel, by decide +kernel⟩
def sp_passes_of (K : PySem.W.Frag) : Sp := fun vs H Q _ => ∃ (a b : Addr) (cs : List Int) (ws : List V) (ss : List (Int × Int)), vs = [.ref a, .ref b] ∧ SqL K H a (cs.map V.int) ∧ SqL K H b ws ∧ DpAll K H ws (ss.map sh2D) ∧ cs.length = ss.length ∧ ss.length ≤ 1000 ∧
  ∀ l us H', Same H H' → H l = none → H' l = some (.lst us) → DpAll K H' us ((passN cs ss ss.length).map passD) → Q (.ref l) H'
theorem ok_passes_of {f : Addr} {fd : FuncData} (F : Fun K "passes_of" "passes_of" S_passes_of f fd) (m_zip : mg "zip" = none) :
    FnOk P w K mg base CX0 1 f fd ["comes", "shows"] (sp_passes_of K) := by
  refine F.ok sc_passes_of (fun vs H Q E h => ?_) (fun cdv A outer s H vs Q E hr h => ?_)
  ·
    obtain ⟨a, b, cs, ws, ss, rfl, _⟩ := h
    rfl
  ·
    obtain ⟨a, b, cs, ws, ss, rfl, ha, hb, hd, cl, sl, q⟩ := h
    refine ⟨_, (pss_cons (ps_set (i := 2) sc_passes_of.nd rfl (.inl rfl) (pe_lst pa_nil))
      (pss_cons (ps_set (i := 3) sc_passes_of.nd rfl (.inl rfl) pe_int)
      (pss_cons (ps_for PassesOwn.never rfl (pi_zip (by rfl) m_zip (pa_cons (pv 0) (pa_cons (pv 1) pa_nil))) (pg_tup rfl (pgs_cons (pg_name (i := 4) sc_passes_of.nd rfl (.inl rfl)) (pgs_cons (pg_tup rfl (pgs_cons (pg_name (i := 5) sc_passes_of.nd rfl (.inl rfl)) (pgs_cons (pg_name (i := 6) sc_passes_of.nd rfl (.inl rfl)) pgs_nil))) pgs_nil)))
      (pss_cons (ps_set (i := 7) sc_passes_of.nd rfl (.inl rfl) (pe_ifExp (pt_cmpR op_eq (pv 4) pe_int (nomark _)) (pe_op op_add (pv 3) pe_int) (pv 3)))
      (pss_cons (ps_expr (pe_bm PySem.F.plainAttrs_list PySem.F.slot_list_append PySem.F.type_list_append mt_append (pv 2) (pa_cons (pe_tup (pa_cons (pv 4) (pa_cons (pv 7) (pa_cons (pv 6) pa_nil)))) pa_nil)))
      (pss_one (ps_aug (i := 3) sc_passes_of.nd rfl (.inl rfl) (pv 4) ip_add)))))
      (pss_one (ps_ret (pv 2)))))), ?_⟩
    refine w_st (σ' := [some (.ref a), some (.ref b), none, none, none, none, none, none]) rfl ?_
    have wl : ws.length = ss.length := by rw [dpAll_len hd, List.length_map]
    walk_at "ct"
    refine ⟨len2 rfl, fun l nl => ?_⟩
    have s1 : Same H (upd H l (.lst [])) := same_upd nl
    have h1 : (upd H l (.lst [])) l = some (.lst []) := upd_same
    generalize upd H l _ = H1 at *
    walk_at "ct"
    refine w_izip ?_
    walk_at "ct"
    refine w_IZL (s1.seq ha) (s1.seq hb) ?_
    refine fb_zipL (cs.map V.int) ws (by rw [List.length_map]; omega) (fun n σ G => ∃ (y4 y5 y6 y7 : Option V) (us : List V), σ = [some (.ref a), some (.ref b), some (.ref l), some (.int (cs.take n).sum), y4, y5, y6, y7] ∧ Same H G ∧ G l = some (.lst us) ∧ us.length ≤ n ∧ DpAll K G us ((passN cs ss n).map passD)) ⟨none, none, none, none, [], rfl, s1, h1, Nat.le_refl _, .nil⟩ ?_ ?_ ?_
    · rintro n σ G _ ⟨y4, y5, y6, y7, us, rfl, sG, _⟩
      exact ⟨sG.seq ha, sG.seq hb⟩
    · rintro n x y Tp σ G hx hy ⟨y4, y5, y6, y7, us, rfl, sG, hl, ul, hu⟩ nT
      have hn : n < ws.length := (List.getElem?_eq_some_iff.mp hy).1
      obtain ⟨c, hc, rfl⟩ : ∃ c : Int, cs[n]? = some c ∧ x = .int c := by
        rw [List.getElem?_map] at hx
        cases e : cs[n]? with
        | none => rw [e] at hx; cases hx
        | some c => rw [e] at hx; exact ⟨c, rfl, (Option.some.inj hx).symm⟩
      obtain ⟨z, hz⟩ : ∃ z, ss[n]? = some z := ⟨_, List.getElem?_eq_getElem (by omega)⟩
      obtain ⟨v', hv1, hd1⟩ := dpAll_get hd (i := n) (d := sh2D z) (by rw [List.getElem?_map, hz]; rfl)
      cases Option.some.inj (hy.symm.trans hv1)
      have sT : Same G (upd G Tp (.tup [.int c, y])) := same_upd nT
      have hT : (upd G Tp (.tup [.int c, y])) Tp = some (.tup [.int c, y]) := upd_same
      generalize upd G Tp _ = G1 at *
      have s3 := sG.trans sT
      have hl3 := sT _ _ hl
      obtain ⟨g, rfl, hg⟩ := sh2_inv (dp_same s3 hd1)
      refine w_gtup (.of hT) rfl ?_
      walk_at "ct"
      refine w_gtup hg rfl ?_
      walk_at "ct"
      have tk : (cs.take (n + 1)).sum = (cs.take n).sum + c := by
        rw [List.take_add_one, hc, Option.toList_some, List.sum_append]
        simp
      have eP : passN cs ss (n + 1) = passN cs ss n ++ [(c, (if c = 1 then (cs.take n).sum + 1 else (cs.take n).sum), z.2)] := by rw [passN, hc, hz]
      have fin : ∀ (t : Int) (y7' : Option V), t = (if c = 1 then (cs.take n).sum + 1 else (cs.take n).sum) → ∀ g7, G1 g7 = none → (∃ (y4 y5 y6 y7 : Option V) (us' : List V), [some (.ref a), some (.ref b), some (.ref l), some (.int ((cs.take n).sum + c)), some (.int c), some (.int z.1), some (.int z.2), some (.int t)] = [some (.ref a), some (.ref b), some (.ref l), some (.int (cs.take (n + 1)).sum), y4, y5, y6, y7] ∧ Same H (upd (upd G1 g7 (.tup [.int c, .int t, .int z.2])) l (.lst (us ++ [.ref g7]))) ∧ (upd (upd G1 g7 (.tup [.int c, .int t, .int z.2])) l (.lst (us ++ [.ref g7]))) l = some (.lst us') ∧ us'.length ≤ n + 1 ∧ DpAll K (upd (upd G1 g7 (.tup [.int c, .int t, .int z.2])) l (.lst (us ++ [.ref g7]))) us' ((passN cs ss (n + 1)).map passD)) := fun t _ et g7 ng7 => by
        have u : Same G1 (upd G1 g7 (.tup [.int c, .int t, .int z.2])) := same_upd ng7
        refine ⟨_, _, _, _, us ++ [.ref g7], by rw [tk], same_new (s3.trans u) nl, upd_same, by rw [List.length_append]; show us.length + 1 ≤ n + 1; omega, ?_⟩
        rw [eP, List.map_append]
        exact dpAll_app (passes_upd (u _ _ hl3) (dpAll_same (sT.trans u) hu)) (.cons (pass_upd (u _ _ hl3) (by rw [← et]; exact .tup (.of upd_same) (.cons (.int _) (.cons (.int _) (.cons (.int _) .nil))))) .nil)
      refine w_ite (fun e => ?_) (fun e => ?_)
      · walk_at "ct"
        refine ⟨ty_list hl3, ?_⟩
        walk_at "ct"
        refine ⟨len2 rfl, fun g7 ng7 => ?_⟩
        walk_at "ct"
        refine w_append ((same_upd ng7) _ _ hl3) (small1000 (by omega)) ?_
        refine w_aug rfl ?_
        walk_at "ct"
        exact fin _ none (by rw [if_pos e]) g7 ng7
      · walk_at "ct"
        refine ⟨ty_list hl3, ?_⟩
        walk_at "ct"
        refine ⟨len2 rfl, fun g7 ng7 => ?_⟩
        walk_at "ct"
        refine w_append ((same_upd ng7) _ _ hl3) (small1000 (by omega)) ?_
        refine w_aug rfl ?_
        walk_at "ct"
        exact fin _ none (by rw [if_neg e]) g7 ng7
    · rintro σ G ⟨y4, y5, y6, y7, us, rfl, sG, hl, ul, hu⟩
      rw [List.length_map, cl] at hu
      walk_at "ct"
      exact q l us G sG nl hl hu
abbrev S_passes_alone : Stmt := topS 31
theorem sc_passes_alone : FnScope ["shows", "way", "shown"] ["shows"] (defScope S_passes_alone) := ⟨rfl, rfl, rfl, by decide +kernel, rfl, by decide +kernel, by decide +kernel⟩
def sp_passes_alone (K : PySem.W.Frag) (T : List Addr) (c_NoRow : Addr) : Sp := fun vs H Q E => ∃ (v : V) (d : PyData), vs = [v] ∧ Dp K H v d ∧ Tb T H ∧ ((isShows d = false ∧ ∀ H', Same H H' → E (.ref c_NoRow) none H') ∨ ∃ ss : List (Int × Int), d = .list (ss.map sh2D) ∧ (∀ s ∈ ss, Sh2Ok s) ∧ ss.length ≤ 1000 ∧
  ∀ l us H', Same H H' → H l = none → H' l = some (.lst us) → DpAll K H' us ((passN (ss.map (·.1)) ss ss.length).map passD) → Q (.ref l) H')
theorem ok_passes_alone {f : Addr} {fd : FuncData} {f_passes_of : Addr} {fd_passes_of : FuncData} {f_check_shows : Addr} {fd_check_shows : FuncData} {c_NoRow : Addr} {T : List Addr} (F : Fun K "passes_alone" "passes_alone" S_passes_alone f fd)
    (F_passes_of : Fun K "passes_of" "passes_of" S_passes_of f_passes_of fd_passes_of) (b_passes_of : Binds K fd_passes_of ["comes", "shows"] []) (g_passes_of : mg "passes_of" = some (.ref f_passes_of)) (G_passes_of : FnOk P w K mg base CX0 1 f_passes_of fd_passes_of ["comes", "shows"] (sp_passes_of K))
    (F_check_shows : Fun K "check_shows" "check_shows" S_check_shows f_check_shows fd_check_shows) (b_check_shows : Binds K fd_check_shows ["shows"] []) (g_check_shows : mg "check_shows" = some (.ref f_check_shows)) (G_check_shows : FnOk P w K mg base (L2.CX P w) 5 f_check_shows fd_check_shows ["shows"] (sp_check_shows K T c_NoRow)) :
    FnOk P w K mg base (L2.CX P w) 6 f fd ["shows"] (sp_passes_alone K T c_NoRow) := by
  refine F.okX sc_passes_alone (fun vs H Q E h => ?_) (fun cdv A outer s H vs Q E hr h => ?_)
  ·
    obtain ⟨v, d, rfl, _⟩ := h
    rfl
  ·
    obtain ⟨v, d, rfl, hd, hTb, h⟩ := h
    refine ⟨_, (pss_cons (ps_expr (pe_call (E := E) G_check_shows (hr.mono (by decide)) (by rfl) g_check_shows F_check_shows.kp b_check_shows .nil (passes_call (takes_of rfl rfl rfl rfl) fun _ _ _ _ h => h) (pa_cons (pv 0) pa_nil)))
      (pss_one (ps_ret (pe_call G_passes_of (hr.mono (by decide)) (by rfl) g_passes_of F_passes_of.kp b_passes_of .nil pass0 (pa_cons (pe_lc (own := [("way", 1), ("shown", 2)]) (g := gTup K 2 (gCons (gName 1) (gCons (gName 2) gNil)))  rfl sc_passes_alone.nd  (pi_list (pv 0)) (blkOk_by (own := [("way", 1), ("shown", 2)]) (N := ["shows", "way", "shown"]) (sc := defScope S_passes_alone) (by decide +kernel)) (fun _ _ _ _ _ => pg_tup rfl (pgs_cons (pg_name (i := 1) sc_passes_alone.nd rfl (Or.inl rfl)) (pgs_cons (pg_name (i := 2) sc_passes_alone.nd rfl (Or.inl rfl)) pgs_nil))) (fun _ _ _ _ _ => pts_nil) (fun _ _ _ _ _ => (pv 1))) (pa_cons (pv 0) pa_nil)))))), ?_⟩
    refine w_st (σ' := [some v, none, none]) rfl ?_
    walk_at "ct"
    refine ⟨v, d, rfl, hd, hTb, ?_⟩
    rcases h with ⟨bad, qF⟩ | ⟨ss, rfl, oks, sl, q⟩
    · refine ⟨fun z => ?_, fun _ H1 s1 => qF H1 s1⟩
      rw [bad] at z
      cases z
    refine ⟨fun _ H1 s1 => ?_, fun z => ?_⟩
    rotate_left
    · rw [isShows_ok oks] at z
      cases z
    obtain ⟨b, ws, rfl, hb, hd⟩ := lst_inv hd
    have wl : ws.length = ss.length := by rw [dpAll_len hd, List.length_map]
    walk_at "ct"
    refine w_IL (s1.seq hb) ?_
    refine lb_list ws (fun D2 k G => Same H1 G ∧ G D2 = some (.lst (((ss.map (·.1)).take k).map V.int))) (fun D2 hD2 => ⟨same_upd hD2, upd_same⟩) (fun D2 hD2 k G _ h => (s1.trans h.1).seq hb) ?_ ?_
    · rintro D2 hD2 k x G hx ⟨sG, hG⟩
      have hk : k < ws.length := (List.getElem?_eq_some_iff.mp hx).1
      obtain ⟨z, hz⟩ : ∃ z, ss[k]? = some z := ⟨_, List.getElem?_eq_getElem (by omega)⟩
      obtain ⟨v', hv1, hd1⟩ := dpAll_get hd (i := k) (d := sh2D z) (by rw [List.getElem?_map, hz]; rfl)
      cases Option.some.inj (hx.symm.trans hv1)
      obtain ⟨g, rfl, hg⟩ := sh2_inv (dp_same (s1.trans sG) hd1)
      refine w_gtup hg rfl ?_
      walk_at "ct"
      refine ⟨rfl, ?_⟩
      walk_at "ct"
      refine ⟨_, hG, by rw [List.length_map, List.length_take, List.length_map]; exact small1000 (by omega), same_new sG hD2, ?_⟩
      rw [upd_same, List.take_add_one, List.getElem?_map, hz, List.map_append]
      rfl
    · rintro D2 hD2 G ⟨sG, hG⟩
      rw [List.take_of_length_le (by rw [List.length_map]; omega)] at hG
      have s2 := s1.trans sG
      walk_at "ct"
      refine ⟨D2, b, ss.map (·.1), ws, ss, rfl, .of hG, s2.seq hb, dpAll_same s2 hd, List.length_map _, sl, fun l us H' s3 nl hl hu => ?_⟩
      exact q l us H' (s2.trans s3) (s2.free nl) hl hu
abbrev S_passes_behind : Stmt := topS 32
theorem sc_passes_behind : FnScope ["train", "stand", "shows", "after", "comes", "way", "shown"] ["train", "stand", "shows"] (defScope S_passes_behind) := ⟨rfl, rfl, rfl, by decide +kernel, rfl, by decide +kernel, by decide +kernel⟩
/-- what is due of a train, a stand, shows -/
def AskS (d e f : PyData) (T S R : Prop) (G : List Part → List Int → List (Int × Int) → Prop) : Prop :=
  (isT d = false ∧ T) ∨ ∃ ps : List Part, d = .list (ps.map Part.data) ∧ isT d = true ∧ (∀ p ∈ ps, p.ok) ∧ 1 ≤ ps.length ∧ ps.length ≤ 600 ∧
    ((isSt ps e = false ∧ S) ∨ ∃ xs : List Int, e = .tuple (xs.map PyData.int) ∧ isSt ps e = true ∧ StandOk ps xs ∧
      ((isShows f = false ∧ R) ∨ ∃ ss : List (Int × Int), f = .list (ss.map sh2D) ∧ (∀ s ∈ ss, Sh2Ok s) ∧ ss.length ≤ 1000 ∧ G ps xs ss))
def sp_passes_behind (K : PySem.W.Frag) (T : List Addr) (c_NoTrain : Addr) (c_NoStand : Addr) (c_NoRow : Addr) : Sp := fun vs H Q E => ∃ (v t u : V) (d e f : PyData), vs = [v, t, u] ∧ Dp K H v d ∧ Dp K H t e ∧ Dp K H u f ∧ Fine d 30 600 ∧ Tb T H ∧
  AskS d e f (∀ H', Same H H' → E (.ref c_NoTrain) none H') (∀ H', Same H H' → E (.ref c_NoStand) none H') (∀ H', Same H H' → E (.ref c_NoRow) none H')
    (fun ps xs ss => ∀ l us H', Same H H' → H l = none → H' l = some (.lst us) → DpAll K H' us ((passN (fedS ps xs (ss.map (·.1))).2 ss ss.length).map passD) → Q (.ref l) H')
theorem ok_passes_behind {f : Addr} {fd : FuncData} {f_passes_of : Addr} {fd_passes_of : FuncData} {f_fed : Addr} {fd_fed : FuncData} {f_check_shows : Addr} {fd_check_shows : FuncData} {f_check_stand : Addr} {fd_check_stand : FuncData} {c_NoTrain : Addr} {c_NoStand : Addr} {c_NoRow : Addr} {T : List Addr} (F : Fun K "passes_behind" "passes_behind" S_passes_behind f fd)
    (F_passes_of : Fun K "passes_of" "passes_of" S_passes_of f_passes_of fd_passes_of) (b_passes_of : Binds K fd_passes_of ["comes", "shows"] []) (g_passes_of : mg "passes_of" = some (.ref f_passes_of)) (G_passes_of : FnOk P w K mg base CX0 1 f_passes_of fd_passes_of ["comes", "shows"] (sp_passes_of K))
    (F_fed : Fun K "fed" "fed" S_fed f_fed fd_fed) (b_fed : Binds K fd_fed ["train", "stand", "signs"] []) (g_fed : mg "fed" = some (.ref f_fed)) (G_fed : FnOk P w K mg base (L2.CX P w) 7 f_fed fd_fed ["train", "stand", "signs"] (sp_fed K T))
    (F_check_shows : Fun K "check_shows" "check_shows" S_check_shows f_check_shows fd_check_shows) (b_check_shows : Binds K fd_check_shows ["shows"] []) (g_check_shows : mg "check_shows" = some (.ref f_check_shows)) (G_check_shows : FnOk P w K mg base (L2.CX P w) 5 f_check_shows fd_check_shows ["shows"] (sp_check_shows K T c_NoRow))
    (F_check_stand : Fun K "check_stand" "check_stand" S_check_stand f_check_stand fd_check_stand) (b_check_stand : Binds K fd_check_stand ["train", "stand"] []) (g_check_stand : mg "check_stand" = some (.ref f_check_stand)) (G_check_stand : FnOk P w K mg base (L2.CX P w) 5 f_check_stand fd_check_stand ["train", "stand"] (sp_check_stand K c_NoTrain c_NoStand)) :
    FnOk P w K mg base (L2.CX P w) 8 f fd ["train", "stand", "shows"] (sp_passes_behind K T c_NoTrain c_NoStand c_NoRow) := by
  refine F.okX sc_passes_behind (fun vs H Q E h => ?_) (fun cdv A outer s H vs Q E hr h => ?_)
  ·
    obtain ⟨v, t, u, d, e, f, rfl, _⟩ := h
    rfl
  ·
    obtain ⟨v, t0, u, d, e, f, rfl, hd0, he0, hf0, fine, hTb, ask⟩ := h
    refine ⟨_, (pss_cons (ps_expr (pe_call (E := E) G_check_stand (hr.mono (by decide)) (by rfl) g_check_stand F_check_stand.kp b_check_stand .nil (passes_call (takes_of rfl rfl rfl rfl) fun _ _ _ _ h => h) (pa_cons (pv 0) (pa_cons (pv 1) pa_nil))))
      (pss_cons (ps_expr (pe_call (E := E) G_check_shows (hr.mono (by decide)) (by rfl) g_check_shows F_check_shows.kp b_check_shows .nil (passes_call (takes_of rfl rfl rfl rfl) fun _ _ _ _ h => h) (pa_cons (pv 2) pa_nil)))
      (pss_cons (ps_asg (pe_call (E := E) G_fed (hr.mono (by decide)) (by rfl) g_fed F_fed.kp b_fed .nil (passes_call (takes_of rfl rfl rfl rfl) fun _ _ _ _ h => h) (pa_cons (pv 0) (pa_cons (pv 1) (pa_cons (pe_lc (own := [("way", 5), ("shown", 6)]) (g := gTup K 2 (gCons (gName 5) (gCons (gName 6) gNil)))  rfl sc_passes_behind.nd  (pi_list (pv 2)) (blkOk_by (own := [("way", 5), ("shown", 6)]) (N := ["train", "stand", "shows", "after", "comes", "way", "shown"]) (sc := defScope S_passes_behind) (by decide +kernel)) (fun _ _ _ _ _ => pg_tup rfl (pgs_cons (pg_name (i := 5) sc_passes_behind.nd rfl (Or.inl rfl)) (pgs_cons (pg_name (i := 6) sc_passes_behind.nd rfl (Or.inl rfl)) pgs_nil))) (fun _ _ _ _ _ => pts_nil) (fun _ _ _ _ _ => (pv 5))) pa_nil)))) (pg_tup rfl (pgs_cons (pg_name (i := 3) sc_passes_behind.nd rfl (.inl rfl)) (pgs_cons (pg_name (i := 4) sc_passes_behind.nd rfl (.inl rfl)) pgs_nil))))
      (pss_one (ps_ret (pe_call G_passes_of (hr.mono (by decide)) (by rfl) g_passes_of F_passes_of.kp b_passes_of .nil pass0 (pa_cons (pv 4) (pa_cons (pv 2) pa_nil)))))))), ?_⟩
    refine w_st (σ' := [some v, some t0, some u, none, none, none, none]) rfl ?_
    walk_at "ct"
    rcases ask with ⟨c, q⟩ | ⟨ps, rfl, c, hok, l1, l2, ⟨c2, q⟩ | ⟨xs, rfl, c2, hso, ask⟩⟩
    · refine ⟨v, t0, d, e, rfl, hd0, he0, fine, fun _ => q, fun ps hps ok l => ?_⟩
      rw [hps, isT_of ok l] at c
      cases c
    · refine ⟨v, t0, _, e, rfl, hd0, he0, fine, fun z => absurd c (by rw [z]; exact Bool.false_ne_true), fun ps' hps _ _ => ?_⟩
      cases trains_inj hps
      exact ⟨fun z => absurd c2 (by rw [z]; exact fun y => nomatch y), fun _ => q⟩
    refine ⟨v, t0, _, _, rfl, hd0, he0, fine, fun z => absurd c (by rw [z]; exact Bool.false_ne_true), fun ps' hps _ _ => ?_⟩
    cases trains_inj hps
    refine ⟨fun _ H0 s0 => ?_, fun z => absurd c2 (by rw [z]; exact Bool.false_ne_true)⟩
    walk_at "ct"
    refine ⟨u, f, rfl, dp_same s0 hf0, hTb.same s0, ?_⟩
    rcases ask with ⟨c3, q⟩ | ⟨ss, rfl, oks, sl, q⟩
    · refine ⟨fun z => ?_, fun _ H1 s1 => q H1 (s0.trans s1)⟩
      rw [c3] at z
      cases z
    refine ⟨fun _ H1 s1' => ?_, fun z => ?_⟩
    rotate_left
    · rw [isShows_ok oks] at z
      cases z
    have s1 := s0.trans s1'
    obtain ⟨b, ws, rfl, hb, hd⟩ := lst_inv hf0
    obtain ⟨a, tv, rfl, hTv, hTd⟩ := lst_inv hd0
    obtain ⟨t, ts, rfl, hS0, hSd⟩ := tup_inv he0
    cases dpAll_ints_inv xs hSd
    have hS : SqT K H t (xs.map V.int) := hS0
    have hT : TrainAt K H a ps := ⟨tv, hTv, hTd⟩
    have wl : ws.length = ss.length := by rw [dpAll_len hd, List.length_map]
    walk_at "ct"
    refine w_IL (s1.seq hb) ?_
    refine lb_list ws (fun D2 k G => Same H1 G ∧ G D2 = some (.lst (((ss.map (·.1)).take k).map V.int))) (fun D2 hD2 => ⟨same_upd hD2, upd_same⟩) (fun D2 hD2 k G _ h => (s1.trans h.1).seq hb) ?_ ?_
    · rintro D2 hD2 k x G hx ⟨sG, hG⟩
      have hk : k < ws.length := (List.getElem?_eq_some_iff.mp hx).1
      obtain ⟨z, hz⟩ : ∃ z, ss[k]? = some z := ⟨_, List.getElem?_eq_getElem (by omega)⟩
      obtain ⟨v', hv1, hd1⟩ := dpAll_get hd (i := k) (d := sh2D z) (by rw [List.getElem?_map, hz]; rfl)
      cases Option.some.inj (hx.symm.trans hv1)
      obtain ⟨g, rfl, hg⟩ := sh2_inv (dp_same (s1.trans sG) hd1)
      refine w_gtup hg rfl ?_
      walk_at "ct"
      refine ⟨rfl, ?_⟩
      walk_at "ct"
      refine ⟨_, hG, by rw [List.length_map, List.length_take, List.length_map]; exact small1000 (by omega), same_new sG hD2, ?_⟩
      rw [upd_same, List.take_add_one, List.getElem?_map, hz, List.map_append]
      rfl
    · rintro D2 hD2 G ⟨sG, hG⟩
      rw [List.take_of_length_le (by rw [List.length_map]; omega)] at hG
      have s2 := s1.trans sG
      walk_at "ct"
      refine ⟨a, t, D2, ps, xs, ss.map (·.1), rfl, hT.same s2, hok, l1, by omega, Same.tup s2 hS, hso, .of hG, fun s hs => ?_, by rw [List.length_map]; exact sl, hTb.same s2, fine, c2, fun l u' g H3 s3 nl hl hu hg => ?_⟩
      · obtain ⟨z, hz, rfl⟩ := List.mem_map.mp hs
        exact .inr (oks z hz).1
      refine w_gtup (.of hg) rfl ?_
      walk_at "ct"
      have s4 := s2.trans s3
      refine ⟨l, b, (fedS ps xs (ss.map (·.1))).2, ws, ss, rfl, .of hl, s4.seq hb, dpAll_same s4 hd, by rw [fedS_len, List.length_map], sl, fun l2 us H' s5 nl2 hl2 hu2 => ?_⟩
      exact q l2 us H' (s4.trans s5) (s4.free nl2) hl2 hu2
abbrev S_is_wrong : Stmt := topS 33
theorem sc_is_wrong : FnScope ["push", "came", "tooth", "shown"] ["push"] (defScope S_is_wrong) := ⟨rfl, rfl, rfl, by decide +kernel, rfl, by decide +kernel, by decide +kernel⟩
def sp_is_wrong (K : PySem.W.Frag) : Sp := fun vs H Q _ => ∃ (v : V) (p : Pass), vs = [v] ∧ Dp K H v (passD p) ∧ ∀ H', Same H H' → Q (.bl (!(decide (p.2.2 = p.1) || decide (p.2.2 = 0)))) H'
theorem ok_is_wrong {f : Addr} {fd : FuncData} (F : Fun K "is_wrong" "is_wrong" S_is_wrong f fd) :
    FnOk P w K mg base CX0 1 f fd ["push"] (sp_is_wrong K) := by
  refine F.ok sc_is_wrong (fun vs H Q E h => ?_) (fun cdv A outer s H vs Q E hr h => ?_)
  ·
    obtain ⟨v, p, rfl, _⟩ := h
    rfl
  ·
    obtain ⟨v, p, rfl, hd, q⟩ := h
    obtain ⟨a, rfl, ha⟩ := pass_inv hd
    refine ⟨_, (pss_cons (ps_asg (pv 0) (pg_tup rfl (pgs_cons (pg_name (i := 1) sc_is_wrong.nd rfl (.inl rfl)) (pgs_cons (pg_name (i := 2) sc_is_wrong.nd rfl (.inl rfl)) (pgs_cons (pg_name (i := 3) sc_is_wrong.nd rfl (.inl rfl)) pgs_nil)))))
      (pss_one (ps_ret (pe_cmpR (r := rIn K true) op_notIn_seq (pv 3) (pe_tup (pa_cons (pv 1) (pa_cons pe_int pa_nil))) (by rfl))))), ?_⟩
    refine w_st (σ' := [some (.ref a), none, none, none]) rfl ?_
    refine w_seq ?_
    walk_at "ct"
    refine w_gtup ha rfl ?_
    walk_at "ct"
    refine ⟨len2 rfl, fun g ng => ?_⟩
    refine w_ninT (ns := [p.1, 0]) (.of upd_same) ?_
    rw [show decide (p.2.2 ∈ [p.1, (0 : Int)]) = (decide (p.2.2 = p.1) || decide (p.2.2 = 0)) by simp]
    exact q _ (same_upd ng)
abbrev S_are_unlike : Stmt := topS 34
theorem sc_are_unlike : FnScope ["one", "other"] ["one", "other"] (defScope S_are_unlike) := ⟨rfl, rfl, rfl, by decide +kernel, rfl, by decide +kernel, by decide +kernel⟩
def sp_are_unlike (K : PySem.W.Frag) : Sp := fun vs H Q _ => ∃ (v u : V) (p q : Pass), vs = [v, u] ∧ Dp K H v (passD p) ∧ Dp K H u (passD q) ∧ Q (.bl (unlk p q)) H
theorem ok_are_unlike {f : Addr} {fd : FuncData} (F : Fun K "are_unlike" "are_unlike" S_are_unlike f fd) :
    FnOk P w K mg base CX0 1 f fd ["one", "other"] (sp_are_unlike K) := by
  refine F.ok sc_are_unlike (fun vs H Q E h => ?_) (fun cdv A outer s H vs Q E hr h => ?_)
  ·
    obtain ⟨v, u, p, q, rfl, _⟩ := h
    rfl
  ·
    obtain ⟨v, u, p, r, rfl, hv, hu, q⟩ := h
    obtain ⟨a, rfl, ha⟩ := pass_inv hv
    obtain ⟨b, rfl, hb⟩ := pass_inv hu
    refine ⟨_, (pss_one (ps_ret (pe_and (pe_cmpR op_ne (pe_ix (r := rIxT K) ix_tup (pv 0) pe_int (fun _ _ => rfl)) pe_int (nomark _)) (pe_and (pe_cmpR op_ne (pe_ix (r := rIxT K) ix_tup (pv 1) pe_int (fun _ _ => rfl)) pe_int (nomark _)) (pe_one (pe_cmpR op_ne (pe_cmpR op_eq (pe_ix (r := rIxT K) ix_tup (pv 0) pe_int (fun _ _ => rfl)) pe_int (nomark _)) (pe_cmpR op_eq (pe_ix (r := rIxT K) ix_tup (pv 1) pe_int (fun _ _ => rfl)) pe_int (nomark _)) (nomark _))))))), ?_⟩
    refine w_st (σ' := [some (.ref a), some (.ref b)]) rfl ?_
    walk_at "ct"
    unfold unlk at q
    refine w_iteN (fun e => ?_) (fun e => ?_)
    · rw [decide_eq_false e] at q
      walk_at "ct"
      refine w_iteN (fun e2 => ?_) (fun e2 => ?_)
      · rw [decide_eq_false e2] at q
        walk_at "ct"
        refine ⟨rfl, ?_⟩
        by_cases e3 : p.2.2 = 0 <;> by_cases e4 : r.2.2 = 0
        · rw [decide_eq_true e3, decide_eq_true e4] at q ⊢
          exact q
        · rw [decide_eq_true e3, decide_eq_false e4] at q ⊢
          exact q
        · rw [decide_eq_false e3, decide_eq_true e4] at q ⊢
          exact q
        · rw [decide_eq_false e3, decide_eq_false e4] at q ⊢
          exact q
      · rw [decide_eq_true e2] at q
        exact q
    · rw [decide_eq_true e] at q
      exact q
abbrev S_first_clash : Stmt := topS 35
theorem sc_first_clash : FnScope ["passes", "teeth", "first", "k", "push", "j"] ["passes", "teeth"] (defScope S_first_clash) := ⟨rfl, rfl, rfl, by decide +kernel, rfl, by decide +kernel, by decide +kernel⟩
def sp_first_clash (K : PySem.W.Frag) : Sp := fun vs H Q _ => ∃ (a : Addr) (ws : List V) (ps : List Pass) (t : Int), vs = [.ref a, .int t] ∧ SqL K H a ws ∧ DpAll K H ws (ps.map passD) ∧ 1 ≤ t ∧ ps.length ≤ 1000 ∧ (NoHit ps t ps.length → ∀ H', Same H H' → Q .non H') ∧
  ∀ j k : Nat, IsCl ps t j k → ∀ g H', Same H H' → H g = none → H' g = some (.tup [.int (j : Int), .int (k : Int)]) → Q (.ref g) H'
theorem ok_first_clash {f : Addr} {fd : FuncData} {f_are_unlike : Addr} {fd_are_unlike : FuncData} (F : Fun K "first_clash" "first_clash" S_first_clash f fd)
    (F_are_unlike : Fun K "are_unlike" "are_unlike" S_are_unlike f_are_unlike fd_are_unlike) (b_are_unlike : Binds K fd_are_unlike ["one", "other"] []) (g_are_unlike : mg "are_unlike" = some (.ref f_are_unlike)) (G_are_unlike : FnOk P w K mg base CX0 1 f_are_unlike fd_are_unlike ["one", "other"] (sp_are_unlike K)) (m_enumerate : mg "enumerate" = none) :
    FnOk P w K mg base CX0 2 f fd ["passes", "teeth"] (sp_first_clash K) := by
  refine F.ok sc_first_clash (fun vs H Q E h => ?_) (fun cdv A outer s H vs Q E hr h => ?_)
  ·
    obtain ⟨a, ws, ps, t, rfl, _⟩ := h
    rfl
  ·
    obtain ⟨a, ws, ps, t, rfl, ha, hd, t1, pl, qN, qH⟩ := h
    refine ⟨_, (pss_cons (ps_set (i := 2) sc_first_clash.nd rfl (.inl rfl) pe_dnewK)
      (pss_cons (ps_for PassesOwn.never rfl (pi_enum (by rfl) m_enumerate (pa_cons (pv 0) pa_nil)) (pg_tup rfl (pgs_cons (pg_name (i := 3) sc_first_clash.nd rfl (.inl rfl)) (pgs_cons (pg_name (i := 4) sc_first_clash.nd rfl (.inl rfl)) pgs_nil)))
      (pss_one (ps_if (pt_cmpR op_ne (pe_ix (r := rIxT K) ix_tup (pv 4) pe_int (fun _ _ => rfl)) pe_int (nomark _)) (pss_cons (ps_set (i := 5) sc_first_clash.nd rfl (.inl rfl) (pe_bm PySem.F.plainAttrs_dict PySem.F.slot_dict_setdefault PySem.F.type_dict_setdefault mt_setd (pv 2) (pa_cons (pe_op op_mod (pe_ix (r := rIxT K) ix_tup (pv 4) pe_int (fun _ _ => rfl)) (pv 1)) (pa_cons (pv 3) pa_nil))))
      (pss_one (ps_if (pt_val (pe_call G_are_unlike (hr.mono (by decide)) (by rfl) g_are_unlike F_are_unlike.kp b_are_unlike .nil pass0 (pa_cons (pe_ix (r := rIxL K) ix_list (pv 0) (pv 5) (fun _ _ => rfl)) (pa_cons (pv 4) pa_nil)))) (pss_one (ps_ret (pe_tup (pa_cons (pv 5) (pa_cons (pv 3) pa_nil))))) pss_nil))) pss_nil)))
      (pss_one (ps_ret pe_non)))), ?_⟩
    refine w_st (σ' := [some (.ref a), some (.int t), none, none, none, none]) rfl ?_
    have wl : ws.length = ps.length := by rw [dpAll_len hd, List.length_map]
    walk_at "ct"
    intro fd nfd
    have s1 : Same H (upd H fd (.dK [])) := same_upd nfd
    have h1 : (upd H fd (.dK [])) fd = some (.dK []) := upd_same
    generalize upd H fd _ = H1 at *
    walk_at "ct"
    refine w_IE (s1.seq ha) ?_
    refine fb_enumL ws (fun n σ G => ∃ (y3 y4 y5 : Option V) (kvs : List (Key × V)), σ = [some (.ref a), some (.int t), some (.ref fd), y3, y4, y5] ∧ Same H G ∧ G fd = some (.dK kvs) ∧ kvs.length ≤ n ∧ Kept ps t n kvs ∧ NoHit ps t n) ⟨none, none, none, [], rfl, s1, h1, Nat.le_refl _, ⟨(fun _ _ h => nomatch h), fun _ _ i _ hi => absurd hi (Nat.not_lt_zero i)⟩, fun _ k _ hk => absurd hk (Nat.not_lt_zero k)⟩ ?_ ?_ ?_
    · rintro n σ G _ ⟨y3, y4, y5, kvs, rfl, sG, _⟩
      exact sG.seq ha
    · rintro n v Tp σ G hx ⟨y3, y4, y5, kvs, rfl, sG, hf, kl, kept, nh⟩ nT
      have hn : n < ws.length := (List.getElem?_eq_some_iff.mp hx).1
      obtain ⟨p, hp⟩ : ∃ p, ps[n]? = some p := ⟨_, List.getElem?_eq_getElem (by omega)⟩
      obtain ⟨v', hv1, hd1⟩ := dpAll_get hd (i := n) (d := passD p) (by rw [List.getElem?_map, hp]; rfl)
      cases Option.some.inj (hx.symm.trans hv1)
      have sT : Same G (upd G Tp (.tup [.int (n : Nat), v])) := same_upd nT
      have hT : (upd G Tp (.tup [.int (n : Nat), v])) Tp = some (.tup [.int (n : Nat), v]) := upd_same
      generalize upd G Tp _ = G1 at *
      have s3 := sG.trans sT
      have hf3 := sT _ _ hf
      obtain ⟨b, rfl, hb⟩ := pass_inv (dp_same s3 hd1)
      refine w_gtup (.of hT) rfl ?_
      walk_at "ct"
      refine w_iteN (fun e => ?_) (fun e => ?_)
      · walk_at "ct"
        refine ⟨.inr (.inr (.inl ⟨rfl, .inl ⟨kvs, hf3⟩⟩)), ?_⟩
        walk_at "ct"
        refine w_rI (show (0 : Int) < t by omega) ?_
        walk_at "ct"
        refine ⟨fd, kvs, Sum.inl (p.2.1 % t), .int (n : Int), rfl, rfl, hf3, Nat.lt_of_le_of_lt (show kvs.length ≤ 1000 by omega) (by decide), fun u hu => ?_, fun hnone => ?_⟩
        · obtain ⟨j, p0, rfl, jn, hj, c0, r0, first⟩ := kept.is _ _ hu
          obtain ⟨v0, hv0, hd0⟩ := dpAll_get hd (i := j) (d := passD p0) (by rw [List.getElem?_map, hj]; rfl)
          walk_at "ct"
          refine w_ixL (s3.seq ha) (at_of (j := j) rfl hv0) ?_
          walk_at "ct"
          refine ⟨v0, _, p0, p, rfl, dp_same s3 hd0, dp_same s3 hd1, ?_⟩
          cases un : unlk p0 p with
          | true =>
            walk_at "ct"
            refine ⟨len2 rfl, fun g ng => ?_⟩
            exact qH j n ⟨jn, ⟨p0, p, hj, hp, r0, un⟩, nh, fun i hi ⟨p1, q1, e1, e2, e3, e4⟩ => by
              cases Option.some.inj (hp.symm.trans e2)
              exact first i p1 hi e1 (unlk_came e4).1 e3⟩ g _ (s3.trans (same_upd ng)) (s3.free ng) upd_same
          | false =>
            walk_at "ct"
            refine ⟨_, _, _, kvs, rfl, s3, hf3, by omega, kept.there hp hu, nh.more fun i hi ⟨p1, q1, e1, e2, e3, e4⟩ => ?_⟩
            cases Option.some.inj (hp.symm.trans e2)
            obtain ⟨n1, n2, n3⟩ := unlk_came e4
            have d0 := unlk_of c0 n2 un
            by_cases c : i = j
            · subst c
              cases Option.some.inj (hj.symm.trans e1)
              rw [un] at e4
              cases e4
            · by_cases lt : i < j
              · exact first i p1 lt e1 n1 e3
              · have nohit := nh j i (by omega) hi
                have un2 : unlk p0 p1 = false := by
                  cases z : unlk p0 p1 with
                  | false => rfl
                  | true => exact absurd ⟨p0, p1, hj, e1, by rw [r0, e3], z⟩ nohit
                exact n3 ((unlk_of c0 n1 un2).symm.trans d0)
        · have s4 : Same H (upd G1 fd (.dK (putK kvs (Sum.inl (p.2.1 % t)) (.int (n : Int))))) := same_new s3 nfd
          have h4 : (upd G1 fd (.dK (putK kvs (Sum.inl (p.2.1 % t)) (.int (n : Int))))) fd = some (.dK (putK kvs (Sum.inl (p.2.1 % t)) (.int (n : Int)))) := upd_same
          generalize upd G1 fd _ = G4 at *
          obtain ⟨b', eb, hbb⟩ := pass_inv (dp_same s4 hd1)
          cases eb
          walk_at "ct"
          refine w_ixL (s4.seq ha) (at_of (j := n) rfl hv1) ?_
          walk_at "ct"
          refine ⟨_, _, p, p, rfl, dp_same s4 hd1, dp_same s4 hd1, ?_⟩
          rw [unlk_self]
          walk_at "ct"
          refine ⟨_, _, _, _, rfl, s4, h4, Nat.le_trans (length_putK _ _ _) (by omega), kept.new hp e hnone, nh.more fun i hi ⟨p1, q1, e1, e2, e3, e4⟩ => ?_⟩
          cases Option.some.inj (hp.symm.trans e2)
          exact kept.no _ hnone i p1 hi e1 (unlk_came e4).1 e3
      · walk_at "ct"
        exact ⟨_, _, _, kvs, rfl, s3, hf3, by omega, kept.skip hp e, nh.more fun j _ ⟨p1, q1, _, e2, _, e4⟩ => by
          cases Option.some.inj (hp.symm.trans e2)
          exact (unlk_came e4).2.1 e⟩
    · rintro σ G ⟨y3, y4, y5, kvs, rfl, sG, hf, kl, kept, nh⟩
      rw [wl] at nh
      walk_at "ct"
      exact qN nh G sG
abbrev S_marks_of : Stmt := topS 36
theorem sc_marks_of : FnScope ["passes", "teeth", "came", "tooth", "shown"] ["passes", "teeth"] (defScope S_marks_of) := ⟨rfl, rfl, rfl, by decide +kernel, rfl, by decide +kernel, by decide +kernel⟩
def sp_marks_of (K : PySem.W.Frag) : Sp := fun vs H Q _ => ∃ (a : Addr) (ws : List V) (ps : List Pass) (t : Int), vs = [.ref a, .int t] ∧ SqL K H a ws ∧ DpAll K H ws (ps.map passD) ∧ 1 ≤ t ∧ ps.length ≤ 1000 ∧
  ∀ m ms H', IsMarks ps t ms → Same H H' → H m = none → H' m = some (.tup (ms.map V.int)) → Q (.ref m) H'
theorem ok_marks_of {f : Addr} {fd : FuncData} (F : Fun K "marks_of" "marks_of" S_marks_of f fd) (m_tuple : mg "tuple" = none) (m_sorted : mg "sorted" = none) :
    FnOk P w K mg base CX0 1 f fd ["passes", "teeth"] (sp_marks_of K) := by
  refine F.ok sc_marks_of (fun vs H Q E h => ?_) (fun cdv A outer s H vs Q E hr h => ?_)
  ·
    obtain ⟨a, ws, ps, t, rfl, _⟩ := h
    rfl
  ·
    obtain ⟨a, ws, ps, t, rfl, ha, hd, t1, pl, q⟩ := h
    refine ⟨_, (pss_one (ps_ret (pe_callTy call_tuple_of (by rfl) m_tuple (by decide +kernel) (pa_cons (pe_callB (r := rSrtI w) (cr_srtI rfl) (by rfl) m_sorted (by decide +kernel) (pa_cons (pe_scI (w0 := w) rfl (own := [("came", 2), ("tooth", 3), ("shown", 4)]) (g := gTup K 3 (gCons (gName 2) (gCons (gName 3) (gCons (gName 4) gNil)))) rfl sc_marks_of.nd (pi_list (pv 0)) (blkOk_by (own := [("came", 2), ("tooth", 3), ("shown", 4)]) (N := ["passes", "teeth", "came", "tooth", "shown"]) (sc := defScope S_marks_of) (by decide +kernel)) (fun _ _ _ _ _ => pg_tup rfl (pgs_cons (pg_name (i := 2) sc_marks_of.nd rfl (Or.inl rfl)) (pgs_cons (pg_name (i := 3) sc_marks_of.nd rfl (Or.inl rfl)) (pgs_cons (pg_name (i := 4) sc_marks_of.nd rfl (Or.inl rfl)) pgs_nil)))) (fun _ _ _ _ _ => (pts_one (pt_cmpR op_ne (pv 4) pe_int (nomark _)))) (fun _ _ _ _ _ => (pe_op op_mod (pv 3) (pv 1)))) pa_nil)) pa_nil)))), ?_⟩
    refine w_st (σ' := [some (.ref a), some (.int t), none, none, none]) rfl ?_
    have wl : ws.length = ps.length := by rw [dpAll_len hd, List.length_map]
    walk_at "ct"
    refine w_scG ?_
    walk_at "ct"
    refine w_IL ha ?_
    refine sb_list ws (fun D n G => Same H G ∧ ∃ (S : Int → Bool) (c : Nat), G D = some (IntSet w D (S, c)) ∧ c ≤ n ∧ ∀ r, S r = true ↔ ∃ p ∈ ps.take n, p.2.2 ≠ 0 ∧ p.2.1 % t = r) (fun D hD => ⟨same_upd hD, fun _ => false, 0, upd_same, Nat.le_refl _, fun r => by simp⟩) (fun D hD n G _ h => h.1.seq ha) ?_ ?_
    · rintro D hD n x G hx ⟨sG, S, c, hS, cn, mem⟩
      have hn : n < ws.length := (List.getElem?_eq_some_iff.mp hx).1
      obtain ⟨p, hp⟩ : ∃ p, ps[n]? = some p := ⟨_, List.getElem?_eq_getElem (by omega)⟩
      obtain ⟨v', hv1, hd1⟩ := dpAll_get hd (i := n) (d := passD p) (by rw [List.getElem?_map, hp]; rfl)
      cases Option.some.inj (hx.symm.trans hv1)
      obtain ⟨b, rfl, hb⟩ := pass_inv (dp_same sG hd1)
      have tk : ∀ r, (∃ q ∈ ps.take (n + 1), q.2.2 ≠ 0 ∧ q.2.1 % t = r) ↔ (∃ q ∈ ps.take n, q.2.2 ≠ 0 ∧ q.2.1 % t = r) ∨ (p.2.2 ≠ 0 ∧ p.2.1 % t = r) := fun r => by
        rw [List.take_add_one, hp, Option.toList_some]
        simp only [List.mem_append, List.mem_singleton]
        constructor
        · rintro ⟨q, hq | rfl, z⟩
          · exact .inl ⟨q, hq, z⟩
          · exact .inr z
        · rintro (⟨q, hq, z⟩ | z)
          · exact ⟨q, .inl hq, z⟩
          · exact ⟨p, .inr rfl, z⟩
      refine w_gtup hb rfl ?_
      walk_at "ct"
      refine ⟨rfl, ?_⟩
      walk_at "ct"
      refine w_iteN (fun e => ?_) (fun e => ?_)
      · walk_at "ct"
        refine w_rI (show (0 : Int) < t by omega) ?_
        refine ⟨(S, c), _, hS, ⟨p.2.1 % t, rfl, Nat.lt_of_le_of_lt (show c + 1 ≤ 1001 by omega) (by decide), rfl⟩, same_new sG hD, _, _, upd_same, ?_, fun r => ?_⟩
        · show (if S (p.2.1 % t) = true then c else c + 1) ≤ n + 1
          split <;> omega
        · rw [tk r, ← mem r, Bool.or_eq_true, decide_eq_true_eq]
          exact ⟨fun z => z.imp id fun y => ⟨e, y.symm⟩, fun z => z.imp id fun y => y.2.symm⟩
      · refine ⟨sG, S, c, hS, by omega, fun r => ?_⟩
        rw [tk r, mem r]
        exact ⟨.inl, fun z => z.resolve_right fun y => y.1 e⟩
    · rintro D hD G ⟨sG, S, c, hS, cn, mem⟩
      rw [wl, List.take_length] at mem
      refine ⟨D, (S, c), rfl, hS, fun ns l up mem2 _ nl => ?_⟩
      walk_at "ct"
      refine ⟨l, _, rfl, .inl ⟨.of upd_same, fun m nm => ?_⟩⟩
      have s2 : Same G (upd G l (.lst (ns.map V.int))) := same_upd nl
      exact q m ns _ ⟨up, fun r => (mem2 r).trans (mem r)⟩ ((sG.trans s2).trans (same_upd nm)) ((sG.trans s2).free nm) upd_same
abbrev S_smallest_of : Stmt := topS 37
theorem sc_smallest_of : FnScope ["passes", "k", "push", "bars", "teeth", "clash", "j"] ["passes"] (defScope S_smallest_of) := ⟨rfl, rfl, rfl, by decide +kernel, rfl, by decide +kernel, by decide +kernel⟩
def sp_smallest_of (K : PySem.W.Frag) : Sp := fun vs H Q _ => ∃ (a : Addr) (ws : List V) (ps : List Pass), vs = [.ref a] ∧ SqL K H a ws ∧ DpAll K H ws (ps.map passD) ∧ ps.length ≤ 1000 ∧ Walky ps ∧ ∀ g H', Same H H' → SmOk K ps H H' g → Q (.ref g) H'
theorem ok_smallest_of {f : Addr} {fd : FuncData} {f_marks_of : Addr} {fd_marks_of : FuncData} {f_first_clash : Addr} {fd_first_clash : FuncData} {f_is_wrong : Addr} {fd_is_wrong : FuncData} (F : Fun K "smallest_of" "smallest_of" S_smallest_of f fd)
    (F_marks_of : Fun K "marks_of" "marks_of" S_marks_of f_marks_of fd_marks_of) (b_marks_of : Binds K fd_marks_of ["passes", "teeth"] []) (g_marks_of : mg "marks_of" = some (.ref f_marks_of)) (G_marks_of : FnOk P w K mg base CX0 1 f_marks_of fd_marks_of ["passes", "teeth"] (sp_marks_of K))
    (F_first_clash : Fun K "first_clash" "first_clash" S_first_clash f_first_clash fd_first_clash) (b_first_clash : Binds K fd_first_clash ["passes", "teeth"] []) (g_first_clash : mg "first_clash" = some (.ref f_first_clash)) (G_first_clash : FnOk P w K mg base CX0 2 f_first_clash fd_first_clash ["passes", "teeth"] (sp_first_clash K))
    (F_is_wrong : Fun K "is_wrong" "is_wrong" S_is_wrong f_is_wrong fd_is_wrong) (b_is_wrong : Binds K fd_is_wrong ["push"] []) (g_is_wrong : mg "is_wrong" = some (.ref f_is_wrong)) (G_is_wrong : FnOk P w K mg base CX0 1 f_is_wrong fd_is_wrong ["push"] (sp_is_wrong K)) (m_enumerate : mg "enumerate" = none) (m_range : mg "range" = none) (m_max : mg "max" = none) (m_len : mg "len" = none) :
    FnOk P w K mg base CX0 3 f fd ["passes"] (sp_smallest_of K) := by
  refine F.ok sc_smallest_of (fun vs H Q E h => ?_) (fun cdv A outer s H vs Q E hr h => ?_)
  ·
    obtain ⟨a, ws, ps, rfl, _⟩ := h
    rfl
  ·
    obtain ⟨a, ws, ps, rfl, ha, hd, pl, wk, q⟩ := h
    refine ⟨_, (pss_cons (ps_for PassesOwn.never rfl (pi_enum (by rfl) m_enumerate (pa_cons (pv 0) pa_nil)) (pg_tup rfl (pgs_cons (pg_name (i := 1) sc_smallest_of.nd rfl (.inl rfl)) (pgs_cons (pg_name (i := 2) sc_smallest_of.nd rfl (.inl rfl)) pgs_nil)))
      (pss_one (ps_if (pt_val (pe_call G_is_wrong (hr.mono (by decide)) (by rfl) g_is_wrong F_is_wrong.kp b_is_wrong .nil pass0 (pa_cons (pv 2) pa_nil))) (pss_one (ps_ret (pe_tup (pa_cons pe_str (pa_cons (pv 1) (pa_cons (pv 1) pa_nil)))))) pss_nil)))
      (pss_cons (ps_set (i := 3) sc_smallest_of.nd rfl (.inl rfl) (pe_lst pa_nil))
      (pss_cons (ps_for PassesOwn.never rfl (pi_range2 (by rfl) m_range (pa_cons pe_int (pa_cons (pe_op op_add (pe_callB (call_max2 rfl) (by rfl) m_max (by decide +kernel) (pa_cons pe_int (pa_cons (pe_callB call_len_seq (by rfl) m_len (by decide +kernel) (pa_cons (pv 0) pa_nil)) pa_nil))) pe_int) pa_nil))) (pg_name (i := 4) sc_smallest_of.nd rfl (.inl rfl))
      (pss_cons (ps_set (i := 5) sc_smallest_of.nd rfl (.inl rfl) (pe_call G_first_clash (hr.mono (by decide)) (by rfl) g_first_clash F_first_clash.kp b_first_clash .nil pass0 (pa_cons (pv 0) (pa_cons (pv 4) pa_nil))))
      (pss_cons (ps_if (pt_cmpR op_isN (pv 5) pe_non (nomark _)) (pss_one (ps_ret (pe_tup (pa_cons pe_str (pa_cons (pv 4) (pa_cons (pe_call G_marks_of (hr.mono (by decide)) (by rfl) g_marks_of F_marks_of.kp b_marks_of .nil pass0 (pa_cons (pv 0) (pa_cons (pv 4) pa_nil))) (pa_cons (pv 3) pa_nil))))))) pss_nil)
      (pss_one (ps_expr (pe_bm PySem.F.plainAttrs_list PySem.F.slot_list_append PySem.F.type_list_append mt_append (pv 3) (pa_cons (pv 5) pa_nil)))))))
      (pss_cons (ps_asg (pe_ix (r := rIxL K) ix_list (pv 3) (pe_un un_neg pe_int) (fun _ _ => rfl)) (pg_tup rfl (pgs_cons (pg_name (i := 6) sc_smallest_of.nd rfl (.inl rfl)) (pgs_cons (pg_name (i := 1) sc_smallest_of.nd rfl (.inl rfl)) pgs_nil))))
      (pss_one (ps_ret (pe_tup (pa_cons pe_str (pa_cons (pv 6) (pa_cons (pv 1) pa_nil)))))))))), ?_⟩
    refine w_st (σ' := [some (.ref a), none, none, none, none, none, none]) rfl ?_
    have wl : ws.length = ps.length := by rw [dpAll_len hd, List.length_map]
    walk_at "ct"
    refine w_IE ha ?_
    refine fb_enumL ws (fun n σ G => ∃ (y1 y2 : Option V), σ = [some (.ref a), y1, y2, none, none, none, none] ∧ Same H G ∧ ∀ p ∈ ps.take n, wrongB p = false) ⟨none, none, rfl, Same.refl _, fun p hp => by simp at hp⟩ ?_ ?_ ?_
    · rintro n σ G _ ⟨y1, y2, rfl, sG, _⟩
      exact sG.seq ha
    · rintro n v Tp σ G hx ⟨y1, y2, rfl, sG, nw⟩ nT
      have hn : n < ws.length := (List.getElem?_eq_some_iff.mp hx).1
      obtain ⟨p, hp⟩ : ∃ p, ps[n]? = some p := ⟨_, List.getElem?_eq_getElem (by omega)⟩
      obtain ⟨v', hv1, hd1⟩ := dpAll_get hd (i := n) (d := passD p) (by rw [List.getElem?_map, hp]; rfl)
      cases Option.some.inj (hx.symm.trans hv1)
      have sT : Same G (upd G Tp (.tup [.int (n : Nat), v])) := same_upd nT
      have hT : (upd G Tp (.tup [.int (n : Nat), v])) Tp = some (.tup [.int (n : Nat), v]) := upd_same
      generalize upd G Tp _ = G1 at *
      have s3 := sG.trans sT
      refine w_gtup (.of hT) rfl ?_
      walk_at "ct"
      refine ⟨v, p, rfl, dp_same s3 hd1, fun H2 s2 => ?_⟩
      have s4 := s3.trans s2
      have ew : (!(decide (p.2.2 = p.1) || decide (p.2.2 = 0))) = wrongB p := rfl
      rw [ew]
      refine w_bl ?_
      cases e : wrongB p with
      | true =>
        walk_at "ct"
        refine ⟨len2 rfl, fun g ng => ?_⟩
        refine q g _ (s4.trans (same_upd ng)) ⟨s4.free ng, .inl ⟨n, n, upd_same, .inl ⟨p, hp, e, rfl, fun i r hi hr => ?_⟩⟩⟩
        exact nw r (List.mem_of_getElem? (i := i) (by rw [List.getElem?_take, if_pos hi]; exact hr))
      | false =>
        walk_at "ct"
        refine ⟨_, _, rfl, s4, fun r hr => ?_⟩
        rw [List.take_add_one, hp, Option.toList_some] at hr
        rcases List.mem_append.mp hr with hr | hr
        · exact nw r hr
        · rw [List.mem_singleton.mp hr]
          exact e
    · rintro σ G ⟨y1, y2, rfl, sG, nw⟩
      rw [wl, List.take_length] at nw
      walk_at "ct"
      refine ⟨len2 rfl, fun l nl => ?_⟩
      have sl : Same G (upd G l (.lst [])) := same_upd nl
      have hl : (upd G l (.lst [])) l = some (.lst []) := upd_same
      generalize upd G l _ = G1 at *
      have nlH := sG.free nl
      have s1 := sG.trans sl
      walk_at "ct"
      refine ⟨a, ws, rfl, .inl (s1.seq ha), ?_⟩
      walk_at "ct"
      refine ⟨1, (ws.length : Int), rfl, ?_⟩
      obtain ⟨N, hN, N1⟩ : ∃ N : Nat, (if (ws.length : Int) > 1 then (ws.length : Int) else 1) = (N : Int) ∧ N = max 1 ps.length := ⟨max 1 ps.length, by rw [wl]; split <;> omega, rfl⟩
      rw [hN]
      walk_at "ct"
      refine w_RG2 (by omega) (by omega) (by omega) (by omega) ?_
      rw [show ((N : Int) + 1 - 1).toNat = N by omega]
      refine fb_range (fun n σ G => ∃ (y4 y5 : Option V) (us : List V) (bars : List (Nat × Nat)), σ = [some (.ref a), y1, y2, some (.ref l), y4, y5, none] ∧ Same H G ∧ G l = some (.lst us) ∧ DpAll K G us (bars.map barD) ∧ bars.length = n ∧ ∀ (i : Nat) (b : Nat × Nat), bars[i]? = some b → IsCl ps ((i + 1 : Nat) : Int) b.1 b.2) ⟨none, none, [], [], rfl, s1, hl, .nil, rfl, fun i b z => by simp at z⟩ ?_ ?_
      · rintro n σ G hn ⟨y4, y5, us, bars, rfl, sG, hl, hu, bl, hb⟩
        have ul : us.length = n := by rw [dpAll_len hu, List.length_map, bl]
        rw [show (1 : Int) + (n : Int) = ((n + 1 : Nat) : Int) by omega]
        walk_at "ct"
        refine ⟨a, ws, ps, ((n + 1 : Nat) : Int), rfl, sG.seq ha, dpAll_same sG hd, by omega, pl, fun free H2 s2 => ?_, fun j k cl g H2 s2 ng hg => ?_⟩
        · walk_at "ct"
          refine ⟨rfl, ?_⟩
          walk_at "ct"
          refine w_ite (fun _ => ?_) (fun z => absurd rfl z)
          walk_at "ct"
          have s3 := sG.trans s2
          refine ⟨a, ws, ps, ((n + 1 : Nat) : Int), rfl, s3.seq ha, dpAll_same s3 hd, by omega, pl, fun m ms H3 im s4 nm hm => ?_⟩
          walk_at "ct"
          refine ⟨len2 rfl, fun g ng => ?_⟩
          have s5 := s3.trans s4
          have u : Same H3 (upd H3 g (.tup [.str "wheel", .int ((n + 1 : Nat) : Int), .ref m, .ref l])) := same_upd ng
          refine q g _ (s5.trans u) ⟨s5.free ng, .inr ⟨n + 1, m, l, ms, us, bars, upd_same, u _ _ hm, u _ _ ((s2.trans s4) _ _ hl), dpAll_same ((s2.trans s4).trans u) hu, s3.free nm, nlH, ?_⟩⟩
          exact ⟨nw, by omega, by omega, freeB_iff.mpr free, im, by omega, hb⟩
        · walk_at "ct"
          refine ⟨rfl, ?_⟩
          walk_at "ct"
          refine w_ite (fun z => nomatch z) (fun _ => ?_)
          walk_at "ct"
          refine ⟨ty_list (s2 _ _ hl), ?_⟩
          walk_at "ct"
          refine w_append (s2 _ _ hl) (Nat.lt_of_le_of_lt (show us.length ≤ 1001 by omega) (by decide)) ?_
          refine ⟨_, _, us ++ [.ref g], bars ++ [(j, k)], rfl, same_new (sG.trans s2) nlH, upd_same, ?_, by rw [List.length_append, bl]; rfl, fun i b e => ?_⟩
          · rw [List.map_append]
            exact dpAll_wr (s2 _ _ hl) (dpAll_app (dpAll_same s2 hu) (.cons (.tup (.of hg) (.cons (.int _) (.cons (.int _) .nil))) .nil)) (by
              have := barD_nl (bars ++ [(j, k)])
              rw [List.map_append] at this
              exact this)
          · by_cases z : i < bars.length
            · rw [List.getElem?_append_left z] at e
              exact hb i b e
            · rw [List.getElem?_append_right (by omega)] at e
              have i0 : i - bars.length = 0 := by
                have := (List.getElem?_eq_some_iff.mp e).1
                simp at this
                omega
              rw [i0] at e
              cases Option.some.inj e
              rw [show i = n by omega]
              exact cl
      · rintro σ G ⟨y4, y5, us, bars, rfl, sG, hl, hu, bl, hb⟩
        have N2 : 1 ≤ N := by omega
        obtain ⟨b, hbb⟩ : ∃ b, bars[N - 1]? = some b := ⟨_, List.getElem?_eq_getElem (by omega)⟩
        obtain ⟨v, hv, hdv⟩ := dpAll_get hu (i := N - 1) (d := barD b) (by rw [List.getElem?_map, hbb]; rfl)
        have cl := hb _ _ hbb
        obtain ⟨g, vs, rfl, hg, hgs⟩ := tup_inv hdv
        cases dpAll_ints_inv [(b.1 : Int), (b.2 : Int)] hgs
        clear hdv hgs
        have ul : us.length = N := by rw [dpAll_len hu, List.length_map, bl]
        walk_at "ct"
        refine w_ixL (.of hl) (v := .ref g) ?_ ?_
        · unfold atI
          rw [show ixN us.length (-1) = some (N - 1) by
            unfold ixN
            rw [if_neg (by decide), if_pos (by omega)]
            congr 1
            omega]
          exact hv
        · have hg' : SqT K G g [.int (b.1 : Int), .int (b.2 : Int)] := hg
          refine w_gtup hg' rfl ?_
          walk_at "ct"
          refine ⟨len2 rfl, fun r nr => ?_⟩
          refine q r _ (sG.trans (same_upd nr)) ⟨sG.free nr, .inl ⟨b.1, b.2, upd_same, .inr ⟨nw, ?_⟩⟩⟩
          have lt := cl.2.1.lt
          have c1 := cl.1
          rw [show N - 1 + 1 = ps.length by omega] at cl
          exact cl
abbrev S_smallest : Stmt := topS 38
theorem sc_smallest : FnScope ["shows"] ["shows"] (defScope S_smallest) := ⟨rfl, rfl, rfl, by decide +kernel, rfl, by decide +kernel, by decide +kernel⟩
def sp_smallest (K : PySem.W.Frag) (T : List Addr) (c_NoRow : Addr) : Sp := fun vs H Q E => ∃ (v : V) (d : PyData), vs = [v] ∧ Dp K H v d ∧ Tb T H ∧ ((isShows d = false ∧ ∀ H', Same H H' → E (.ref c_NoRow) none H') ∨ ∃ ss : List (Int × Int), d = .list (ss.map sh2D) ∧ (∀ s ∈ ss, Sh2Ok s) ∧ ss.length ≤ 1000 ∧ ∀ v H', Same H H' → Q v H')
theorem ok_smallest {f : Addr} {fd : FuncData} {f_passes_alone : Addr} {fd_passes_alone : FuncData} {f_smallest_of : Addr} {fd_smallest_of : FuncData} {c_NoRow : Addr} {T : List Addr} (F : Fun K "smallest" "smallest" S_smallest f fd)
    (F_passes_alone : Fun K "passes_alone" "passes_alone" S_passes_alone f_passes_alone fd_passes_alone) (b_passes_alone : Binds K fd_passes_alone ["shows"] []) (g_passes_alone : mg "passes_alone" = some (.ref f_passes_alone)) (G_passes_alone : FnOk P w K mg base (L2.CX P w) 6 f_passes_alone fd_passes_alone ["shows"] (sp_passes_alone K T c_NoRow))
    (F_smallest_of : Fun K "smallest_of" "smallest_of" S_smallest_of f_smallest_of fd_smallest_of) (b_smallest_of : Binds K fd_smallest_of ["passes"] []) (g_smallest_of : mg "smallest_of" = some (.ref f_smallest_of)) (G_smallest_of : FnOk P w K mg base CX0 3 f_smallest_of fd_smallest_of ["passes"] (sp_smallest_of K)) :
    FnOk P w K mg base (L2.CX P w) 7 f fd ["shows"] (sp_smallest K T c_NoRow) := by
  refine F.okX sc_smallest (fun vs H Q E h => ?_) (fun cdv A outer s H vs Q E hr h => ?_)
  ·
    obtain ⟨v, d, rfl, _⟩ := h
    rfl
  ·
    obtain ⟨v, d, rfl, hd, hTb, h⟩ := h
    refine ⟨_, (pss_one (ps_ret (pe_call G_smallest_of (hr.mono (by decide)) (by rfl) g_smallest_of F_smallest_of.kp b_smallest_of .nil pass0 (pa_cons (pe_call (E := E) G_passes_alone (hr.mono (by decide)) (by rfl) g_passes_alone F_passes_alone.kp b_passes_alone .nil (passes_call (takes_of rfl rfl rfl rfl) fun _ _ _ _ h => h) (pa_cons (pv 0) pa_nil)) pa_nil)))), ?_⟩
    refine w_st (σ' := [some v]) rfl ?_
    walk_at "ct"
    refine ⟨v, d, rfl, hd, hTb, ?_⟩
    rcases h with ⟨bad, qF⟩ | ⟨ss, rfl, oks, sl, q⟩
    · exact .inl ⟨bad, qF⟩
    refine .inr ⟨ss, rfl, oks, sl, fun l us H1 s1 nl hl hu => ?_⟩
    have wk := walky_pass (ways_ok oks) (List.length_map (as := ss) (·.1))
    rw [passN_F] at hu wk
    walk_at "ct"
    exact ⟨l, us, passF 0 ss, rfl, .of hl, hu, by rw [passF_len]; exact sl, wk, fun g H2 s2 ok => q _ H2 (s1.trans s2)⟩
abbrev S_smallest_behind : Stmt := topS 39
theorem sc_smallest_behind : FnScope ["train", "stand", "shows"] ["train", "stand", "shows"] (defScope S_smallest_behind) := ⟨rfl, rfl, rfl, by decide +kernel, rfl, by decide +kernel, by decide +kernel⟩
def sp_smallest_behind (K : PySem.W.Frag) (T : List Addr) (c_NoTrain : Addr) (c_NoStand : Addr) (c_NoRow : Addr) : Sp := fun vs H Q E => ∃ (v t u : V) (d e f : PyData), vs = [v, t, u] ∧ Dp K H v d ∧ Dp K H t e ∧ Dp K H u f ∧ Fine d 30 600 ∧ Tb T H ∧
  AskS d e f (∀ H', Same H H' → E (.ref c_NoTrain) none H') (∀ H', Same H H' → E (.ref c_NoStand) none H') (∀ H', Same H H' → E (.ref c_NoRow) none H') (fun _ _ _ => ∀ v H', Same H H' → Q v H')
theorem ok_smallest_behind {f : Addr} {fd : FuncData} {f_passes_behind : Addr} {fd_passes_behind : FuncData} {f_smallest_of : Addr} {fd_smallest_of : FuncData} {c_NoTrain : Addr} {c_NoStand : Addr} {c_NoRow : Addr} {T : List Addr} (F : Fun K "smallest_behind" "smallest_behind" S_smallest_behind f fd)
    (F_passes_behind : Fun K "passes_behind" "passes_behind" S_passes_behind f_passes_behind fd_passes_behind) (b_passes_behind : Binds K fd_passes_behind ["train", "stand", "shows"] []) (g_passes_behind : mg "passes_behind" = some (.ref f_passes_behind)) (G_passes_behind : FnOk P w K mg base (L2.CX P w) 8 f_passes_behind fd_passes_behind ["train", "stand", "shows"] (sp_passes_behind K T c_NoTrain c_NoStand c_NoRow))
    (F_smallest_of : Fun K "smallest_of" "smallest_of" S_smallest_of f_smallest_of fd_smallest_of) (b_smallest_of : Binds K fd_smallest_of ["passes"] []) (g_smallest_of : mg "smallest_of" = some (.ref f_smallest_of)) (G_smallest_of : FnOk P w K mg base CX0 3 f_smallest_of fd_smallest_of ["passes"] (sp_smallest_of K)) :
    FnOk P w K mg base (L2.CX P w) 9 f fd ["train", "stand", "shows"] (sp_smallest_behind K T c_NoTrain c_NoStand c_NoRow) := by
  refine F.okX sc_smallest_behind (fun vs H Q E h => ?_) (fun cdv A outer s H vs Q E hr h => ?_)
  ·
    obtain ⟨v, t, u, d, e, f, rfl, _⟩ := h
    rfl
  ·
    obtain ⟨v, t, u, d, e, f, rfl, hd, he, hf, fine, hTb, ask⟩ := h
    refine ⟨_, (pss_one (ps_ret (pe_call G_smallest_of (hr.mono (by decide)) (by rfl) g_smallest_of F_smallest_of.kp b_smallest_of .nil pass0 (pa_cons (pe_call (E := E) G_passes_behind (hr.mono (by decide)) (by rfl) g_passes_behind F_passes_behind.kp b_passes_behind .nil (passes_call (takes_of rfl rfl rfl rfl) fun _ _ _ _ h => h) (pa_cons (pv 0) (pa_cons (pv 1) (pa_cons (pv 2) pa_nil)))) pa_nil)))), ?_⟩
    refine w_st (σ' := [some v, some t, some u]) rfl ?_
    walk_at "ct"
    refine ⟨v, t, u, d, e, f, rfl, hd, he, hf, fine, hTb, ?_⟩
    rcases ask with h | ⟨ps, hp, c, hok, l1, l2, h | ⟨xs, hx, c2, hso, h | ⟨ss, hs, oks, sl, q⟩⟩⟩
    · exact .inl h
    · exact .inr ⟨ps, hp, c, hok, l1, l2, .inl h⟩
    · exact .inr ⟨ps, hp, c, hok, l1, l2, .inr ⟨xs, hx, c2, hso, .inl h⟩⟩
    refine .inr ⟨ps, hp, c, hok, l1, l2, .inr ⟨xs, hx, c2, hso, .inr ⟨ss, hs, oks, sl, fun l us H1 s1 nl hl hu => ?_⟩⟩⟩
    have fl : (fedS ps xs (ss.map (·.1))).2.length = ss.length := by rw [fedS_len, List.length_map]
    have wk := walky_pass (comes_ok (ps := ps) (xs := xs) oks) fl
    walk_at "ct"
    exact ⟨l, us, _, rfl, .of hl, hu, by rw [pass_len fl]; exact sl, wk, fun g H2 s2 ok => q _ H2 (s1.trans s2)⟩
abbrev S_are_places : Stmt := topS 40
theorem sc_are_places : FnScope ["j", "k", "passes"] ["j", "k", "passes"] (defScope S_are_places) := ⟨rfl, rfl, rfl, by decide +kernel, rfl, by decide +kernel, by decide +kernel⟩
def sp_are_places (K : PySem.W.Frag) : Sp := fun vs H Q _ => ∃ (v u : V) (x y : PyData) (a : Addr) (ws : List V), vs = [v, u, .ref a] ∧ Dp K H v x ∧ Dp K H u y ∧ SqL K H a ws ∧ Q (.bl (plB x y ws.length)) H
theorem ok_are_places {f : Addr} {fd : FuncData} {f_is_whole : Addr} {fd_is_whole : FuncData} (F : Fun K "are_places" "are_places" S_are_places f fd)
    (F_is_whole : Fun K "is_whole" "is_whole" S_is_whole f_is_whole fd_is_whole) (b_is_whole : Binds K fd_is_whole ["thing"] []) (g_is_whole : mg "is_whole" = some (.ref f_is_whole)) (G_is_whole : FnOk P w K mg base CX0 1 f_is_whole fd_is_whole ["thing"] (sp_is_whole K)) (m_len : mg "len" = none) :
    FnOk P w K mg base CX0 2 f fd ["j", "k", "passes"] (sp_are_places K) := by
  refine F.ok sc_are_places (fun vs H Q E h => ?_) (fun cdv A outer s H vs Q E hr h => ?_)
  ·
    obtain ⟨v, u, x, y, a, ws, rfl, _⟩ := h
    rfl
  ·
    obtain ⟨v, u, x, y, a, ws, rfl, hx, hy, ha, q⟩ := h
    refine ⟨_, (pss_one (ps_ret (pe_and (pe_call G_is_whole (hr.mono (by decide)) (by rfl) g_is_whole F_is_whole.kp b_is_whole .nil pass0 (pa_cons (pv 0) pa_nil)) (pe_and (pe_call G_is_whole (hr.mono (by decide)) (by rfl) g_is_whole F_is_whole.kp b_is_whole .nil pass0 (pa_cons (pv 1) pa_nil)) (pe_one (pe_chain3 op_le op_le op_lt pe_int (pv 0) (pv 1) (pe_callB call_len_seq (by rfl) m_len (by decide +kernel) (pa_cons (pv 2) pa_nil)))))))), ?_⟩
    refine w_st (σ' := [some v, some u, some (.ref a)]) rfl ?_
    walk_at "ct"
    refine ⟨_, _, rfl, hx, ?_⟩
    cases hx with
    | int j =>
      rw [show isW (.int j) = true from rfl]
      walk_at "ct"
      refine ⟨_, _, rfl, hy, ?_⟩
      cases hy with
      | int k =>
        rw [show isW (.int k) = true from rfl]
        have q : Q (.bl (decide (0 ≤ j) && (decide (j ≤ k) && decide (k < (ws.length : Int))))) H := q
        walk_at "ct"
        refine w_ch3 ?_
        walk_at "ct"
        refine w_ite (fun e1 => ?_) (fun e1 => ?_)
        · rw [decide_eq_true e1] at q
          walk_at "ct"
          refine w_ite (fun e2 => ?_) (fun e2 => ?_)
          · rw [decide_eq_true e2] at q
            walk_at "ct"
            refine ⟨a, ws, rfl, .inl ha, ?_⟩
            walk_at "ct"
            exact q
          · rw [decide_eq_false e2] at q
            exact q
        · rw [decide_eq_false e1] at q
          exact q
      | non =>
        rw [show isW .none = false from rfl]
        walk_at "ct"
        exact q
      | bl b =>
        rw [show isW (.bool b) = false from rfl]
        walk_at "ct"
        exact q
      | str x =>
        rw [show isW (.str x) = false from rfl]
        walk_at "ct"
        exact q
      | lst a1 a2 =>
        rw [show isW (.list _) = false from rfl]
        walk_at "ct"
        exact q
      | tup a1 a2 =>
        rw [show isW (.tuple _) = false from rfl]
        walk_at "ct"
        exact q
    | non =>
      rw [show isW .none = false from rfl]
      walk_at "ct"
      exact q
    | bl b =>
      rw [show isW (.bool b) = false from rfl]
      walk_at "ct"
      exact q
    | str x =>
      rw [show isW (.str x) = false from rfl]
      walk_at "ct"
      exact q
    | lst a1 a2 =>
      rw [show isW (.list _) = false from rfl]
      walk_at "ct"
      exact q
    | tup a1 a2 =>
      rw [show isW (.tuple _) = false from rfl]
      walk_at "ct"
      exact q
abbrev S_is_bar : Stmt := topS 41
theorem sc_is_bar : FnScope ["passes", "teeth", "thing", "one", "other"] ["passes", "teeth", "thing"] (defScope S_is_bar) := ⟨rfl, rfl, rfl, by decide +kernel, rfl, by decide +kernel, by decide +kernel⟩
def sp_is_bar (K : PySem.W.Frag) : Sp := fun vs H Q _ => ∃ (a : Addr) (ws : List V) (ps : List Pass) (t : Int) (v : V) (d : PyData), vs = [.ref a, .int t, v] ∧ SqL K H a ws ∧ DpAll K H ws (ps.map passD) ∧ 1 ≤ t ∧ Dp K H v d ∧ Q (.bl (isBarB ps t d)) H
theorem ok_is_bar {f : Addr} {fd : FuncData} {f_are_unlike : Addr} {fd_are_unlike : FuncData} {f_are_places : Addr} {fd_are_places : FuncData} (F : Fun K "is_bar" "is_bar" S_is_bar f fd)
    (F_are_unlike : Fun K "are_unlike" "are_unlike" S_are_unlike f_are_unlike fd_are_unlike) (b_are_unlike : Binds K fd_are_unlike ["one", "other"] []) (g_are_unlike : mg "are_unlike" = some (.ref f_are_unlike)) (G_are_unlike : FnOk P w K mg base CX0 1 f_are_unlike fd_are_unlike ["one", "other"] (sp_are_unlike K))
    (F_are_places : Fun K "are_places" "are_places" S_are_places f_are_places fd_are_places) (b_are_places : Binds K fd_are_places ["j", "k", "passes"] []) (g_are_places : mg "are_places" = some (.ref f_are_places)) (G_are_places : FnOk P w K mg base CX0 2 f_are_places fd_are_places ["j", "k", "passes"] (sp_are_places K)) (m_isinstance : mg "isinstance" = none) (m_tuple : mg "tuple" = none) (m_len : mg "len" = none) :
    FnOk P w K mg base CX0 3 f fd ["passes", "teeth", "thing"] (sp_is_bar K) := by
  refine F.ok sc_is_bar (fun vs H Q E h => ?_) (fun cdv A outer s H vs Q E hr h => ?_)
  ·
    obtain ⟨a, ws, ps, t, v, d, rfl, _⟩ := h
    rfl
  ·
    obtain ⟨a, ws, ps, t, v, d, rfl, ha, hd, t1, hv, q⟩ := h
    refine ⟨_, (pss_cons (ps_if (PW.pt (pw_or (pt_not (pt_val (pe_callB (r := rIsi K) call_isi (by rfl) m_isinstance (by decide +kernel) (pa_cons (pv 2) (pa_cons (pe_bltn (v := .ty "tuple") (u := .type "tuple") (by rfl) m_tuple (by decide +kernel) rfl) pa_nil))))) (pw_or (pt_cmpR op_ne (pe_callB call_len_seq (by rfl) m_len (by decide +kernel) (pa_cons (pv 2) pa_nil)) pe_int (nomark _)) (pw_or1 (pt_not (pt_val (pe_call G_are_places (hr.mono (by decide)) (by rfl) g_are_places F_are_places.kp b_are_places .nil pass0 (pa_cons (pe_ix (r := rIxT K) ix_tup (pv 2) pe_int (fun _ _ => rfl)) (pa_cons (pe_ix (r := rIxT K) ix_tup (pv 2) pe_int (fun _ _ => rfl)) (pa_cons (pv 0) pa_nil)))))))))) (pss_one (ps_ret pe_bl)) pss_nil)
      (pss_cons (ps_set (i := 3) sc_is_bar.nd rfl (.inl rfl) (pe_ix (r := rIxL K) ix_list (pv 0) (pe_ix (r := rIxT K) ix_tup (pv 2) pe_int (fun _ _ => rfl)) (fun _ _ => rfl)))
      (pss_cons (ps_set (i := 4) sc_is_bar.nd rfl (.inl rfl) (pe_ix (r := rIxL K) ix_list (pv 0) (pe_ix (r := rIxT K) ix_tup (pv 2) pe_int (fun _ _ => rfl)) (fun _ _ => rfl)))
      (pss_one (ps_ret (pe_and (pe_cmpR op_eq (pe_op op_mod (pe_op op_sub (pe_ix (r := rIxT K) ix_tup (pv 3) pe_int (fun _ _ => rfl)) (pe_ix (r := rIxT K) ix_tup (pv 4) pe_int (fun _ _ => rfl))) (pv 1)) pe_int (nomark _)) (pe_one (pe_call G_are_unlike (hr.mono (by decide)) (by rfl) g_are_unlike F_are_unlike.kp b_are_unlike .nil pass0 (pa_cons (pv 3) (pa_cons (pv 4) pa_nil)))))))))), ?_⟩
    refine w_st (σ' := [some (.ref a), some (.int t), some v, none, none]) rfl ?_
    have wl : ws.length = ps.length := by rw [dpAll_len hd, List.length_map]
    walk_at "ct"
    cases hv with
    | non =>
      refine w_isi (b := false) (.base .non) (kit_ty (by decide +kernel)) ?_
      walk_at "ct"
      exact q
    | bl b =>
      refine w_isi (b := false) (.base (.bl b)) (kit_ty (by decide +kernel)) ?_
      walk_at "ct"
      exact q
    | int i =>
      refine w_isi (b := false) (.base (.int i)) (kit_ty (by decide +kernel)) ?_
      walk_at "ct"
      exact q
    | str x =>
      refine w_isi (b := false) (.base (.str x)) (kit_ty (by decide +kernel)) ?_
      walk_at "ct"
      exact q
    | lst hs ht =>
      refine w_isi (b := false) (tyx_L hs) (kit_ty (by decide +kernel)) ?_
      walk_at "ct"
      exact q
    | tup hs ht =>
      refine w_isi (b := true) (tyx_T hs) (kit_ty (by decide +kernel)) ?_
      walk_at "ct"
      refine ⟨_, _, rfl, .inr hs, ?_⟩
      cases ht with
      | nil =>
        walk_at "ct"
        refine w_iteN (fun _ => ?_) (fun e => absurd e (by decide))
        walk_at "ct"
        exact q
      | cons h1 t1 =>
        cases t1 with
        | nil =>
          walk_at "ct"
          refine w_iteN (fun _ => ?_) (fun e => absurd e (by simp))
          walk_at "ct"
          exact q
        | cons h2 t2 =>
          cases t2 with
          | cons h3 t3 =>
            walk_at "ct"
            refine w_iteN (fun _ => ?_) (fun e => absurd e (by simp only [List.length_cons]; omega))
            walk_at "ct"
            exact q
          | nil =>
            rename_i v1 d1 v2 d2
            have q : Q (.bl (plB d1 d2 ps.length && twoN d1 d2 (barN ps t))) H := q
            walk_at "ct"
            refine w_iteN (fun e => absurd rfl e) (fun _ => ?_)
            walk_at "ct"
            refine ⟨_, _, _, _, a, ws, rfl, h1, h2, ha, ?_⟩
            rw [wl]
            cases hp : plB d1 d2 ps.length with
            | false =>
              rw [hp] at q
              walk_at "ct"
              exact q
            | true =>
              rw [hp] at q
              obtain ⟨j, k, rfl, rfl, jk, kn⟩ := plB_inv hp
              cases h1
              cases h2
              have q : Q (.bl (barN ps t j k)) H := q
              obtain ⟨p, hpj⟩ : ∃ p, ps[j]? = some p := ⟨_, List.getElem?_eq_getElem (by omega)⟩
              obtain ⟨r, hrk⟩ : ∃ r, ps[k]? = some r := ⟨_, List.getElem?_eq_getElem kn⟩
              obtain ⟨vj, hvj, hdj⟩ := dpAll_get hd (i := j) (d := passD p) (by rw [List.getElem?_map, hpj]; rfl)
              obtain ⟨vk, hvk, hdk⟩ := dpAll_get hd (i := k) (d := passD r) (by rw [List.getElem?_map, hrk]; rfl)
              obtain ⟨gj, rfl, hgj⟩ := pass_inv hdj
              obtain ⟨gk, rfl, hgk⟩ := pass_inv hdk
              unfold barN at q
              rw [hpj, hrk] at q
              have q : Q (.bl (decide ((p.2.1 - r.2.1) % t = 0) && unlk p r)) H := q
              walk_at "ct"
              refine w_ixL ha (at_of (j := j) rfl hvj) ?_
              walk_at "ct"
              refine w_ixL ha (at_of (j := k) rfl hvk) ?_
              walk_at "ct"
              refine w_rI (show (0 : Int) < t by omega) ?_
              walk_at "ct"
              refine w_ite (fun e => ?_) (fun e => ?_)
              · rw [decide_eq_true e] at q
                walk_at "ct"
                exact ⟨_, _, p, r, rfl, hdj, hdk, q⟩
              · rw [decide_eq_false e] at q
                exact q
abbrev S_does : Stmt := topS 42
theorem sc_does : FnScope ["passes", "teeth", "marks", "marked", "came", "tooth", "shown"] ["passes", "teeth", "marks"] (defScope S_does) := ⟨rfl, rfl, rfl, by decide +kernel, rfl, by decide +kernel, by decide +kernel⟩
def sp_does (K : PySem.W.Frag) : Sp := fun vs H Q _ => ∃ (a m : Addr) (ws : List V) (ps : List Pass) (t : Int) (ms : List Int), vs = [.ref a, .int t, .ref m] ∧ SqL K H a ws ∧ DpAll K H ws (ps.map passD) ∧ 1 ≤ t ∧ SqT K H m (ms.map V.int) ∧ ms.length ≤ 4000 ∧ ∀ H', Same H H' → Q (.bl (doesB t ms ps)) H'
theorem ok_does {f : Addr} {fd : FuncData} (F : Fun K "does" "does" S_does f fd) (m_set : mg "set" = none) :
    FnOk P w K mg base CX0 1 f fd ["passes", "teeth", "marks"] (sp_does K) := by
  refine F.ok sc_does (fun vs H Q E h => ?_) (fun cdv A outer s H vs Q E hr h => ?_)
  ·
    obtain ⟨a, m, ws, ps, t, ms, rfl, _⟩ := h
    rfl
  ·
    obtain ⟨a, m, ws, ps, t, ms, rfl, ha, hd, t1, hm, ml, q⟩ := h
    refine ⟨_, (pss_cons (ps_set (i := 3) sc_does.nd rfl (.inl rfl) (pe_callTy (r := rSetI K w) (cr_setI rfl) (by rfl) m_set (by decide +kernel) (pa_cons (pv 2) pa_nil)))
      (pss_cons (ps_for PassesOwn.never rfl (pi_list (pv 0)) (pg_tup rfl (pgs_cons (pg_name (i := 4) sc_does.nd rfl (.inl rfl)) (pgs_cons (pg_name (i := 5) sc_does.nd rfl (.inl rfl)) (pgs_cons (pg_name (i := 6) sc_does.nd rfl (.inl rfl)) pgs_nil))))
      (pss_one (ps_if (pt_cmpR op_ne (pv 6) (pe_ifExp (pt_cmpR (r := rSIn w) or_sin (pe_op op_mod (pv 5) (pv 1)) (pv 3) (by rfl)) (pv 4) pe_int) (nomark _)) (pss_one (ps_ret pe_bl)) pss_nil)))
      (pss_one (ps_ret pe_bl)))), ?_⟩
    refine w_st (σ' := [some (.ref a), some (.int t), some (.ref m), none, none, none, none]) rfl ?_
    have wl : ws.length = ps.length := by rw [dpAll_len hd, List.length_map]
    walk_at "ct"
    refine ⟨m, ms, rfl, .inr hm, ml, fun st c nst _ => ?_⟩
    have s1 : Same H (upd H st (IntSet w st (fun j => decide (j ∈ ms), c))) := same_upd nst
    have hst : (upd H st (IntSet w st (fun j => decide (j ∈ ms), c))) st = some (IntSet w st (fun j => decide (j ∈ ms), c)) := upd_same
    generalize upd H st _ = H1 at *
    walk_at "ct"
    refine w_IL (s1.seq ha) ?_
    refine fb_list ws (fun n σ G => ∃ (y4 y5 y6 : Option V), σ = [some (.ref a), some (.int t), some (.ref m), some (.ref st), y4, y5, y6] ∧ G = H1 ∧ doesB t ms (ps.take n) = true) ⟨none, none, none, rfl, rfl, rfl⟩ ?_ ?_ ?_
    · rintro n σ G _ ⟨y4, y5, y6, rfl, rfl, _⟩
      exact s1.seq ha
    · rintro n v σ G hx ⟨y4, y5, y6, rfl, rfl, al⟩
      have hn : n < ws.length := (List.getElem?_eq_some_iff.mp hx).1
      obtain ⟨p, hp⟩ : ∃ p, ps[n]? = some p := ⟨_, List.getElem?_eq_getElem (by omega)⟩
      obtain ⟨v', hv1, hd1⟩ := dpAll_get hd (i := n) (d := passD p) (by rw [List.getElem?_map, hp]; rfl)
      cases Option.some.inj (hx.symm.trans hv1)
      obtain ⟨b, rfl, hb⟩ := pass_inv (dp_same s1 hd1)
      have no : p.2.2 ≠ (if p.2.1 % t ∈ ms then p.1 else 0) → doesB t ms ps = false := fun ne => by
        unfold doesB
        rw [List.all_eq_false]
        exact ⟨p, List.mem_of_getElem? hp, by rw [decide_eq_false ne]; exact Bool.false_ne_true⟩
      have yes : p.2.2 = (if p.2.1 % t ∈ ms then p.1 else 0) → doesB t ms (ps.take (n + 1)) = true := fun e => by
        unfold doesB at al ⊢
        rw [List.take_add_one, hp, Option.toList_some, List.all_append, al, List.all_cons, decide_eq_true e]
        rfl
      refine w_gtup hb rfl ?_
      walk_at "ct"
      refine w_rI (show (0 : Int) < t by omega) ?_
      walk_at "ct"
      refine ⟨p.2.1 % t, st, _, c, rfl, rfl, hst, ?_⟩
      walk_at "ct"
      refine w_ite (fun e => ?_) (fun e => ?_)
      · rw [if_pos e] at no yes
        walk_at "ct"
        refine w_iteN (fun ne => ?_) (fun eq => ?_)
        · walk_at "ct"
          rw [no ne] at q
          exact q _ s1
        · walk_at "ct"
          exact ⟨_, _, _, rfl, rfl, yes eq⟩
      · rw [if_neg e] at no yes
        walk_at "ct"
        refine w_iteN (fun ne => ?_) (fun eq => ?_)
        · walk_at "ct"
          rw [no ne] at q
          exact q _ s1
        · walk_at "ct"
          exact ⟨_, _, _, rfl, rfl, yes eq⟩
    · rintro σ G ⟨y4, y5, y6, rfl, rfl, al⟩
      rw [List.take_of_length_le (by omega)] at al
      walk_at "ct"
      rw [al] at q
      exact q _ s1
abbrev S_tells_wheel : Stmt := topS 43
theorem sc_tells_wheel : FnScope ["passes", "teeth", "marks", "bars", "fewer", "bar"] ["passes", "teeth", "marks", "bars"] (defScope S_tells_wheel) := ⟨rfl, rfl, rfl, by decide +kernel, rfl, by decide +kernel, by decide +kernel⟩
def sp_tells_wheel (K : PySem.W.Frag) (T : List Addr) : Sp := fun vs H Q _ => ∃ (a : Addr) (ws : List V) (ps : List Pass) (v1 v2 v3 : V) (d1 d2 d3 : PyData), vs = [.ref a, v1, v2, v3] ∧ SqL K H a ws ∧ DpAll K H ws (ps.map passD) ∧ Dp K H v1 d1 ∧ Dp K H v2 d2 ∧ Dp K H v3 d3 ∧ (marksD d2).length ≤ 4000 ∧ Tb T H ∧ ∀ H', Same H H' → Q (.bl (twB ps d1 d2 d3)) H'
theorem ok_tells_wheel {f : Addr} {fd : FuncData} {f_does : Addr} {fd_does : FuncData} {f_are_marks : Addr} {fd_are_marks : FuncData} {f_is_bar : Addr} {fd_is_bar : FuncData} {f_is_whole : Addr} {fd_is_whole : FuncData} {T : List Addr} {cT PT : Addr} (F : Fun K "tells_wheel" "tells_wheel" S_tells_wheel f fd)
    (F_does : Fun K "does" "does" S_does f_does fd_does) (b_does : Binds K fd_does ["passes", "teeth", "marks"] []) (g_does : mg "does" = some (.ref f_does)) (G_does : FnOk P w K mg base CX0 1 f_does fd_does ["passes", "teeth", "marks"] (sp_does K))
    (F_are_marks : Fun K "are_marks" "are_marks" S_are_marks f_are_marks fd_are_marks) (b_are_marks : Binds K fd_are_marks ["thing", "teeth"] []) (g_are_marks : mg "are_marks" = some (.ref f_are_marks)) (G_are_marks : FnOk P w K mg base CX0 2 f_are_marks fd_are_marks ["thing", "teeth"] (sp_are_marks K))
    (F_is_bar : Fun K "is_bar" "is_bar" S_is_bar f_is_bar fd_is_bar) (b_is_bar : Binds K fd_is_bar ["passes", "teeth", "thing"] []) (g_is_bar : mg "is_bar" = some (.ref f_is_bar)) (G_is_bar : FnOk P w K mg base CX0 3 f_is_bar fd_is_bar ["passes", "teeth", "thing"] (sp_is_bar K))
    (F_is_whole : Fun K "is_whole" "is_whole" S_is_whole f_is_whole fd_is_whole) (b_is_whole : Binds K fd_is_whole ["thing"] []) (g_is_whole : mg "is_whole" = some (.ref f_is_whole)) (G_is_whole : FnOk P w K mg base CX0 1 f_is_whole fd_is_whole ["thing"] (sp_is_whole K)) (m_all : mg "all" = none) (m_isinstance : mg "isinstance" = none) (m_list : mg "list" = none) (m_len : mg "len" = none) (m_enumerate : mg "enumerate" = none)
    (TB_tells_wheel : GxR.TabB base mg cT PT) (HC_tells_wheel : fd.code = .ref cT) (tm : PT ∈ T) :
    FnOk P w K mg base CX0 5 f fd ["passes", "teeth", "marks", "bars"] (sp_tells_wheel K T) := by
  refine okC F sc_tells_wheel (fun vs H Q E h => ?_) (fun A outer s H vs Q E hr h => ?_)
  ·
    obtain ⟨a, ws, ps, v1, v2, v3, d1, d2, d3, rfl, _⟩ := h
    rfl
  ·
    obtain ⟨a, ws, ps, v1, v2, v3, d1, d2, d3, rfl, ha, hd, h1, h2, h3, ml, hTb, q⟩ := h
    refine ⟨_, (pss_cons (ps_if (PW.pt (pw_or (pt_not (pt_val (pe_call G_is_whole (hr.mono (by decide)) (by rfl) g_is_whole F_is_whole.kp b_is_whole .nil pass0 (pa_cons (pv 1) pa_nil)))) (pw_or (pt_cmpR op_lt (pv 1) pe_int (nomark _)) (pw_or (pt_not (pt_val (pe_callB (r := rIsi K) call_isi (by rfl) m_isinstance (by decide +kernel) (pa_cons (pv 3) (pa_cons (pe_bltn (v := .ty "list") (u := .type "list") (by rfl) m_list (by decide +kernel) rfl) pa_nil))))) (pw_or1 (pt_cmpR op_ne (pe_callB call_len_seq (by rfl) m_len (by decide +kernel) (pa_cons (pv 3) pa_nil)) (pe_op op_sub (pv 1) pe_int) (nomark _))))))) (pss_one (ps_ret pe_bl)) pss_nil)
      (pss_cons (ps_if (pt_not (pt_val (pe_allX (own := [("fewer", 4), ("bar", 5)]) (g := (gTup K 2 (gCons (gName 4) (gCons (gName 5) gNil)))) hr (by rfl) m_all rfl sc_tells_wheel.nd TB_tells_wheel HC_tells_wheel (pi_enumS (by rfl) m_enumerate (pa_cons (pv 3) pa_nil) (pk_cons pe_int pk_nil)) (blkOk_by (own := [("fewer", 4), ("bar", 5)]) (N := ["passes", "teeth", "marks", "bars", "fewer", "bar"]) (sc := defScope S_tells_wheel) (by decide +kernel)) (by decide +kernel) rfl (by decide +kernel) (fun _ _ _ _ _ _ _ _ => (pg_tup rfl (pgs_cons (pg_name (i := 4) sc_tells_wheel.nd rfl (Or.inl rfl)) (pgs_cons (pg_name (i := 5) sc_tells_wheel.nd rfl (Or.inl rfl)) pgs_nil)))) (fun _ _ _ _ _ _ _ _ hr => (pe_call G_is_bar (hr.mono (by decide)) (by rfl) g_is_bar F_is_bar.kp b_is_bar .nil pass0 (pa_cons (pv 0) (pa_cons (pv 4) (pa_cons (pv 5) pa_nil)))))))) (pss_one (ps_ret pe_bl)) pss_nil)
      (pss_one (ps_ret (pe_and (pe_call G_are_marks (hr.mono (by decide)) (by rfl) g_are_marks F_are_marks.kp b_are_marks .nil pass0 (pa_cons (pv 2) (pa_cons (pv 1) pa_nil))) (pe_one (pe_call G_does (hr.mono (by decide)) (by rfl) g_does F_does.kp b_does .nil pass0 (pa_cons (pv 0) (pa_cons (pv 1) (pa_cons (pv 2) pa_nil)))))))))), ?_⟩
    refine w_st (σ' := [some (.ref a), some v1, some v2, some v3, none, none]) rfl ?_
    walk_at "ct"
    refine ⟨_, _, rfl, h1, ?_⟩
    cases h1 with
    | int t =>
      rw [show isW (.int t) = true from rfl]
      walk_at "ct"
      refine w_ite (fun e => ?_) (fun e => ?_)
      · walk_at "ct"
        have z : twB ps (.int t) d2 d3 = false := twB_low e
        rw [z] at q
        exact q H (Same.refl H)
      · walk_at "ct"
        cases h3 with
        | lst hs ht =>
          rename_i b us bs
          have ul : us.length = bs.length := dpAll_len ht
          have q : ∀ H', Same H H' → Q (.bl (decide (1 ≤ t) && (decide ((bs.length : Int) = t - 1) && (barsF ps 0 bs && (areM d2 t && doesB t (marksD d2) ps))))) H' := q
          rw [decide_eq_true (show 1 ≤ t by omega), Bool.true_and] at q
          refine w_isi (b := true) (tyx_L hs) (kit_ty (by decide +kernel)) ?_
          walk_at "ct"
          refine ⟨b, us, rfl, .inl hs, ?_⟩
          walk_at "ct"
          refine w_iteN (fun ne => ?_) (fun eq => ?_)
          · rw [decide_eq_false (show ¬ (bs.length : Int) = t - 1 by omega)] at q
            walk_at "ct"
            exact q H (Same.refl H)
          · rw [decide_eq_true (show (bs.length : Int) = t - 1 by omega), Bool.true_and] at q
            walk_at "ct"
            refine w_iens ?_
            walk_at "ct"
            refine w_IES hs (by decide) (by decide) ?_
            refine gb_it (walkS us) (fun i H2 => Same H H2 ∧ barsF ps 0 bs = barsF ps i (bs.drop i)) (hTb _ tm) ⟨Same.refl _, rfl⟩ (fun i H2 _ h => h.1.seq hs) ?_ ?_
            · rintro i x H2 H3 hi ⟨s2, eb⟩ ⟨Tp, y, rfl, nT, rfl, hy⟩
              obtain ⟨bd, hbd⟩ : ∃ bd, bs[i]? = some bd := ⟨_, List.getElem?_eq_getElem (by omega)⟩
              obtain ⟨v', hv1, hdv⟩ := dpAll_get ht hbd
              cases Option.some.inj (hy.symm.trans hv1)
              have sT : Same H2 (upd H2 Tp (.tup [.int (1 + (i : Int)), y])) := same_upd nT
              have hT : (upd H2 Tp (.tup [.int (1 + (i : Int)), y])) Tp = some (.tup [.int (1 + (i : Int)), y]) := upd_same
              generalize upd H2 Tp _ = H4 at *
              have s3 := s2.trans sT
              have ed : bs.drop i = bd :: bs.drop (i + 1) := by
                rw [List.drop_eq_getElem_cons (by omega)]
                congr 1
                exact (List.getElem?_eq_some_iff.mp hbd).2
              rw [ed, barsF] at eb
              refine w_gtup (.of hT) rfl ?_
              walk_at "ct"
              refine ⟨rfl, ?_⟩
              walk_at "ct"
              refine ⟨a, ws, ps, _, y, bd, rfl, s3.seq ha, dpAll_same s3 hd, by omega, dp_same s3 hdv, ⟨_, rfl, ?_⟩⟩
              rw [show (1 : Int) + (i : Int) = ((i + 1 : Nat) : Int) by omega]
              cases e2 : isBarB ps ((i + 1 : Nat) : Int) bd with
              | false =>
                rw [e2, Bool.false_and] at eb
                rw [eb] at q
                rw [if_pos rfl]
                walk_at "ct"
                exact q H4 s3
              | true =>
                rw [e2, Bool.true_and] at eb
                rw [if_neg (by decide)]
                exact ⟨s3, eb⟩
            · rintro H2 ⟨s2, eb⟩
              rw [List.drop_eq_nil_of_le (by omega)] at eb
              rw [show barsF ps 0 bs = true from eb, Bool.true_and] at q
              walk_at "ct"
              rw [show (!(!false)) = false from rfl]
              walk_at "ct"
              refine ⟨_, _, t, rfl, dp_same s2 h2, ?_⟩
              cases ea : areM d2 t with
              | false =>
                rw [ea, Bool.false_and] at q
                walk_at "ct"
                exact q H2 s2
              | true =>
                rw [ea, Bool.true_and] at q
                obtain ⟨ms, rfl, rise, em⟩ := areM_inv ea
                rw [em] at q ml
                obtain ⟨m, mv, rfl, hm, hmd⟩ := tup_inv (dp_same s2 h2)
                cases dpAll_ints_inv ms hmd
                walk_at "ct"
                refine ⟨a, m, ws, ps, t, ms, rfl, s2.seq ha, dpAll_same s2 hd, by omega, hm, ml, fun H3 s3 => ?_⟩
                exact q H3 (s2.trans s3)
        | non =>
          refine w_isi (b := false) (.base .non) (kit_ty (by decide +kernel)) ?_
          walk_at "ct"
          exact q H (Same.refl H)
        | bl b =>
          refine w_isi (b := false) (.base (.bl b)) (kit_ty (by decide +kernel)) ?_
          walk_at "ct"
          exact q H (Same.refl H)
        | int i =>
          refine w_isi (b := false) (.base (.int i)) (kit_ty (by decide +kernel)) ?_
          walk_at "ct"
          exact q H (Same.refl H)
        | str x =>
          refine w_isi (b := false) (.base (.str x)) (kit_ty (by decide +kernel)) ?_
          walk_at "ct"
          exact q H (Same.refl H)
        | tup hs ht =>
          refine w_isi (b := false) (tyx_T hs) (kit_ty (by decide +kernel)) ?_
          walk_at "ct"
          exact q H (Same.refl H)
    | non =>
      rw [show isW .none = false from rfl]
      walk_at "ct"
      exact q H (Same.refl H)
    | bl b =>
      rw [show isW (.bool b) = false from rfl]
      walk_at "ct"
      exact q H (Same.refl H)
    | str x =>
      rw [show isW (.str x) = false from rfl]
      walk_at "ct"
      exact q H (Same.refl H)
    | lst a1 a2 =>
      rw [show isW (.list _) = false from rfl]
      walk_at "ct"
      exact q H (Same.refl H)
    | tup a1 a2 =>
      rw [show isW (.tuple _) = false from rfl]
      walk_at "ct"
      exact q H (Same.refl H)
abbrev S_tells_none : Stmt := topS 44
theorem sc_tells_none : FnScope ["passes", "j", "k"] ["passes", "j", "k"] (defScope S_tells_none) := ⟨rfl, rfl, rfl, by decide +kernel, rfl, by decide +kernel, by decide +kernel⟩
def sp_tells_none (K : PySem.W.Frag) : Sp := fun vs H Q _ => ∃ (a : Addr) (ws : List V) (ps : List Pass) (v u : V) (x y : PyData), vs = [.ref a, v, u] ∧ SqL K H a ws ∧ DpAll K H ws (ps.map passD) ∧ Dp K H v x ∧ Dp K H u y ∧ ∀ H', Same H H' → Q (.bl (tnB ps x y)) H'
theorem ok_tells_none {f : Addr} {fd : FuncData} {f_are_unlike : Addr} {fd_are_unlike : FuncData} {f_is_wrong : Addr} {fd_is_wrong : FuncData} {f_are_places : Addr} {fd_are_places : FuncData} (F : Fun K "tells_none" "tells_none" S_tells_none f fd)
    (F_are_unlike : Fun K "are_unlike" "are_unlike" S_are_unlike f_are_unlike fd_are_unlike) (b_are_unlike : Binds K fd_are_unlike ["one", "other"] []) (g_are_unlike : mg "are_unlike" = some (.ref f_are_unlike)) (G_are_unlike : FnOk P w K mg base CX0 1 f_are_unlike fd_are_unlike ["one", "other"] (sp_are_unlike K))
    (F_is_wrong : Fun K "is_wrong" "is_wrong" S_is_wrong f_is_wrong fd_is_wrong) (b_is_wrong : Binds K fd_is_wrong ["push"] []) (g_is_wrong : mg "is_wrong" = some (.ref f_is_wrong)) (G_is_wrong : FnOk P w K mg base CX0 1 f_is_wrong fd_is_wrong ["push"] (sp_is_wrong K))
    (F_are_places : Fun K "are_places" "are_places" S_are_places f_are_places fd_are_places) (b_are_places : Binds K fd_are_places ["j", "k", "passes"] []) (g_are_places : mg "are_places" = some (.ref f_are_places)) (G_are_places : FnOk P w K mg base CX0 2 f_are_places fd_are_places ["j", "k", "passes"] (sp_are_places K)) :
    FnOk P w K mg base CX0 3 f fd ["passes", "j", "k"] (sp_tells_none K) := by
  refine F.ok sc_tells_none (fun vs H Q E h => ?_) (fun cdv A outer s H vs Q E hr h => ?_)
  ·
    obtain ⟨a, ws, ps, v, u, x, y, rfl, _⟩ := h
    rfl
  ·
    obtain ⟨a, ws, ps, v, u, x, y, rfl, ha, hd, hx, hy, q⟩ := h
    refine ⟨_, (pss_cons (ps_if (pt_not (pt_val (pe_call G_are_places (hr.mono (by decide)) (by rfl) g_are_places F_are_places.kp b_are_places .nil pass0 (pa_cons (pv 1) (pa_cons (pv 2) (pa_cons (pv 0) pa_nil)))))) (pss_one (ps_ret pe_bl)) pss_nil)
      (pss_cons (ps_if (pt_cmpR op_eq (pv 1) (pv 2) (nomark _)) (pss_one (ps_ret (pe_call G_is_wrong (hr.mono (by decide)) (by rfl) g_is_wrong F_is_wrong.kp b_is_wrong .nil pass0 (pa_cons (pe_ix (r := rIxL K) ix_list (pv 0) (pv 1) (fun _ _ => rfl)) pa_nil)))) pss_nil)
      (pss_one (ps_ret (pe_and (pe_cmpR op_eq (pe_ix (r := rIxT K) ix_tup (pe_ix (r := rIxL K) ix_list (pv 0) (pv 1) (fun _ _ => rfl)) pe_int (fun _ _ => rfl)) (pe_ix (r := rIxT K) ix_tup (pe_ix (r := rIxL K) ix_list (pv 0) (pv 2) (fun _ _ => rfl)) pe_int (fun _ _ => rfl)) (nomark _)) (pe_one (pe_call G_are_unlike (hr.mono (by decide)) (by rfl) g_are_unlike F_are_unlike.kp b_are_unlike .nil pass0 (pa_cons (pe_ix (r := rIxL K) ix_list (pv 0) (pv 1) (fun _ _ => rfl)) (pa_cons (pe_ix (r := rIxL K) ix_list (pv 0) (pv 2) (fun _ _ => rfl)) pa_nil))))))))), ?_⟩
    refine w_st (σ' := [some (.ref a), some v, some u]) rfl ?_
    have wl : ws.length = ps.length := by rw [dpAll_len hd, List.length_map]
    have q : ∀ H', Same H H' → Q (.bl (plB x y ps.length && twoN x y (noneN ps))) H' := q
    walk_at "ct"
    refine ⟨v, u, x, y, a, ws, rfl, hx, hy, ha, ?_⟩
    rw [wl]
    cases hp : plB x y ps.length with
    | false =>
      rw [hp] at q
      walk_at "ct"
      exact q H (Same.refl H)
    | true =>
      rw [hp] at q
      obtain ⟨j, k, rfl, rfl, jk, kn⟩ := plB_inv hp
      cases hx
      cases hy
      have q : ∀ H', Same H H' → Q (.bl (noneN ps j k)) H' := q
      obtain ⟨p, hpj⟩ : ∃ p, ps[j]? = some p := ⟨_, List.getElem?_eq_getElem (by omega)⟩
      obtain ⟨r, hrk⟩ : ∃ r, ps[k]? = some r := ⟨_, List.getElem?_eq_getElem kn⟩
      obtain ⟨vj, hvj, hdj⟩ := dpAll_get hd (i := j) (d := passD p) (by rw [List.getElem?_map, hpj]; rfl)
      obtain ⟨vk, hvk, hdk⟩ := dpAll_get hd (i := k) (d := passD r) (by rw [List.getElem?_map, hrk]; rfl)
      obtain ⟨gj, rfl, hgj⟩ := pass_inv hdj
      obtain ⟨gk, rfl, hgk⟩ := pass_inv hdk
      unfold noneN at q
      rw [hpj, hrk] at q
      have q : ∀ H', Same H H' → Q (.bl (if j = k then wrongB p else (decide (p.2.1 = r.2.1) && unlk p r))) H' := q
      walk_at "ct"
      refine w_ite (fun e => ?_) (fun e => ?_)
      · rw [if_pos (show j = k by omega)] at q
        walk_at "ct"
        refine w_ixL ha (at_of (j := j) rfl hvj) ?_
        walk_at "ct"
        refine ⟨_, p, rfl, hdj, fun H1 s1 => ?_⟩
        exact q H1 s1
      · rw [if_neg (show ¬ j = k by omega)] at q
        walk_at "ct"
        refine w_ixL ha (at_of (j := j) rfl hvj) ?_
        walk_at "ct"
        refine w_ixL ha (at_of (j := k) rfl hvk) ?_
        walk_at "ct"
        refine w_ite (fun e1 => ?_) (fun e1 => ?_)
        · rw [decide_eq_true e1] at q
          walk_at "ct"
          refine w_ixL ha (at_of (j := j) rfl hvj) ?_
          walk_at "ct"
          refine w_ixL ha (at_of (j := k) rfl hvk) ?_
          walk_at "ct"
          exact ⟨_, _, p, r, rfl, hdj, hdk, q H (Same.refl H)⟩
        · rw [decide_eq_false e1] at q
          exact q H (Same.refl H)
abbrev S_is_right : Stmt := topS 45
theorem sc_is_right : FnScope ["passes", "thing"] ["passes", "thing"] (defScope S_is_right) := ⟨rfl, rfl, rfl, by decide +kernel, rfl, by decide +kernel, by decide +kernel⟩
def sp_is_right (K : PySem.W.Frag) (T : List Addr) : Sp := fun vs H Q _ => ∃ (a : Addr) (ws : List V) (ps : List Pass) (v : V) (d : PyData), vs = [.ref a, v] ∧ SqL K H a ws ∧ DpAll K H ws (ps.map passD) ∧ Dp K H v d ∧ d.canLay0 = true ∧ d.depth ≤ 60 ∧ (∀ w x y z, d = .tuple [w, x, y, z] → (marksD y).length ≤ 4000) ∧ Tb T H ∧ ∀ H', Same H H' → Q (.bl (rightB ps d)) H'
theorem ok_is_right {f : Addr} {fd : FuncData} {f_tells_none : Addr} {fd_tells_none : FuncData} {f_tells_wheel : Addr} {fd_tells_wheel : FuncData} {T : List Addr} (F : Fun K "is_right" "is_right" S_is_right f fd)
    (F_tells_none : Fun K "tells_none" "tells_none" S_tells_none f_tells_none fd_tells_none) (b_tells_none : Binds K fd_tells_none ["passes", "j", "k"] []) (g_tells_none : mg "tells_none" = some (.ref f_tells_none)) (G_tells_none : FnOk P w K mg base CX0 3 f_tells_none fd_tells_none ["passes", "j", "k"] (sp_tells_none K))
    (F_tells_wheel : Fun K "tells_wheel" "tells_wheel" S_tells_wheel f_tells_wheel fd_tells_wheel) (b_tells_wheel : Binds K fd_tells_wheel ["passes", "teeth", "marks", "bars"] []) (g_tells_wheel : mg "tells_wheel" = some (.ref f_tells_wheel)) (G_tells_wheel : FnOk P w K mg base CX0 5 f_tells_wheel fd_tells_wheel ["passes", "teeth", "marks", "bars"] (sp_tells_wheel K T)) (m_isinstance : mg "isinstance" = none) (m_tuple : mg "tuple" = none) (m_len : mg "len" = none) :
    FnOk P w K mg base CX0 6 f fd ["passes", "thing"] (sp_is_right K T) := by
  refine F.ok sc_is_right (fun vs H Q E h => ?_) (fun cdv A outer s H vs Q E hr h => ?_)
  ·
    obtain ⟨a, ws, ps, v, d, rfl, _⟩ := h
    rfl
  ·
    obtain ⟨a, ws, ps, v, d, rfl, ha, hd, hv, lay, dep, ml, hTb, q⟩ := h
    refine ⟨_, (pss_cons (ps_if (pt_not (pt_val (pe_callB (r := rIsi K) call_isi (by rfl) m_isinstance (by decide +kernel) (pa_cons (pv 1) (pa_cons (pe_bltn (v := .ty "tuple") (u := .type "tuple") (by rfl) m_tuple (by decide +kernel) rfl) pa_nil))))) (pss_one (ps_ret pe_bl)) pss_nil)
      (pss_cons (ps_if (PW.pt (pw_and (pt_cmpR op_eq (pe_callB call_len_seq (by rfl) m_len (by decide +kernel) (pa_cons (pv 1) pa_nil)) pe_int (nomark _)) (pw_and1 (pt_cmpR (r := rEqD K) (op_eqD hr.units) (pe_ix (r := rIxT K) ix_tup (pv 1) pe_int (fun _ _ => rfl)) pe_str (nomark _))))) (pss_one (ps_ret (pe_call G_tells_wheel (hr.mono (by decide)) (by rfl) g_tells_wheel F_tells_wheel.kp b_tells_wheel .nil pass0 (pa_cons (pv 0) (pa_cons (pe_ix (r := rIxT K) ix_tup (pv 1) pe_int (fun _ _ => rfl)) (pa_cons (pe_ix (r := rIxT K) ix_tup (pv 1) pe_int (fun _ _ => rfl)) (pa_cons (pe_ix (r := rIxT K) ix_tup (pv 1) pe_int (fun _ _ => rfl)) pa_nil))))))) pss_nil)
      (pss_one (ps_ret (pe_and (pe_cmpR op_eq (pe_callB call_len_seq (by rfl) m_len (by decide +kernel) (pa_cons (pv 1) pa_nil)) pe_int (nomark _)) (pe_and (pe_cmpR (r := rEqD K) (op_eqD hr.units) (pe_ix (r := rIxT K) ix_tup (pv 1) pe_int (fun _ _ => rfl)) pe_str (nomark _)) (pe_one (pe_call G_tells_none (hr.mono (by decide)) (by rfl) g_tells_none F_tells_none.kp b_tells_none .nil pass0 (pa_cons (pv 0) (pa_cons (pe_ix (r := rIxT K) ix_tup (pv 1) pe_int (fun _ _ => rfl)) (pa_cons (pe_ix (r := rIxT K) ix_tup (pv 1) pe_int (fun _ _ => rfl)) pa_nil))))))))))), ?_⟩
    refine w_st (σ' := [some (.ref a), some v]) rfl ?_
    walk_at "ct"
    cases hv with
    | non =>
      refine w_isi (b := false) (.base .non) (kit_ty (by decide +kernel)) ?_
      walk_at "ct"
      exact q H (Same.refl H)
    | bl b =>
      refine w_isi (b := false) (.base (.bl b)) (kit_ty (by decide +kernel)) ?_
      walk_at "ct"
      exact q H (Same.refl H)
    | int i =>
      refine w_isi (b := false) (.base (.int i)) (kit_ty (by decide +kernel)) ?_
      walk_at "ct"
      exact q H (Same.refl H)
    | str x =>
      refine w_isi (b := false) (.base (.str x)) (kit_ty (by decide +kernel)) ?_
      walk_at "ct"
      exact q H (Same.refl H)
    | lst hs ht =>
      refine w_isi (b := false) (tyx_L hs) (kit_ty (by decide +kernel)) ?_
      walk_at "ct"
      exact q H (Same.refl H)
    | tup hs ht =>
      refine w_isi (b := true) (tyx_T hs) (kit_ty (by decide +kernel)) ?_
      have lays := lay_ins (n := 60) (show PyData.canLayAll0 _ = true from lay) (by
        have : PyData.depthAll _ + 1 ≤ 60 := dep
        omega)
      walk_at "ct"
      refine ⟨_, _, rfl, .inr hs, ?_⟩
      cases ht with
      | nil =>
        walk_at "ct"
        refine w_ite (fun e => absurd e (by decide)) (fun _ => ?_)
        walk_at "ct"
        refine ⟨_, _, rfl, .inr hs, ?_⟩
        walk_at "ct"
        refine w_ite (fun e => absurd e (by decide)) (fun _ => ?_)
        exact q H (Same.refl H)
      | cons h1 t1 =>
        cases t1 with
        | nil =>
          walk_at "ct"
          refine w_ite (fun e => absurd e (by simp)) (fun _ => ?_)
          walk_at "ct"
          refine ⟨_, _, rfl, .inr hs, ?_⟩
          walk_at "ct"
          refine w_ite (fun e => absurd e (by simp)) (fun _ => ?_)
          exact q H (Same.refl H)
        | cons h2 t2 =>
          cases t2 with
          | nil =>
            walk_at "ct"
            refine w_ite (fun e => absurd e (by simp)) (fun _ => ?_)
            walk_at "ct"
            refine ⟨_, _, rfl, .inr hs, ?_⟩
            walk_at "ct"
            refine w_ite (fun e => absurd e (by simp)) (fun _ => ?_)
            exact q H (Same.refl H)
          | cons h3 t3 =>
            cases t3 with
            | nil =>
              rename_i v1 w v2 x v3 y
              have q : ∀ H', Same H H' → Q (.bl (PyData.eqv w (.str "none") && tnB ps x y)) H' := q
              walk_at "ct"
              refine w_ite (fun e => absurd e (by simp)) (fun _ => ?_)
              walk_at "ct"
              refine ⟨_, _, rfl, .inr hs, ?_⟩
              walk_at "ct"
              refine w_ite (fun _ => ?_) (fun e => absurd rfl e)
              walk_at "ct"
              refine ⟨w, .str "none", h1, .str _, shaped_of (lays w List.mem_cons_self) (by decide), by decide +kernel, ?_⟩
              cases e : PyData.eqv w (.str "none") with
              | false =>
                rw [e] at q
                walk_at "ct"
                exact q H (Same.refl H)
              | true =>
                rw [e] at q
                walk_at "ct"
                exact ⟨a, ws, ps, v2, v3, x, y, rfl, ha, hd, h2, h3, q⟩
            | cons h4 t4 =>
              cases t4 with
              | nil =>
                rename_i v1 w v2 x v3 y v4 z
                have q : ∀ H', Same H H' → Q (.bl (PyData.eqv w (.str "wheel") && twB ps x y z)) H' := q
                walk_at "ct"
                refine w_ite (fun _ => ?_) (fun e => absurd rfl e)
                walk_at "ct"
                refine ⟨w, .str "wheel", h1, .str _, shaped_of (lays w List.mem_cons_self) (by decide), by decide +kernel, ?_⟩
                cases e : PyData.eqv w (.str "wheel") with
                | false =>
                  rw [e] at q
                  walk_at "ct"
                  refine ⟨_, _, rfl, .inr hs, ?_⟩
                  walk_at "ct"
                  refine w_ite (fun e => absurd e (by simp)) (fun _ => ?_)
                  exact q H (Same.refl H)
                | true =>
                  rw [e] at q
                  walk_at "ct"
                  exact ⟨a, ws, ps, v2, v3, v4, x, y, z, rfl, ha, hd, h2, h3, h4, ml w x y z rfl, hTb, q⟩
              | cons h5 t5 =>
                walk_at "ct"
                refine w_ite (fun e => absurd e (by simp only [List.length_cons]; omega)) (fun _ => ?_)
                walk_at "ct"
                refine ⟨_, _, rfl, .inr hs, ?_⟩
                walk_at "ct"
                refine w_ite (fun e => absurd e (by simp only [List.length_cons]; omega)) (fun _ => ?_)
                exact q H (Same.refl H)
abbrev S_is_smallest : Stmt := topS 46
theorem sc_is_smallest : FnScope ["shows", "thing"] ["shows", "thing"] (defScope S_is_smallest) := ⟨rfl, rfl, rfl, by decide +kernel, rfl, by decide +kernel, by decide +kernel⟩
def sp_is_smallest (K : PySem.W.Frag) (T : List Addr) (c_NoRow : Addr) : Sp := fun vs H Q E => ∃ (v y : V) (d g : PyData), vs = [v, y] ∧ Dp K H v d ∧ Dp K H y g ∧ g.canLay0 = true ∧ g.depth ≤ 60 ∧ (∀ w x y z, g = .tuple [w, x, y, z] → (marksD y).length ≤ 4000) ∧ Tb T H ∧ ((isShows d = false ∧ ∀ H', Same H H' → E (.ref c_NoRow) none H') ∨ ∃ ss : List (Int × Int), d = .list (ss.map sh2D) ∧ (∀ s ∈ ss, Sh2Ok s) ∧ ss.length ≤ 1000 ∧ ∀ v H', Same H H' → Q v H')
theorem ok_is_smallest {f : Addr} {fd : FuncData} {f_passes_alone : Addr} {fd_passes_alone : FuncData} {f_is_right : Addr} {fd_is_right : FuncData} {c_NoRow : Addr} {T : List Addr} (F : Fun K "is_smallest" "is_smallest" S_is_smallest f fd)
    (F_passes_alone : Fun K "passes_alone" "passes_alone" S_passes_alone f_passes_alone fd_passes_alone) (b_passes_alone : Binds K fd_passes_alone ["shows"] []) (g_passes_alone : mg "passes_alone" = some (.ref f_passes_alone)) (G_passes_alone : FnOk P w K mg base (L2.CX P w) 6 f_passes_alone fd_passes_alone ["shows"] (sp_passes_alone K T c_NoRow))
    (F_is_right : Fun K "is_right" "is_right" S_is_right f_is_right fd_is_right) (b_is_right : Binds K fd_is_right ["passes", "thing"] []) (g_is_right : mg "is_right" = some (.ref f_is_right)) (G_is_right : FnOk P w K mg base CX0 6 f_is_right fd_is_right ["passes", "thing"] (sp_is_right K T)) :
    FnOk P w K mg base (L2.CX P w) 7 f fd ["shows", "thing"] (sp_is_smallest K T c_NoRow) := by
  refine F.okX sc_is_smallest (fun vs H Q E h => ?_) (fun cdv A outer s H vs Q E hr h => ?_)
  ·
    obtain ⟨v, y, d, g, rfl, _⟩ := h
    rfl
  ·
    obtain ⟨v, y, d, g, rfl, hd, hy, lay, dep, ml, hTb, h⟩ := h
    refine ⟨_, (pss_one (ps_ret (pe_call G_is_right (hr.mono (by decide)) (by rfl) g_is_right F_is_right.kp b_is_right .nil pass0 (pa_cons (pe_call (E := E) G_passes_alone (hr.mono (by decide)) (by rfl) g_passes_alone F_passes_alone.kp b_passes_alone .nil (passes_call (takes_of rfl rfl rfl rfl) fun _ _ _ _ h => h) (pa_cons (pv 0) pa_nil)) (pa_cons (pv 1) pa_nil))))), ?_⟩
    refine w_st (σ' := [some v, some y]) rfl ?_
    walk_at "ct"
    refine ⟨v, d, rfl, hd, hTb, ?_⟩
    rcases h with ⟨bad, qF⟩ | ⟨ss, rfl, oks, sl, q⟩
    · exact .inl ⟨bad, qF⟩
    refine .inr ⟨ss, rfl, oks, sl, fun l us H1 s1 nl hl hu => ?_⟩
    walk_at "ct"
    exact ⟨l, us, _, y, g, rfl, .of hl, hu, dp_same s1 hy, lay, dep, ml, hTb.same s1, fun H2 s2 => q _ H2 (s1.trans s2)⟩
abbrev S_is_smallest_behind : Stmt := topS 47
theorem sc_is_smallest_behind : FnScope ["train", "stand", "shows", "thing"] ["train", "stand", "shows", "thing"] (defScope S_is_smallest_behind) := ⟨rfl, rfl, rfl, by decide +kernel, rfl, by decide +kernel, by decide +kernel⟩
def sp_is_smallest_behind (K : PySem.W.Frag) (T : List Addr) (c_NoTrain : Addr) (c_NoStand : Addr) (c_NoRow : Addr) : Sp := fun vs H Q E => ∃ (v t u y : V) (d e f g : PyData), vs = [v, t, u, y] ∧ Dp K H v d ∧ Dp K H t e ∧ Dp K H u f ∧ Dp K H y g ∧ g.canLay0 = true ∧ g.depth ≤ 60 ∧ (∀ w x y z, g = .tuple [w, x, y, z] → (marksD y).length ≤ 4000) ∧ Fine d 30 600 ∧ Tb T H ∧
  AskS d e f (∀ H', Same H H' → E (.ref c_NoTrain) none H') (∀ H', Same H H' → E (.ref c_NoStand) none H') (∀ H', Same H H' → E (.ref c_NoRow) none H') (fun _ _ _ => ∀ v H', Same H H' → Q v H')
theorem ok_is_smallest_behind {f : Addr} {fd : FuncData} {f_passes_behind : Addr} {fd_passes_behind : FuncData} {f_is_right : Addr} {fd_is_right : FuncData} {c_NoTrain : Addr} {c_NoStand : Addr} {c_NoRow : Addr} {T : List Addr} (F : Fun K "is_smallest_behind" "is_smallest_behind" S_is_smallest_behind f fd)
    (F_passes_behind : Fun K "passes_behind" "passes_behind" S_passes_behind f_passes_behind fd_passes_behind) (b_passes_behind : Binds K fd_passes_behind ["train", "stand", "shows"] []) (g_passes_behind : mg "passes_behind" = some (.ref f_passes_behind)) (G_passes_behind : FnOk P w K mg base (L2.CX P w) 8 f_passes_behind fd_passes_behind ["train", "stand", "shows"] (sp_passes_behind K T c_NoTrain c_NoStand c_NoRow))
    (F_is_right : Fun K "is_right" "is_right" S_is_right f_is_right fd_is_right) (b_is_right : Binds K fd_is_right ["passes", "thing"] []) (g_is_right : mg "is_right" = some (.ref f_is_right)) (G_is_right : FnOk P w K mg base CX0 6 f_is_right fd_is_right ["passes", "thing"] (sp_is_right K T)) :
    FnOk P w K mg base (L2.CX P w) 9 f fd ["train", "stand", "shows", "thing"] (sp_is_smallest_behind K T c_NoTrain c_NoStand c_NoRow) := by
  refine F.okX sc_is_smallest_behind (fun vs H Q E h => ?_) (fun cdv A outer s H vs Q E hr h => ?_)
  ·
    obtain ⟨v, t, u, y, d, e, f, g, rfl, _⟩ := h
    rfl
  ·
    obtain ⟨v, t, u, y, d, e, f, g, rfl, hd, he, hf, hy, lay, dep, ml, fine, hTb, ask⟩ := h
    refine ⟨_, (pss_one (ps_ret (pe_call G_is_right (hr.mono (by decide)) (by rfl) g_is_right F_is_right.kp b_is_right .nil pass0 (pa_cons (pe_call (E := E) G_passes_behind (hr.mono (by decide)) (by rfl) g_passes_behind F_passes_behind.kp b_passes_behind .nil (passes_call (takes_of rfl rfl rfl rfl) fun _ _ _ _ h => h) (pa_cons (pv 0) (pa_cons (pv 1) (pa_cons (pv 2) pa_nil)))) (pa_cons (pv 3) pa_nil))))), ?_⟩
    refine w_st (σ' := [some v, some t, some u, some y]) rfl ?_
    walk_at "ct"
    refine ⟨v, t, u, d, e, f, rfl, hd, he, hf, fine, hTb, ?_⟩
    rcases ask with h | ⟨ps, hp, c, hok, l1, l2, h | ⟨xs, hx, c2, hso, h | ⟨ss, hs, oks, sl, q⟩⟩⟩
    · exact .inl h
    · exact .inr ⟨ps, hp, c, hok, l1, l2, .inl h⟩
    · exact .inr ⟨ps, hp, c, hok, l1, l2, .inr ⟨xs, hx, c2, hso, .inl h⟩⟩
    refine .inr ⟨ps, hp, c, hok, l1, l2, .inr ⟨xs, hx, c2, hso, .inr ⟨ss, hs, oks, sl, fun l us H1 s1 nl hl hu => ?_⟩⟩⟩
    walk_at "ct"
    exact ⟨l, us, _, y, g, rfl, .of hl, hu, dp_same s1 hy, lay, dep, ml, hTb.same s1, fun H2 s2 => q _ H2 (s1.trans s2)⟩
abbrev S_teeth_of : Stmt := topS 48
theorem sc_teeth_of : FnScope ["shows", "most", "passes", "teeth", "push"] ["shows", "most"] (defScope S_teeth_of) := ⟨rfl, rfl, rfl, by decide +kernel, rfl, by decide +kernel, by decide +kernel⟩
def sp_teeth_of (K : PySem.W.Frag) (T : List Addr) (c_NoRow : Addr) (c_NoCount : Addr) : Sp := fun vs H Q E => ∃ (v u : V) (d m : PyData), vs = [v, u] ∧ Dp K H v d ∧ Dp K H u m ∧ Tb T H ∧ ((isShows d = false ∧ ∀ H', Same H H' → E (.ref c_NoRow) none H') ∨ ∃ ss : List (Int × Int), d = .list (ss.map sh2D) ∧ (∀ s ∈ ss, Sh2Ok s) ∧ ss.length ≤ 1000 ∧
  ((isMost m = false ∧ ∀ H', Same H H' → E (.ref c_NoCount) none H') ∨ ∃ most : Nat, m = .int (most : Int) ∧ 1 ≤ most ∧ most ≤ 200 ∧ ∀ l H', Same H H' → H l = none → H' l = some (.lst ((teethB (passF 0 ss) most).map V.int)) → Q (.ref l) H'))
theorem ok_teeth_of {f : Addr} {fd : FuncData} {f_first_clash : Addr} {fd_first_clash : FuncData} {f_is_wrong : Addr} {fd_is_wrong : FuncData} {f_is_whole : Addr} {fd_is_whole : FuncData} {f_passes_alone : Addr} {fd_passes_alone : FuncData} {c_NoCount : Addr} {c_NoRow : Addr} {tk_MOST_TEETH : Tok} {T : List Addr} {cT PT : Addr} (F : Fun K "teeth_of" "teeth_of" S_teeth_of f fd)
    (F_first_clash : Fun K "first_clash" "first_clash" S_first_clash f_first_clash fd_first_clash) (b_first_clash : Binds K fd_first_clash ["passes", "teeth"] []) (g_first_clash : mg "first_clash" = some (.ref f_first_clash)) (G_first_clash : FnOk P w K mg base CX0 2 f_first_clash fd_first_clash ["passes", "teeth"] (sp_first_clash K))
    (F_is_wrong : Fun K "is_wrong" "is_wrong" S_is_wrong f_is_wrong fd_is_wrong) (b_is_wrong : Binds K fd_is_wrong ["push"] []) (g_is_wrong : mg "is_wrong" = some (.ref f_is_wrong)) (G_is_wrong : FnOk P w K mg base CX0 1 f_is_wrong fd_is_wrong ["push"] (sp_is_wrong K))
    (F_is_whole : Fun K "is_whole" "is_whole" S_is_whole f_is_whole fd_is_whole) (b_is_whole : Binds K fd_is_whole ["thing"] []) (g_is_whole : mg "is_whole" = some (.ref f_is_whole)) (G_is_whole : FnOk P w K mg base CX0 1 f_is_whole fd_is_whole ["thing"] (sp_is_whole K))
    (F_passes_alone : Fun K "passes_alone" "passes_alone" S_passes_alone f_passes_alone fd_passes_alone) (b_passes_alone : Binds K fd_passes_alone ["shows"] []) (g_passes_alone : mg "passes_alone" = some (.ref f_passes_alone)) (G_passes_alone : FnOk P w K mg base (L2.CX P w) 6 f_passes_alone fd_passes_alone ["shows"] (sp_passes_alone K T c_NoRow)) (m_any : mg "any" = none) (m_range : mg "range" = none)
    (g_NoCount : mg "NoCount" = some (.ref c_NoCount)) (E_NoCount : ErrC K mg "NoCount" c_NoCount) (g_MOST_TEETH : mg "MOST_TEETH" = some (.int 200 tk_MOST_TEETH))
    (TB_teeth_of : GxR.TabB base mg cT PT) (HC_teeth_of : fd.code = .ref cT) (tm : PT ∈ T) :
    FnOk P w K mg base (L2.CX P w) 8 f fd ["shows", "most"] (sp_teeth_of K T c_NoRow c_NoCount) := by
  refine okXC F sc_teeth_of (fun vs H Q E h => ?_) (fun A outer s H vs Q E hr h => ?_)
  ·
    obtain ⟨v, u, d, m, rfl, _⟩ := h
    rfl
  ·
    obtain ⟨v, u, d, m, rfl, hd, hm, hTb, h⟩ := h
    refine ⟨_, (pss_cons (ps_set (i := 2) sc_teeth_of.nd rfl (.inr rfl) (pe_call (E := E) G_passes_alone (hr.mono (by decide)) (by rfl) g_passes_alone F_passes_alone.kp b_passes_alone .nil (passes_call (takes_of rfl rfl rfl rfl) fun _ _ _ _ h => h) (pa_cons (pv 0) pa_nil)))
      (pss_cons (ps_if (PW.pt (pw_or (pt_not (pt_val (pe_call G_is_whole (hr.mono (by decide)) (by rfl) g_is_whole F_is_whole.kp b_is_whole .nil pass0 (pa_cons (pv 1) pa_nil)))) (pw_or (pt_cmpR op_lt (pv 1) pe_int (nomark _)) (pw_or1 (pt_cmpR op_gt (pv 1) (pe_glob (v := .int 200) (by rfl) g_MOST_TEETH ⟨_, rfl⟩) (nomark _)))))) (pss_one (ps_raiseC (C := c_NoCount) rfl (takes_of rfl rfl rfl rfl) E_NoCount (by rfl))) pss_nil)
      (pss_cons (ps_if (pt_val (pe_anyX (own := [("push", 4)]) (g := (gName 4)) hr (by rfl) m_any rfl sc_teeth_of.nd TB_teeth_of HC_teeth_of (pi_list (pv 2)) (blkOk_by (own := [("push", 4)]) (N := ["shows", "most", "passes", "teeth", "push"]) (sc := defScope S_teeth_of) (by decide +kernel)) (by decide +kernel) rfl (by decide +kernel) (fun _ _ _ _ _ _ _ _ => (pg_name (i := 4) sc_teeth_of.nd rfl (Or.inl rfl))) (fun _ _ _ _ _ _ _ _ hr => (pe_call G_is_wrong (hr.mono (by decide)) (by rfl) g_is_wrong F_is_wrong.kp b_is_wrong .nil pass0 (pa_cons (pv 4) pa_nil))))) (pss_one (ps_ret (pe_lst pa_nil))) pss_nil)
      (pss_one (ps_ret (pe_lc (own := [("teeth", 3)]) (g := gName 3)  rfl sc_teeth_of.nd  (pi_range2 (by rfl) m_range (pa_cons pe_int (pa_cons (pe_op op_add (pv 1) pe_int) pa_nil))) (blkOk_by (own := [("teeth", 3)]) (N := ["shows", "most", "passes", "teeth", "push"]) (sc := defScope S_teeth_of) (by decide +kernel)) (fun _ _ _ _ _ => pg_name (i := 3) sc_teeth_of.nd rfl (Or.inl rfl)) (fun _ _ _ _ _ => (pts_one (pt_cmpR op_isN (pe_call G_first_clash (hr.mono (by decide)) (by rfl) g_first_clash F_first_clash.kp b_first_clash .nil pass0 (pa_cons (pv 2) (pa_cons (pv 3) pa_nil))) pe_non (nomark _)))) (fun _ _ _ _ _ => (pv 3)))))))), ?_⟩
    refine w_st (σ' := [some v, some u, none, none, none]) rfl ?_
    walk_at "ct"
    refine ⟨v, d, rfl, hd, hTb, ?_⟩
    rcases h with ⟨bad, qF⟩ | ⟨ss, rfl, oks, sl, h⟩
    · exact .inl ⟨bad, qF⟩
    refine .inr ⟨ss, rfl, oks, sl, fun l us H1 s1 nl hl hu => ?_⟩
    rcases h with ⟨bad, qF⟩ | ⟨most, rfl, m1, m2, q⟩
    · walk_at "ct"
      refine ⟨_, _, rfl, dp_same s1 hm, ?_⟩
      cases hm with
      | int i =>
        rw [show isW (.int i) = true from rfl]
        walk_at "ct"
        refine w_ite (fun _ => ?_) (fun e1 => ?_)
        · walk_at "ct"
          exact qF H1 s1
        · walk_at "ct"
          refine w_ite (fun _ => ?_) (fun e2 => ?_)
          · walk_at "ct"
            exact qF H1 s1
          · have z : isMost (.int i) = true := by
              show (decide (1 ≤ i) && decide (i ≤ 200)) = true
              rw [decide_eq_true (by omega), decide_eq_true (by omega)]
              rfl
            rw [bad] at z
            cases z
      | non =>
        rw [show isW .none = false from rfl]
        walk_at "ct"
        exact qF H1 s1
      | bl b =>
        rw [show isW (.bool b) = false from rfl]
        walk_at "ct"
        exact qF H1 s1
      | str x =>
        rw [show isW (.str x) = false from rfl]
        walk_at "ct"
        exact qF H1 s1
      | lst a1 a2 =>
        rw [show isW (.list _) = false from rfl]
        walk_at "ct"
        exact qF H1 s1
      | tup a1 a2 =>
        rw [show isW (.tuple _) = false from rfl]
        walk_at "ct"
        exact qF H1 s1
    cases hm
    rw [passN_F] at hu
    obtain ⟨ps, hps⟩ : ∃ ps, ps = passF 0 ss := ⟨_, rfl⟩
    rw [← hps] at hu q
    have pl : ps.length ≤ 1000 := by rw [hps, passF_len]; exact sl
    have ul : us.length = ps.length := by rw [dpAll_len hu, List.length_map]
    walk_at "ct"
    refine ⟨_, _, rfl, .int _, ?_⟩
    rw [show isW (PyData.int (most : Int)) = true from rfl]
    walk_at "ct"
    refine w_ite (fun z => absurd z (by omega)) (fun _ => ?_)
    walk_at "ct"
    refine w_ite (fun z => absurd z (by omega)) (fun _ => ?_)
    walk_at "ct"
    refine w_IL (.of hl) ?_
    refine gb_list us (fun i H2 => Same H1 H2 ∧ (ps.take i).any wrongB = false) ((hTb.same s1) _ tm) ⟨Same.refl _, rfl⟩ (fun i H2 _ s2 => .of (s2.1 _ _ hl)) ?_ ?_
    · rintro i x H2 hx ⟨s2, h2⟩
      have hi : i < us.length := (List.getElem?_eq_some_iff.mp hx).1
      obtain ⟨p, hp⟩ : ∃ p, ps[i]? = some p := ⟨_, List.getElem?_eq_getElem (by omega)⟩
      obtain ⟨v', hv1, hd1⟩ := dpAll_get hu (i := i) (d := passD p) (by rw [List.getElem?_map, hp]; rfl)
      cases Option.some.inj (hx.symm.trans hv1)
      walk_at "ct"
      refine ⟨rfl, ?_⟩
      walk_at "ct"
      refine ⟨x, p, rfl, dp_same s2 hd1, fun H3 s3 => ⟨_, rfl, ?_⟩⟩
      have ew : (!(decide (p.2.2 = p.1) || decide (p.2.2 = 0))) = wrongB p := rfl
      rw [ew]
      cases e : wrongB p with
      | true =>
        rw [if_pos rfl]
        walk_at "ct"
        refine ⟨len2 rfl, fun r nr => ?_⟩
        have s4 := (s1.trans s2).trans s3
        refine q r _ (s4.trans (same_upd nr)) (s4.free nr) ?_
        rw [upd_same]
        have : ps.any wrongB = true := List.any_eq_true.mpr ⟨p, List.mem_of_getElem? hp, e⟩
        unfold teethB
        rw [this, if_pos rfl]
        rfl
      | false =>
        rw [if_neg (by decide)]
        refine ⟨s2.trans s3, ?_⟩
        rw [List.take_add_one, hp, Option.toList_some, List.any_append, h2, List.any_cons, e]
        rfl
    · rintro H2 ⟨s2, h2⟩
      rw [List.take_of_length_le (by omega)] at h2
      have eT : teethB ps most = ((List.range most).map fun (i : Nat) => ((i + 1 : Nat) : Int)).filter fun t => freeB ps t := by
        unfold teethB
        rw [h2, if_neg (by decide)]
      walk_at "ct"
      refine w_RG2 (by omega) (by omega) (by omega) (by omega) ?_
      rw [show ((most : Int) + 1 - 1).toNat = most by omega]
      have s12 := s1.trans s2
      refine lb_range (fun D n G => Same H2 G ∧ ∃ ns : List Int, G D = some (.lst (ns.map V.int)) ∧ ns.length ≤ n ∧ ns = ((List.range n).map fun (i : Nat) => ((i + 1 : Nat) : Int)).filter fun t => freeB ps t) (fun D hD => ⟨same_upd hD, [], upd_same, Nat.le_refl _, rfl⟩) ?_ ?_
      · rintro D hD n G hn ⟨sG, ns, hG, nl2, en⟩
        rw [show (1 : Int) + (n : Int) = ((n + 1 : Nat) : Int) by omega]
        have tk : ((List.range (n + 1)).map fun (i : Nat) => ((i + 1 : Nat) : Int)).filter (fun t => freeB ps t) = ns ++ (if freeB ps ((n + 1 : Nat) : Int) = true then [((n + 1 : Nat) : Int)] else []) := by
          rw [List.range_succ, List.map_append, List.filter_append, ← en]
          congr 1
          show List.filter (fun t => freeB ps t) [((n + 1 : Nat) : Int)] = _
          by_cases e : freeB ps ((n + 1 : Nat) : Int) = true
          · rw [if_pos e, List.filter_cons_of_pos (p := fun t => freeB ps t) e, List.filter_nil]
          · rw [if_neg e, List.filter_cons_of_neg (p := fun t => freeB ps t) e, List.filter_nil]
        walk_at "ct"
        refine ⟨rfl, ?_⟩
        walk_at "ct"
        refine ⟨l, us, ps, ((n + 1 : Nat) : Int), rfl, .of ((s2.trans sG) _ _ hl), dpAll_same (s2.trans sG) hu, by omega, pl, fun free H3 s3 => ?_, fun j k cl g H3 s3 ng hg => ?_⟩
        · walk_at "ct"
          refine ⟨rfl, ?_⟩
          walk_at "ct"
          refine w_ite (fun _ => ?_) (fun z => absurd rfl z)
          walk_at "ct"
          refine ⟨_, s3 _ _ hG, by rw [List.length_map]; exact small1000 (by omega), same_new (sG.trans s3) hD, ns ++ [((n + 1 : Nat) : Int)], by rw [upd_same, List.map_append]; rfl, by rw [List.length_append]; show ns.length + 1 ≤ n + 1; omega, ?_⟩
          rw [tk, if_pos (freeB_iff.mpr free)]
        · walk_at "ct"
          refine ⟨rfl, ?_⟩
          walk_at "ct"
          refine w_ite (fun z => nomatch z) (fun _ => ?_)
          refine ⟨sG.trans s3, ns, s3 _ _ hG, by omega, ?_⟩
          rw [tk, if_neg (by rw [cl.not]; decide), List.append_nil]
      · rintro D hD G ⟨sG, ns, hG, _, en⟩
        rw [← eT] at en
        rw [en] at hG
        exact q D G (s12.trans sG) (s12.free hD) hG
abbrev S__law_draws : Stmt := topS 50
theorem sc__law_draws : FnScope ["_law_cell"] ["_law_cell"] (defScope S__law_draws) := ⟨rfl, rfl, rfl, by decide +kernel, rfl, by decide +kernel, by decide +kernel⟩
def sp__law_draws (K : PySem.W.Frag) : Sp := fun vs H Q _ => ∃ c : Int, vs = [.int c] ∧ ∀ D H', Same H H' → H D = none → H' D = some (DrO D 0) → Q (.ref D) H'
theorem ok__law_draws {f : Addr} {fd : FuncData} (F : Fun K "_law_draws" "_law_draws" S__law_draws f fd) :
    FnOk P w K mg base CX0 1 f fd ["_law_cell"] (sp__law_draws K) := by
  refine F.ok sc__law_draws (fun vs H Q E h => ?_) (fun cdv A outer s H vs Q E hr h => ?_)
  ·
    obtain ⟨c, rfl, _⟩ := h
    rfl
  ·
    obtain ⟨c, rfl, q⟩ := h
    refine ⟨_, (pss_cons (ps_if (pt_cmpR op_lt (pv 0) (pe_op op_powB pe_int pe_int) (nomark _)) (pss_one (ps_ret (pe_lstDr (pa_cons (pv 0) (pa_cons pe_int (pa_cons pe_bl pa_nil)))))) pss_nil)
      (pss_one (ps_ret (pe_lstDr (pa_cons (pe_op op_mod (pv 0) (pe_op op_powB (pe_op op_powB (pe_op op_powB pe_int pe_int) pe_int) pe_int)) (pa_cons pe_int (pa_cons pe_bl pa_nil))))))), ?_⟩
    refine w_st (σ' := [some (.int c)]) rfl ?_
    walk_at "ct"
    refine w_rIv (.int 1000000000000000000) ⟨by decide, by decide⟩ rfl ?_
    walk_at "ct"
    refine w_ite (fun e => ?_) (fun e => ?_)
    · walk_at "ct"
      refine w_lstDr ?_
      walk_at "ct"
      exact ⟨c, 0, false, rfl, fun p np => q p _ (same_upd np) np upd_same⟩
    · walk_at "ct"
      refine w_lstDr ?_
      walk_at "ct"
      refine w_rI ⟨by decide, by decide +kernel⟩ ?_
      walk_at "ct"
      refine w_rI ⟨by decide, by decide +kernel⟩ ?_
      walk_at "ct"
      refine w_rI ⟨by decide, by decide +kernel⟩ ?_
      refine w_mod (Int.pow_pos (Int.pow_pos (Int.pow_pos (by decide)))) fun r _ _ => ?_
      walk_at "ct"
      exact ⟨r, 0, true, rfl, fun p np => q p _ (same_upd np) np upd_same⟩
abbrev S__law_next : Stmt := topS 51
theorem sc__law_next : FnScope ["_law_draws_here", "_law_k", "_law_number"] ["_law_draws_here"] (defScope S__law_next) := ⟨rfl, rfl, rfl, by decide +kernel, rfl, by decide +kernel, by decide +kernel⟩
def sp__law_next (K : PySem.W.Frag) : Sp := fun vs H Q _ => ∃ (D : Addr) (c : Nat), vs = [.ref D] ∧ H D = some (DrO D c) ∧ c < 1000000 ∧ ∀ n : Int, 0 ≤ n → n < 2147483648 → Q (.int n) (upd H D (DrO D (c + 1)))
theorem ok__law_next {f : Addr} {fd : FuncData} (F : Fun K "_law_next" "_law_next" S__law_next f fd) :
    FnOk P w K mg base CX0 1 f fd ["_law_draws_here"] (sp__law_next K) := by
  refine F.ok sc__law_next (fun vs H Q E h => ?_) (fun cdv A outer s H vs Q E hr h => ?_)
  ·
    obtain ⟨D, c, rfl, _⟩ := h
    rfl
  ·
    obtain ⟨D, c, rfl, hD, hc, q⟩ := h
    refine ⟨_, (pss_cons (ps_asg (pe_op op_add (pe_ix (r := rIxDr) ix_dr (pv 0) pe_int (fun _ _ => rfl)) pe_int) (pg_sub (pv 0) pe_int set_dr))
      (pss_cons (ps_set (i := 1) sc__law_next.nd rfl (.inl rfl) (pe_ix (r := rIxDr) ix_dr (pv 0) pe_int (fun _ _ => rfl)))
      (pss_cons (ps_if (pt_val (pe_ix (r := rIxDr) ix_dr (pv 0) pe_int (fun _ _ => rfl))) (pss_cons (ps_set (i := 2) sc__law_next.nd rfl (.inl rfl) (pe_op op_mod (pe_ix (r := rIxDr) ix_dr (pv 0) pe_int (fun _ _ => rfl)) (pe_op op_powB pe_int pe_int)))
      (pss_cons (ps_asg (pe_op op_fdivW (pe_ix (r := rIxDr) ix_dr (pv 0) pe_int (fun _ _ => rfl)) (pe_op op_powB pe_int pe_int)) (pg_sub (pv 0) pe_int set_dr))
      (pss_one (ps_ret (pv 2))))) pss_nil)
      (pss_cons (ps_set (i := 2) sc__law_next.nd rfl (.inl rfl) (pe_op op_mod (pe_op op_mulW (pe_op op_add (pe_op op_add (pe_op op_mod (pe_ix (r := rIxDr) ix_dr (pv 0) pe_int (fun _ _ => rfl)) pe_int) (pe_op op_mulW (pe_op op_mulW (pv 1) (pv 1)) pe_int)) (pv 1)) pe_int) pe_int))
      (pss_cons (ps_set (i := 2) sc__law_next.nd rfl (.inl rfl) (pe_op op_mod (pe_op op_mulW (pv 2) (pv 2)) pe_int))
      (pss_one (ps_ret (pe_op op_fdivW (pe_op op_mod (pe_op op_mulW (pv 2) (pe_op op_add (pv 2) pe_int)) pe_int) pe_int)))))))), ?_⟩
    refine w_st (σ' := [some (.ref D), none, none]) rfl ?_
    walk_at "ct"
    refine w_dr1 hD ?_
    walk_at "ct"
    refine ⟨D, 1, c, rfl, rfl, hD, .inr ⟨rfl, c + 1, by rw [show ((c + 1 : Nat) : Int) = (c : Int) + 1 by omega], ?_⟩⟩
    have h1 : (upd H D (DrO D (c + 1))) D = some (DrO D (c + 1)) := upd_same
    have e2 : upd (upd H D (DrO D (c + 1))) D (DrO D (c + 1)) = upd H D (DrO D (c + 1)) := by
      funext a
      by_cases z : a = D
      · rw [z, upd_same, upd_same]
      · rw [upd_ne z]
    generalize upd H D (DrO D (c + 1)) = H1 at *
    walk_at "ct"
    refine w_dr1 h1 ?_
    walk_at "ct"
    refine w_dr2 h1 fun b => ?_
    obtain ⟨k, hk⟩ : ∃ k : Int, ((c + 1 : Nat) : Int) = k := ⟨_, rfl⟩
    have k0 : 0 ≤ k := by omega
    have k1 : k ≤ 1000000 := by omega
    rw [hk]
    cases b with
    | true =>
      walk_at "ct"
      refine w_dr0 h1 fun n => ?_
      walk_at "ct"
      refine w_rIv (.int 1000000) ⟨by decide, by decide⟩ rfl ?_
      refine w_mod (by decide) fun r r0 r1 => ?_
      walk_at "ct"
      refine w_dr0 h1 fun n2 => ?_
      walk_at "ct"
      refine w_rIv (.int 1000000) ⟨by decide, by decide⟩ rfl ?_
      refine w_div (div_ok (by decide) (by decide)) fun r' => ?_
      walk_at "ct"
      refine ⟨D, 0, c + 1, rfl, rfl, h1, .inl ⟨rfl, ⟨_, rfl⟩, ?_⟩⟩
      rw [e2]
      walk_at "ct"
      exact q r r0 (by omega)
    | false =>
      walk_at "ct"
      refine w_dr0 h1 fun n => ?_
      walk_at "ct"
      refine w_mod (by decide) fun r0 a0 a1 => ?_
      walk_at "ct"
      have kk : 0 ≤ k * k ∧ k * k ≤ 1000000 * 1000000 := ⟨Int.mul_nonneg k0 k0, Int.mul_le_mul k1 k1 k0 (by decide)⟩
      refine w_rI (mul_ok (by omega) (by omega) (by omega) (by omega)) ?_
      walk_at "ct"
      refine w_rI (mul_ok (by omega) (by omega) (by omega) (by omega)) ?_
      walk_at "ct"
      refine w_rI (mul_ok (by omega) (by omega) (by omega) (by omega)) ?_
      walk_at "ct"
      refine w_mod (by decide) fun r1 b0 b1 => ?_
      walk_at "ct"
      refine w_rI (mul_ok (by omega) (by omega) (by omega) (by omega)) ?_
      walk_at "ct"
      refine w_mod (by decide) fun r2 c0 c1 => ?_
      walk_at "ct"
      refine w_rI (mul_ok (by omega) (by omega) (by omega) (by omega)) ?_
      walk_at "ct"
      refine w_mod (by decide) fun r3 d0 d1 => ?_
      walk_at "ct"
      refine w_rI (div_ok (by decide) (by decide)) ?_
      exact q _ (by omega) (by omega)
abbrev S__law_train : Stmt := topS 53
theorem sc__law_train : FnScope ["_law_draws_here", "_law_train_here", "_law_k", "_law_way", "_law_teeth", "_law_marks_here", "_law_place"] ["_law_draws_here"] (defScope S__law_train) := ⟨rfl, rfl, rfl, by decide +kernel, rfl, by decide +kernel, by decide +kernel⟩
def sp__law_train (K : PySem.W.Frag) : Sp := fun vs H Q _ => ∃ (D : Addr) (c : Nat), vs = [.ref D] ∧ H D = some (DrO D c) ∧ c ≤ 900000 ∧ ∀ a ws (ps : List Part) c' H', Dr D c' H H' → c' ≤ c + 100 → H a = none → H' a = some (.lst ws) → DpAll K H' ws (ps.map Part.data) → (∀ p ∈ ps, p.ok ∧ Fine p.data 2 16 ∧ p.places ≤ 7) → 1 ≤ ps.length → ps.length ≤ 4 → Q (.ref a) H'
theorem ok__law_train {f : Addr} {fd : FuncData} {f__law_next : Addr} {fd__law_next : FuncData} (F : Fun K "_law_train" "_law_train" S__law_train f fd)
    (F__law_next : Fun K "_law_next" "_law_next" S__law_next f__law_next fd__law_next) (b__law_next : Binds K fd__law_next ["_law_draws_here"] []) (g__law_next : mg "_law_next" = some (.ref f__law_next)) (G__law_next : FnOk P w K mg base CX0 1 f__law_next fd__law_next ["_law_draws_here"] (sp__law_next K)) (m_range : mg "range" = none) (m_tuple : mg "tuple" = none) (m_max : mg "max" = none) :
    FnOk P w K mg base CX0 2 f fd ["_law_draws_here"] (sp__law_train K) := by
  refine F.ok sc__law_train (fun vs H Q E h => ?_) (fun cdv A outer s H vs Q E hr h => ?_)
  ·
    obtain ⟨D, c, rfl, _⟩ := h
    rfl
  ·
    obtain ⟨D, c, rfl, hD, hc, q⟩ := h
    refine ⟨_, (pss_cons (ps_set (i := 1) sc__law_train.nd rfl (.inl rfl) (pe_lst pa_nil))
      (pss_cons (ps_for PassesOwn.never rfl (pi_range1 (by rfl) m_range (pa_cons (pe_op op_add pe_int (pe_op op_mod (pe_call G__law_next (hr.mono (by decide)) (by rfl) g__law_next F__law_next.kp b__law_next .nil pass0 (pa_cons (pv 0) pa_nil)) pe_int)) pa_nil)) (pg_name (i := 2) sc__law_train.nd rfl (.inl rfl))
      (pss_cons (ps_set (i := 3) sc__law_train.nd rfl (.inl rfl) (pe_op op_mod (pe_call G__law_next (hr.mono (by decide)) (by rfl) g__law_next F__law_next.kp b__law_next .nil pass0 (pa_cons (pv 0) pa_nil)) pe_int))
      (pss_cons (ps_set (i := 4) sc__law_train.nd rfl (.inl rfl) (pe_op op_add pe_int (pe_op op_mod (pe_call G__law_next (hr.mono (by decide)) (by rfl) g__law_next F__law_next.kp b__law_next .nil pass0 (pa_cons (pv 0) pa_nil)) (pe_ix (r := rIxL K) ix_list (pe_lst (pa_cons pe_int (pa_cons pe_int (pa_cons pe_int (pa_cons pe_int pa_nil))))) (pv 2) (fun _ _ => rfl)))))
      (pss_cons (ps_set (i := 5) sc__law_train.nd rfl (.inl rfl) (pe_callTy call_tuple_of (by rfl) m_tuple (by decide +kernel) (pa_cons (pe_lc (own := [("_law_place", 6)]) (g := gName 6)  rfl sc__law_train.nd  (pi_range1 (by rfl) m_range (pa_cons (pv 4) pa_nil)) (blkOk_by (own := [("_law_place", 6)]) (N := ["_law_draws_here", "_law_train_here", "_law_k", "_law_way", "_law_teeth", "_law_marks_here", "_law_place"]) (sc := defScope S__law_train) (by decide +kernel)) (fun _ _ _ _ _ => pg_name (i := 6) sc__law_train.nd rfl (Or.inl rfl)) (fun _ _ _ _ _ => (pts_one (pt_cmpR op_gt (pe_op op_mod (pe_call G__law_next (hr.mono (by decide)) (by rfl) g__law_next F__law_next.kp b__law_next .nil pass0 (pa_cons (pv 0) pa_nil)) pe_int) pe_int (nomark _)))) (fun _ _ _ _ _ => (pv 6))) pa_nil)))
      (pss_one (ps_expr (pe_bm PySem.F.plainAttrs_list PySem.F.slot_list_append PySem.F.type_list_append mt_append (pv 1) (pa_cons (pe_ix (r := rIxL K) ix_list (pe_lst (pa_cons (pe_tup (pa_cons pe_str (pa_cons (pv 4) (pa_cons (pv 5) pa_nil)))) (pa_cons (pe_tup (pa_cons pe_str pa_nil)) (pa_cons (pe_tup (pa_cons pe_str pa_nil)) (pa_cons (pe_tup (pa_cons pe_str (pa_cons (pv 4) pa_nil))) pa_nil))))) (pe_callB (call_max2 rfl) (by rfl) m_max (by decide +kernel) (pa_cons pe_int (pa_cons (pe_op op_sub (pv 3) pe_int) pa_nil))) (fun _ _ => rfl)) pa_nil))))))))
      (pss_one (ps_ret (pv 1))))), ?_⟩
    refine w_st (σ' := [some (.ref D), none, none, none, none, none, none]) rfl ?_
    walk_at "ct"
    refine ⟨len2 rfl, fun l nl => ?_⟩
    have s1 : Same H (upd H l (.lst [])) := same_upd nl
    have h1 : (upd H l (.lst [])) l = some (.lst []) := upd_same
    generalize upd H l _ = H1 at *
    have d1 := (Dr.refl hD).same s1
    walk_at "ct"
    refine ⟨D, c, rfl, d1.2, by omega, fun n1 _ _ => ?_⟩
    have h2 := (Dr.step d1.2 (c + 1)).at d1.2 h1
    have d2 := d1.trans (Dr.step d1.2 (c + 1))
    generalize upd H1 D _ = H2 at *
    walk_at "ct"
    refine w_mod (by decide) fun r0 r00 r01 => ?_
    walk_at "ct"
    obtain ⟨N, hN, N1, N4⟩ : ∃ N : Nat, 1 + r0 = (N : Int) ∧ 1 ≤ N ∧ N ≤ 4 := ⟨(1 + r0).toNat, by omega, by omega, by omega⟩
    rw [hN]
    refine w_RG1 (by omega) (by omega) ?_
    rw [show ((N : Int)).toNat = N by omega]
    refine fb_range (fun i σ G => ∃ (y2 y3 y4 y5 : Option V) (ws : List V) (ps : List Part) (c' : Nat), σ = [some (.ref D), some (.ref l), y2, y3, y4, y5, none] ∧ Dr D c' H G ∧ c' ≤ c + 1 + 9 * i ∧ G l = some (.lst ws) ∧ DpAll K G ws (ps.map Part.data) ∧ (∀ p ∈ ps, p.ok ∧ Fine p.data 2 16 ∧ p.places ≤ 7) ∧ ps.length = i) ⟨none, none, none, none, [], [], c + 1, rfl, d2, by omega, h2, .nil, (fun _ z => nomatch z), rfl⟩ ?_ ?_
    · rintro i σ G hi ⟨y2, y3, y4, y5, ws, ps, c', rfl, dr, cb, hl, hd, hok, pl⟩
      have wl : ws.length = i := by rw [dpAll_len hd, List.length_map, pl]
      rw [Int.zero_add]
      walk_at "ct"
      refine ⟨D, c', rfl, dr.2, by omega, fun n2 _ _ => ?_⟩
      have e2 := Dr.step dr.2 (c' + 1)
      generalize upd G D _ = G2 at *
      walk_at "ct"
      refine w_mod (by decide) fun way w0 w1 => ?_
      walk_at "ct"
      refine ⟨D, c' + 1, rfl, e2.2, by omega, fun n3 _ _ => ?_⟩
      have e3 := e2.trans (Dr.step e2.2 (c' + 2))
      generalize upd G2 D _ = G3 at *
      walk_at "ct"
      refine ⟨len2 rfl, fun g4 ng4 => ?_⟩
      have u4 : Same G3 (upd G3 g4 (.lst [.int 7, .int 4, .int 4, .int 4])) := same_upd ng4
      have hg4 : (upd G3 g4 (.lst [.int 7, .int 4, .int 4, .int 4])) g4 = some (.lst [.int 7, .int 4, .int 4, .int 4]) := upd_same
      generalize upd G3 g4 _ = G4 at *
      have e4 := e3.same u4
      walk_at "ct"
      obtain ⟨tp, htp, tp1, tp2⟩ : ∃ tp : Int, atI [V.int 7, .int 4, .int 4, .int 4] (i : Int) = some (.int tp) ∧ 1 ≤ tp ∧ tp ≤ 7 := by
        have : i = 0 ∨ i = 1 ∨ i = 2 ∨ i = 3 := by omega
        rcases this with rfl | rfl | rfl | rfl
        · exact ⟨7, rfl, by decide, by decide⟩
        · exact ⟨4, rfl, by decide, by decide⟩
        · exact ⟨4, rfl, by decide, by decide⟩
        · exact ⟨4, rfl, by decide, by decide⟩
      refine w_ixL (.of hg4) htp ?_
      refine w_mod (by omega) fun tt tt0 tt1 => ?_
      walk_at "ct"
      obtain ⟨te, hte, te1, te2⟩ : ∃ te : Nat, 1 + tt = (te : Int) ∧ 1 ≤ te ∧ te ≤ 7 := ⟨(1 + tt).toNat, by omega, by omega, by omega⟩
      rw [hte]
      refine w_RG1 (by omega) (by omega) ?_
      rw [show ((te : Int)).toNat = te by omega]
      refine lb_range (fun D2 k G5 => Dr D (c' + 2 + k) G4 G5 ∧ ∃ ms : List Int, G5 D2 = some (.lst (ms.map V.int)) ∧ ms.length ≤ k ∧ Rise (k : Int) ms) (fun D2 hD2 => ⟨(Dr.refl e4.2).same (same_upd hD2), [], upd_same, Nat.le_refl _, List.Pairwise.nil, fun m hm => by cases hm⟩) ?_ ?_
      · rintro D2 hD2 k G5 hk ⟨d5, ms, hms, ml, rs⟩
        rw [Int.zero_add]
        walk_at "ct"
        refine ⟨rfl, ?_⟩
        walk_at "ct"
        refine ⟨D, c' + 2 + k, rfl, d5.2, by omega, fun n5 _ _ => ?_⟩
        have hm6 := (Dr.step d5.2 (c' + 2 + k + 1)).at d5.2 hms
        have d6 := d5.trans (Dr.step d5.2 (c' + 2 + k + 1))
        generalize upd G5 D _ = G6 at *
        walk_at "ct"
        refine w_mod (by decide) fun r5 _ _ => ?_
        walk_at "ct"
        refine w_ite (fun _ => ?_) (fun _ => ?_)
        · walk_at "ct"
          refine ⟨ms.map V.int, hm6, by rw [List.length_map]; exact small1000 (by omega), d6.put hD2 hm6, ms ++ [(k : Int)], by rw [upd_same, List.map_append]; rfl, by rw [List.length_append]; show ms.length + 1 ≤ k + 1; omega, List.pairwise_append.mpr ⟨rs.1, List.pairwise_singleton _ _, fun x hx y hy => ?_⟩, fun m hm => ?_⟩
          · rw [List.mem_singleton.mp hy]
            exact (rs.2 x hx).2
          · rcases List.mem_append.mp hm with hm | hm
            · have := rs.2 m hm
              omega
            · rw [List.mem_singleton.mp hm]
              omega
        · exact ⟨d6, ms, hm6, by omega, rs.1, fun m hm => by have := rs.2 m hm; omega⟩
      rintro D2 hD2 G5 ⟨d5, ms, hms, ml, rs⟩
      walk_at "ct"
      refine ⟨D2, _, rfl, .inl ⟨.of hms, fun mt nmt => ?_⟩⟩
      have u6 : Same G5 (upd G5 mt (.tup (ms.map V.int))) := same_upd nmt
      have hmt : (upd G5 mt (.tup (ms.map V.int))) mt = some (.tup (ms.map V.int)) := upd_same
      generalize upd G5 mt _ = G6 at *
      have d6 := (e4.trans d5).same u6
      have hl6 : G6 l = some (.lst ws) := d6.at dr.2 hl
      walk_at "ct"
      refine ⟨ty_list hl6, ?_⟩
      walk_at "ct"
      refine ⟨len2 rfl, fun a1 na1 => ?_⟩
      have v1 : Same G6 (upd G6 a1 (.tup [.str "wheel", .int (te : Int), .ref mt])) := same_upd na1
      have ha1 : (upd G6 a1 (.tup [.str "wheel", .int (te : Int), .ref mt])) a1 = some (.tup [.str "wheel", .int (te : Int), .ref mt]) := upd_same
      generalize upd G6 a1 _ = G7 at *
      walk_at "ct"
      refine ⟨len2 rfl, fun a2 na2 => ?_⟩
      have v2 : Same G7 (upd G7 a2 (.tup [.str "click"])) := same_upd na2
      have ha2 : (upd G7 a2 (.tup [.str "click"])) a2 = some (.tup [.str "click"]) := upd_same
      generalize upd G7 a2 _ = G8 at *
      walk_at "ct"
      refine ⟨len2 rfl, fun a3 na3 => ?_⟩
      have v3 : Same G8 (upd G8 a3 (.tup [.str "rocker"])) := same_upd na3
      have ha3 : (upd G8 a3 (.tup [.str "rocker"])) a3 = some (.tup [.str "rocker"]) := upd_same
      generalize upd G8 a3 _ = G9 at *
      walk_at "ct"
      refine ⟨len2 rfl, fun a4 na4 => ?_⟩
      have v4 : Same G9 (upd G9 a4 (.tup [.str "spring", .int (te : Int)])) := same_upd na4
      have ha4 : (upd G9 a4 (.tup [.str "spring", .int (te : Int)])) a4 = some (.tup [.str "spring", .int (te : Int)]) := upd_same
      generalize upd G9 a4 _ = G10 at *
      walk_at "ct"
      refine ⟨len2 rfl, fun a5 na5 => ?_⟩
      have v5 : Same G10 (upd G10 a5 (.lst [.ref a1, .ref a2, .ref a3, .ref a4])) := same_upd na5
      have ha5 : (upd G10 a5 (.lst [.ref a1, .ref a2, .ref a3, .ref a4])) a5 = some (.lst [.ref a1, .ref a2, .ref a3, .ref a4]) := upd_same
      generalize upd G10 a5 _ = G11 at *
      walk_at "ct"
      refine ⟨0, way - 3, rfl, ?_⟩
      have v15 := ((v1.trans v2).trans (v3.trans v4)).trans v5
      have okw : (Part.wheel (te : Int) ms).ok := ⟨by omega, by omega, rs, by omega⟩
      have oks : (Part.spring (te : Int)).ok := ⟨by omega, by omega⟩
      obtain ⟨pt, v, hat, hdp, hpk⟩ : ∃ (pt : Part) (v : V), atI [V.ref a1, .ref a2, .ref a3, .ref a4] (if way - 3 > 0 then way - 3 else 0) = some v ∧ Dp K G11 v pt.data ∧ pt.ok ∧ Fine pt.data 2 16 ∧ pt.places ≤ 7 := by
        have : (if way - 3 > 0 then way - 3 else 0) = 0 ∨ (if way - 3 > 0 then way - 3 else 0) = 1 ∨ (if way - 3 > 0 then way - 3 else 0) = 2 ∨ (if way - 3 > 0 then way - 3 else 0) = 3 := by split <;> omega
        rcases this with e | e | e | e <;> rw [e]
        · exact ⟨.wheel (te : Int) ms, _, rfl, wheel_dp (.of ((((v2.trans v3).trans v4).trans v5) _ _ ha1)) (.of (v15 _ _ hmt)), okw, fine_wheel (by omega) (by omega) rs (by omega), show (te : Int) ≤ 7 by omega⟩
        · exact ⟨.click, _, rfl, click_dp (.of (((v3.trans v4).trans v5) _ _ ha2)), trivial, fine_click, by decide⟩
        · exact ⟨.rocker, _, rfl, rocker_dp (.of ((v4.trans v5) _ _ ha3)), trivial, fine_rocker, by decide⟩
        · exact ⟨.spring (te : Int), _, rfl, spring_dp (.of (v5 _ _ ha4)), oks, fine_spring (by omega) (by omega), show (te : Int) ≤ 7 by omega⟩
      walk_at "ct"
      refine w_ixL (.of ha5) hat ?_
      walk_at "ct"
      have hl11 := v15 _ _ hl6
      refine w_append hl11 (small1000 (by omega)) ?_
      walk_at "ct"
      have d11 := d6.same v15
      refine ⟨_, _, _, _, ws ++ [v], ps ++ [pt], _, rfl, (dr.trans d11).put nl hl11, by omega, upd_same, ?_, fun p hp => ?_, by rw [List.length_append, pl]; rfl⟩
      · rw [List.map_append]
        exact dpAll_app (parts_upd hl11 _ (dpAll_same v15 (d6.all dr.2 hd))) (parts_upd hl11 [pt] (.cons hdp .nil))
      · rcases List.mem_append.mp hp with hp | hp
        · exact hok p hp
        · rw [List.mem_singleton.mp hp]
          exact hpk
    · rintro σ G ⟨y2, y3, y4, y5, ws, ps, c', rfl, dr, cb, hl, hd, hok, pl⟩
      walk_at "ct"
      exact q l ws ps c' G dr (by omega) nl hl hd hok (by omega) (by omega)
abbrev S__law_stand : Stmt := topS 54
theorem sc__law_stand : FnScope ["_law_draws_here", "_law_train_here", "_law_found", "_law_part", "_law_many"] ["_law_draws_here", "_law_train_here"] (defScope S__law_stand) := ⟨rfl, rfl, rfl, by decide +kernel, rfl, by decide +kernel, by decide +kernel⟩
def sp__law_stand (K : PySem.W.Frag) : Sp := fun vs H Q _ => ∃ (D a : Addr) (c : Nat) (ws : List V) (ps : List Part), vs = [.ref D, .ref a] ∧ H D = some (DrO D c) ∧ c ≤ 900000 ∧ H a = some (.lst ws) ∧ DpAll K H ws (ps.map Part.data) ∧ (∀ p ∈ ps, p.ok) ∧ ps.length ≤ 1000 ∧
  ∀ (xs : List Int) t H', Dr D (c + ps.length) H H' → SqT K H' t (xs.map V.int) → StandOk ps xs → Q (.ref t) H'
theorem ok__law_stand {f : Addr} {fd : FuncData} {f__law_next : Addr} {fd__law_next : FuncData} (F : Fun K "_law_stand" "_law_stand" S__law_stand f fd)
    (F__law_next : Fun K "_law_next" "_law_next" S__law_next f__law_next fd__law_next) (b__law_next : Binds K fd__law_next ["_law_draws_here"] []) (g__law_next : mg "_law_next" = some (.ref f__law_next)) (G__law_next : FnOk P w K mg base CX0 1 f__law_next fd__law_next ["_law_draws_here"] (sp__law_next K)) (m_int : mg "int" = none) :
    FnOk P w K mg base CX0 2 f fd ["_law_draws_here", "_law_train_here"] (sp__law_stand K) := by
  refine F.ok sc__law_stand (fun vs H Q E h => ?_) (fun cdv A outer s H vs Q E hr h => ?_)
  ·
    obtain ⟨D, a, c, ws, ps, rfl, _⟩ := h
    rfl
  ·
    obtain ⟨D, a, c, ws, ps, rfl, hD, hc, ha, hd, hok, pl, q⟩ := h
    refine ⟨_, (pss_cons (ps_set (i := 2) sc__law_stand.nd rfl (.inl rfl) (pe_tup pa_nil))
      (pss_cons (ps_for PassesOwn.never rfl (pi_list (pv 1)) (pg_name (i := 3) sc__law_stand.nd rfl (.inl rfl))
      (pss_cons (ps_set (i := 4) sc__law_stand.nd rfl (.inl rfl) (pe_op op_add pe_int (pe_callTy call_int1 (by rfl) m_int (by decide +kernel) (pa_cons (pe_cmpR op_eq (pe_ix (r := rIxT K) ix_tup (pv 3) pe_int (fun _ _ => rfl)) pe_str (nomark _)) pa_nil))))
      (pss_cons (ps_if (PW.pt (pw_or (pt_cmpR op_eq (pe_ix (r := rIxT K) ix_tup (pv 3) pe_int (fun _ _ => rfl)) pe_str (nomark _)) (pw_or1 (pt_cmpR op_eq (pe_ix (r := rIxT K) ix_tup (pv 3) pe_int (fun _ _ => rfl)) pe_str (nomark _))))) (pss_one (ps_set (i := 4) sc__law_stand.nd rfl (.inl rfl) (pe_ix (r := rIxT K) ix_tup (pv 3) pe_int (fun _ _ => rfl)))) pss_nil)
      (pss_one (ps_set (i := 2) sc__law_stand.nd rfl (.inl rfl) (pe_op (r := rCatA K) op_catA (pv 2) (pe_tup (pa_cons (pe_op op_mod (pe_call G__law_next (hr.mono (by decide)) (by rfl) g__law_next F__law_next.kp b__law_next .nil pass0 (pa_cons (pv 0) pa_nil)) (pv 4)) pa_nil))))))))
      (pss_one (ps_ret (pv 2))))), ?_⟩
    refine w_st (σ' := [some (.ref D), some (.ref a), none, none, none]) rfl ?_
    have wl : ws.length = ps.length := by rw [dpAll_len hd, List.length_map]
    walk_at "ct"
    refine ⟨len2 rfl, fun t nt => ?_⟩
    have s1 : Same H (upd H t (.tup [])) := same_upd nt
    have h1 : (upd H t (.tup [])) t = some (.tup ([].map V.int)) := upd_same
    generalize upd H t _ = H1 at *
    have d1 := (Dr.refl hD).same s1
    walk_at "ct"
    refine w_IL (.of (s1 _ _ ha)) ?_
    refine fb_list ws (fun n σ G => ∃ (t : Addr) (y3 y4 : Option V) (xs : List Int), σ = [some (.ref D), some (.ref a), some (.ref t), y3, y4] ∧ Dr D (c + n) H G ∧ SqT K G t (xs.map V.int) ∧ xs.length = n ∧ ∀ (i : Nat) (p : Part) (x : Int), ps[i]? = some p → xs[i]? = some x → 0 ≤ x ∧ x < p.places)
      ⟨t, none, none, [], rfl, d1, .of h1, rfl, fun i p x _ h => by simp at h⟩ ?_ ?_ ?_
    · rintro n σ G _ ⟨t, y3, y4, xs, rfl, dr, _⟩
      exact .of (dr.at hD ha)
    · rintro n v σ G hx ⟨t, y3, y4, xs, rfl, dr, ht, xl, hxs⟩
      have hn : n < ws.length := (List.getElem?_eq_some_iff.mp hx).1
      obtain ⟨p, hp⟩ : ∃ p, ps[n]? = some p := ⟨_, List.getElem?_eq_getElem (by omega)⟩
      obtain ⟨v', hv1, hd1⟩ := TrainAt.at (a := a) hd hp
      cases Option.some.inj (hx.symm.trans hv1)
      have pos := (hok p (List.mem_of_getElem? hp)).pos
      have hdG := dp_but (drO_ext hD) dr.1 hd1
      have small : (xs.map V.int).length + 1 ≤ sizeLine := by rw [List.length_map]; exact Nat.le_trans (show xs.length + 1 ≤ 1001 by omega) (by decide)
      have go : ∀ (m : Int), m = p.places → ∀ (G1 : Hp), Dr D (c + n + 1) G G1 → ∀ r, 0 ≤ r → r < m → ∀ (g : Addr), G1 g = none →
          ((xs.map V.int = [] → ∃ xs' : List Int, Dr D (c + (n + 1)) H (upd G1 g (.tup [.int r])) ∧ SqT K (upd G1 g (.tup [.int r])) g (xs'.map V.int) ∧ xs'.length = n + 1 ∧ ∀ (i : Nat) (p : Part) (x : Int), ps[i]? = some p → xs'[i]? = some x → 0 ≤ x ∧ x < p.places) ∧
           (∀ t', (upd G1 g (.tup [.int r])) t' = none → ∃ xs' : List Int, Dr D (c + (n + 1)) H (upd (upd G1 g (.tup [.int r])) t' (.tup (xs.map V.int ++ [.int r]))) ∧ SqT K (upd (upd G1 g (.tup [.int r])) t' (.tup (xs.map V.int ++ [.int r]))) t' (xs'.map V.int) ∧ xs'.length = n + 1 ∧ ∀ (i : Nat) (p : Part) (x : Int), ps[i]? = some p → xs'[i]? = some x → 0 ≤ x ∧ x < p.places)) := by
        intro m em G1 d1 r r0 r1 g ng
        have hxs' : ∀ (i : Nat) (p' : Part) (x : Int), ps[i]? = some p' → (xs ++ [r])[i]? = some x → 0 ≤ x ∧ x < p'.places := fun i p' x hp' hx' => by
          by_cases hi : i < n
          · rw [List.getElem?_append_left (by omega)] at hx'
            exact hxs i p' x hp' hx'
          · have hi2 : i = n := by
              have z := (List.getElem?_eq_some_iff.mp hx').1
              rw [List.length_append, xl] at z
              have z2 : i < n + 1 := z
              omega
            subst hi2
            cases Option.some.inj (hp.symm.trans hp')
            rw [List.getElem?_append_right (by omega), xl, Nat.sub_self] at hx'
            cases Option.some.inj hx'
            exact ⟨r0, by omega⟩
        have dd := (dr.trans d1).same (same_upd (o := .tup [.int r]) ng)
        refine ⟨fun e => ?_, fun t' nt' => ?_⟩
        · have : xs = [] := List.map_eq_nil_iff.mp e
          subst this
          exact ⟨[r], dd, .of upd_same, by show 1 = n + 1; have : 0 = n := xl; omega, hxs'⟩
        · exact ⟨xs ++ [r], dd.same (same_upd nt'), .of (by rw [upd_same, List.map_append]; rfl), by rw [List.length_append, xl]; rfl, hxs'⟩
      cases p with
      | wheel z ms =>
        obtain ⟨g, b, rfl, hg, hb⟩ := wheel_inv hdG
        walk_at "ct"
        refine .inr ⟨_, rfl, ?_⟩
        walk_at "ct"
        refine ⟨D, c + n, rfl, dr.2, by omega, fun n1 _ _ => ?_⟩
        have st := Dr.step dr.2 (c + n + 1)
        have ht1 := but_tup (drO_ext dr.2) st.1 ht
        generalize upd G D _ = G1 at *
        walk_at "ct"
        refine w_mod (show (0 : Int) < z from pos.1) fun r r0 r1 => ?_
        walk_at "ct"
        refine ⟨len2 rfl, fun g2 ng2 => ?_⟩
        obtain ⟨gA, gB⟩ := go z rfl G1 st r r0 r1 g2 ng2
        refine ⟨t, g2, _, _, rfl, rfl, Same.tup (same_upd ng2) ht1, .of upd_same, small, fun e => ?_, (fun _ e => nomatch e), fun e _ t' nt' => ?_⟩
        · obtain ⟨xs', a1, a2, a3, a4⟩ := gA e
          walk_at "ct"
          exact ⟨_, _, _, xs', rfl, a1, a2, a3, a4⟩
        · obtain ⟨xs', a1, a2, a3, a4⟩ := gB t' nt'
          walk_at "ct"
          exact ⟨_, _, _, xs', rfl, a1, a2, a3, a4⟩
      | click =>
        obtain ⟨g, rfl, hg⟩ := click_inv hdG
        walk_at "ct"
        refine .inr ⟨_, rfl, ?_⟩
        walk_at "ct"
        refine ⟨D, c + n, rfl, dr.2, by omega, fun n1 _ _ => ?_⟩
        have st := Dr.step dr.2 (c + n + 1)
        have ht1 := but_tup (drO_ext dr.2) st.1 ht
        generalize upd G D _ = G1 at *
        walk_at "ct"
        refine w_mod (by decide) fun r r0 r1 => ?_
        walk_at "ct"
        refine ⟨len2 rfl, fun g2 ng2 => ?_⟩
        obtain ⟨gA, gB⟩ := go (1 : Int) rfl G1 st r r0 r1 g2 ng2
        refine ⟨t, g2, _, _, rfl, rfl, Same.tup (same_upd ng2) ht1, .of upd_same, small, fun e => ?_, (fun _ e => nomatch e), fun e _ t' nt' => ?_⟩
        · obtain ⟨xs', a1, a2, a3, a4⟩ := gA e
          walk_at "ct"
          exact ⟨_, _, _, xs', rfl, a1, a2, a3, a4⟩
        · obtain ⟨xs', a1, a2, a3, a4⟩ := gB t' nt'
          walk_at "ct"
          exact ⟨_, _, _, xs', rfl, a1, a2, a3, a4⟩
      | rocker =>
        obtain ⟨g, rfl, hg⟩ := rocker_inv hdG
        walk_at "ct"
        refine .inr ⟨_, rfl, ?_⟩
        walk_at "ct"
        refine ⟨D, c + n, rfl, dr.2, by omega, fun n1 _ _ => ?_⟩
        have st := Dr.step dr.2 (c + n + 1)
        have ht1 := but_tup (drO_ext dr.2) st.1 ht
        generalize upd G D _ = G1 at *
        walk_at "ct"
        refine w_mod (by decide) fun r r0 r1 => ?_
        walk_at "ct"
        refine ⟨len2 rfl, fun g2 ng2 => ?_⟩
        obtain ⟨gA, gB⟩ := go (2 : Int) rfl G1 st r r0 r1 g2 ng2
        refine ⟨t, g2, _, _, rfl, rfl, Same.tup (same_upd ng2) ht1, .of upd_same, small, fun e => ?_, (fun _ e => nomatch e), fun e _ t' nt' => ?_⟩
        · obtain ⟨xs', a1, a2, a3, a4⟩ := gA e
          walk_at "ct"
          exact ⟨_, _, _, xs', rfl, a1, a2, a3, a4⟩
        · obtain ⟨xs', a1, a2, a3, a4⟩ := gB t' nt'
          walk_at "ct"
          exact ⟨_, _, _, xs', rfl, a1, a2, a3, a4⟩
      | spring k =>
        obtain ⟨g, rfl, hg⟩ := spring_inv hdG
        walk_at "ct"
        refine .inr ⟨_, rfl, ?_⟩
        walk_at "ct"
        refine ⟨D, c + n, rfl, dr.2, by omega, fun n1 _ _ => ?_⟩
        have st := Dr.step dr.2 (c + n + 1)
        have ht1 := but_tup (drO_ext dr.2) st.1 ht
        generalize upd G D _ = G1 at *
        walk_at "ct"
        refine w_mod (show (0 : Int) < k from pos.1) fun r r0 r1 => ?_
        walk_at "ct"
        refine ⟨len2 rfl, fun g2 ng2 => ?_⟩
        obtain ⟨gA, gB⟩ := go k rfl G1 st r r0 r1 g2 ng2
        refine ⟨t, g2, _, _, rfl, rfl, Same.tup (same_upd ng2) ht1, .of upd_same, small, fun e => ?_, (fun _ e => nomatch e), fun e _ t' nt' => ?_⟩
        · obtain ⟨xs', a1, a2, a3, a4⟩ := gA e
          walk_at "ct"
          exact ⟨_, _, _, xs', rfl, a1, a2, a3, a4⟩
        · obtain ⟨xs', a1, a2, a3, a4⟩ := gB t' nt'
          walk_at "ct"
          exact ⟨_, _, _, xs', rfl, a1, a2, a3, a4⟩
    · rintro σ G ⟨t, y3, y4, xs, rfl, dr, ht, xl, hxs⟩
      rw [wl] at dr xl
      walk_at "ct"
      exact q xs t G dr ht ⟨xl, hxs⟩
abbrev S__law_odd_train : Stmt := topS 55
theorem sc__law_odd_train : FnScope ["_law_draws_here", "_law_train_here", "_law_some"] ["_law_draws_here", "_law_train_here"] (defScope S__law_odd_train) := ⟨rfl, rfl, rfl, by decide +kernel, rfl, by decide +kernel, by decide +kernel⟩
def sp__law_odd_train (K : PySem.W.Frag) : Sp := fun vs H Q _ => ∃ (D a : Addr) (c : Nat) (ws : List V) (ps : List Part), vs = [.ref D, .ref a] ∧ H D = some (DrO D c) ∧ c ≤ 900000 ∧ H a = some (.lst ws) ∧ DpAll K H ws (ps.map Part.data) ∧ (∀ p ∈ ps, Fine p.data 2 16) ∧ ps.length ≤ 4 ∧ ∀ v d H', Dr D (c + 1) H H' → Dp K H' v d → Fine d 6 200 → isT d = false → Q v H'
theorem ok__law_odd_train {f : Addr} {fd : FuncData} {f__law_next : Addr} {fd__law_next : FuncData} (F : Fun K "_law_odd_train" "_law_odd_train" S__law_odd_train f fd)
    (F__law_next : Fun K "_law_next" "_law_next" S__law_next f__law_next fd__law_next) (b__law_next : Binds K fd__law_next ["_law_draws_here"] []) (g__law_next : mg "_law_next" = some (.ref f__law_next)) (G__law_next : FnOk P w K mg base CX0 1 f__law_next fd__law_next ["_law_draws_here"] (sp__law_next K)) (m_tuple : mg "tuple" = none) :
    FnOk P w K mg base CX0 2 f fd ["_law_draws_here", "_law_train_here"] (sp__law_odd_train K) := by
  refine F.ok sc__law_odd_train (fun vs H Q E h => ?_) (fun cdv A outer s H vs Q E hr h => ?_)
  ·
    obtain ⟨D, a, c, ws, ps, rfl, _⟩ := h
    rfl
  ·
    obtain ⟨D, a, c, ws, ps, rfl, hD, hc, ha, hd, fp, pl, q⟩ := h
    refine ⟨_, (pss_cons (ps_set (i := 2) sc__law_odd_train.nd rfl (.inl rfl) (pe_lst (pa_cons pe_non (pa_cons (pe_tup pa_nil) (pa_cons (pe_lst pa_nil) (pa_cons (pe_callTy call_tuple_of (by rfl) m_tuple (by decide +kernel) (pa_cons (pv 1) pa_nil)) (pa_cons pe_str (pa_cons (pe_lst (pa_cons pe_non pa_nil)) (pa_cons (pe_lst (pa_cons (pe_tup pa_nil) pa_nil)) (pa_cons (pe_lst (pa_cons (pe_lst (pa_cons pe_str pa_nil)) pa_nil)) (pa_cons (pe_lst (pa_cons (pe_tup (pa_cons pe_str (pa_cons pe_int pa_nil))) pa_nil)) (pa_cons (pe_lst (pa_cons (pe_tup (pa_cons pe_str pa_nil)) pa_nil)) pa_nil))))))))))))
      (pss_cons (ps_set (i := 2) sc__law_odd_train.nd rfl (.inl rfl) (pe_op op_cat (pv 2) (pe_lst (pa_cons (pe_lst (pa_cons (pe_tup (pa_cons pe_str (pa_cons pe_int pa_nil))) pa_nil)) (pa_cons (pe_lst (pa_cons (pe_tup (pa_cons pe_str (pa_cons pe_int (pa_cons (pe_tup pa_nil) pa_nil)))) pa_nil)) (pa_cons (pe_lst (pa_cons (pe_tup (pa_cons pe_str (pa_cons pe_int (pa_cons (pe_lst (pa_cons pe_int pa_nil)) pa_nil)))) pa_nil)) (pa_cons (pe_lst (pa_cons (pe_tup (pa_cons pe_str (pa_cons pe_int (pa_cons (pe_tup (pa_cons pe_int (pa_cons pe_int pa_nil))) pa_nil)))) pa_nil)) pa_nil)))))))
      (pss_cons (ps_set (i := 2) sc__law_odd_train.nd rfl (.inl rfl) (pe_op op_cat (pv 2) (pe_lst (pa_cons (pe_lst (pa_cons (pe_tup (pa_cons pe_str (pa_cons pe_int (pa_cons (pe_tup (pa_cons pe_int (pa_cons pe_int pa_nil))) pa_nil)))) pa_nil)) pa_nil))))
      (pss_cons (ps_set (i := 2) sc__law_odd_train.nd rfl (.inl rfl) (pe_op op_cat (pv 2) (pe_lst (pa_cons (pe_lst (pa_cons (pe_tup (pa_cons pe_str (pa_cons pe_int (pa_cons (pe_tup (pa_cons pe_int pa_nil)) pa_nil)))) pa_nil)) (pa_cons (pe_lst (pa_cons (pe_tup (pa_cons pe_str (pa_cons pe_int (pa_cons (pe_tup (pa_cons (pe_op op_sub pe_int pe_int) pa_nil)) pa_nil)))) pa_nil)) (pa_cons (pe_lst (pa_cons (pe_tup (pa_cons pe_str (pa_cons pe_bl (pa_cons (pe_tup pa_nil) pa_nil)))) pa_nil)) (pa_cons (pe_lst (pa_cons (pe_tup (pa_cons pe_str (pa_cons pe_int (pa_cons (pe_tup (pa_cons pe_non pa_nil)) pa_nil)))) pa_nil)) pa_nil)))))))
      (pss_cons (ps_set (i := 2) sc__law_odd_train.nd rfl (.inl rfl) (pe_op op_cat (pv 2) (pe_lst (pa_cons (pe_lst (pa_cons (pe_tup (pa_cons pe_str pa_nil)) pa_nil)) (pa_cons (pe_lst (pa_cons (pe_tup (pa_cons pe_str (pa_cons pe_int pa_nil))) pa_nil)) (pa_cons (pe_lst (pa_cons (pe_tup (pa_cons pe_str (pa_cons (pe_op op_sub pe_int pe_int) pa_nil))) pa_nil)) (pa_cons (pe_lst (pa_cons (pe_tup (pa_cons pe_str (pa_cons pe_str pa_nil))) pa_nil)) (pa_cons (pe_lst (pa_cons (pe_tup (pa_cons pe_str (pa_cons pe_int (pa_cons pe_int pa_nil)))) pa_nil)) pa_nil))))))))
      (pss_cons (ps_set (i := 2) sc__law_odd_train.nd rfl (.inl rfl) (pe_op op_cat (pv 2) (pe_lst (pa_cons (pe_op op_cat (pv 1) (pe_lst (pa_cons pe_int pa_nil))) (pa_cons (pe_lst (pa_cons (pe_tup (pa_cons pe_str (pa_cons pe_int pa_nil))) pa_nil)) (pa_cons (pe_lst (pa_cons (pe_tup (pa_cons pe_str pa_nil)) (pa_cons pe_str pa_nil))) (pa_cons (pe_lst (pa_cons (pe_tup (pa_cons pe_str (pa_cons pe_int (pa_cons (pe_tup (pa_cons pe_int pa_nil)) (pa_cons (pe_tup pa_nil) pa_nil))))) pa_nil)) (pa_cons (pe_lst (pa_cons (pe_tup (pa_cons pe_int pa_nil)) pa_nil)) (pa_cons (pe_lst (pa_cons (pe_lst pa_nil) pa_nil)) pa_nil)))))))))
      (pss_cons (ps_set (i := 2) sc__law_odd_train.nd rfl (.inl rfl) (pe_op op_cat (pv 2) (pe_lst (pa_cons (pe_op op_powB pe_int pe_int) (pa_cons pe_bl pa_nil)))))
      (pss_one (ps_ret (pe_ix (r := rIxL K) ix_list (pv 2) (pe_op op_mod (pe_call G__law_next (hr.mono (by decide)) (by rfl) g__law_next F__law_next.kp b__law_next .nil pass0 (pa_cons (pv 0) pa_nil)) pe_int) (fun _ _ => rfl))))))))))), ?_⟩
    refine w_st (σ' := [some (.ref D), some (.ref a), none]) rfl ?_
    with_reducible refine w_seq ?_
    with_reducible refine w_asg ?_
    refine GvL.use (K := K) (ds := [.none, .tuple [], .list [], .tuple (ps.map Part.data), .str "click", .list [.none], .list [.tuple []], .list [.list [.str "click"]], .list [.tuple [.str "click", .int 0]], .list [.tuple [.str "Click"]]]) (by
        walk_at "gv"
        exact (gvT_tupV (by rfl) (by assumption) (by assumption) rfl).gv
        walk_at "gv"
    ) fun l0 vs0 H0 s0 h0 d0 => ?_
    have a0 := s0 _ _ ha
    have w0 := dpAll_same s0 hd
    with_reducible refine w_name (σ' := [some (.ref D), some (.ref a), some (.ref l0)]) rfl ?_
    with_reducible refine w_seq ?_
    with_reducible refine w_asg ?_
    refine GvL.use (K := K) (gvL_cat (es := [.list [.tuple [.str "wheel", .int 3]], .list [.tuple [.str "wheel", .int 0, .tuple []]], .list [.tuple [.str "wheel", .int 3, .list [.int 0]]], .list [.tuple [.str "wheel", .int 3, .tuple [.int 1, .int 1]]]]) (gvL_var rfl h0 d0) (by walk_at "gv") (Nat.le_of_ble_eq_true rfl)) fun l1 vs1 H1 t1 h1 d1 => ?_
    have a1 := t1 _ _ a0
    have w1 := dpAll_same t1 w0
    with_reducible refine w_name (σ' := [some (.ref D), some (.ref a), some (.ref l1)]) rfl ?_
    have s1 := s0.trans t1
    with_reducible refine w_seq ?_
    with_reducible refine w_asg ?_
    refine GvL.use (K := K) (gvL_cat (es := [.list [.tuple [.str "wheel", .int 3, .tuple [.int 2, .int 1]]]]) (gvL_var rfl h1 d1) (by walk_at "gv") (Nat.le_of_ble_eq_true rfl)) fun l2 vs2 H2 t2 h2 d2 => ?_
    have a2 := t2 _ _ a1
    have w2 := dpAll_same t2 w1
    with_reducible refine w_name (σ' := [some (.ref D), some (.ref a), some (.ref l2)]) rfl ?_
    have s2 := s1.trans t2
    with_reducible refine w_seq ?_
    with_reducible refine w_asg ?_
    refine GvL.use (K := K) (gvL_cat (es := [.list [.tuple [.str "wheel", .int 3, .tuple [.int 3]]], .list [.tuple [.str "wheel", .int 3, .tuple [.int (-1)]]], .list [.tuple [.str "wheel", .bool true, .tuple []]], .list [.tuple [.str "wheel", .int 3, .tuple [.none]]]]) (gvL_var rfl h2 d2) (by walk_at "gv") (Nat.le_of_ble_eq_true rfl)) fun l3 vs3 H3 t3 h3 d3 => ?_
    have a3 := t3 _ _ a2
    have w3 := dpAll_same t3 w2
    with_reducible refine w_name (σ' := [some (.ref D), some (.ref a), some (.ref l3)]) rfl ?_
    have s3 := s2.trans t3
    with_reducible refine w_seq ?_
    with_reducible refine w_asg ?_
    refine GvL.use (K := K) (gvL_cat (es := [.list [.tuple [.str "spring"]], .list [.tuple [.str "spring", .int 0]], .list [.tuple [.str "spring", .int (-1)]], .list [.tuple [.str "spring", .str "2"]], .list [.tuple [.str "spring", .int 1, .int 1]]]) (gvL_var rfl h3 d3) (by walk_at "gv") (Nat.le_of_ble_eq_true rfl)) fun l4 vs4 H4 t4 h4 d4 => ?_
    have a4 := t4 _ _ a3
    have w4 := dpAll_same t4 w3
    with_reducible refine w_name (σ' := [some (.ref D), some (.ref a), some (.ref l4)]) rfl ?_
    have s4 := s3.trans t4
    with_reducible refine w_seq ?_
    with_reducible refine w_asg ?_
    refine GvL.use (K := K) (gvL_cat (es := [.list (ps.map Part.data ++ [.int 7]), .list [.tuple [.str "rocker", .int 1]], .list [.tuple [.str "rocker"], .str "rocker"], .list [.tuple [.str "wheel", .int 2, .tuple [.int 0], .tuple []]], .list [.tuple [.int 1]], .list [.list []]]) (gvL_var rfl h4 d4) (by
        walk_at "gv"
        exact (gvL_cat (gvL_var (by rfl) (by assumption) (by assumption)) (gvL_lst (gv_cons gv_int gv_nil)) (by rw [List.length_map]; show ps.length + 1 ≤ 1000; omega)).gv
        walk_at "gv"
    ) (Nat.le_of_ble_eq_true rfl)) fun l5 vs5 H5 t5 h5 d5 => ?_
    have a5 := t5 _ _ a4
    have w5 := dpAll_same t5 w4
    with_reducible refine w_name (σ' := [some (.ref D), some (.ref a), some (.ref l5)]) rfl ?_
    have s5 := s4.trans t5
    with_reducible refine w_seq ?_
    with_reducible refine w_asg ?_
    refine GvL.use (K := K) (gvL_cat (es := [.int (1000000000000000000000000000000), .bool true]) (gvL_var rfl h5 d5) (by walk_at "gv") (Nat.le_of_ble_eq_true rfl)) fun l6 vs6 H6 t6 h6 d6 => ?_
    have a6 := t6 _ _ a5
    have w6 := dpAll_same t6 w5
    with_reducible refine w_name (σ' := [some (.ref D), some (.ref a), some (.ref l6)]) rfl ?_
    have s6 := s5.trans t6
    walk_at "ct"
    refine ⟨D, c, rfl, s6 _ _ hD, by omega, fun n1 _ _ => ?_⟩
    have dr := ((Dr.refl hD).same s6).trans (Dr.step (s6 _ _ hD) (c + 1))
    have hl := (Dr.step (s6 _ _ hD) (c + 1)).at (s6 _ _ hD) h6
    have hdd := (Dr.step (s6 _ _ hD) (c + 1)).all (s6 _ _ hD) d6
    generalize upd H6 D _ = H9 at *
    walk_at "ct"
    refine w_mod (by decide) fun r r0 r1 => ?_
    refine w_some (.of hl) hdd r0 r1 fun v d hm hv => ?_
    walk_at "ct"
    have lit : ∀ ds : List PyData, ds.all (fun d => fineB 6 200 d && !isT d) = true → ∀ d ∈ ds, Fine d 6 200 ∧ isT d = false := fun ds h d hd => by
      have z := List.all_eq_true.mp h d hd
      rw [Bool.and_eq_true] at z
      exact ⟨fine_by (ds := [d]) (by rw [List.all_cons, z.1]; rfl) d List.mem_cons_self, by simpa using z.2⟩
    have fps : FineA (ps.map Part.data) 2 68 := (fineA_map fp).mono (Nat.le_refl _) (by omega)
    have sp1 : Fine (.tuple (ps.map Part.data)) 6 200 ∧ isT (.tuple (ps.map Part.data)) = false := ⟨fps.tup.mono (by decide) (by decide), rfl⟩
    have sp2 : Fine (.list (ps.map Part.data ++ [.int 7])) 6 200 ∧ isT (.list (ps.map Part.data ++ [.int 7])) = false := ⟨(FineA.app fps (FineA.one (m := 0) (fine_int (by decide)))).lst.mono (by decide) (by decide), no_part (d := .int 7) (List.mem_append_right _ List.mem_cons_self) rfl⟩
    suffices both : Fine d 6 200 ∧ isT d = false from q v d H9 dr hv both.1 both.2
    rcases List.mem_append.mp hm with hm | hm
    rotate_left
    · exact lit _ (by decide +kernel) d hm
    rcases List.mem_append.mp hm with hm | hm
    rotate_left
    · rcases List.mem_cons.mp hm with rfl | hm
      · exact sp2
      exact lit _ (by decide +kernel) d hm
    rcases List.mem_append.mp hm with hm | hm
    rotate_left
    · exact lit _ (by decide +kernel) d hm
    rcases List.mem_append.mp hm with hm | hm
    rotate_left
    · exact lit _ (by decide +kernel) d hm
    rcases List.mem_append.mp hm with hm | hm
    rotate_left
    · exact lit _ (by decide +kernel) d hm
    rcases List.mem_append.mp hm with hm | hm
    rotate_left
    · exact lit _ (by decide +kernel) d hm
    rcases List.mem_cons.mp hm with rfl | hm
    · exact lit [_] (by decide +kernel) _ List.mem_cons_self
    rcases List.mem_cons.mp hm with rfl | hm
    · exact lit [_] (by decide +kernel) _ List.mem_cons_self
    rcases List.mem_cons.mp hm with rfl | hm
    · exact lit [_] (by decide +kernel) _ List.mem_cons_self
    rcases List.mem_cons.mp hm with rfl | hm
    · exact sp1
    exact lit _ (by decide +kernel) d hm
abbrev S__law_odd_stand : Stmt := topS 56
theorem sc__law_odd_stand : FnScope ["_law_draws_here", "_law_train_here", "_law_stand_here", "_law_at", "_law_some"] ["_law_draws_here", "_law_train_here", "_law_stand_here"] (defScope S__law_odd_stand) := ⟨rfl, rfl, rfl, by decide +kernel, rfl, by decide +kernel, by decide +kernel⟩
def sp__law_odd_stand (K : PySem.W.Frag) : Sp := fun vs H Q _ => ∃ (D t : Addr) (va : V) (c : Nat) (ps : List Part) (xs : List Int), vs = [.ref D, va, .ref t] ∧ H D = some (DrO D c) ∧ c ≤ 900000 ∧ SqT K H t (xs.map V.int) ∧ xs.length = ps.length ∧ 1 ≤ ps.length ∧ ps.length ≤ 4 ∧ (∀ p ∈ ps, p.places ≤ 7) ∧ (∀ x ∈ xs, x.natAbs < 2 ^ 200) ∧ ∀ v e H', Dr D (c + 2) H H' → Dp K H' v e → Fine e 4 100 → isSt ps e = false → Q v H'
theorem ok__law_odd_stand {f : Addr} {fd : FuncData} {f__law_next : Addr} {fd__law_next : FuncData} (F : Fun K "_law_odd_stand" "_law_odd_stand" S__law_odd_stand f fd)
    (F__law_next : Fun K "_law_next" "_law_next" S__law_next f__law_next fd__law_next) (b__law_next : Binds K fd__law_next ["_law_draws_here"] []) (g__law_next : mg "_law_next" = some (.ref f__law_next)) (G__law_next : FnOk P w K mg base CX0 1 f__law_next fd__law_next ["_law_draws_here"] (sp__law_next K)) (m_len : mg "len" = none) (m_list : mg "list" = none) :
    FnOk P w K mg base CX0 2 f fd ["_law_draws_here", "_law_train_here", "_law_stand_here"] (sp__law_odd_stand K) := by
  refine F.ok sc__law_odd_stand (fun vs H Q E h => ?_) (fun cdv A outer s H vs Q E hr h => ?_)
  ·
    obtain ⟨D, t, va, c, ps, xs, rfl, _⟩ := h
    rfl
  ·
    obtain ⟨D, t, va, c, ps, xs, rfl, hD, hc, ht, xl, pl1, pl, pp, xb, q⟩ := h
    refine ⟨_, (pss_cons (ps_set (i := 3) sc__law_odd_stand.nd rfl (.inl rfl) (pe_op op_mod (pe_call G__law_next (hr.mono (by decide)) (by rfl) g__law_next F__law_next.kp b__law_next .nil pass0 (pa_cons (pv 0) pa_nil)) (pe_callB call_len_seq (by rfl) m_len (by decide +kernel) (pa_cons (pv 2) pa_nil))))
      (pss_cons (ps_set (i := 4) sc__law_odd_stand.nd rfl (.inl rfl) (pe_lst (pa_cons pe_non (pa_cons (pe_tup pa_nil) (pa_cons (pe_callTy call_list_of (by rfl) m_list (by decide +kernel) (pa_cons (pv 2) pa_nil)) (pa_cons (pe_op (r := rCatA K) op_catA (pv 2) (pe_tup (pa_cons pe_int pa_nil))) (pa_cons (pe_slice (r := rSlA K) sl_tupA (pv 2) (po_some pe_int) po_none) (pa_cons (pe_op (r := rCatA K) op_catA (pe_op (r := rCatA K) op_catA (pe_slice (r := rSlA K) sl_tupA (pv 2) po_none (po_some (pv 3))) (pe_tup (pa_cons pe_non pa_nil))) (pe_slice (r := rSlA K) sl_tupA (pv 2) (po_some (pe_op op_add (pv 3) pe_int)) po_none)) (pa_cons pe_int (pa_cons pe_str (pa_cons pe_bl pa_nil)))))))))))
      (pss_cons (ps_set (i := 4) sc__law_odd_stand.nd rfl (.inl rfl) (pe_op op_cat (pv 4) (pe_lst (pa_cons (pe_op (r := rCatA K) op_catA (pe_op (r := rCatA K) op_catA (pe_slice (r := rSlA K) sl_tupA (pv 2) po_none (po_some (pv 3))) (pe_tup (pa_cons (pe_op op_sub pe_int pe_int) pa_nil))) (pe_slice (r := rSlA K) sl_tupA (pv 2) (po_some (pe_op op_add (pv 3) pe_int)) po_none)) (pa_cons (pe_op (r := rCatA K) op_catA (pe_op (r := rCatA K) op_catA (pe_slice (r := rSlA K) sl_tupA (pv 2) po_none (po_some (pv 3))) (pe_tup (pa_cons pe_int pa_nil))) (pe_slice (r := rSlA K) sl_tupA (pv 2) (po_some (pe_op op_add (pv 3) pe_int)) po_none)) (pa_cons (pe_lst (pa_cons (pv 2) pa_nil)) (pa_cons (pe_tup (pa_cons (pv 2) pa_nil)) pa_nil)))))))
      (pss_cons (ps_set (i := 4) sc__law_odd_stand.nd rfl (.inl rfl) (pe_op op_cat (pv 4) (pe_lst (pa_cons (pe_op (r := rCatA K) op_catA (pe_op (r := rCatA K) op_catA (pe_slice (r := rSlA K) sl_tupA (pv 2) po_none (po_some (pv 3))) (pe_tup (pa_cons (pe_op op_powB pe_int pe_int) pa_nil))) (pe_slice (r := rSlA K) sl_tupA (pv 2) (po_some (pe_op op_add (pv 3) pe_int)) po_none)) (pa_cons (pe_op (r := rCatA K) op_catA (pe_op (r := rCatA K) op_catA (pe_slice (r := rSlA K) sl_tupA (pv 2) po_none (po_some (pv 3))) (pe_tup (pa_cons (pe_tup (pa_cons pe_int pa_nil)) pa_nil))) (pe_slice (r := rSlA K) sl_tupA (pv 2) (po_some (pe_op op_add (pv 3) pe_int)) po_none)) pa_nil)))))
      (pss_cons (ps_set (i := 4) sc__law_odd_stand.nd rfl (.inl rfl) (pe_op op_cat (pv 4) (pe_lst (pa_cons (pe_op (r := rCatA K) op_catA (pe_op (r := rCatA K) op_catA (pe_slice (r := rSlA K) sl_tupA (pv 2) po_none (po_some (pv 3))) (pe_tup (pa_cons pe_bl pa_nil))) (pe_slice (r := rSlA K) sl_tupA (pv 2) (po_some (pe_op op_add (pv 3) pe_int)) po_none)) (pa_cons (pe_op (r := rCatA K) op_catA (pe_op (r := rCatA K) op_catA (pe_slice (r := rSlA K) sl_tupA (pv 2) po_none (po_some (pv 3))) (pe_tup (pa_cons pe_bl pa_nil))) (pe_slice (r := rSlA K) sl_tupA (pv 2) (po_some (pe_op op_add (pv 3) pe_int)) po_none)) pa_nil)))))
      (pss_one (ps_ret (pe_ix (r := rIxL K) ix_list (pv 4) (pe_op op_mod (pe_call G__law_next (hr.mono (by decide)) (by rfl) g__law_next F__law_next.kp b__law_next .nil pass0 (pa_cons (pv 0) pa_nil)) pe_int) (fun _ _ => rfl))))))))), ?_⟩
    refine w_st (σ' := [some (.ref D), some va, some (.ref t), none, none]) rfl ?_
    walk_at "ct"
    refine ⟨D, c, rfl, hD, by omega, fun n1 _ _ => ?_⟩
    have dr1 := Dr.step hD (c + 1)
    have ht1 := but_tup (drO_ext hD) dr1.1 ht
    generalize upd H D _ = HA at *
    walk_at "ct"
    refine ⟨t, _, rfl, .inr ht1, ?_⟩
    walk_at "ct"
    refine w_mod (by rw [List.length_map]; omega) fun at0 a00 a01 => ?_
    rw [List.length_map] at a01
    obtain ⟨at_, rfl⟩ : ∃ at_ : Nat, at0 = at_ := ⟨at0.toNat, by omega⟩
    with_reducible refine w_name (σ' := [some (.ref D), some va, some (.ref t), some (.int (at_ : Int)), none]) rfl ?_
    have hDA := dr1.2
    with_reducible refine w_seq ?_
    with_reducible refine w_asg ?_
    refine GvL.use (K := K) (ds := [.none, .tuple [], .list (xs.map PyData.int), .tuple (xs.map PyData.int ++ [.int 0]), .tuple ((xs.map PyData.int).drop 1), .tuple ((xs.map PyData.int).take at_ ++ [.none] ++ (xs.map PyData.int).drop (at_ + 1)), .int 0, .str "0", .bool true]) (by
        walk_at "gv"
        exact (gvL_lstV (by rfl) (by assumption) (dpAll_ints xs) rfl).gv
        walk_at "gv"
        exact (gvT_cat (gvT_var (by rfl) (by assumption) (dpAll_ints xs)) (gvT_tup (gv_cons gv_int gv_nil)) (by rw [List.length_map]; show xs.length + 1 ≤ 1000; omega)).gv
        walk_at "gv"
        exact (gvT_tail (by rfl) (by assumption) (dpAll_ints xs) (by rw [List.length_map]; omega)).gv
        walk_at "gv"
        exact (gvT_mid (k := at_) (by rfl) (by assumption) (dpAll_ints xs) (by rfl) (by rw [List.length_map]; omega) (by rw [List.length_map]; omega) rfl (by walk_at "gv")).gv
        walk_at "gv"
    ) fun l0 vs0 H0 s0 h0 d0 => ?_
    have w0 := Same.tup s0 ht1
    with_reducible refine w_name (σ' := [some (.ref D), some va, some (.ref t), some (.int (at_ : Int)), some (.ref l0)]) rfl ?_
    with_reducible refine w_seq ?_
    with_reducible refine w_asg ?_
    refine GvL.use (K := K) (gvL_cat (es := [.tuple ((xs.map PyData.int).take at_ ++ [.int (-1)] ++ (xs.map PyData.int).drop (at_ + 1)), .tuple ((xs.map PyData.int).take at_ ++ [.int 9] ++ (xs.map PyData.int).drop (at_ + 1)), .list [.tuple (xs.map PyData.int)], .tuple [.tuple (xs.map PyData.int)]]) (gvL_var rfl h0 d0) (by
        walk_at "gv"
        exact (gvT_mid (k := at_) (by rfl) (by assumption) (dpAll_ints xs) (by rfl) (by rw [List.length_map]; omega) (by rw [List.length_map]; omega) rfl (by walk_at "gv")).gv
        walk_at "gv"
        exact (gvT_mid (k := at_) (by rfl) (by assumption) (dpAll_ints xs) (by rfl) (by rw [List.length_map]; omega) (by rw [List.length_map]; omega) rfl (by walk_at "gv")).gv
        walk_at "gv"
        exact (gvT_var (by rfl) (by assumption) (dpAll_ints xs)).gv
        walk_at "gv"
        exact (gvT_var (by rfl) (by assumption) (dpAll_ints xs)).gv
        walk_at "gv"
    ) (Nat.le_of_ble_eq_true rfl)) fun l1 vs1 H1 t1 h1 d1 => ?_
    have w1 := Same.tup t1 w0
    with_reducible refine w_name (σ' := [some (.ref D), some va, some (.ref t), some (.int (at_ : Int)), some (.ref l1)]) rfl ?_
    have s1 := s0.trans t1
    with_reducible refine w_seq ?_
    with_reducible refine w_asg ?_
    refine GvL.use (K := K) (gvL_cat (es := [.tuple ((xs.map PyData.int).take at_ ++ [.int (1000000000000000000000000000000000000000)] ++ (xs.map PyData.int).drop (at_ + 1)), .tuple ((xs.map PyData.int).take at_ ++ [.tuple [.int 0]] ++ (xs.map PyData.int).drop (at_ + 1))]) (gvL_var rfl h1 d1) (by
        walk_at "gv"
        exact (gvT_mid (k := at_) (by rfl) (by assumption) (dpAll_ints xs) (by rfl) (by rw [List.length_map]; omega) (by rw [List.length_map]; omega) rfl (by walk_at "gv")).gv
        walk_at "gv"
        exact (gvT_mid (k := at_) (by rfl) (by assumption) (dpAll_ints xs) (by rfl) (by rw [List.length_map]; omega) (by rw [List.length_map]; omega) rfl (by walk_at "gv")).gv
        walk_at "gv"
    ) (Nat.le_of_ble_eq_true rfl)) fun l2 vs2 H2 t2 h2 d2 => ?_
    have w2 := Same.tup t2 w1
    with_reducible refine w_name (σ' := [some (.ref D), some va, some (.ref t), some (.int (at_ : Int)), some (.ref l2)]) rfl ?_
    have s2 := s1.trans t2
    with_reducible refine w_seq ?_
    with_reducible refine w_asg ?_
    refine GvL.use (K := K) (gvL_cat (es := [.tuple ((xs.map PyData.int).take at_ ++ [.bool true] ++ (xs.map PyData.int).drop (at_ + 1)), .tuple ((xs.map PyData.int).take at_ ++ [.bool false] ++ (xs.map PyData.int).drop (at_ + 1))]) (gvL_var rfl h2 d2) (by
        walk_at "gv"
        exact (gvT_mid (k := at_) (by rfl) (by assumption) (dpAll_ints xs) (by rfl) (by rw [List.length_map]; omega) (by rw [List.length_map]; omega) rfl (by walk_at "gv")).gv
        walk_at "gv"
        exact (gvT_mid (k := at_) (by rfl) (by assumption) (dpAll_ints xs) (by rfl) (by rw [List.length_map]; omega) (by rw [List.length_map]; omega) rfl (by walk_at "gv")).gv
        walk_at "gv"
    ) (Nat.le_of_ble_eq_true rfl)) fun l3 vs3 H3 t3 h3 d3 => ?_
    have w3 := Same.tup t3 w2
    with_reducible refine w_name (σ' := [some (.ref D), some va, some (.ref t), some (.int (at_ : Int)), some (.ref l3)]) rfl ?_
    have s3 := s2.trans t3
    walk_at "ct"
    refine ⟨D, c + 1, rfl, s3 _ _ hDA, by omega, fun n2 _ _ => ?_⟩
    have dr := (dr1.same s3).trans (Dr.step (s3 _ _ hDA) (c + 2))
    have hl := (Dr.step (s3 _ _ hDA) (c + 2)).at (s3 _ _ hDA) h3
    have hdd := (Dr.step (s3 _ _ hDA) (c + 2)).all (s3 _ _ hDA) d3
    generalize upd H3 D _ = H9 at *
    walk_at "ct"
    refine w_mod (by decide) fun r r0 r1 => ?_
    refine w_some (.of hl) hdd r0 r1 fun v d hm hv => ?_
    walk_at "ct"
    have fxs : FineA (xs.map PyData.int) 2 4 := fineA_ints xb (by omega)
    have fl : ∀ d : PyData, fineB 4 100 d = true → Fine d 4 100 := fun d h => fine_by (ds := [d]) (by rw [List.all_cons, h]; rfl) d List.mem_cons_self
    suffices both : Fine d 4 100 ∧ isSt ps d = false from q v d H9 dr hv both.1 both.2
    rcases List.mem_append.mp hm with hm | hm
    rotate_left
    · rcases List.mem_cons.mp hm with rfl | hm
      · exact ⟨(fxs.mid (d := .bool true) (m' := 1) (fine_by (ds := [_]) (by decide +kernel) _ List.mem_cons_self) at_).tup.mono (by decide) (by decide), no_st mid_mem fun _ _ _ z => nomatch z⟩
      rcases List.mem_cons.mp hm with rfl | hm
      · exact ⟨(fxs.mid (d := .bool false) (m' := 1) (fine_by (ds := [_]) (by decide +kernel) _ List.mem_cons_self) at_).tup.mono (by decide) (by decide), no_st mid_mem fun _ _ _ z => nomatch z⟩
      cases hm
    rcases List.mem_append.mp hm with hm | hm
    rotate_left
    · rcases List.mem_cons.mp hm with rfl | hm
      · exact ⟨(fxs.mid (d := .int (1000000000000000000000000000000000000000)) (m' := 1) (fine_by (ds := [_]) (by decide +kernel) _ List.mem_cons_self) at_).tup.mono (by decide) (by decide), no_st mid_mem fun p hp _ z => by cases z; have := pp _ hp; omega⟩
      rcases List.mem_cons.mp hm with rfl | hm
      · exact ⟨(fxs.mid (d := .tuple [.int 0]) (m' := 1) (fine_by (ds := [_]) (by decide +kernel) _ List.mem_cons_self) at_).tup.mono (by decide) (by decide), no_st mid_mem fun _ _ _ z => nomatch z⟩
      cases hm
    rcases List.mem_append.mp hm with hm | hm
    rotate_left
    · rcases List.mem_cons.mp hm with rfl | hm
      · exact ⟨(fxs.mid (d := .int (-1)) (m' := 1) (fine_by (ds := [_]) (by decide +kernel) _ List.mem_cons_self) at_).tup.mono (by decide) (by decide), no_st mid_mem fun p hp _ z => by cases z; have := pp _ hp; omega⟩
      rcases List.mem_cons.mp hm with rfl | hm
      · exact ⟨(fxs.mid (d := .int 9) (m' := 1) (fine_by (ds := [_]) (by decide +kernel) _ List.mem_cons_self) at_).tup.mono (by decide) (by decide), no_st mid_mem fun p hp _ z => by cases z; have := pp _ hp; omega⟩
      rcases List.mem_cons.mp hm with rfl | hm
      · exact ⟨(FineA.one fxs.tup).lst.mono (by decide) (by decide), rfl⟩
      rcases List.mem_cons.mp hm with rfl | hm
      · exact ⟨(FineA.one fxs.tup).tup.mono (by decide) (by decide), no_st List.mem_cons_self fun _ _ _ z => nomatch z⟩
      cases hm
    rcases List.mem_cons.mp hm with rfl | hm
    · exact ⟨fl _ (by decide +kernel), rfl⟩
    rcases List.mem_cons.mp hm with rfl | hm
    · exact ⟨fl _ (by decide +kernel), no_len (by show 0 ≠ ps.length; omega)⟩
    rcases List.mem_cons.mp hm with rfl | hm
    · exact ⟨fxs.lst.mono (by decide) (by decide), rfl⟩
    rcases List.mem_cons.mp hm with rfl | hm
    · exact ⟨(FineA.app fxs (FineA.one (m := 0) (fine_int (by decide)))).tup.mono (by decide) (by decide), no_len (by rw [List.length_append, List.length_map]; show xs.length + 1 ≠ ps.length; omega)⟩
    rcases List.mem_cons.mp hm with rfl | hm
    · exact ⟨(fxs.drop 1).tup.mono (by decide) (by decide), no_len (by rw [List.length_drop, List.length_map]; omega)⟩
    rcases List.mem_cons.mp hm with rfl | hm
    · exact ⟨(fxs.mid (d := .none) (m' := 1) (fine_by (ds := [_]) (by decide +kernel) _ List.mem_cons_self) at_).tup.mono (by decide) (by decide), no_st mid_mem fun _ _ _ z => nomatch z⟩
    rcases List.mem_cons.mp hm with rfl | hm
    · exact ⟨fl _ (by decide +kernel), rfl⟩
    rcases List.mem_cons.mp hm with rfl | hm
    · exact ⟨fl _ (by decide +kernel), rfl⟩
    rcases List.mem_cons.mp hm with rfl | hm
    · exact ⟨fl _ (by decide +kernel), rfl⟩
    cases hm
abbrev S__law_odd_shows : Stmt := topS 57
theorem sc__law_odd_shows : FnScope ["_law_draws_here", "_law_shows", "_law_some", "_law_way", "_law_at", "_law_one"] ["_law_draws_here", "_law_shows"] (defScope S__law_odd_shows) := ⟨rfl, rfl, rfl, by decide +kernel, rfl, by decide +kernel, by decide +kernel⟩
def sp__law_odd_shows (K : PySem.W.Frag) : Sp := fun vs H Q _ => ∃ (D b : Addr) (c : Nat) (ws : List V) (ss : List (Int × Int)), vs = [.ref D, .ref b] ∧ H D = some (DrO D c) ∧ c ≤ 900000 ∧ H b = some (.lst ws) ∧ DpAll K H ws (ss.map sh2D) ∧ FineA (ss.map sh2D) 1 40 ∧ ss.length ≤ 12 ∧ ∀ v d H', Dr D (c + 3) H H' → Dp K H' v d → Fine d 4 200 → isShows d = false → Q v H'
theorem ok__law_odd_shows {f : Addr} {fd : FuncData} {f__law_next : Addr} {fd__law_next : FuncData} (F : Fun K "_law_odd_shows" "_law_odd_shows" S__law_odd_shows f fd)
    (F__law_next : Fun K "_law_next" "_law_next" S__law_next f__law_next fd__law_next) (b__law_next : Binds K fd__law_next ["_law_draws_here"] []) (g__law_next : mg "_law_next" = some (.ref f__law_next)) (G__law_next : FnOk P w K mg base CX0 1 f__law_next fd__law_next ["_law_draws_here"] (sp__law_next K)) (m_isinstance : mg "isinstance" = none) (m_list : mg "list" = none) (m_tuple : mg "tuple" = none) (m_len : mg "len" = none) :
    FnOk P w K mg base CX0 2 f fd ["_law_draws_here", "_law_shows"] (sp__law_odd_shows K) := by
  refine F.ok sc__law_odd_shows (fun vs H Q E h => ?_) (fun cdv A outer s H vs Q E hr h => ?_)
  ·
    obtain ⟨D, b, c, ws, ss, rfl, _⟩ := h
    rfl
  ·
    obtain ⟨D, b, c, ws, ss, rfl, hD, hc, hb, hd, fs, sl, q⟩ := h
    refine ⟨_, (pss_cons (ps_set (i := 2) sc__law_odd_shows.nd rfl (.inl rfl) (pe_lst (pa_cons pe_non (pa_cons (pe_tup pa_nil) (pa_cons (pe_op (r := rCatA K) op_catA (pe_callTy call_tuple_of (by rfl) m_tuple (by decide +kernel) (pa_cons (pv 1) pa_nil)) (pe_tup (pa_cons (pe_tup (pa_cons pe_int (pa_cons pe_int pa_nil))) pa_nil))) (pa_cons pe_str (pa_cons pe_str (pa_cons pe_int (pa_cons pe_bl (pa_cons (pe_lst (pa_cons pe_non pa_nil)) (pa_cons (pe_lst (pa_cons (pe_tup pa_nil) pa_nil)) (pa_cons (pe_lst (pa_cons (pe_tup (pa_cons pe_int pa_nil)) pa_nil)) (pa_cons (pe_lst (pa_cons (pe_tup (pa_cons pe_int (pa_cons pe_int (pa_cons pe_int pa_nil)))) pa_nil)) (pa_cons (pe_lst (pa_cons (pe_lst (pa_cons pe_int (pa_cons pe_int pa_nil))) pa_nil)) (pa_cons (pe_lst (pa_cons (pe_lst pa_nil) pa_nil)) pa_nil)))))))))))))))
      (pss_cons (ps_set (i := 2) sc__law_odd_shows.nd rfl (.inl rfl) (pe_op op_cat (pv 2) (pe_lst (pa_cons (pe_lst (pa_cons (pe_tup (pa_cons pe_int (pa_cons pe_int pa_nil))) pa_nil)) (pa_cons (pe_lst (pa_cons (pe_tup (pa_cons pe_int (pa_cons pe_int pa_nil))) pa_nil)) (pa_cons (pe_lst (pa_cons (pe_tup (pa_cons pe_int (pa_cons pe_int pa_nil))) pa_nil)) (pa_cons (pe_lst (pa_cons (pe_tup (pa_cons (pe_op op_sub pe_int pe_int) (pa_cons (pe_op op_sub pe_int pe_int) pa_nil))) pa_nil)) (pa_cons (pe_lst (pa_cons (pe_tup (pa_cons pe_int (pa_cons pe_non pa_nil))) pa_nil)) (pa_cons (pe_lst (pa_cons (pe_tup (pa_cons pe_str (pa_cons pe_int pa_nil))) pa_nil)) pa_nil)))))))))
      (pss_cons (ps_set (i := 2) sc__law_odd_shows.nd rfl (.inl rfl) (pe_op op_cat (pv 2) (pe_lst (pa_cons (pe_lst (pa_cons (pe_tup (pa_cons pe_int (pa_cons (pe_tup (pa_cons pe_int pa_nil)) pa_nil))) pa_nil)) (pa_cons (pe_lst (pa_cons (pe_tup (pa_cons (pe_op op_powB pe_int pe_int) (pa_cons pe_int pa_nil))) pa_nil)) (pa_cons (pe_lst (pa_cons (pe_tup (pa_cons pe_bl (pa_cons pe_int pa_nil))) pa_nil)) (pa_cons (pe_lst (pa_cons (pe_tup (pa_cons pe_int (pa_cons pe_bl pa_nil))) pa_nil)) (pa_cons (pe_lst (pa_cons (pe_tup (pa_cons pe_int (pa_cons pe_bl pa_nil))) pa_nil)) pa_nil))))))))
      (pss_cons (ps_set (i := 2) sc__law_odd_shows.nd rfl (.inl rfl) (pe_op op_cat (pv 2) (pe_lst (pa_cons (pe_lst (pa_cons (pe_tup (pa_cons (pe_op op_sub pe_int pe_int) (pa_cons pe_int pa_nil))) pa_nil)) (pa_cons (pe_lst (pa_cons (pe_tup (pa_cons (pe_op op_sub pe_int (pe_op op_powB pe_int pe_int)) (pa_cons pe_int pa_nil))) pa_nil)) pa_nil)))))
      (pss_cons (ps_set (i := 3) sc__law_odd_shows.nd rfl (.inl rfl) (pe_op op_mod (pe_call G__law_next (hr.mono (by decide)) (by rfl) g__law_next F__law_next.kp b__law_next .nil pass0 (pa_cons (pv 0) pa_nil)) pe_int))
      (pss_cons (ps_set (i := 4) sc__law_odd_shows.nd rfl (.inl rfl) (pe_op op_mod (pe_call G__law_next (hr.mono (by decide)) (by rfl) g__law_next F__law_next.kp b__law_next .nil pass0 (pa_cons (pv 0) pa_nil)) (pe_op op_add (pe_callB call_len_seq (by rfl) m_len (by decide +kernel) (pa_cons (pv 1) pa_nil)) pe_int)))
      (pss_cons (ps_set (i := 5) sc__law_odd_shows.nd rfl (.inl rfl) (pe_ix (r := rIxL K) ix_list (pv 2) (pe_op op_mod (pe_call G__law_next (hr.mono (by decide)) (by rfl) g__law_next F__law_next.kp b__law_next .nil pass0 (pa_cons (pv 0) pa_nil)) pe_int) (fun _ _ => rfl)))
      (pss_cons (ps_if (PW.pt (pw_and (pt_cmpR op_eq (pv 3) pe_int (nomark _)) (pw_and1 (pt_val (pe_callB (r := rIsi K) call_isi (by rfl) m_isinstance (by decide +kernel) (pa_cons (pv 5) (pa_cons (pe_bltn (v := .ty "list") (u := .type "list") (by rfl) m_list (by decide +kernel) rfl) pa_nil))))))) (pss_one (ps_ret (pe_op (r := rCatS K) op_catS (pe_op (r := rCatS K) op_catS (pe_slice (r := rSlL K) sl_list (pv 1) po_none (po_some (pv 4))) (pv 5)) (pe_slice (r := rSlL K) sl_list (pv 1) (po_some (pv 4)) po_none)))) pss_nil)
      (pss_one (ps_ret (pv 5))))))))))), ?_⟩
    refine w_st (σ' := [some (.ref D), some (.ref b), none, none, none, none]) rfl ?_
    with_reducible refine w_seq ?_
    with_reducible refine w_asg ?_
    refine GvL.use (K := K) (ds := [.none, .tuple [], .tuple (ss.map sh2D ++ [.tuple [.int 1, .int 0]]), .str "", .str "none", .int 0, .bool true, .list [.none], .list [.tuple []], .list [.tuple [.int 1]], .list [.tuple [.int 1, .int 0, .int 0]], .list [.list [.int 1, .int 0]], .list [.list []]]) (by
        walk_at "gv"
        exact (gvT_cat (gvT_tupV (by rfl) (by assumption) (by assumption) rfl) (gvT_tup (gv_cons (GvT.gv (gvT_tup (gv_cons gv_int (gv_cons gv_int gv_nil)))) gv_nil)) (by rw [List.length_map]; show ss.length + 1 ≤ 1000; omega)).gv
        walk_at "gv"
    ) fun l0 vs0 H0 s0 h0 d0 => ?_
    with_reducible refine w_name (σ' := [some (.ref D), some (.ref b), some (.ref l0), none, none, none]) rfl ?_
    with_reducible refine w_seq ?_
    with_reducible refine w_asg ?_
    refine GvL.use (K := K) (gvL_cat (es := [.list [.tuple [.int 0, .int 0]], .list [.tuple [.int 2, .int 0]], .list [.tuple [.int 1, .int 2]], .list [.tuple [.int (-1), .int (-2)]], .list [.tuple [.int 1, .none]], .list [.tuple [.str "1", .int 0]]]) (gvL_var rfl h0 d0) (by
        walk_at "gv"
    ) (Nat.le_of_ble_eq_true rfl)) fun l1 vs1 H1 t1 h1 d1 => ?_
    with_reducible refine w_name (σ' := [some (.ref D), some (.ref b), some (.ref l1), none, none, none]) rfl ?_
    have s1 := s0.trans t1
    with_reducible refine w_seq ?_
    with_reducible refine w_asg ?_
    refine GvL.use (K := K) (gvL_cat (es := [.list [.tuple [.int 1, .tuple [.int 0]]], .list [.tuple [.int (1000000000000000000000000000000000000000), .int 0]], .list [.tuple [.bool true, .int 0]], .list [.tuple [.int 1, .bool true]], .list [.tuple [.int 1, .bool false]]]) (gvL_var rfl h1 d1) (by
        walk_at "gv"
    ) (Nat.le_of_ble_eq_true rfl)) fun l2 vs2 H2 t2 h2 d2 => ?_
    with_reducible refine w_name (σ' := [some (.ref D), some (.ref b), some (.ref l2), none, none, none]) rfl ?_
    have s2 := s1.trans t2
    with_reducible refine w_seq ?_
    with_reducible refine w_asg ?_
    refine GvL.use (K := K) (gvL_cat (es := [.list [.tuple [.int (-2), .int 0]], .list [.tuple [.int (-1000000000000000000000000000000000000000), .int 0]]]) (gvL_var rfl h2 d2) (by
        walk_at "gv"
        exact fun H _ _ q => ⟨10, 39, rfl, rfl, ⟨by decide, by decide⟩, ⟨0, _, rfl, rfl, q _ H (Same.refl H) (.int _)⟩⟩
        walk_at "gv"
    ) (Nat.le_of_ble_eq_true rfl)) fun l3 vs3 H3 t3 h3 d3 => ?_
    with_reducible refine w_name (σ' := [some (.ref D), some (.ref b), some (.ref l3), none, none, none]) rfl ?_
    have s3 := s2.trans t3
    have dr0 := (Dr.refl hD).same s3
    walk_at "ct"
    refine ⟨D, c, rfl, dr0.2, by omega, fun n1 _ _ => ?_⟩
    have st1 := Dr.step dr0.2 (c + 1)
    have dr1 := dr0.trans st1
    have hl1 := st1.at dr0.2 h3
    have hd1 := st1.all dr0.2 d3
    clear st1
    generalize upd H3 D _ = J1 at *
    walk_at "ct"
    refine w_mod (by decide) fun way w0 w1 => ?_
    walk_at "ct"
    refine ⟨D, c + 1, rfl, dr1.2, by omega, fun n2 _ _ => ?_⟩
    have st2 := Dr.step dr1.2 (c + 2)
    have dr2 := dr1.trans st2
    have hl2 := st2.at dr1.2 hl1
    have hd2 := st2.all dr1.2 hd1
    clear st2
    generalize upd J1 D _ = J2 at *
    walk_at "ct"
    refine ⟨b, ws, rfl, .inl (.of (dr2.at hD hb)), ?_⟩
    walk_at "ct"
    refine w_mod (by omega) fun at_ at0 at1 => ?_
    walk_at "ct"
    refine ⟨D, c + 2, rfl, dr2.2, by omega, fun n3 _ _ => ?_⟩
    have st3 := Dr.step dr2.2 (c + 3)
    have dr3 := dr2.trans st3
    have hl3 := st3.at dr2.2 hl2
    have hd3 := st3.all dr2.2 hd2
    clear st3
    generalize upd J2 D _ = J3 at *
    walk_at "ct"
    refine w_mod (by decide) fun r r0 r1 => ?_
    refine w_some (.of hl3) hd3 r0 r1 fun v d hm hv => ?_
    have hbJ := dr3.at hD hb
    have hdJ := dr3.all hD hd
    have lit : ∀ ds : List PyData, ds.all (fun d => fineB 3 50 d && !isShows d) = true → ∀ d ∈ ds, Fine d 3 50 ∧ isShows d = false := fun ds h d hd => by
      have z := List.all_eq_true.mp h d hd
      rw [Bool.and_eq_true] at z
      exact ⟨fine_by (ds := [d]) (by rw [List.all_cons, z.1]; rfl) d List.mem_cons_self, by simpa using z.2⟩
    have both : Fine d 3 50 ∧ isShows d = false := by
      rcases List.mem_append.mp hm with hm | hm
      rotate_left
      · exact lit _ (by decide +kernel) d hm
      rcases List.mem_append.mp hm with hm | hm
      rotate_left
      · exact lit _ (by decide +kernel) d hm
      rcases List.mem_append.mp hm with hm | hm
      rotate_left
      · exact lit _ (by decide +kernel) d hm
      rcases List.mem_cons.mp hm with rfl | hm
      · exact lit [_] (by decide +kernel) _ List.mem_cons_self
      rcases List.mem_cons.mp hm with rfl | hm
      · exact lit [_] (by decide +kernel) _ List.mem_cons_self
      rcases List.mem_cons.mp hm with rfl | hm
      · exact ⟨(FineA.app fs (FineA.one (m := 2) (fine_by (ds := [_]) (by decide +kernel) _ List.mem_cons_self))).tup.mono (by decide) (by decide), rfl⟩
      exact lit _ (by decide +kernel) d hm
    obtain ⟨fd, bad⟩ := both
    walk_at "ct"
    refine w_ite (fun _ => ?_) (fun _ => ?_)
    rotate_left
    · walk_at "ct"
      exact q v d J3 dr3 hv (fd.mono (by decide) (by decide)) bad
    walk_at "ct"
    cases hv with
    | non =>
      refine w_isi (b := false) (.base .non) (kit_ty (by decide +kernel)) ?_
      walk_at "ct"
      exact q _ _ J3 dr3 (.non) (fd.mono (by decide) (by decide)) bad
    | bl b =>
      refine w_isi (b := false) (.base (.bl b)) (kit_ty (by decide +kernel)) ?_
      walk_at "ct"
      exact q _ _ J3 dr3 (.bl b) (fd.mono (by decide) (by decide)) bad
    | int i =>
      refine w_isi (b := false) (.base (.int i)) (kit_ty (by decide +kernel)) ?_
      walk_at "ct"
      exact q _ _ J3 dr3 (.int i) (fd.mono (by decide) (by decide)) bad
    | str x =>
      refine w_isi (b := false) (.base (.str x)) (kit_ty (by decide +kernel)) ?_
      walk_at "ct"
      exact q _ _ J3 dr3 (.str x) (fd.mono (by decide) (by decide)) bad
    | tup hs ht =>
      refine w_isi (b := false) (tyx_T hs) (kit_ty (by decide +kernel)) ?_
      walk_at "ct"
      exact q _ _ J3 dr3 (.tup hs ht) (fd.mono (by decide) (by decide)) bad
    | @lst g xs es hs ht =>
      refine w_isi (b := true) (tyx_L hs) (kit_ty (by decide +kernel)) ?_
      walk_at "ct"
      have el := fd.few
      have es_len : xs.length ≤ 50 := by
        rw [dpAll_len ht]
        exact Nat.le_trans (bulk_len es) fd.few
      have wl : ws.length = ss.length := by rw [dpAll_len hd, List.length_map]
      refine w_slL (.of hbJ) fun p1 np1 => ?_
      have u1 : Same J3 (upd J3 p1 (.lst (cutV ws none (some at_)))) := same_upd np1
      have hp1 : (upd J3 p1 (.lst (cutV ws none (some at_)))) p1 = some (.lst (cutV ws none (some at_))) := upd_same
      generalize upd J3 p1 _ = J4 at *
      have c1 := cutV_length ws none (some at_)
      have c2 := cutV_length ws (some at_) none
      obtain ⟨e1, de1, fe1⟩ := dpAll_cutD none (some at_) (dpAll_same u1 hdJ) fs
      walk_at "ct"
      refine w_catS (.of hp1) (u1.seq hs) (by omega) fun p2 np2 => ?_
      have u2 : Same J4 (upd J4 p2 (.lst (cutV ws none (some at_) ++ xs))) := same_upd np2
      have hp2 : (upd J4 p2 (.lst (cutV ws none (some at_) ++ xs))) p2 = some (.lst (cutV ws none (some at_) ++ xs)) := upd_same
      generalize upd J4 p2 _ = J5 at *
      walk_at "ct"
      refine w_slL (.of ((u1.trans u2) _ _ hbJ)) fun p3 np3 => ?_
      have u3 : Same J5 (upd J5 p3 (.lst (cutV ws (some at_) none))) := same_upd np3
      have hp3 : (upd J5 p3 (.lst (cutV ws (some at_) none))) p3 = some (.lst (cutV ws (some at_) none)) := upd_same
      generalize upd J5 p3 _ = J6 at *
      have s6 := (u1.trans u2).trans u3
      obtain ⟨e2, de2, fe2⟩ := dpAll_cutD (some at_) none (dpAll_same s6 hdJ) fs
      refine w_catS (.of (u3 _ _ hp2)) (.of hp3) (by rw [List.length_append]; omega) fun p4 np4 => ?_
      have u4 := same_upd (o := .lst (cutV ws none (some at_) ++ xs ++ cutV ws (some at_) none)) np4
      walk_at "ct"
      have fes : FineA es 2 50 := ⟨fd.ok, by have := fd.dep; rw [PyData.depth] at this; omega, fd.few⟩
      refine q _ (.list (e1 ++ es ++ e2)) _ (dr3.same (s6.trans u4)) (.lst (.of upd_same) (dpAll_app (dpAll_app (dpAll_same ((u2.trans u3).trans u4) de1) (dpAll_same (s6.trans u4) ht)) (dpAll_same u4 de2))) ?_ ?_
      · exact ((FineA.app (FineA.app (fe1.mono (n' := 2) (by decide) (Nat.le_refl _)) fes) (fe2.mono (n' := 2) (by decide) (Nat.le_refl _))).mono (m' := 200) (Nat.le_refl _) (by decide)).lst.mono (by decide) (by decide)
      · show (e1 ++ es ++ e2).all isShow = false
        have bad : es.all isShow = false := bad
        rw [List.all_append, List.all_append, bad, Bool.and_false, Bool.false_and]
abbrev S__law_marks : Stmt := topS 58
theorem sc__law_marks : FnScope ["_law_ask", "_law_thing", "_law_train_here", "_law_stand_here", "_law_shows", "_law_most", "_law_error", "e", "_law_found", "_law_k"] ["_law_ask", "_law_thing", "_law_train_here", "_law_stand_here", "_law_shows", "_law_most"] (defScope S__law_marks) := ⟨rfl, rfl, rfl, by decide +kernel, rfl, by decide +kernel, by decide +kernel⟩
def GoodS (f : PyData) : Prop := ∃ ss : List (Int × Int), f = .list (ss.map sh2D) ∧ (∀ s ∈ ss, Sh2Ok s) ∧ ss.length ≤ 1000
def GoodM (m : PyData) : Prop := ∃ most : Nat, m = .int (most : Int) ∧ 1 ≤ most ∧ most ≤ 200
/-- what is due of each asking -/
def DueM (ask : Nat) (d e f m : PyData) (o : Option Nat) : Prop :=
  (ask ≤ 1 ∧ ((isShows f = false ∧ o = some 2) ∨ (GoodS f ∧ o = none))) ∨
  (ask = 2 ∧ ((isShows f = false ∧ o = some 2) ∨ (GoodS f ∧ ((isMost m = false ∧ o = some 3) ∨ (GoodM m ∧ o = none))))) ∨
  ((ask = 3 ∨ ask = 4) ∧ AskS d e f (o = some 0) (o = some 1) (o = some 2) fun _ _ _ => o = none)
def dueL : Option Nat → List V
  | none => []
  | some n => [.int (n : Int)]
def sp__law_marks (K : PySem.W.Frag) (T : List Addr) (c_NoTrain : Addr) (c_NoStand : Addr) (c_NoRow : Addr) (c_NoCount : Addr) (c_TooMany : Addr) (c_NoText : Addr) (c_TrainError : Addr) : Sp := fun vs H Q _ => ∃ (ask : Nat) (y v t u z : V) (g d e f m : PyData) (o : Option Nat), vs = [.int (ask : Int), y, v, t, u, z] ∧ ask < 5 ∧ Dp K H y g ∧ g.canLay0 = true ∧ g.depth ≤ 60 ∧ (∀ w x y z, g = .tuple [w, x, y, z] → (marksD y).length ≤ 4000) ∧ Dp K H v d ∧ Dp K H t e ∧ Dp K H u f ∧ Dp K H z m ∧ Fine d 30 600 ∧ Tb T H ∧ DueM ask d e f m o ∧ ∀ l H', Same H H' → H' l = some (.lst (dueL o)) → Q (.ref l) H'
theorem ok__law_marks {f : Addr} {fd : FuncData} {f_is_smallest_behind : Addr} {fd_is_smallest_behind : FuncData} {f_smallest_behind : Addr} {fd_smallest_behind : FuncData} {f_teeth_of : Addr} {fd_teeth_of : FuncData} {f_is_smallest : Addr} {fd_is_smallest : FuncData} {f_smallest : Addr} {fd_smallest : FuncData} {c_NoText : Addr} {c_TooMany : Addr} {c_NoCount : Addr} {c_NoRow : Addr} {c_NoStand : Addr} {c_NoTrain : Addr} {c_TrainError : Addr} {T : List Addr} (F : Fun K "_law_marks" "_law_marks" S__law_marks f fd)
    (F_is_smallest_behind : Fun K "is_smallest_behind" "is_smallest_behind" S_is_smallest_behind f_is_smallest_behind fd_is_smallest_behind) (b_is_smallest_behind : Binds K fd_is_smallest_behind ["train", "stand", "shows", "thing"] []) (g_is_smallest_behind : mg "is_smallest_behind" = some (.ref f_is_smallest_behind)) (G_is_smallest_behind : FnOk P w K mg base (L2.CX P w) 9 f_is_smallest_behind fd_is_smallest_behind ["train", "stand", "shows", "thing"] (sp_is_smallest_behind K T c_NoTrain c_NoStand c_NoRow))
    (F_smallest_behind : Fun K "smallest_behind" "smallest_behind" S_smallest_behind f_smallest_behind fd_smallest_behind) (b_smallest_behind : Binds K fd_smallest_behind ["train", "stand", "shows"] []) (g_smallest_behind : mg "smallest_behind" = some (.ref f_smallest_behind)) (G_smallest_behind : FnOk P w K mg base (L2.CX P w) 9 f_smallest_behind fd_smallest_behind ["train", "stand", "shows"] (sp_smallest_behind K T c_NoTrain c_NoStand c_NoRow))
    (F_teeth_of : Fun K "teeth_of" "teeth_of" S_teeth_of f_teeth_of fd_teeth_of) (b_teeth_of : Binds K fd_teeth_of ["shows", "most"] []) (g_teeth_of : mg "teeth_of" = some (.ref f_teeth_of)) (G_teeth_of : FnOk P w K mg base (L2.CX P w) 8 f_teeth_of fd_teeth_of ["shows", "most"] (sp_teeth_of K T c_NoRow c_NoCount))
    (F_is_smallest : Fun K "is_smallest" "is_smallest" S_is_smallest f_is_smallest fd_is_smallest) (b_is_smallest : Binds K fd_is_smallest ["shows", "thing"] []) (g_is_smallest : mg "is_smallest" = some (.ref f_is_smallest)) (G_is_smallest : FnOk P w K mg base (L2.CX P w) 7 f_is_smallest fd_is_smallest ["shows", "thing"] (sp_is_smallest K T c_NoRow))
    (F_smallest : Fun K "smallest" "smallest" S_smallest f_smallest fd_smallest) (b_smallest : Binds K fd_smallest ["shows"] []) (g_smallest : mg "smallest" = some (.ref f_smallest)) (G_smallest : FnOk P w K mg base (L2.CX P w) 7 f_smallest fd_smallest ["shows"] (sp_smallest K T c_NoRow)) (m_isinstance : mg "isinstance" = none) (m_range : mg "range" = none) (m_ValueError : mg "ValueError" = none)
    (g_NoText : mg "NoText" = some (.ref c_NoText))
    (g_TooMany : mg "TooMany" = some (.ref c_TooMany))
    (g_NoCount : mg "NoCount" = some (.ref c_NoCount))
    (g_NoRow : mg "NoRow" = some (.ref c_NoRow))
    (g_NoStand : mg "NoStand" = some (.ref c_NoStand))
    (g_NoTrain : mg "NoTrain" = some (.ref c_NoTrain))
    (g_TrainError : mg "TrainError" = some (.ref c_TrainError))
    (E_NoTrain : ErrC K mg "NoTrain" c_NoTrain)
    (kx_NoTrain : PySem.W.exmOne K (.ref c_NoTrain) (.ref c_TrainError) = some true)
    (kv_NoTrain : PySem.W.kitOne K (.ref c_NoTrain) (.type "ValueError") = some true)
    (k1_NoTrain : PySem.W.kitOne K (.ref c_NoTrain) (.ref c_NoTrain) = some true)
    (k2_NoTrain : PySem.W.kitOne K (.ref c_NoTrain) (.ref c_NoStand) = some false)
    (k3_NoTrain : PySem.W.kitOne K (.ref c_NoTrain) (.ref c_NoRow) = some false)
    (k4_NoTrain : PySem.W.kitOne K (.ref c_NoTrain) (.ref c_NoCount) = some false)
    (k5_NoTrain : PySem.W.kitOne K (.ref c_NoTrain) (.ref c_TooMany) = some false)
    (k6_NoTrain : PySem.W.kitOne K (.ref c_NoTrain) (.ref c_NoText) = some false)
    (E_NoStand : ErrC K mg "NoStand" c_NoStand)
    (kx_NoStand : PySem.W.exmOne K (.ref c_NoStand) (.ref c_TrainError) = some true)
    (kv_NoStand : PySem.W.kitOne K (.ref c_NoStand) (.type "ValueError") = some true)
    (k1_NoStand : PySem.W.kitOne K (.ref c_NoStand) (.ref c_NoTrain) = some false)
    (k2_NoStand : PySem.W.kitOne K (.ref c_NoStand) (.ref c_NoStand) = some true)
    (k3_NoStand : PySem.W.kitOne K (.ref c_NoStand) (.ref c_NoRow) = some false)
    (k4_NoStand : PySem.W.kitOne K (.ref c_NoStand) (.ref c_NoCount) = some false)
    (k5_NoStand : PySem.W.kitOne K (.ref c_NoStand) (.ref c_TooMany) = some false)
    (k6_NoStand : PySem.W.kitOne K (.ref c_NoStand) (.ref c_NoText) = some false)
    (E_NoRow : ErrC K mg "NoRow" c_NoRow)
    (kx_NoRow : PySem.W.exmOne K (.ref c_NoRow) (.ref c_TrainError) = some true)
    (kv_NoRow : PySem.W.kitOne K (.ref c_NoRow) (.type "ValueError") = some true)
    (k1_NoRow : PySem.W.kitOne K (.ref c_NoRow) (.ref c_NoTrain) = some false)
    (k2_NoRow : PySem.W.kitOne K (.ref c_NoRow) (.ref c_NoStand) = some false)
    (k3_NoRow : PySem.W.kitOne K (.ref c_NoRow) (.ref c_NoRow) = some true)
    (k4_NoRow : PySem.W.kitOne K (.ref c_NoRow) (.ref c_NoCount) = some false)
    (k5_NoRow : PySem.W.kitOne K (.ref c_NoRow) (.ref c_TooMany) = some false)
    (k6_NoRow : PySem.W.kitOne K (.ref c_NoRow) (.ref c_NoText) = some false)
    (E_NoCount : ErrC K mg "NoCount" c_NoCount)
    (kx_NoCount : PySem.W.exmOne K (.ref c_NoCount) (.ref c_TrainError) = some true)
    (kv_NoCount : PySem.W.kitOne K (.ref c_NoCount) (.type "ValueError") = some true)
    (k1_NoCount : PySem.W.kitOne K (.ref c_NoCount) (.ref c_NoTrain) = some false)
    (k2_NoCount : PySem.W.kitOne K (.ref c_NoCount) (.ref c_NoStand) = some false)
    (k3_NoCount : PySem.W.kitOne K (.ref c_NoCount) (.ref c_NoRow) = some false)
    (k4_NoCount : PySem.W.kitOne K (.ref c_NoCount) (.ref c_NoCount) = some true)
    (k5_NoCount : PySem.W.kitOne K (.ref c_NoCount) (.ref c_TooMany) = some false)
    (k6_NoCount : PySem.W.kitOne K (.ref c_NoCount) (.ref c_NoText) = some false)
    (kn_NoTrain : PySem.W.kitOne K (.type "NoneType") (.ref c_NoTrain) = some false)
    (kn_NoStand : PySem.W.kitOne K (.type "NoneType") (.ref c_NoStand) = some false)
    (kn_NoRow : PySem.W.kitOne K (.type "NoneType") (.ref c_NoRow) = some false)
    (kn_NoCount : PySem.W.kitOne K (.type "NoneType") (.ref c_NoCount) = some false)
    (kn_TooMany : PySem.W.kitOne K (.type "NoneType") (.ref c_TooMany) = some false)
    (kn_NoText : PySem.W.kitOne K (.type "NoneType") (.ref c_NoText) = some false) :
    FnOk P w K mg base CX0 10 f fd ["_law_ask", "_law_thing", "_law_train_here", "_law_stand_here", "_law_shows", "_law_most"] (sp__law_marks K T c_NoTrain c_NoStand c_NoRow c_NoCount c_TooMany c_NoText c_TrainError) := by
  refine F.ok sc__law_marks (fun vs H Q E h => ?_) (fun cdv A outer s H vs Q E hr h => ?_)
  ·
    obtain ⟨ask, y, v, t, u, z, g, d, e, f, m, o, rfl, _⟩ := h
    rfl
  ·
    obtain ⟨ask, y, v, t, u, z, g, d, e, f, m, o, rfl, a5, hy, lay, dep, ml, hd, he, hf, hm, fine, hTb, due, q⟩ := h
    refine ⟨_, (pss_cons (ps_set (i := 6) sc__law_marks.nd rfl (.inl rfl) pe_non)
      (pss_cons (ps_try_keep (i := 7) (c := .ref c_TrainError) rfl rfl rfl sc__law_marks.nd rfl rfl ⟨by rfl, by decide, Or.inl g_TrainError⟩ (fun W pn xe tk _ => (pss_cons (ps_if (pt_cmpR op_eq (pv 0) pe_int (nomark _)) (pss_one (ps_expr (pe_callS (E := WE W) G_smallest (hr.mono (by decide)) (by rfl) g_smallest F_smallest.kp b_smallest (fun σ => passAt tk σ) (pa_cons (pv 4) pa_nil)))) pss_nil)
      (pss_cons (ps_if (pt_cmpR op_eq (pv 0) pe_int (nomark _)) (pss_one (ps_expr (pe_callS (E := WE W) G_is_smallest (hr.mono (by decide)) (by rfl) g_is_smallest F_is_smallest.kp b_is_smallest (fun σ => passAt tk σ) (pa_cons (pv 4) (pa_cons (pv 1) pa_nil))))) pss_nil)
      (pss_cons (ps_if (pt_cmpR op_eq (pv 0) pe_int (nomark _)) (pss_one (ps_expr (pe_callS (E := WE W) G_teeth_of (hr.mono (by decide)) (by rfl) g_teeth_of F_teeth_of.kp b_teeth_of (fun σ => passAt tk σ) (pa_cons (pv 4) (pa_cons (pv 5) pa_nil))))) pss_nil)
      (pss_cons (ps_if (pt_cmpR op_eq (pv 0) pe_int (nomark _)) (pss_one (ps_expr (pe_callS (E := WE W) G_smallest_behind (hr.mono (by decide)) (by rfl) g_smallest_behind F_smallest_behind.kp b_smallest_behind (fun σ => passAt tk σ) (pa_cons (pv 2) (pa_cons (pv 3) (pa_cons (pv 4) pa_nil)))))) pss_nil)
      (pss_one (ps_if (pt_cmpR op_eq (pv 0) pe_int (nomark _)) (pss_one (ps_expr (pe_callS (E := WE W) G_is_smallest_behind (hr.mono (by decide)) (by rfl) g_is_smallest_behind F_is_smallest_behind.kp b_is_smallest_behind (fun σ => passAt tk σ) (pa_cons (pv 2) (pa_cons (pv 3) (pa_cons (pv 4) (pa_cons (pv 1) pa_nil))))))) pss_nil))))))) (fun a pn => (pss_one (ps_set (i := 6) sc__law_marks.nd rfl (.inl rfl) (pv 7)))))
      (pss_cons (ps_set (i := 8) sc__law_marks.nd rfl (.inr rfl) (pe_lst (pa_cons (pe_callB (r := rIsXn K) call_isXn (by rfl) m_isinstance (by decide +kernel) (pa_cons (pv 6) (pa_cons (pe_glob (v := .ref c_NoTrain) (by rfl) g_NoTrain rfl) pa_nil))) (pa_cons (pe_callB (r := rIsXn K) call_isXn (by rfl) m_isinstance (by decide +kernel) (pa_cons (pv 6) (pa_cons (pe_glob (v := .ref c_NoStand) (by rfl) g_NoStand rfl) pa_nil))) (pa_cons (pe_callB (r := rIsXn K) call_isXn (by rfl) m_isinstance (by decide +kernel) (pa_cons (pv 6) (pa_cons (pe_glob (v := .ref c_NoRow) (by rfl) g_NoRow rfl) pa_nil))) pa_nil)))))
      (pss_cons (ps_set (i := 8) sc__law_marks.nd rfl (.inr rfl) (pe_op op_cat (pv 8) (pe_lst (pa_cons (pe_callB (r := rIsXn K) call_isXn (by rfl) m_isinstance (by decide +kernel) (pa_cons (pv 6) (pa_cons (pe_glob (v := .ref c_NoCount) (by rfl) g_NoCount rfl) pa_nil))) (pa_cons (pe_callB (r := rIsXn K) call_isXn (by rfl) m_isinstance (by decide +kernel) (pa_cons (pv 6) (pa_cons (pe_glob (v := .ref c_TooMany) (by rfl) g_TooMany rfl) pa_nil))) (pa_cons (pe_callB (r := rIsXn K) call_isXn (by rfl) m_isinstance (by decide +kernel) (pa_cons (pv 6) (pa_cons (pe_glob (v := .ref c_NoText) (by rfl) g_NoText rfl) pa_nil))) pa_nil))))))
      (pss_cons (ps_expr (pe_bm PySem.F.plainAttrs_list PySem.F.slot_list_append PySem.F.type_list_append mt_append (pv 8) (pa_cons (pe_and (pe_cmpR op_notN (pv 6) pe_non (nomark _)) (pe_one (pe_not (pe_callB (r := rIsXn K) call_isXn (by rfl) m_isinstance (by decide +kernel) (pa_cons (pv 6) (pa_cons (pe_bltn (v := .ty "ValueError") (u := .type "ValueError") (by rfl) m_ValueError (by decide +kernel) rfl) pa_nil)))))) pa_nil)))
      (pss_one (ps_ret (pe_lc (own := [("_law_k", 9)]) (g := gName 9)  rfl sc__law_marks.nd  (pi_range1 (by rfl) m_range (pa_cons pe_int pa_nil)) (blkOk_by (own := [("_law_k", 9)]) (N := ["_law_ask", "_law_thing", "_law_train_here", "_law_stand_here", "_law_shows", "_law_most", "_law_error", "e", "_law_found", "_law_k"]) (sc := defScope S__law_marks) (by decide +kernel)) (fun _ _ _ _ _ => pg_name (i := 9) sc__law_marks.nd rfl (Or.inl rfl)) (fun _ _ _ _ _ => (pts_one (pt_val (pe_ix (r := rIxL K) ix_list (pv 8) (pv 9) (fun _ _ => rfl))))) (fun _ _ _ _ _ => (pv 9)))))))))), ?_⟩
    refine w_st (σ' := [some (.int (ask : Int)), some y, some v, some t, some u, some z, none, none, none, none]) rfl ?_
    with_reducible refine w_seq ?_
    walk_at "cq"
    with_reducible refine w_join (fun σ G => Same H G ∧ ((o = none ∧ σ = [some (.int (ask : Int)), some y, some v, some t, some u, some z, some .non, none, none, none]) ∨ ∃ (a C : Addr) (n : Nat), o = some n ∧ σ = [some (.int (ask : Int)), some y, some v, some t, some u, some z, some (.ref a), none, none, none] ∧ G a = some (KeptX (.ref C) a) ∧ ((n = 0 ∧ C = c_NoTrain) ∨ (n = 1 ∧ C = c_NoStand) ∨ (n = 2 ∧ C = c_NoRow) ∨ (n = 3 ∧ C = c_NoCount)))) ?_ ?_
    · rintro σ G ⟨sG, ⟨rfl, rfl⟩ | ⟨a, C, n, rfl, rfl, ha, ⟨rfl, hC⟩ | ⟨rfl, hC⟩ | ⟨rfl, hC⟩ | ⟨rfl, hC⟩⟩⟩
      · walk_at "ct"
        refine .inr ⟨.non, .ref c_NoTrain, .type "NoneType", .ref c_NoTrain, false, rfl, .own _, .base .non, kn_NoTrain, ?_⟩
        walk_at "ct"
        refine .inr ⟨.non, .ref c_NoStand, .type "NoneType", .ref c_NoStand, false, rfl, .own _, .base .non, kn_NoStand, ?_⟩
        walk_at "ct"
        refine .inr ⟨.non, .ref c_NoRow, .type "NoneType", .ref c_NoRow, false, rfl, .own _, .base .non, kn_NoRow, ?_⟩
        walk_at "ct"
        refine ⟨len2 rfl, fun l1 n1 => ?_⟩
        have u1 : Same G (upd G l1 (.lst [.bl false, .bl false, .bl false])) := same_upd n1
        have e1 : (upd G l1 (.lst [.bl false, .bl false, .bl false])) l1 = some (.lst [.bl false, .bl false, .bl false]) := upd_same
        generalize upd G l1 _ = H3 at *
        walk_at "ct"
        refine .inr ⟨.non, .ref c_NoCount, .type "NoneType", .ref c_NoCount, false, rfl, .own _, .base .non, kn_NoCount, ?_⟩
        walk_at "ct"
        refine .inr ⟨.non, .ref c_TooMany, .type "NoneType", .ref c_TooMany, false, rfl, .own _, .base .non, kn_TooMany, ?_⟩
        walk_at "ct"
        refine .inr ⟨.non, .ref c_NoText, .type "NoneType", .ref c_NoText, false, rfl, .own _, .base .non, kn_NoText, ?_⟩
        walk_at "ct"
        refine ⟨len2 rfl, fun l2 n2 => ?_⟩
        have u2 : Same H3 (upd H3 l2 (.lst [.bl false, .bl false, .bl false])) := same_upd n2
        have e2 : (upd H3 l2 (.lst [.bl false, .bl false, .bl false])) l2 = some (.lst [.bl false, .bl false, .bl false]) := upd_same
        generalize upd H3 l2 _ = H4 at *
        refine ⟨l1, l2, _, _, rfl, rfl, u2 _ _ e1, e2, len2 rfl, fun l3 n3 => ?_⟩
        have u3 : Same H4 (upd H4 l3 (.lst ([.bl false, .bl false, .bl false] ++ [.bl false, .bl false, .bl false]))) := same_upd n3
        have e3 : (upd H4 l3 (.lst ([.bl false, .bl false, .bl false] ++ [.bl false, .bl false, .bl false]))) l3 = some (.lst [.bl false, .bl false, .bl false, .bl false, .bl false, .bl false]) := upd_same
        generalize upd H4 l3 _ = H5 at *
        walk_at "ct"
        refine ⟨ty_list e3, ?_⟩
        walk_at "ct"
        refine ⟨rfl, ?_⟩
        refine ⟨false, rfl, ?_⟩
        walk_at "ct"
        refine w_append e3 (by decide) ?_
        have s5 : Same H (upd H5 l3 (.lst ([.bl false, .bl false, .bl false, .bl false, .bl false, .bl false] ++ [.bl false]))) := same_new ((sG.trans u1).trans (u2.trans u3)) (((sG.trans u1).trans u2).free n3)
        have e5 : (upd H5 l3 (.lst ([.bl false, .bl false, .bl false, .bl false, .bl false, .bl false] ++ [.bl false]))) l3 = some (.lst ([.bl false, .bl false, .bl false, .bl false, .bl false, .bl false] ++ [.bl false])) := upd_same
        generalize upd H5 l3 _ = H6 at *
        walk_at "ct"
        refine w_RG1 (by decide) (by decide) ?_
        refine lb_range (fun D i G => Same H6 G ∧ G D = some (.lst [])) (fun D hD => ⟨same_upd hD, upd_same⟩) ?_ ?_
        · rintro D hD i G hi ⟨sG2, hG⟩
          have hl := sG2 _ _ e5
          rcases (show i = 0 ∨ i = 1 ∨ i = 2 ∨ i = 3 ∨ i = 4 ∨ i = 5 ∨ i = 6 by have : i < 7 := hi; omega) with rfl | rfl | rfl | rfl | rfl | rfl | rfl
          · walk_at "ct"
            refine ⟨rfl, ?_⟩
            walk_at "ct"
            refine w_ixL (.of hl) (v := .bl false) rfl ?_
            walk_at "ct"
            exact ⟨sG2, hG⟩
          · walk_at "ct"
            refine ⟨rfl, ?_⟩
            walk_at "ct"
            refine w_ixL (.of hl) (v := .bl false) rfl ?_
            walk_at "ct"
            exact ⟨sG2, hG⟩
          · walk_at "ct"
            refine ⟨rfl, ?_⟩
            walk_at "ct"
            refine w_ixL (.of hl) (v := .bl false) rfl ?_
            walk_at "ct"
            exact ⟨sG2, hG⟩
          · walk_at "ct"
            refine ⟨rfl, ?_⟩
            walk_at "ct"
            refine w_ixL (.of hl) (v := .bl false) rfl ?_
            walk_at "ct"
            exact ⟨sG2, hG⟩
          · walk_at "ct"
            refine ⟨rfl, ?_⟩
            walk_at "ct"
            refine w_ixL (.of hl) (v := .bl false) rfl ?_
            walk_at "ct"
            exact ⟨sG2, hG⟩
          · walk_at "ct"
            refine ⟨rfl, ?_⟩
            walk_at "ct"
            refine w_ixL (.of hl) (v := .bl false) rfl ?_
            walk_at "ct"
            exact ⟨sG2, hG⟩
          · walk_at "ct"
            refine ⟨rfl, ?_⟩
            walk_at "ct"
            refine w_ixL (.of hl) (v := .bl false) rfl ?_
            walk_at "ct"
            exact ⟨sG2, hG⟩
        · rintro D hD G2 ⟨sG2, hG⟩
          exact q D G2 (s5.trans sG2) hG
      · rw [hC] at ha
        walk_at "ct"
        refine .inl ⟨a, c_NoTrain, _, _, true, rfl, ha, E_NoTrain.is, .own _, k1_NoTrain, ?_⟩
        walk_at "ct"
        refine .inl ⟨a, c_NoTrain, _, _, false, rfl, ha, E_NoTrain.is, .own _, k2_NoTrain, ?_⟩
        walk_at "ct"
        refine .inl ⟨a, c_NoTrain, _, _, false, rfl, ha, E_NoTrain.is, .own _, k3_NoTrain, ?_⟩
        walk_at "ct"
        refine ⟨len2 rfl, fun l1 n1 => ?_⟩
        have u1 : Same G (upd G l1 (.lst [.bl true, .bl false, .bl false])) := same_upd n1
        have e1 : (upd G l1 (.lst [.bl true, .bl false, .bl false])) l1 = some (.lst [.bl true, .bl false, .bl false]) := upd_same
        generalize upd G l1 _ = H3 at *
        have ha3 := u1 _ _ ha
        walk_at "ct"
        refine .inl ⟨a, c_NoTrain, _, _, false, rfl, ha3, E_NoTrain.is, .own _, k4_NoTrain, ?_⟩
        walk_at "ct"
        refine .inl ⟨a, c_NoTrain, _, _, false, rfl, ha3, E_NoTrain.is, .own _, k5_NoTrain, ?_⟩
        walk_at "ct"
        refine .inl ⟨a, c_NoTrain, _, _, false, rfl, ha3, E_NoTrain.is, .own _, k6_NoTrain, ?_⟩
        walk_at "ct"
        refine ⟨len2 rfl, fun l2 n2 => ?_⟩
        have u2 : Same H3 (upd H3 l2 (.lst [.bl false, .bl false, .bl false])) := same_upd n2
        have e2 : (upd H3 l2 (.lst [.bl false, .bl false, .bl false])) l2 = some (.lst [.bl false, .bl false, .bl false]) := upd_same
        generalize upd H3 l2 _ = H4 at *
        refine ⟨l1, l2, _, _, rfl, rfl, u2 _ _ e1, e2, len2 rfl, fun l3 n3 => ?_⟩
        have u3 : Same H4 (upd H4 l3 (.lst ([.bl true, .bl false, .bl false] ++ [.bl false, .bl false, .bl false]))) := same_upd n3
        have e3 : (upd H4 l3 (.lst ([.bl true, .bl false, .bl false] ++ [.bl false, .bl false, .bl false]))) l3 = some (.lst [.bl true, .bl false, .bl false, .bl false, .bl false, .bl false]) := upd_same
        generalize upd H4 l3 _ = H5 at *
        walk_at "ct"
        refine ⟨ty_list e3, ?_⟩
        walk_at "ct"
        refine ⟨rfl, ?_⟩
        refine ⟨true, rfl, ?_⟩
        walk_at "ct"
        refine .inl ⟨a, c_NoTrain, _, _, true, rfl, ((u1.trans u2).trans u3) _ _ ha, E_NoTrain.is, .ty _, kv_NoTrain, ?_⟩
        walk_at "ct"
        refine w_append e3 (by decide) ?_
        have s5 : Same H (upd H5 l3 (.lst ([.bl true, .bl false, .bl false, .bl false, .bl false, .bl false] ++ [.bl (!true)]))) := same_new ((sG.trans u1).trans (u2.trans u3)) (((sG.trans u1).trans u2).free n3)
        have e5 : (upd H5 l3 (.lst ([.bl true, .bl false, .bl false, .bl false, .bl false, .bl false] ++ [.bl (!true)]))) l3 = some (.lst ([.bl true, .bl false, .bl false, .bl false, .bl false, .bl false] ++ [.bl false])) := upd_same
        generalize upd H5 l3 _ = H6 at *
        walk_at "ct"
        refine w_RG1 (by decide) (by decide) ?_
        refine lb_range (fun D i G => Same H6 G ∧ G D = some (.lst (if i ≤ 0 then [] else [.int 0]))) (fun D hD => ⟨same_upd hD, upd_same⟩) ?_ ?_
        · rintro D hD i G hi ⟨sG2, hG⟩
          have hl := sG2 _ _ e5
          rcases (show i = 0 ∨ i = 1 ∨ i = 2 ∨ i = 3 ∨ i = 4 ∨ i = 5 ∨ i = 6 by have : i < 7 := hi; omega) with rfl | rfl | rfl | rfl | rfl | rfl | rfl
          · walk_at "ct"
            refine ⟨rfl, ?_⟩
            walk_at "ct"
            refine w_ixL (.of hl) (v := .bl true) rfl ?_
            walk_at "ct"
            exact ⟨[], hG, by decide, same_new sG2 hD, upd_same⟩
          · walk_at "ct"
            refine ⟨rfl, ?_⟩
            walk_at "ct"
            refine w_ixL (.of hl) (v := .bl false) rfl ?_
            walk_at "ct"
            exact ⟨sG2, hG⟩
          · walk_at "ct"
            refine ⟨rfl, ?_⟩
            walk_at "ct"
            refine w_ixL (.of hl) (v := .bl false) rfl ?_
            walk_at "ct"
            exact ⟨sG2, hG⟩
          · walk_at "ct"
            refine ⟨rfl, ?_⟩
            walk_at "ct"
            refine w_ixL (.of hl) (v := .bl false) rfl ?_
            walk_at "ct"
            exact ⟨sG2, hG⟩
          · walk_at "ct"
            refine ⟨rfl, ?_⟩
            walk_at "ct"
            refine w_ixL (.of hl) (v := .bl false) rfl ?_
            walk_at "ct"
            exact ⟨sG2, hG⟩
          · walk_at "ct"
            refine ⟨rfl, ?_⟩
            walk_at "ct"
            refine w_ixL (.of hl) (v := .bl false) rfl ?_
            walk_at "ct"
            exact ⟨sG2, hG⟩
          · walk_at "ct"
            refine ⟨rfl, ?_⟩
            walk_at "ct"
            refine w_ixL (.of hl) (v := .bl false) rfl ?_
            walk_at "ct"
            exact ⟨sG2, hG⟩
        · rintro D hD G2 ⟨sG2, hG⟩
          exact q D G2 (s5.trans sG2) hG
      · rw [hC] at ha
        walk_at "ct"
        refine .inl ⟨a, c_NoStand, _, _, false, rfl, ha, E_NoStand.is, .own _, k1_NoStand, ?_⟩
        walk_at "ct"
        refine .inl ⟨a, c_NoStand, _, _, true, rfl, ha, E_NoStand.is, .own _, k2_NoStand, ?_⟩
        walk_at "ct"
        refine .inl ⟨a, c_NoStand, _, _, false, rfl, ha, E_NoStand.is, .own _, k3_NoStand, ?_⟩
        walk_at "ct"
        refine ⟨len2 rfl, fun l1 n1 => ?_⟩
        have u1 : Same G (upd G l1 (.lst [.bl false, .bl true, .bl false])) := same_upd n1
        have e1 : (upd G l1 (.lst [.bl false, .bl true, .bl false])) l1 = some (.lst [.bl false, .bl true, .bl false]) := upd_same
        generalize upd G l1 _ = H3 at *
        have ha3 := u1 _ _ ha
        walk_at "ct"
        refine .inl ⟨a, c_NoStand, _, _, false, rfl, ha3, E_NoStand.is, .own _, k4_NoStand, ?_⟩
        walk_at "ct"
        refine .inl ⟨a, c_NoStand, _, _, false, rfl, ha3, E_NoStand.is, .own _, k5_NoStand, ?_⟩
        walk_at "ct"
        refine .inl ⟨a, c_NoStand, _, _, false, rfl, ha3, E_NoStand.is, .own _, k6_NoStand, ?_⟩
        walk_at "ct"
        refine ⟨len2 rfl, fun l2 n2 => ?_⟩
        have u2 : Same H3 (upd H3 l2 (.lst [.bl false, .bl false, .bl false])) := same_upd n2
        have e2 : (upd H3 l2 (.lst [.bl false, .bl false, .bl false])) l2 = some (.lst [.bl false, .bl false, .bl false]) := upd_same
        generalize upd H3 l2 _ = H4 at *
        refine ⟨l1, l2, _, _, rfl, rfl, u2 _ _ e1, e2, len2 rfl, fun l3 n3 => ?_⟩
        have u3 : Same H4 (upd H4 l3 (.lst ([.bl false, .bl true, .bl false] ++ [.bl false, .bl false, .bl false]))) := same_upd n3
        have e3 : (upd H4 l3 (.lst ([.bl false, .bl true, .bl false] ++ [.bl false, .bl false, .bl false]))) l3 = some (.lst [.bl false, .bl true, .bl false, .bl false, .bl false, .bl false]) := upd_same
        generalize upd H4 l3 _ = H5 at *
        walk_at "ct"
        refine ⟨ty_list e3, ?_⟩
        walk_at "ct"
        refine ⟨rfl, ?_⟩
        refine ⟨true, rfl, ?_⟩
        walk_at "ct"
        refine .inl ⟨a, c_NoStand, _, _, true, rfl, ((u1.trans u2).trans u3) _ _ ha, E_NoStand.is, .ty _, kv_NoStand, ?_⟩
        walk_at "ct"
        refine w_append e3 (by decide) ?_
        have s5 : Same H (upd H5 l3 (.lst ([.bl false, .bl true, .bl false, .bl false, .bl false, .bl false] ++ [.bl (!true)]))) := same_new ((sG.trans u1).trans (u2.trans u3)) (((sG.trans u1).trans u2).free n3)
        have e5 : (upd H5 l3 (.lst ([.bl false, .bl true, .bl false, .bl false, .bl false, .bl false] ++ [.bl (!true)]))) l3 = some (.lst ([.bl false, .bl true, .bl false, .bl false, .bl false, .bl false] ++ [.bl false])) := upd_same
        generalize upd H5 l3 _ = H6 at *
        walk_at "ct"
        refine w_RG1 (by decide) (by decide) ?_
        refine lb_range (fun D i G => Same H6 G ∧ G D = some (.lst (if i ≤ 1 then [] else [.int 1]))) (fun D hD => ⟨same_upd hD, upd_same⟩) ?_ ?_
        · rintro D hD i G hi ⟨sG2, hG⟩
          have hl := sG2 _ _ e5
          rcases (show i = 0 ∨ i = 1 ∨ i = 2 ∨ i = 3 ∨ i = 4 ∨ i = 5 ∨ i = 6 by have : i < 7 := hi; omega) with rfl | rfl | rfl | rfl | rfl | rfl | rfl
          · walk_at "ct"
            refine ⟨rfl, ?_⟩
            walk_at "ct"
            refine w_ixL (.of hl) (v := .bl false) rfl ?_
            walk_at "ct"
            exact ⟨sG2, hG⟩
          · walk_at "ct"
            refine ⟨rfl, ?_⟩
            walk_at "ct"
            refine w_ixL (.of hl) (v := .bl true) rfl ?_
            walk_at "ct"
            exact ⟨[], hG, by decide, same_new sG2 hD, upd_same⟩
          · walk_at "ct"
            refine ⟨rfl, ?_⟩
            walk_at "ct"
            refine w_ixL (.of hl) (v := .bl false) rfl ?_
            walk_at "ct"
            exact ⟨sG2, hG⟩
          · walk_at "ct"
            refine ⟨rfl, ?_⟩
            walk_at "ct"
            refine w_ixL (.of hl) (v := .bl false) rfl ?_
            walk_at "ct"
            exact ⟨sG2, hG⟩
          · walk_at "ct"
            refine ⟨rfl, ?_⟩
            walk_at "ct"
            refine w_ixL (.of hl) (v := .bl false) rfl ?_
            walk_at "ct"
            exact ⟨sG2, hG⟩
          · walk_at "ct"
            refine ⟨rfl, ?_⟩
            walk_at "ct"
            refine w_ixL (.of hl) (v := .bl false) rfl ?_
            walk_at "ct"
            exact ⟨sG2, hG⟩
          · walk_at "ct"
            refine ⟨rfl, ?_⟩
            walk_at "ct"
            refine w_ixL (.of hl) (v := .bl false) rfl ?_
            walk_at "ct"
            exact ⟨sG2, hG⟩
        · rintro D hD G2 ⟨sG2, hG⟩
          exact q D G2 (s5.trans sG2) hG
      · rw [hC] at ha
        walk_at "ct"
        refine .inl ⟨a, c_NoRow, _, _, false, rfl, ha, E_NoRow.is, .own _, k1_NoRow, ?_⟩
        walk_at "ct"
        refine .inl ⟨a, c_NoRow, _, _, false, rfl, ha, E_NoRow.is, .own _, k2_NoRow, ?_⟩
        walk_at "ct"
        refine .inl ⟨a, c_NoRow, _, _, true, rfl, ha, E_NoRow.is, .own _, k3_NoRow, ?_⟩
        walk_at "ct"
        refine ⟨len2 rfl, fun l1 n1 => ?_⟩
        have u1 : Same G (upd G l1 (.lst [.bl false, .bl false, .bl true])) := same_upd n1
        have e1 : (upd G l1 (.lst [.bl false, .bl false, .bl true])) l1 = some (.lst [.bl false, .bl false, .bl true]) := upd_same
        generalize upd G l1 _ = H3 at *
        have ha3 := u1 _ _ ha
        walk_at "ct"
        refine .inl ⟨a, c_NoRow, _, _, false, rfl, ha3, E_NoRow.is, .own _, k4_NoRow, ?_⟩
        walk_at "ct"
        refine .inl ⟨a, c_NoRow, _, _, false, rfl, ha3, E_NoRow.is, .own _, k5_NoRow, ?_⟩
        walk_at "ct"
        refine .inl ⟨a, c_NoRow, _, _, false, rfl, ha3, E_NoRow.is, .own _, k6_NoRow, ?_⟩
        walk_at "ct"
        refine ⟨len2 rfl, fun l2 n2 => ?_⟩
        have u2 : Same H3 (upd H3 l2 (.lst [.bl false, .bl false, .bl false])) := same_upd n2
        have e2 : (upd H3 l2 (.lst [.bl false, .bl false, .bl false])) l2 = some (.lst [.bl false, .bl false, .bl false]) := upd_same
        generalize upd H3 l2 _ = H4 at *
        refine ⟨l1, l2, _, _, rfl, rfl, u2 _ _ e1, e2, len2 rfl, fun l3 n3 => ?_⟩
        have u3 : Same H4 (upd H4 l3 (.lst ([.bl false, .bl false, .bl true] ++ [.bl false, .bl false, .bl false]))) := same_upd n3
        have e3 : (upd H4 l3 (.lst ([.bl false, .bl false, .bl true] ++ [.bl false, .bl false, .bl false]))) l3 = some (.lst [.bl false, .bl false, .bl true, .bl false, .bl false, .bl false]) := upd_same
        generalize upd H4 l3 _ = H5 at *
        walk_at "ct"
        refine ⟨ty_list e3, ?_⟩
        walk_at "ct"
        refine ⟨rfl, ?_⟩
        refine ⟨true, rfl, ?_⟩
        walk_at "ct"
        refine .inl ⟨a, c_NoRow, _, _, true, rfl, ((u1.trans u2).trans u3) _ _ ha, E_NoRow.is, .ty _, kv_NoRow, ?_⟩
        walk_at "ct"
        refine w_append e3 (by decide) ?_
        have s5 : Same H (upd H5 l3 (.lst ([.bl false, .bl false, .bl true, .bl false, .bl false, .bl false] ++ [.bl (!true)]))) := same_new ((sG.trans u1).trans (u2.trans u3)) (((sG.trans u1).trans u2).free n3)
        have e5 : (upd H5 l3 (.lst ([.bl false, .bl false, .bl true, .bl false, .bl false, .bl false] ++ [.bl (!true)]))) l3 = some (.lst ([.bl false, .bl false, .bl true, .bl false, .bl false, .bl false] ++ [.bl false])) := upd_same
        generalize upd H5 l3 _ = H6 at *
        walk_at "ct"
        refine w_RG1 (by decide) (by decide) ?_
        refine lb_range (fun D i G => Same H6 G ∧ G D = some (.lst (if i ≤ 2 then [] else [.int 2]))) (fun D hD => ⟨same_upd hD, upd_same⟩) ?_ ?_
        · rintro D hD i G hi ⟨sG2, hG⟩
          have hl := sG2 _ _ e5
          rcases (show i = 0 ∨ i = 1 ∨ i = 2 ∨ i = 3 ∨ i = 4 ∨ i = 5 ∨ i = 6 by have : i < 7 := hi; omega) with rfl | rfl | rfl | rfl | rfl | rfl | rfl
          · walk_at "ct"
            refine ⟨rfl, ?_⟩
            walk_at "ct"
            refine w_ixL (.of hl) (v := .bl false) rfl ?_
            walk_at "ct"
            exact ⟨sG2, hG⟩
          · walk_at "ct"
            refine ⟨rfl, ?_⟩
            walk_at "ct"
            refine w_ixL (.of hl) (v := .bl false) rfl ?_
            walk_at "ct"
            exact ⟨sG2, hG⟩
          · walk_at "ct"
            refine ⟨rfl, ?_⟩
            walk_at "ct"
            refine w_ixL (.of hl) (v := .bl true) rfl ?_
            walk_at "ct"
            exact ⟨[], hG, by decide, same_new sG2 hD, upd_same⟩
          · walk_at "ct"
            refine ⟨rfl, ?_⟩
            walk_at "ct"
            refine w_ixL (.of hl) (v := .bl false) rfl ?_
            walk_at "ct"
            exact ⟨sG2, hG⟩
          · walk_at "ct"
            refine ⟨rfl, ?_⟩
            walk_at "ct"
            refine w_ixL (.of hl) (v := .bl false) rfl ?_
            walk_at "ct"
            exact ⟨sG2, hG⟩
          · walk_at "ct"
            refine ⟨rfl, ?_⟩
            walk_at "ct"
            refine w_ixL (.of hl) (v := .bl false) rfl ?_
            walk_at "ct"
            exact ⟨sG2, hG⟩
          · walk_at "ct"
            refine ⟨rfl, ?_⟩
            walk_at "ct"
            refine w_ixL (.of hl) (v := .bl false) rfl ?_
            walk_at "ct"
            exact ⟨sG2, hG⟩
        · rintro D hD G2 ⟨sG2, hG⟩
          exact q D G2 (s5.trans sG2) hG
      · rw [hC] at ha
        walk_at "ct"
        refine .inl ⟨a, c_NoCount, _, _, false, rfl, ha, E_NoCount.is, .own _, k1_NoCount, ?_⟩
        walk_at "ct"
        refine .inl ⟨a, c_NoCount, _, _, false, rfl, ha, E_NoCount.is, .own _, k2_NoCount, ?_⟩
        walk_at "ct"
        refine .inl ⟨a, c_NoCount, _, _, false, rfl, ha, E_NoCount.is, .own _, k3_NoCount, ?_⟩
        walk_at "ct"
        refine ⟨len2 rfl, fun l1 n1 => ?_⟩
        have u1 : Same G (upd G l1 (.lst [.bl false, .bl false, .bl false])) := same_upd n1
        have e1 : (upd G l1 (.lst [.bl false, .bl false, .bl false])) l1 = some (.lst [.bl false, .bl false, .bl false]) := upd_same
        generalize upd G l1 _ = H3 at *
        have ha3 := u1 _ _ ha
        walk_at "ct"
        refine .inl ⟨a, c_NoCount, _, _, true, rfl, ha3, E_NoCount.is, .own _, k4_NoCount, ?_⟩
        walk_at "ct"
        refine .inl ⟨a, c_NoCount, _, _, false, rfl, ha3, E_NoCount.is, .own _, k5_NoCount, ?_⟩
        walk_at "ct"
        refine .inl ⟨a, c_NoCount, _, _, false, rfl, ha3, E_NoCount.is, .own _, k6_NoCount, ?_⟩
        walk_at "ct"
        refine ⟨len2 rfl, fun l2 n2 => ?_⟩
        have u2 : Same H3 (upd H3 l2 (.lst [.bl true, .bl false, .bl false])) := same_upd n2
        have e2 : (upd H3 l2 (.lst [.bl true, .bl false, .bl false])) l2 = some (.lst [.bl true, .bl false, .bl false]) := upd_same
        generalize upd H3 l2 _ = H4 at *
        refine ⟨l1, l2, _, _, rfl, rfl, u2 _ _ e1, e2, len2 rfl, fun l3 n3 => ?_⟩
        have u3 : Same H4 (upd H4 l3 (.lst ([.bl false, .bl false, .bl false] ++ [.bl true, .bl false, .bl false]))) := same_upd n3
        have e3 : (upd H4 l3 (.lst ([.bl false, .bl false, .bl false] ++ [.bl true, .bl false, .bl false]))) l3 = some (.lst [.bl false, .bl false, .bl false, .bl true, .bl false, .bl false]) := upd_same
        generalize upd H4 l3 _ = H5 at *
        walk_at "ct"
        refine ⟨ty_list e3, ?_⟩
        walk_at "ct"
        refine ⟨rfl, ?_⟩
        refine ⟨true, rfl, ?_⟩
        walk_at "ct"
        refine .inl ⟨a, c_NoCount, _, _, true, rfl, ((u1.trans u2).trans u3) _ _ ha, E_NoCount.is, .ty _, kv_NoCount, ?_⟩
        walk_at "ct"
        refine w_append e3 (by decide) ?_
        have s5 : Same H (upd H5 l3 (.lst ([.bl false, .bl false, .bl false, .bl true, .bl false, .bl false] ++ [.bl (!true)]))) := same_new ((sG.trans u1).trans (u2.trans u3)) (((sG.trans u1).trans u2).free n3)
        have e5 : (upd H5 l3 (.lst ([.bl false, .bl false, .bl false, .bl true, .bl false, .bl false] ++ [.bl (!true)]))) l3 = some (.lst ([.bl false, .bl false, .bl false, .bl true, .bl false, .bl false] ++ [.bl false])) := upd_same
        generalize upd H5 l3 _ = H6 at *
        walk_at "ct"
        refine w_RG1 (by decide) (by decide) ?_
        refine lb_range (fun D i G => Same H6 G ∧ G D = some (.lst (if i ≤ 3 then [] else [.int 3]))) (fun D hD => ⟨same_upd hD, upd_same⟩) ?_ ?_
        · rintro D hD i G hi ⟨sG2, hG⟩
          have hl := sG2 _ _ e5
          rcases (show i = 0 ∨ i = 1 ∨ i = 2 ∨ i = 3 ∨ i = 4 ∨ i = 5 ∨ i = 6 by have : i < 7 := hi; omega) with rfl | rfl | rfl | rfl | rfl | rfl | rfl
          · walk_at "ct"
            refine ⟨rfl, ?_⟩
            walk_at "ct"
            refine w_ixL (.of hl) (v := .bl false) rfl ?_
            walk_at "ct"
            exact ⟨sG2, hG⟩
          · walk_at "ct"
            refine ⟨rfl, ?_⟩
            walk_at "ct"
            refine w_ixL (.of hl) (v := .bl false) rfl ?_
            walk_at "ct"
            exact ⟨sG2, hG⟩
          · walk_at "ct"
            refine ⟨rfl, ?_⟩
            walk_at "ct"
            refine w_ixL (.of hl) (v := .bl false) rfl ?_
            walk_at "ct"
            exact ⟨sG2, hG⟩
          · walk_at "ct"
            refine ⟨rfl, ?_⟩
            walk_at "ct"
            refine w_ixL (.of hl) (v := .bl true) rfl ?_
            walk_at "ct"
            exact ⟨[], hG, by decide, same_new sG2 hD, upd_same⟩
          · walk_at "ct"
            refine ⟨rfl, ?_⟩
            walk_at "ct"
            refine w_ixL (.of hl) (v := .bl false) rfl ?_
            walk_at "ct"
            exact ⟨sG2, hG⟩
          · walk_at "ct"
            refine ⟨rfl, ?_⟩
            walk_at "ct"
            refine w_ixL (.of hl) (v := .bl false) rfl ?_
            walk_at "ct"
            exact ⟨sG2, hG⟩
          · walk_at "ct"
            refine ⟨rfl, ?_⟩
            walk_at "ct"
            refine w_ixL (.of hl) (v := .bl false) rfl ?_
            walk_at "ct"
            exact ⟨sG2, hG⟩
        · rintro D hD G2 ⟨sG2, hG⟩
          exact q D G2 (s5.trans sG2) hG
    · intro N hN
      have as5 : ask = 0 ∨ ask = 1 ∨ ask = 2 ∨ ask = 3 ∨ ask = 4 := by omega
      rcases as5 with rfl | rfl | rfl | rfl | rfl
      · walk_at "ct"
        refine w_ite (fun _ => ?_) (fun z => absurd rfl z)
        walk_at "ct"
        refine w_callS ?_
        walk_at "ct"
        refine ⟨u, f, rfl, hf, hTb, ?_⟩
        rcases due with ⟨_, ⟨bad, rfl⟩ | ⟨⟨ss, rfl, oks, sl⟩, rfl⟩⟩ | ⟨w, _⟩ | ⟨w, _⟩
        · refine .inl ⟨bad, fun H1 s1 => ?_⟩
          refine ⟨rfl, kx_NoRow, fun a na => ?_⟩
          walk_at "ct"
          intro na2
          refine w_st (σ' := [some (.int 0), some y, some v, some t, some u, some z, some (.ref a), none, none, none]) rfl ?_
          exact hN _ _ ⟨s1.trans (same_upd na2), .inr ⟨a, c_NoRow, 2, rfl, rfl, upd_same, .inr (.inr (.inl ⟨rfl, rfl⟩))⟩⟩
        · refine .inr ⟨ss, rfl, oks, sl, fun v9 H1 s1 => ?_⟩
          walk_at "ct"
          refine w_ite (fun z => absurd z (by decide)) (fun _ => ?_)
          walk_at "ct"
          refine w_ite (fun z => absurd z (by decide)) (fun _ => ?_)
          walk_at "ct"
          refine w_ite (fun z => absurd z (by decide)) (fun _ => ?_)
          walk_at "ct"
          refine w_ite (fun z => absurd z (by decide)) (fun _ => ?_)
          walk_at "ct"
          exact hN _ _ ⟨s1, .inl ⟨rfl, rfl⟩⟩
        · exact absurd w (by decide)
        · exact absurd w (by decide)
      · walk_at "ct"
        refine w_ite (fun z => absurd z (by decide)) (fun _ => ?_)
        walk_at "ct"
        refine w_ite (fun _ => ?_) (fun z => absurd rfl z)
        walk_at "ct"
        refine w_callS ?_
        walk_at "ct"
        refine ⟨u, y, f, g, rfl, hf, hy, lay, dep, ml, hTb, ?_⟩
        rcases due with ⟨_, ⟨bad, rfl⟩ | ⟨⟨ss, rfl, oks, sl⟩, rfl⟩⟩ | ⟨w, _⟩ | ⟨w, _⟩
        · refine .inl ⟨bad, fun H1 s1 => ?_⟩
          refine ⟨rfl, kx_NoRow, fun a na => ?_⟩
          walk_at "ct"
          intro na2
          refine w_st (σ' := [some (.int 1), some y, some v, some t, some u, some z, some (.ref a), none, none, none]) rfl ?_
          exact hN _ _ ⟨s1.trans (same_upd na2), .inr ⟨a, c_NoRow, 2, rfl, rfl, upd_same, .inr (.inr (.inl ⟨rfl, rfl⟩))⟩⟩
        · refine .inr ⟨ss, rfl, oks, sl, fun v9 H1 s1 => ?_⟩
          walk_at "ct"
          refine w_ite (fun z => absurd z (by decide)) (fun _ => ?_)
          walk_at "ct"
          refine w_ite (fun z => absurd z (by decide)) (fun _ => ?_)
          walk_at "ct"
          refine w_ite (fun z => absurd z (by decide)) (fun _ => ?_)
          walk_at "ct"
          exact hN _ _ ⟨s1, .inl ⟨rfl, rfl⟩⟩
        · exact absurd w (by decide)
        · exact absurd w (by decide)
      · walk_at "ct"
        refine w_ite (fun z => absurd z (by decide)) (fun _ => ?_)
        walk_at "ct"
        refine w_ite (fun z => absurd z (by decide)) (fun _ => ?_)
        walk_at "ct"
        refine w_ite (fun _ => ?_) (fun z => absurd rfl z)
        walk_at "ct"
        refine w_callS ?_
        walk_at "ct"
        refine ⟨u, z, f, m, rfl, hf, hm, hTb, ?_⟩
        rcases due with ⟨w, _⟩ | ⟨_, ⟨bad, rfl⟩ | ⟨⟨ss, rfl, oks, sl⟩, ⟨bad, rfl⟩ | ⟨⟨most, rfl, m1, m2⟩, rfl⟩⟩⟩ | ⟨w, _⟩
        · exact absurd w (by decide)
        · refine .inl ⟨bad, fun H1 s1 => ?_⟩
          refine ⟨rfl, kx_NoRow, fun a na => ?_⟩
          walk_at "ct"
          intro na2
          refine w_st (σ' := [some (.int 2), some y, some v, some t, some u, some z, some (.ref a), none, none, none]) rfl ?_
          exact hN _ _ ⟨s1.trans (same_upd na2), .inr ⟨a, c_NoRow, 2, rfl, rfl, upd_same, .inr (.inr (.inl ⟨rfl, rfl⟩))⟩⟩
        · refine .inr ⟨ss, rfl, oks, sl, .inl ⟨bad, fun H1 s1 => ?_⟩⟩
          refine ⟨rfl, kx_NoCount, fun a na => ?_⟩
          walk_at "ct"
          intro na2
          refine w_st (σ' := [some (.int 2), some y, some v, some t, some u, some z, some (.ref a), none, none, none]) rfl ?_
          exact hN _ _ ⟨s1.trans (same_upd na2), .inr ⟨a, c_NoCount, 3, rfl, rfl, upd_same, .inr (.inr (.inr ⟨rfl, rfl⟩))⟩⟩
        · refine .inr ⟨ss, rfl, oks, sl, .inr ⟨most, rfl, m1, m2, fun l9 H1 s1 nl9 hl9 => ?_⟩⟩
          walk_at "ct"
          refine w_ite (fun z => absurd z (by decide)) (fun _ => ?_)
          walk_at "ct"
          refine w_ite (fun z => absurd z (by decide)) (fun _ => ?_)
          walk_at "ct"
          exact hN _ _ ⟨s1, .inl ⟨rfl, rfl⟩⟩
        · exact absurd w (by decide)
      · walk_at "ct"
        refine w_ite (fun z => absurd z (by decide)) (fun _ => ?_)
        walk_at "ct"
        refine w_ite (fun z => absurd z (by decide)) (fun _ => ?_)
        walk_at "ct"
        refine w_ite (fun z => absurd z (by decide)) (fun _ => ?_)
        walk_at "ct"
        refine w_ite (fun _ => ?_) (fun z => absurd rfl z)
        walk_at "ct"
        refine w_callS ?_
        walk_at "ct"
        refine ⟨v, t, u, d, e, f, rfl, hd, he, hf, fine, hTb, ?_⟩
        rcases due with ⟨w, _⟩ | ⟨w, _⟩ | ⟨_, ⟨c1, rfl⟩ | ⟨ps, hp, c1, hok, l1, l2, ⟨c2, rfl⟩ | ⟨xs, hx, c2, hso, ⟨c3, rfl⟩ | ⟨ss, hs, oks, sl, rfl⟩⟩⟩⟩
        · exact absurd w (by decide)
        · exact absurd w (by decide)
        · refine .inl ⟨c1, fun H1 s1 => ?_⟩
          refine ⟨rfl, kx_NoTrain, fun a na => ?_⟩
          walk_at "ct"
          intro na2
          refine w_st (σ' := [some (.int 3), some y, some v, some t, some u, some z, some (.ref a), none, none, none]) rfl ?_
          exact hN _ _ ⟨s1.trans (same_upd na2), .inr ⟨a, c_NoTrain, 0, rfl, rfl, upd_same, .inl ⟨rfl, rfl⟩⟩⟩
        · refine .inr ⟨ps, hp, c1, hok, l1, l2, .inl ⟨c2, fun H1 s1 => ?_⟩⟩
          refine ⟨rfl, kx_NoStand, fun a na => ?_⟩
          walk_at "ct"
          intro na2
          refine w_st (σ' := [some (.int 3), some y, some v, some t, some u, some z, some (.ref a), none, none, none]) rfl ?_
          exact hN _ _ ⟨s1.trans (same_upd na2), .inr ⟨a, c_NoStand, 1, rfl, rfl, upd_same, .inr (.inl ⟨rfl, rfl⟩)⟩⟩
        · refine .inr ⟨ps, hp, c1, hok, l1, l2, .inr ⟨xs, hx, c2, hso, .inl ⟨c3, fun H1 s1 => ?_⟩⟩⟩
          refine ⟨rfl, kx_NoRow, fun a na => ?_⟩
          walk_at "ct"
          intro na2
          refine w_st (σ' := [some (.int 3), some y, some v, some t, some u, some z, some (.ref a), none, none, none]) rfl ?_
          exact hN _ _ ⟨s1.trans (same_upd na2), .inr ⟨a, c_NoRow, 2, rfl, rfl, upd_same, .inr (.inr (.inl ⟨rfl, rfl⟩))⟩⟩
        · refine .inr ⟨ps, hp, c1, hok, l1, l2, .inr ⟨xs, hx, c2, hso, .inr ⟨ss, hs, oks, sl, fun v9 H1 s1 => ?_⟩⟩⟩
          walk_at "ct"
          refine w_ite (fun z => absurd z (by decide)) (fun _ => ?_)
          walk_at "ct"
          exact hN _ _ ⟨s1, .inl ⟨rfl, rfl⟩⟩
      · walk_at "ct"
        refine w_ite (fun z => absurd z (by decide)) (fun _ => ?_)
        walk_at "ct"
        refine w_ite (fun z => absurd z (by decide)) (fun _ => ?_)
        walk_at "ct"
        refine w_ite (fun z => absurd z (by decide)) (fun _ => ?_)
        walk_at "ct"
        refine w_ite (fun z => absurd z (by decide)) (fun _ => ?_)
        walk_at "ct"
        refine w_ite (fun _ => ?_) (fun z => absurd rfl z)
        walk_at "ct"
        refine w_callS ?_
        walk_at "ct"
        refine ⟨v, t, u, y, d, e, f, g, rfl, hd, he, hf, hy, lay, dep, ml, fine, hTb, ?_⟩
        rcases due with ⟨w, _⟩ | ⟨w, _⟩ | ⟨_, ⟨c1, rfl⟩ | ⟨ps, hp, c1, hok, l1, l2, ⟨c2, rfl⟩ | ⟨xs, hx, c2, hso, ⟨c3, rfl⟩ | ⟨ss, hs, oks, sl, rfl⟩⟩⟩⟩
        · exact absurd w (by decide)
        · exact absurd w (by decide)
        · refine .inl ⟨c1, fun H1 s1 => ?_⟩
          refine ⟨rfl, kx_NoTrain, fun a na => ?_⟩
          walk_at "ct"
          intro na2
          refine w_st (σ' := [some (.int 4), some y, some v, some t, some u, some z, some (.ref a), none, none, none]) rfl ?_
          exact hN _ _ ⟨s1.trans (same_upd na2), .inr ⟨a, c_NoTrain, 0, rfl, rfl, upd_same, .inl ⟨rfl, rfl⟩⟩⟩
        · refine .inr ⟨ps, hp, c1, hok, l1, l2, .inl ⟨c2, fun H1 s1 => ?_⟩⟩
          refine ⟨rfl, kx_NoStand, fun a na => ?_⟩
          walk_at "ct"
          intro na2
          refine w_st (σ' := [some (.int 4), some y, some v, some t, some u, some z, some (.ref a), none, none, none]) rfl ?_
          exact hN _ _ ⟨s1.trans (same_upd na2), .inr ⟨a, c_NoStand, 1, rfl, rfl, upd_same, .inr (.inl ⟨rfl, rfl⟩)⟩⟩
        · refine .inr ⟨ps, hp, c1, hok, l1, l2, .inr ⟨xs, hx, c2, hso, .inl ⟨c3, fun H1 s1 => ?_⟩⟩⟩
          refine ⟨rfl, kx_NoRow, fun a na => ?_⟩
          walk_at "ct"
          intro na2
          refine w_st (σ' := [some (.int 4), some y, some v, some t, some u, some z, some (.ref a), none, none, none]) rfl ?_
          exact hN _ _ ⟨s1.trans (same_upd na2), .inr ⟨a, c_NoRow, 2, rfl, rfl, upd_same, .inr (.inr (.inl ⟨rfl, rfl⟩))⟩⟩
        · refine .inr ⟨ps, hp, c1, hok, l1, l2, .inr ⟨xs, hx, c2, hso, .inr ⟨ss, hs, oks, sl, fun v9 H1 s1 => ?_⟩⟩⟩
          walk_at "ct"
          exact hN _ _ ⟨s1, .inl ⟨rfl, rfl⟩⟩
abbrev S_law : Stmt := topS 59
theorem sc_law : FnScope ["_law_script", "_law_cell", "_law_draws_here", "_law_odd", "_law_train_here", "_law_stand_here", "_law_shows", "_law_most", "_law_thing", "_law_text", "_law_own", "_law_behind", "_law_dues", "_law_ask", "_law_k"] ["_law_script"] (defScope S_law) := ⟨rfl, rfl, rfl, by decide +kernel, rfl, by decide +kernel, by decide +kernel⟩
def sp_law (K : PySem.W.Frag) (T : List Addr) : Sp := fun vs H Q _ => ∃ (a : Addr) (ns : List Int), vs = [.ref a] ∧ SqL K H a (ns.map V.int) ∧ ns.length ≤ 63 ∧ Tb T H ∧ ∀ H', Same H H' → Q (.bl true) H'
theorem ok_law {f : Addr} {fd : FuncData} {f__law_marks : Addr} {fd__law_marks : FuncData} {f__law_next : Addr} {fd__law_next : FuncData} {f__law_odd_train : Addr} {fd__law_odd_train : FuncData} {f__law_odd_shows : Addr} {fd__law_odd_shows : FuncData} {f__law_odd_stand : Addr} {fd__law_odd_stand : FuncData} {f__law_stand : Addr} {fd__law_stand : FuncData} {f__law_train : Addr} {fd__law_train : FuncData} {f__law_draws : Addr} {fd__law_draws : FuncData} {c_NoTrain : Addr} {c_NoStand : Addr} {c_NoRow : Addr} {c_NoCount : Addr} {c_TooMany : Addr} {c_NoText : Addr} {c_TrainError : Addr} {T : List Addr} (F : Fun K "law" "law" S_law f fd)
    (F__law_marks : Fun K "_law_marks" "_law_marks" S__law_marks f__law_marks fd__law_marks) (b__law_marks : Binds K fd__law_marks ["_law_ask", "_law_thing", "_law_train_here", "_law_stand_here", "_law_shows", "_law_most"] []) (g__law_marks : mg "_law_marks" = some (.ref f__law_marks)) (G__law_marks : FnOk P w K mg base CX0 10 f__law_marks fd__law_marks ["_law_ask", "_law_thing", "_law_train_here", "_law_stand_here", "_law_shows", "_law_most"] (sp__law_marks K T c_NoTrain c_NoStand c_NoRow c_NoCount c_TooMany c_NoText c_TrainError))
    (F__law_next : Fun K "_law_next" "_law_next" S__law_next f__law_next fd__law_next) (b__law_next : Binds K fd__law_next ["_law_draws_here"] []) (g__law_next : mg "_law_next" = some (.ref f__law_next)) (G__law_next : FnOk P w K mg base CX0 1 f__law_next fd__law_next ["_law_draws_here"] (sp__law_next K))
    (F__law_odd_train : Fun K "_law_odd_train" "_law_odd_train" S__law_odd_train f__law_odd_train fd__law_odd_train) (b__law_odd_train : Binds K fd__law_odd_train ["_law_draws_here", "_law_train_here"] []) (g__law_odd_train : mg "_law_odd_train" = some (.ref f__law_odd_train)) (G__law_odd_train : FnOk P w K mg base CX0 2 f__law_odd_train fd__law_odd_train ["_law_draws_here", "_law_train_here"] (sp__law_odd_train K))
    (F__law_odd_shows : Fun K "_law_odd_shows" "_law_odd_shows" S__law_odd_shows f__law_odd_shows fd__law_odd_shows) (b__law_odd_shows : Binds K fd__law_odd_shows ["_law_draws_here", "_law_shows"] []) (g__law_odd_shows : mg "_law_odd_shows" = some (.ref f__law_odd_shows)) (G__law_odd_shows : FnOk P w K mg base CX0 2 f__law_odd_shows fd__law_odd_shows ["_law_draws_here", "_law_shows"] (sp__law_odd_shows K))
    (F__law_odd_stand : Fun K "_law_odd_stand" "_law_odd_stand" S__law_odd_stand f__law_odd_stand fd__law_odd_stand) (b__law_odd_stand : Binds K fd__law_odd_stand ["_law_draws_here", "_law_train_here", "_law_stand_here"] []) (g__law_odd_stand : mg "_law_odd_stand" = some (.ref f__law_odd_stand)) (G__law_odd_stand : FnOk P w K mg base CX0 2 f__law_odd_stand fd__law_odd_stand ["_law_draws_here", "_law_train_here", "_law_stand_here"] (sp__law_odd_stand K))
    (F__law_stand : Fun K "_law_stand" "_law_stand" S__law_stand f__law_stand fd__law_stand) (b__law_stand : Binds K fd__law_stand ["_law_draws_here", "_law_train_here"] []) (g__law_stand : mg "_law_stand" = some (.ref f__law_stand)) (G__law_stand : FnOk P w K mg base CX0 2 f__law_stand fd__law_stand ["_law_draws_here", "_law_train_here"] (sp__law_stand K))
    (F__law_train : Fun K "_law_train" "_law_train" S__law_train f__law_train fd__law_train) (b__law_train : Binds K fd__law_train ["_law_draws_here"] []) (g__law_train : mg "_law_train" = some (.ref f__law_train)) (G__law_train : FnOk P w K mg base CX0 2 f__law_train fd__law_train ["_law_draws_here"] (sp__law_train K))
    (F__law_draws : Fun K "_law_draws" "_law_draws" S__law_draws f__law_draws fd__law_draws) (b__law_draws : Binds K fd__law_draws ["_law_cell"] []) (g__law_draws : mg "_law_draws" = some (.ref f__law_draws)) (G__law_draws : FnOk P w K mg base CX0 1 f__law_draws fd__law_draws ["_law_cell"] (sp__law_draws K)) (m_str : mg "str" = none) (m_range : mg "range" = none) (m_int : mg "int" = none) :
    FnG P w K mg base CX0 11 f fd ["_law_script"] (sp_law K T) := by
  refine fnG_of0 F sc_law (fun vs H Q E h => ?_) (fun cdv A gd outer s H vs Q E hr h => ?_)
  ·
    obtain ⟨a, ns, rfl, _⟩ := h
    rfl
  ·
    obtain ⟨a0, ns, rfl, hS, hlen, hTb, q⟩ := h
    refine ⟨_, (pss_cons (ps_for PassesOwn.never rfl (pi_list (pe_op op_cat (pe_slice (r := rSlL K) sl_list (pv 0) po_none (po_some pe_int)) (pe_lst (pa_cons pe_int pa_nil)))) (pg_name (i := 1) sc_law.nd rfl (.inl rfl))
      (pss_cons (ps_set (i := 2) sc_law.nd rfl (.inr rfl) (pe_call G__law_draws (hr.mono (by decide)) (by rfl) g__law_draws F__law_draws.kp b__law_draws .nil pass0 (pa_cons (pv 1) pa_nil)))
      (pss_cons (ps_setLc (i := 3) (own := [("_law_k", 14)]) (g := gName 14)  rfl sc_law.nd rfl rfl (sw_true rfl rfl rfl (by decide +kernel)) (pi_range1 (by rfl) m_range (pa_cons pe_int pa_nil)) (blkOk_by (own := [("_law_k", 14)]) (N := ["_law_script", "_law_cell", "_law_draws_here", "_law_odd", "_law_train_here", "_law_stand_here", "_law_shows", "_law_most", "_law_thing", "_law_text", "_law_own", "_law_behind", "_law_dues", "_law_ask", "_law_k"]) (sc := defScope S_law) (by decide +kernel)) (fun _ _ _ _ _ => pg_name (i := 14) sc_law.nd rfl (Or.inl rfl)) (fun _ _ _ _ _ => pts_nil) (fun _ _ _ _ _ => (pe_cmpR op_eq (pe_op op_mod (pe_call G__law_next (hr.mono (by decide)) (by rfl) g__law_next F__law_next.kp b__law_next .nil pass0 (pa_cons (pv 2) pa_nil)) pe_int) pe_int (nomark _))))
      (pss_cons (ps_set (i := 4) sc_law.nd rfl (.inl rfl) (pe_call G__law_train (hr.mono (by decide)) (by rfl) g__law_train F__law_train.kp b__law_train .nil pass0 (pa_cons (pv 2) pa_nil)))
      (pss_cons (ps_set (i := 5) sc_law.nd rfl (.inl rfl) (pe_call G__law_stand (hr.mono (by decide)) (by rfl) g__law_stand F__law_stand.kp b__law_stand .nil pass0 (pa_cons (pv 2) (pa_cons (pv 4) pa_nil))))
      (pss_cons (ps_setLc (i := 6) (own := [("_law_k", 14)]) (g := gName 14)  rfl sc_law.nd rfl rfl (sw_true rfl rfl rfl (by decide +kernel)) (pi_range1 (by rfl) m_range (pa_cons (pe_op op_mod (pe_call G__law_next (hr.mono (by decide)) (by rfl) g__law_next F__law_next.kp b__law_next .nil pass0 (pa_cons (pv 2) pa_nil)) pe_int) pa_nil)) (blkOk_by (own := [("_law_k", 14)]) (N := ["_law_script", "_law_cell", "_law_draws_here", "_law_odd", "_law_train_here", "_law_stand_here", "_law_shows", "_law_most", "_law_thing", "_law_text", "_law_own", "_law_behind", "_law_dues", "_law_ask", "_law_k"]) (sc := defScope S_law) (by decide +kernel)) (fun _ _ _ _ _ => pg_name (i := 14) sc_law.nd rfl (Or.inl rfl)) (fun _ _ _ _ _ => pts_nil) (fun _ _ _ _ _ => (pe_tup (pa_cons (pe_ix (r := rIxL K) ix_list (pe_lst (pa_cons pe_int (pa_cons (pe_op op_sub pe_int pe_int) pa_nil))) (pe_op op_mod (pe_call G__law_next (hr.mono (by decide)) (by rfl) g__law_next F__law_next.kp b__law_next .nil pass0 (pa_cons (pv 2) pa_nil)) pe_int) (fun _ _ => rfl)) (pa_cons pe_int pa_nil)))))
      (pss_cons (ps_set (i := 7) sc_law.nd rfl (.inl rfl) (pe_ix (r := rIxL K) ix_list (pe_lst (pa_cons (pe_op op_add pe_int (pe_op op_mod (pe_call G__law_next (hr.mono (by decide)) (by rfl) g__law_next F__law_next.kp b__law_next .nil pass0 (pa_cons (pv 2) pa_nil)) pe_int)) (pa_cons (pe_ix (r := rIxL K) ix_list (pe_lst (pa_cons pe_int (pa_cons pe_int (pa_cons (pe_op op_sub pe_int pe_int) (pa_cons (pe_op op_powB pe_int pe_int) pa_nil))))) (pe_op op_mod (pe_call G__law_next (hr.mono (by decide)) (by rfl) g__law_next F__law_next.kp b__law_next .nil pass0 (pa_cons (pv 2) pa_nil)) pe_int) (fun _ _ => rfl)) pa_nil))) (pe_callTy call_int1 (by rfl) m_int (by decide +kernel) (pa_cons (pe_ix (r := rIxL K) ix_list (pv 3) pe_int (fun _ _ => rfl)) pa_nil)) (fun _ _ => rfl)))
      (pss_cons (ps_if (pt_val (pe_ix (r := rIxL K) ix_list (pv 3) pe_int (fun _ _ => rfl))) (pss_one (ps_set (i := 5) sc_law.nd rfl (.inl rfl) (pe_call G__law_odd_stand (hr.mono (by decide)) (by rfl) g__law_odd_stand F__law_odd_stand.kp b__law_odd_stand .nil pass0 (pa_cons (pv 2) (pa_cons (pv 4) (pa_cons (pv 5) pa_nil)))))) pss_nil)
      (pss_cons (ps_if (pt_val (pe_ix (r := rIxL K) ix_list (pv 3) pe_int (fun _ _ => rfl))) (pss_one (ps_set (i := 6) sc_law.nd rfl (.inl rfl) (pe_call G__law_odd_shows (hr.mono (by decide)) (by rfl) g__law_odd_shows F__law_odd_shows.kp b__law_odd_shows .nil pass0 (pa_cons (pv 2) (pa_cons (pv 6) pa_nil))))) pss_nil)
      (pss_cons (ps_if (pt_val (pe_ix (r := rIxL K) ix_list (pv 3) pe_int (fun _ _ => rfl))) (pss_one (ps_set (i := 4) sc_law.nd rfl (.inl rfl) (pe_call G__law_odd_train (hr.mono (by decide)) (by rfl) g__law_odd_train F__law_odd_train.kp b__law_odd_train .nil pass0 (pa_cons (pv 2) (pa_cons (pv 4) pa_nil))))) pss_nil)
      (pss_cons (ps_set (i := 8) sc_law.nd rfl (.inl rfl) (pe_ix (r := rIxL K) ix_list (pe_lst (pa_cons pe_non (pa_cons (pe_tup (pa_cons pe_str (pa_cons pe_int (pa_cons (pe_tup pa_nil) (pa_cons (pe_lst pa_nil) pa_nil))))) pa_nil))) (pe_op op_mod (pe_call G__law_next (hr.mono (by decide)) (by rfl) g__law_next F__law_next.kp b__law_next .nil pass0 (pa_cons (pv 2) pa_nil)) pe_int) (fun _ _ => rfl)))
      (pss_cons (ps_set (i := 9) sc_law.nd rfl (.inl rfl) (pe_callTy (r := rStrD K) (call_strD gd hr.units) (by rfl) m_str (by decide +kernel) (pa_cons (pe_lst (pa_cons (pv 4) (pa_cons (pv 5) (pa_cons (pv 6) pa_nil)))) pa_nil)))
      (pss_cons (ps_set (i := 10) sc_law.nd rfl (.inl rfl) (pe_op op_rep (pe_lst (pa_cons pe_int pa_nil)) (pe_callTy call_int1 (by rfl) m_int (by decide +kernel) (pa_cons (pe_ix (r := rIxL K) ix_list (pv 3) pe_int (fun _ _ => rfl)) pa_nil))))
      (pss_cons (ps_set (i := 11) sc_law.nd rfl (.inl rfl) (pe_slice (r := rSlL K) sl_list (pe_op op_cat (pe_op op_cat (pe_op op_rep (pe_lst (pa_cons pe_int pa_nil)) (pe_callTy call_int1 (by rfl) m_int (by decide +kernel) (pa_cons (pe_ix (r := rIxL K) ix_list (pv 3) pe_int (fun _ _ => rfl)) pa_nil))) (pe_op op_rep (pe_lst (pa_cons pe_int pa_nil)) (pe_callTy call_int1 (by rfl) m_int (by decide +kernel) (pa_cons (pe_ix (r := rIxL K) ix_list (pv 3) pe_int (fun _ _ => rfl)) pa_nil)))) (pv 10)) po_none (po_some pe_int)))
      (pss_cons (ps_set (i := 12) sc_law.nd rfl (.inl rfl) (pe_lst (pa_cons (pv 10) (pa_cons (pv 10) (pa_cons (pe_slice (r := rSlL K) sl_list (pe_op op_cat (pv 10) (pe_op op_rep (pe_lst (pa_cons pe_int pa_nil)) (pe_callTy call_int1 (by rfl) m_int (by decide +kernel) (pa_cons (pe_ix (r := rIxL K) ix_list (pv 3) pe_int (fun _ _ => rfl)) pa_nil)))) po_none (po_some pe_int)) (pa_cons (pv 11) (pa_cons (pv 11) pa_nil)))))))
      (pss_one (ps_for PassesOwn.never rfl (pi_range1 (by rfl) m_range (pa_cons pe_int pa_nil)) (pg_name (i := 13) sc_law.nd rfl (.inl rfl))
      (pss_cons (ps_if (pt_cmpR (r := rNeD K) (op_neD hr.units) (pe_call G__law_marks (hr.mono (by decide)) (by rfl) g__law_marks F__law_marks.kp b__law_marks .nil pass0 (pa_cons (pv 13) (pa_cons (pv 8) (pa_cons (pv 4) (pa_cons (pv 5) (pa_cons (pv 6) (pa_cons (pv 7) pa_nil))))))) (pe_ix (r := rIxL K) ix_list (pv 12) (pv 13) (fun _ _ => rfl)) (nomark _)) (pss_one (ps_ret pe_bl)) pss_nil)
      (pss_one (ps_if (pt_cmpR op_ne (pe_callTy (r := rStrD K) (call_strD gd hr.units) (by rfl) m_str (by decide +kernel) (pa_cons (pe_lst (pa_cons (pv 4) (pa_cons (pv 5) (pa_cons (pv 6) pa_nil)))) pa_nil)) (pv 9) (nomark _)) (pss_one (ps_ret pe_bl)) pss_nil))))))))))))))))))))
      (pss_one (ps_ret pe_bl))), ?_⟩
    refine w_st (σ' := [some (.ref a0), none, none, none, none, none, none, none, none, none, none, none, none, none, none]) rfl ?_
    walk_at "ct"
    refine w_slL hS fun p np => ?_
    walk_at "ct"
    refine ⟨len2 rfl, fun p2 np2 => ?_⟩
    obtain ⟨cs, hcs, cl⟩ : ∃ cs : List Int, cutV (ns.map V.int) none (some 8) = cs.map V.int ∧ cs.length ≤ 63 := by
      refine ⟨_, cutV_map ns none (some 8), ?_⟩
      have := cutV_length (ns.map V.int) none (some 8)
      rw [cutV_map, List.length_map, List.length_map] at this
      omega
    rw [hcs] at np2 ⊢
    refine ⟨p, p2, _, _, rfl, rfl, by rw [upd_ne (ne_of_none upd_same np2)]; exact upd_same, upd_same, ?_, fun p3 np3 => ?_⟩
    · rw [List.length_map]
      exact Nat.le_trans (show cs.length + 1 ≤ 64 by omega) (by decide)
    walk_at "ct"
    have hx : (cs.map V.int ++ [V.int 0]) = (cs ++ [0]).map V.int := by rw [List.map_append]; rfl
    rw [hx] at *
    refine w_IL (.of upd_same) ?_
    have hL : SqL K (upd (upd (upd H p (.lst (cs.map V.int))) p2 (.lst [.int 0])) p3 (.lst ((cs ++ [0]).map V.int))) p3 ((cs ++ [0]).map V.int) := .of upd_same
    have sHH : Same H (upd (upd (upd H p (.lst (cs.map V.int))) p2 (.lst [.int 0])) p3 (.lst ((cs ++ [0]).map V.int))) := ((same_upd np).trans (same_upd np2)).trans (same_upd np3)
    generalize upd (upd (upd H p _) p2 _) p3 _ = HH at *
    refine fb_list ((cs ++ [0]).map V.int) (fun n σ H' => ∃ y1 y2 y3 y4 y5 y6 y7 y8 y9 y10 y11 y12 y13, σ = [some (.ref a0), y1, y2, y3, y4, y5, y6, y7, y8, y9, y10, y11, y12, y13, none] ∧ Same HH H') ⟨none, none, none, none, none, none, none, none, none, none, none, none, none, rfl, Same.refl _⟩ ?_ ?_ ?_
    · rintro n σ H' hn ⟨y1, y2, y3, y4, y5, y6, y7, y8, y9, y10, y11, y12, y13, rfl, sm⟩
      exact sm.seq hL
    · rintro n x σ H' hx ⟨y1, y2, y3, y4, y5, y6, y7, y8, y9, y10, y11, y12, y13, rfl, sm⟩
      obtain ⟨c, rfl⟩ : ∃ c : Int, x = .int c := by
        obtain ⟨k, _, rfl⟩ := List.mem_map.mp (List.mem_of_getElem? hx)
        exact ⟨k, rfl⟩
      walk_at "ct"
      refine ⟨c, rfl, fun D H1 s1 nD hD => ?_⟩
      walk_at "ct"
      refine w_RG1 (by decide) (by decide) ?_
      refine lb_range (fun A k G => Dr D k H1 G ∧ ∃ bs : List Bool, G A = some (.lst (bs.map V.bl)) ∧ bs.length = k) (fun A nA => ⟨(Dr.refl hD).same (same_upd nA), [], upd_same, rfl⟩) ?_ ?_
      · rintro A nA k G hk ⟨dG, bs, hA, bl⟩
        have hk4 : k < 4 := hk
        walk_at "ct"
        refine ⟨rfl, ?_⟩
        walk_at "ct"
        refine ⟨D, k, rfl, dG.2, by omega, fun n1 _ _ => ?_⟩
        have st := Dr.step dG.2 (k + 1)
        have hA2 := st.at dG.2 hA
        have dG2 := dG.trans st
        clear st
        generalize upd G D _ = G2 at *
        walk_at "ct"
        refine w_mod (by decide) fun r r0 r1 => ?_
        walk_at "ct"
        refine ⟨_, hA2, by rw [List.length_map]; exact small1000 (by omega), dG2.put nA hA2, bs ++ [decide (r = 0)], ?_, by rw [List.length_append, bl]; rfl⟩
        rw [upd_same, List.map_append]
        rfl
      rintro lo nlo H2 ⟨d2, bs, hlo, bl⟩
      obtain ⟨o0, o1, o2, o3, rfl⟩ : ∃ o0 o1 o2 o3 : Bool, bs = [o0, o1, o2, o3] := by
        match bs, (show bs.length = 4 from bl) with
        | [o0, o1, o2, o3], _ => exact ⟨o0, o1, o2, o3, rfl⟩
      have d2 : Dr D 4 H1 H2 := d2
      have hlo : H2 lo = some (.lst [.bl o0, .bl o1, .bl o2, .bl o3]) := hlo
      have sB2 : Same H' H2 := d2.1.same nD s1
      have hD2 := d2.2
      clear d2 bl s1 hD nlo
      walk_at "ct"
      refine ⟨D, 4, rfl, hD2, by omega, fun a tws ps c1 H3 d3 c1l na ha htd hok p1 p4 => ?_⟩
      have hok1 : ∀ p ∈ ps, p.ok := fun p hp => (hok p hp).1
      have hlo3 := d3.at hD2 hlo
      walk_at "ct"
      refine ⟨D, a, c1, tws, ps, rfl, d3.2, by omega, ha, htd, hok1, by omega, fun xs t H4 d4 ht hso => ?_⟩
      have ha4 := d4.at d3.2 ha
      have hd4 := d4.all d3.2 htd
      have hlo4 := d4.at d3.2 hlo3
      have hD4 := d4.2
      have sB4 : Same H' H4 := (d3.trans d4).1.same nD sB2
      have c4l : c1 + ps.length ≤ 110 := by omega
      generalize c1 + ps.length = c4 at *
      clear d3 d4 ha htd hlo3 hlo hD2 sB2 na
      walk_at "ct"
      refine ⟨D, c4, rfl, hD4, by omega, fun n5 _ _ => ?_⟩
      have d5 := Dr.step hD4 (c4 + 1)
      have ha5 := d5.at hD4 ha4
      have hd5 := d5.all hD4 hd4
      have hlo5 := d5.at hD4 hlo4
      have ht5 := but_tup (drO_ext hD4) d5.1 ht
      have hD5 := d5.2
      have sB5 : Same H' (upd H4 D (DrO D (c4 + 1))) := d5.1.same nD sB4
      clear d5 ha4 hd4 hlo4 ht hD4 sB4
      generalize upd H4 D _ = H5 at *
      walk_at "ct"
      refine w_mod (by decide) fun n13 n0 n1 => ?_
      obtain ⟨N, rfl⟩ : ∃ N : Nat, n13 = N := ⟨n13.toNat, by omega⟩
      walk_at "ct"
      refine w_RG1 (by omega) (by omega) ?_
      rw [show ((N : Int)).toNat = N by omega]
      refine lb_range (fun A k G => Dr D (c4 + 1 + k) H5 G ∧ ∃ (us : List V) (ss : List (Int × Int)), G A = some (.lst us) ∧ DpAll K G us (ss.map sh2D) ∧ ss.length = k ∧ ∀ s ∈ ss, Sh2Ok s) (fun A nA => ⟨(Dr.refl hD5).same (same_upd nA), [], [], upd_same, .nil, rfl, fun _ z => nomatch z⟩) ?_ ?_
      · rintro A nA k G hk ⟨dG, us, ss, hA, hus, sl, oks⟩
        have ul : us.length = k := by rw [dpAll_len hus, List.length_map, sl]
        walk_at "ct"
        refine ⟨rfl, ?_⟩
        walk_at "ct"
        refine ⟨len2 rfl, fun g1 ng1 => ?_⟩
        have u1 : Same G (upd G g1 (.lst [.int 1, .int (0 - 1)])) := same_upd ng1
        have hg1 : (upd G g1 (.lst [.int 1, .int (0 - 1)])) g1 = some (.lst [.int 1, .int (0 - 1)]) := upd_same
        generalize upd G g1 _ = G1 at *
        have dG1 := dG.same u1
        walk_at "ct"
        refine ⟨D, c4 + 1 + k, rfl, dG1.2, by omega, fun n6 _ _ => ?_⟩
        have st := Dr.step dG1.2 (c4 + 1 + k + 1)
        have hg2 := st.at dG1.2 hg1
        have hA2 := st.at dG1.2 (u1 _ _ hA)
        have hus2 := st.all dG1.2 (dpAll_same u1 hus)
        have dG2 := dG1.trans st
        clear st
        generalize upd G1 D _ = G2 at *
        walk_at "ct"
        refine w_mod (by decide) fun r r0 r1 => ?_
        obtain ⟨w1, hw1, sw1⟩ : ∃ w1 : Int, atI [V.int 1, .int (0 - 1)] r = some (.int w1) ∧ Sign w1 := by
          have : r = 0 ∨ r = 1 := by omega
          rcases this with rfl | rfl
          · exact ⟨1, at0, .inl rfl⟩
          · exact ⟨-1, at1, .inr rfl⟩
        refine w_ixL (.of hg2) hw1 ?_
        walk_at "ct"
        refine ⟨len2 rfl, fun g3 ng3 => ?_⟩
        have u3 : Same G2 (upd G2 g3 (.tup [.int w1, .int 0])) := same_upd ng3
        have hg3 : (upd G2 g3 (.tup [.int w1, .int 0])) g3 = some (.tup [.int w1, .int 0]) := upd_same
        generalize upd G2 g3 _ = G3 at *
        have hA3 := u3 _ _ hA2
        refine ⟨_, hA3, small1000 (by omega), (dG2.same u3).put nA hA3, us ++ [.ref g3], ss ++ [(w1, 0)], upd_same, ?_, by rw [List.length_append, sl]; rfl, fun s hs => ?_⟩
        · rw [List.map_append]
          exact dpAll_app (sh2s_upd hA3 (dpAll_same u3 hus2)) (.cons (sh2_upd hA3 (sh2_dp (s := (w1, 0)) (.of hg3))) .nil)
        · rcases List.mem_append.mp hs with hs | hs
          · exact oks s hs
          · rw [List.mem_singleton.mp hs]
            exact ⟨sw1, .inl rfl⟩
      rintro b nb H6 ⟨d6, ws, ss, hb, hws, sl, oks⟩
      have sl12 : ss.length ≤ 12 := by omega
      have ha6 := d6.at hD5 ha5
      have hd6 := d6.all hD5 hd5
      have hlo6 := d6.at hD5 hlo5
      have ht6 := but_tup (drO_ext hD5) d6.1 ht5
      have hD6 := d6.2
      have sB6 : Same H' H6 := d6.1.same nD sB5
      have c6l : c4 + 1 + N ≤ 130 := by omega
      generalize c4 + 1 + N = c6 at *
      clear d6 ha5 hd5 hlo5 ht5 hD5 sB5 nb
      walk_at "ct"
      refine ⟨D, c6, rfl, hD6, by omega, fun n7 _ _ => ?_⟩
      have d7 := Dr.step hD6 (c6 + 1)
      generalize upd H6 D _ = H7 at *
      walk_at "ct"
      refine w_mod (by decide) fun m1 m10 m11 => ?_
      walk_at "ct"
      refine w_rIv (.int (10 ^ 39)) ⟨by decide, by decide⟩ rfl ?_
      walk_at "ct"
      refine ⟨len2 rfl, fun g2 ng2 => ?_⟩
      have u8 : Same H7 (upd H7 g2 (.lst [.int 0, .int 201, .int (0 - 7), .int (10 ^ 39)])) := same_upd ng2
      have hg2 : (upd H7 g2 (.lst [.int 0, .int 201, .int (0 - 7), .int (10 ^ 39)])) g2 = some (.lst [.int 0, .int 201, .int (0 - 7), .int (10 ^ 39)]) := upd_same
      generalize upd H7 g2 _ = H8 at *
      have d8 := d7.same u8
      walk_at "ct"
      refine ⟨D, c6 + 1, rfl, d8.2, by omega, fun n9 _ _ => ?_⟩
      have st := Dr.step d8.2 (c6 + 2)
      have hg9 := st.at d8.2 hg2
      have d9 := d8.trans st
      clear st
      generalize upd H8 D _ = H9 at *
      walk_at "ct"
      refine w_mod (by decide) fun m2 m20 m21 => ?_
      obtain ⟨mb, hmb, mbad⟩ : ∃ mb : Int, atI [V.int 0, .int 201, .int (0 - 7), .int (10 ^ 39)] m2 = some (.int mb) ∧ isMost (.int mb) = false := by
        have : m2 = 0 ∨ m2 = 1 ∨ m2 = 2 ∨ m2 = 3 := by omega
        rcases this with rfl | rfl | rfl | rfl
        · exact ⟨0, at0, by decide⟩
        · exact ⟨201, at1, by decide⟩
        · exact ⟨-7, at2, by decide⟩
        · exact ⟨10 ^ 39, rfl, by decide⟩
      refine w_ixL (.of hg9) hmb ?_
      walk_at "ct"
      refine ⟨len2 rfl, fun g3 ng3 => ?_⟩
      have uA : Same H9 (upd H9 g3 (.lst [.int (1 + m1), .int mb])) := same_upd ng3
      have hg3 : (upd H9 g3 (.lst [.int (1 + m1), .int mb])) g3 = some (.lst [.int (1 + m1), .int mb]) := upd_same
      generalize upd H9 g3 _ = HA at *
      have dA := d9.same uA
      have haB := dA.at hD6 ha6
      have hdB := dA.all hD6 hd6
      have hloB := dA.at hD6 hlo6
      have htB := but_tup (drO_ext hD6) dA.1 ht6
      have hbB := dA.at hD6 hb
      have hwsB := dA.all hD6 hws
      have hDB := dA.2
      have sBB : Same H' HA := dA.1.same nD sB6
      clear d7 d8 d9 dA u8 uA hg2 hg9 ha6 hd6 hlo6 ht6 hb hws hD6 sB6
      have hloL : SqL K HA lo [.bl o0, .bl o1, .bl o2, .bl o3] := .of hloB
      walk_at "ct"
      refine w_ixL hloL (v := .bl o3) rfl ?_
      refine .inr ⟨_, rfl, ?_⟩
      obtain ⟨mo, hmo, mgood⟩ : ∃ mo : Int, atI [V.int (1 + m1), .int mb] (if o3 = true then (1 : Int) else 0) = some (.int mo) ∧ ((o3 = true ∧ isMost (.int mo) = false) ∨ (o3 = false ∧ GoodM (.int mo))) := by
        cases o3 with
        | true => exact ⟨mb, at1, .inl ⟨rfl, mbad⟩⟩
        | false => exact ⟨1 + m1, at0, .inr ⟨rfl, (1 + m1).toNat, by congr 1; omega, by omega, by omega⟩⟩
      refine w_ixL (.of hg3) hmo ?_
      walk_at "cq"
      have fxs : FineA (xs.map PyData.int) 2 4 := fineA_ints (fun x hx => by
        obtain ⟨i, hi⟩ := List.mem_iff_getElem?.mp hx
        have il : i < xs.length := (List.getElem?_eq_some_iff.mp hi).1
        obtain ⟨pt, hpt⟩ : ∃ pt, ps[i]? = some pt := ⟨_, List.getElem?_eq_getElem (by rw [← hso.1]; exact il)⟩
        have := hso.2 i pt x hpt hi
        have := (hok pt (List.mem_of_getElem? hpt)).2.2
        omega) (by rw [hso.1]; omega)
      have xb : ∀ x ∈ xs, x.natAbs < 2 ^ 200 := fun x hx => by
        obtain ⟨i, hi⟩ := List.mem_iff_getElem?.mp hx
        have il : i < xs.length := (List.getElem?_eq_some_iff.mp hi).1
        obtain ⟨pt, hpt⟩ : ∃ pt, ps[i]? = some pt := ⟨_, List.getElem?_eq_getElem (by rw [← hso.1]; exact il)⟩
        have := hso.2 i pt x hpt hi
        have := (hok pt (List.mem_of_getElem? hpt)).2.2
        omega
      have fss : FineA (ss.map sh2D) 1 40 := (fineA_sh2 oks).mono (Nat.le_refl _) (by omega)
      have fps : FineA (ps.map Part.data) 2 68 := (fineA_map fun p hp => (hok p hp).2.1).mono (Nat.le_refl _) (by omega)
      have cB : c6 + 2 ≤ 200 := by omega
      generalize c6 + 2 = cc at *
      with_reducible refine w_join (fun σ G => ∃ (v : V) (e : PyData) (cG : Nat), σ = [some (.ref a0), some (.int c), some (.ref D), some (.ref lo), some (.ref a), some v, some (.ref b), some (.int mo), y8, y9, y10, y11, y12, y13, none] ∧ Dr D cG HA G ∧ cG ≤ cc + 2 ∧ Dp K G v e ∧ Fine e 4 100 ∧ ((o1 = true ∧ isSt ps e = false) ∨ (o1 = false ∧ e = .tuple (xs.map PyData.int)))) ?_ ?_
      rotate_left
      · intro N hN
        walk_at "ct"
        refine w_ixL hloL (v := .bl o1) rfl ?_
        walk_at "ct"
        cases eo : o1 with
        | true =>
          walk_at "ct"
          refine ⟨D, t, .ref a, cc, ps, xs, rfl, hDB, by omega, htB, hso.1, p1, p4, fun p hp => (hok p hp).2.2, xb, fun v e G dG hv fe bad => ?_⟩
          walk_at "ct"
          exact hN _ _ ⟨v, e, cc + 2, rfl, dG, Nat.le_refl _, hv, fe, .inl ⟨eo, bad⟩⟩
        | false =>
          walk_at "ct"
          exact hN _ _ ⟨.ref t, _, cc, rfl, Dr.refl hDB, by omega, .tup htB (dpAll_ints xs), fxs.tup.mono (by decide) (by decide), .inr ⟨eo, rfl⟩⟩
      rintro σ G1 ⟨v, e, c1', rfl, d1, c1l', hv1, fe, st⟩
      with_reducible refine w_join (fun σ G => ∃ (u : V) (f : PyData) (cG : Nat), σ = [some (.ref a0), some (.int c), some (.ref D), some (.ref lo), some (.ref a), some v, some u, some (.int mo), y8, y9, y10, y11, y12, y13, none] ∧ Dr D cG G1 G ∧ cG ≤ cc + 5 ∧ Dp K G u f ∧ Fine f 4 200 ∧ ((o2 = true ∧ isShows f = false) ∨ (o2 = false ∧ f = .list (ss.map sh2D)))) ?_ ?_
      rotate_left
      · intro N hN
        have hlo1 : SqL K G1 lo [.bl o0, .bl o1, .bl o2, .bl o3] := .of (d1.at hDB hloB)
        walk_at "ct"
        refine w_ixL hlo1 (v := .bl o2) rfl ?_
        walk_at "ct"
        cases eo : o2 with
        | true =>
          walk_at "ct"
          refine ⟨D, b, c1', ws, ss, rfl, d1.2, by omega, d1.at hDB hbB, d1.all hDB hwsB, fss, sl12, fun u f G dG hu ff bad => ?_⟩
          walk_at "ct"
          exact hN _ _ ⟨u, f, c1' + 3, rfl, dG, by omega, hu, ff, .inl ⟨eo, bad⟩⟩
        | false =>
          walk_at "ct"
          exact hN _ _ ⟨.ref b, _, c1', rfl, Dr.refl d1.2, by omega, .lst (.of (d1.at hDB hbB)) (d1.all hDB hwsB), fss.lst.mono (by decide) (by decide), .inr ⟨eo, rfl⟩⟩
      rintro σ G2 ⟨u, f, c2', rfl, d2, c2l', hu2, ff, sh⟩
      have d12 := d1.trans d2
      with_reducible refine w_join (fun σ G => ∃ (r : V) (d : PyData) (cG : Nat), σ = [some (.ref a0), some (.int c), some (.ref D), some (.ref lo), some r, some v, some u, some (.int mo), y8, y9, y10, y11, y12, y13, none] ∧ Dr D cG G2 G ∧ cG ≤ cc + 6 ∧ Dp K G r d ∧ Fine d 6 200 ∧ ((o0 = true ∧ isT d = false) ∨ (o0 = false ∧ d = .list (ps.map Part.data)))) ?_ ?_
      rotate_left
      · intro N hN
        have hlo2 : SqL K G2 lo [.bl o0, .bl o1, .bl o2, .bl o3] := .of (d12.at hDB hloB)
        walk_at "ct"
        refine w_ixL hlo2 (v := .bl o0) rfl ?_
        walk_at "ct"
        cases eo : o0 with
        | true =>
          walk_at "ct"
          refine ⟨D, a, c2', tws, ps, rfl, d2.2, by omega, d12.at hDB haB, d12.all hDB hdB, fun p hp => (hok p hp).2.1, p4, fun r d G dG hr fd bad => ?_⟩
          walk_at "ct"
          exact hN _ _ ⟨r, d, c2' + 1, rfl, dG, by omega, hr, fd, .inl ⟨eo, bad⟩⟩
        | false =>
          walk_at "ct"
          exact hN _ _ ⟨.ref a, _, c2', rfl, Dr.refl d2.2, by omega, .lst (.of (d12.at hDB haB)) (d12.all hDB hdB), fps.lst.mono (by decide) (by decide), .inr ⟨eo, rfl⟩⟩
      rintro σ G3 ⟨rt, d, c3', rfl, d3, c3l', hr3, fd, tr⟩
      have d13 := d12.trans d3
      have hv3 := dp_dr hv1 (d2.trans d3) d1.2
      have hu3 := dp_dr hu2 d3 d2.2
      walk_at "ct"
      refine ⟨len2 rfl, fun e1 ne1 => ?_⟩
      have v1 : Same G3 (upd G3 e1 (.tup [])) := same_upd ne1
      have he1 : (upd G3 e1 (.tup [])) e1 = some (.tup []) := upd_same
      generalize upd G3 e1 _ = G4 at *
      walk_at "ct"
      refine ⟨len2 rfl, fun e2 ne2 => ?_⟩
      have v2 : Same G4 (upd G4 e2 (.lst [])) := same_upd ne2
      have he2 : (upd G4 e2 (.lst [])) e2 = some (.lst []) := upd_same
      generalize upd G4 e2 _ = G5 at *
      walk_at "ct"
      refine ⟨len2 rfl, fun e3 ne3 => ?_⟩
      have v3 : Same G5 (upd G5 e3 (.tup [.str "wheel", .int 1, .ref e1, .ref e2])) := same_upd ne3
      have he3 : (upd G5 e3 (.tup [.str "wheel", .int 1, .ref e1, .ref e2])) e3 = some (.tup [.str "wheel", .int 1, .ref e1, .ref e2]) := upd_same
      generalize upd G5 e3 _ = G6 at *
      walk_at "ct"
      refine ⟨len2 rfl, fun e4 ne4 => ?_⟩
      have v4 : Same G6 (upd G6 e4 (.lst [.non, .ref e3])) := same_upd ne4
      have he4 : (upd G6 e4 (.lst [.non, .ref e3])) e4 = some (.lst [.non, .ref e3]) := upd_same
      generalize upd G6 e4 _ = G7 at *
      have s37 := (v1.trans v2).trans (v3.trans v4)
      have d7 := d13.same s37
      have wheel7 : Dp K G7 (.ref e3) (.tuple [.str "wheel", .int 1, .tuple [], .list []]) := .tup (.of (v4 _ _ he3)) (.cons (.str _) (.cons (.int _) (.cons (.tup (.of ((v2.trans (v3.trans v4)) _ _ he1)) .nil) (.cons (.lst (.of ((v3.trans v4) _ _ he2)) .nil) .nil))))
      walk_at "ct"
      refine ⟨D, c3', rfl, d7.2, by omega, fun nz _ _ => ?_⟩
      have st8 := Dr.step d7.2 (c3' + 1)
      have he8 := st8.at d7.2 he4
      have wheel8 := dp_dr wheel7 st8 d7.2
      have hv8 := dp_dr (dp_same s37 hv3) st8 d7.2
      have hu8 := dp_dr (dp_same s37 hu3) st8 d7.2
      have hr8 := dp_dr (dp_same s37 hr3) st8 d7.2
      have d8 := d7.trans st8
      generalize upd G7 D _ = G8 at *
      have sB8 : Same H' G8 := d8.1.same nD sBB
      have hlo8 : SqL K G8 lo [.bl o0, .bl o1, .bl o2, .bl o3] := .of (d8.at hDB hloB)
      have tB8 := hTb.same ((sHH.trans sm).trans sB8)
      walk_at "ct"
      refine w_mod (by decide) fun rz rz0 rz1 => ?_
      obtain ⟨y, g, hyat, hy8, lay, dep, mlen⟩ : ∃ (y : V) (g : PyData), atI [V.non, .ref e3] rz = some y ∧ Dp K G8 y g ∧ g.canLay0 = true ∧ g.depth ≤ 60 ∧ ∀ w x y z, g = .tuple [w, x, y, z] → (marksD y).length ≤ 4000 := by
        have : rz = 0 ∨ rz = 1 := by omega
        rcases this with rfl | rfl
        · exact ⟨.non, .none, at0, .non, rfl, by decide, fun w x y z h => nomatch h⟩
        · refine ⟨.ref e3, _, at1, wheel8, by decide +kernel, by decide +kernel, fun w x y z h => ?_⟩
          have h := PyData.tuple.inj h
          simp only [List.cons.injEq] at h
          rw [← h.2.2.1]
          exact Nat.zero_le _
      refine w_ixL (.of he8) hyat ?_
      clear d1 d2 d3 d12 d13 d7 st8 v1 v2 v3 v4 s37 he1 he2 he3 he4 he8 wheel7 wheel8 hv1 hu2 hr3 hv3 hu3
      have fine3 : Fine (.list [d, e, f]) 40 600 := (FineA.app (ds := [d]) (.one (fd.mono (n' := 6) (Nat.le_refl _) (Nat.le_refl _))) (FineA.app (ds := [e]) (.one (fe.mono (n' := 6) (by decide) (Nat.le_refl _))) (.one (ff.mono (n' := 6) (by decide) (Nat.le_refl _))))).lst.mono (by decide) (by decide)
      have triple : ∀ {G : Hp} {l : Addr}, Same G8 G → G l = some (.lst [rt, v, u]) → Dp K G (.ref l) (.list [d, e, f]) := fun s h => .lst (.of h) (.cons (dp_same s hr8) (.cons (dp_same s hv8) (.cons (dp_same s hu8) .nil)))
      walk_at "ct"
      refine ⟨len2 rfl, fun q1 nq1 => ?_⟩
      have x1 : Same G8 (upd G8 q1 (.lst [rt, v, u])) := same_upd nq1
      have hq1 : (upd G8 q1 (.lst [rt, v, u])) q1 = some (.lst [rt, v, u]) := upd_same
      generalize upd G8 q1 _ = K1 at *
      refine ⟨q1, _, rfl, triple x1 hq1, fine3, ?_⟩
      walk_at "ct"
      have sK1 := x1
      have dl1 : ∀ (b : Bool) (n : Int), (dL b n).length ≤ 1 := fun b n => by cases b; exact Nat.zero_le _; exact Nat.le_refl _
      refine ⟨len2 rfl, fun paa npaa => ?_⟩
      have pa1 : Same K1 (upd K1 paa (.lst [.int 2])) := same_upd npaa
      have hpaa : (upd K1 paa (.lst [.int 2])) paa = some (.lst [.int 2]) := upd_same
      generalize upd K1 paa _ = K2 at *
      have sK2 := sK1.trans pa1
      walk_at "ct"
      refine w_ixL (sK2.seq hlo8) (v := .bl o2) rfl ?_
      refine .inr ⟨_, rfl, ?_⟩
      refine ⟨paa, _, _, rfl, rfl, hpaa, by split <;> decide, by split <;> decide, Nat.le_trans (show 1 * _ ≤ 1 by cases o2 <;> decide) (by decide), fun own nown => ?_⟩
      rw [rep_dL]
      have pa2 : Same K2 (upd K2 own (.lst (dL o2 2))) := same_upd nown
      have hown : (upd K2 own (.lst (dL o2 2))) own = some (.lst (dL o2 2)) := upd_same
      generalize upd K2 own _ = K3 at *
      have sK3 := sK2.trans pa2
      walk_at "ct"
      refine ⟨len2 rfl, fun pba npba => ?_⟩
      have pb1 : Same K3 (upd K3 pba (.lst [.int 0])) := same_upd npba
      have hpba : (upd K3 pba (.lst [.int 0])) pba = some (.lst [.int 0]) := upd_same
      generalize upd K3 pba _ = K4 at *
      have sK4 := sK3.trans pb1
      walk_at "ct"
      refine w_ixL (sK4.seq hlo8) (v := .bl o0) rfl ?_
      refine .inr ⟨_, rfl, ?_⟩
      refine ⟨pba, _, _, rfl, rfl, hpba, by split <;> decide, by split <;> decide, Nat.le_trans (show 1 * _ ≤ 1 by cases o0 <;> decide) (by decide), fun z0 nz0 => ?_⟩
      rw [rep_dL]
      have pb2 : Same K4 (upd K4 z0 (.lst (dL o0 0))) := same_upd nz0
      have hz0 : (upd K4 z0 (.lst (dL o0 0))) z0 = some (.lst (dL o0 0)) := upd_same
      generalize upd K4 z0 _ = K5 at *
      have sK5 := sK4.trans pb2
      walk_at "ct"
      refine ⟨len2 rfl, fun pca npca => ?_⟩
      have pc1 : Same K5 (upd K5 pca (.lst [.int 1])) := same_upd npca
      have hpca : (upd K5 pca (.lst [.int 1])) pca = some (.lst [.int 1]) := upd_same
      generalize upd K5 pca _ = K6 at *
      have sK6 := sK5.trans pc1
      walk_at "ct"
      refine w_ixL (sK6.seq hlo8) (v := .bl o1) rfl ?_
      refine .inr ⟨_, rfl, ?_⟩
      refine ⟨pca, _, _, rfl, rfl, hpca, by split <;> decide, by split <;> decide, Nat.le_trans (show 1 * _ ≤ 1 by cases o1 <;> decide) (by decide), fun z1 nz1 => ?_⟩
      rw [rep_dL]
      have pc2 : Same K6 (upd K6 z1 (.lst (dL o1 1))) := same_upd nz1
      have hz1 : (upd K6 z1 (.lst (dL o1 1))) z1 = some (.lst (dL o1 1)) := upd_same
      generalize upd K6 z1 _ = K7 at *
      have sK7 := sK6.trans pc2
      refine ⟨z0, z1, _, _, rfl, rfl, (pc1.trans pc2) _ _ hz0, hz1, Nat.le_trans (show _ + _ ≤ 2 from by have := dl1 o0 0; have := dl1 o1 1; omega) (by decide), fun z2 nz2 => ?_⟩
      have pd1 : Same K7 (upd K7 z2 (.lst (dL o0 0 ++ dL o1 1))) := same_upd nz2
      have hz2 : (upd K7 z2 (.lst (dL o0 0 ++ dL o1 1))) z2 = some (.lst (dL o0 0 ++ dL o1 1)) := upd_same
      generalize upd K7 z2 _ = K8 at *
      have sK8 := sK7.trans pd1
      have hown8 := (((pb1.trans pb2).trans (pc1.trans pc2)).trans pd1) _ _ hown
      walk_at "ct"
      refine ⟨z2, own, _, _, rfl, rfl, hz2, hown8, Nat.le_trans (show _ + _ ≤ 3 from by have := dl1 o0 0; have := dl1 o1 1; have := dl1 o2 2; rw [List.length_append]; omega) (by decide), fun z3 nz3 => ?_⟩
      have pd2 : Same K8 (upd K8 z3 (.lst (dL o0 0 ++ dL o1 1 ++ dL o2 2))) := same_upd nz3
      have hz3 : (upd K8 z3 (.lst (dL o0 0 ++ dL o1 1 ++ dL o2 2))) z3 = some (.lst (dL o0 0 ++ dL o1 1 ++ dL o2 2)) := upd_same
      generalize upd K8 z3 _ = K9 at *
      walk_at "ct"
      refine w_slL (.of hz3) fun bh nbh => ?_
      obtain ⟨oB, hoB⟩ : ∃ oB : Option Nat, oB = (if o0 = true then some 0 else if o1 = true then some 1 else if o2 = true then some 2 else none) := ⟨_, rfl⟩
      rw [show cutV (dL o0 0 ++ dL o1 1 ++ dL o2 2) none (some 1) = dueL oB by rw [hoB]; cases o0 <;> cases o1 <;> cases o2 <;> rfl] at *
      have pd3 : Same K9 (upd K9 bh (.lst (dueL oB))) := same_upd nbh
      have hbh : (upd K9 bh (.lst (dueL oB))) bh = some (.lst (dueL oB)) := upd_same
      generalize upd K9 bh _ = KA at *
      have sKA := sK8.trans (pd2.trans pd3)
      have hownA := (pd2.trans pd3) _ _ hown8
      walk_at "ct"
      refine ⟨len2 rfl, fun pea npea => ?_⟩
      have pe1 : Same KA (upd KA pea (.lst [.int 3])) := same_upd npea
      have hpea : (upd KA pea (.lst [.int 3])) pea = some (.lst [.int 3]) := upd_same
      generalize upd KA pea _ = KB at *
      have sKB := sKA.trans pe1
      walk_at "ct"
      refine w_ixL (sKB.seq hlo8) (v := .bl o3) rfl ?_
      refine .inr ⟨_, rfl, ?_⟩
      refine ⟨pea, _, _, rfl, rfl, hpea, by split <;> decide, by split <;> decide, Nat.le_trans (show 1 * _ ≤ 1 by cases o3 <;> decide) (by decide), fun z4 nz4 => ?_⟩
      rw [rep_dL]
      have pe2 : Same KB (upd KB z4 (.lst (dL o3 3))) := same_upd nz4
      have hz4 : (upd KB z4 (.lst (dL o3 3))) z4 = some (.lst (dL o3 3)) := upd_same
      generalize upd KB z4 _ = KC at *
      have sKC := sKB.trans pe2
      refine ⟨own, z4, _, _, rfl, rfl, (pe1.trans pe2) _ _ hownA, hz4, Nat.le_trans (show _ + _ ≤ 2 from by have := dl1 o2 2; have := dl1 o3 3; omega) (by decide), fun z5 nz5 => ?_⟩
      have pf1 : Same KC (upd KC z5 (.lst (dL o2 2 ++ dL o3 3))) := same_upd nz5
      have hz5 : (upd KC z5 (.lst (dL o2 2 ++ dL o3 3))) z5 = some (.lst (dL o2 2 ++ dL o3 3)) := upd_same
      generalize upd KC z5 _ = KD at *
      walk_at "ct"
      refine w_slL (.of hz5) fun cn ncn => ?_
      obtain ⟨oC, hoC⟩ : ∃ oC : Option Nat, oC = (if o2 = true then some 2 else if o3 = true then some 3 else none) := ⟨_, rfl⟩
      obtain ⟨oA, hoA⟩ : ∃ oA : Option Nat, oA = (if o2 = true then some 2 else none) := ⟨_, rfl⟩
      rw [show cutV (dL o2 2 ++ dL o3 3) none (some 1) = dueL oC by rw [hoC]; cases o2 <;> cases o3 <;> rfl] at *
      have pf2 : Same KD (upd KD cn (.lst (dueL oC))) := same_upd ncn
      have hcn : (upd KD cn (.lst (dueL oC))) cn = some (.lst (dueL oC)) := upd_same
      generalize upd KD cn _ = KE at *
      have sKE := sKC.trans (pf1.trans pf2)
      walk_at "ct"
      refine ⟨len2 rfl, fun du ndu => ?_⟩
      have pg : Same KE (upd KE du (.lst [.ref own, .ref own, .ref cn, .ref bh, .ref bh])) := same_upd ndu
      have hdu : (upd KE du (.lst [.ref own, .ref own, .ref cn, .ref bh, .ref bh])) du = some (.lst [.ref own, .ref own, .ref cn, .ref bh, .ref bh]) := upd_same
      generalize upd KE du _ = KF at *
      have sKF := sKE.trans pg
      have hownF : KF own = some (.lst (dueL oA)) := by
        have := ((pe1.trans pe2).trans ((pf1.trans pf2).trans pg)) _ _ hownA
        rw [show dueL oA = dL o2 2 by rw [hoA]; cases o2 <;> rfl]
        exact this
      have hbhF := ((pe1.trans pe2).trans ((pf1.trans pf2).trans pg)) _ _ hbh
      have hcnF := pg _ _ hcn
      walk_at "ct"
      refine w_RG1 (by decide) (by decide) ?_
      refine fb_range (fun k σ G => ∃ (y13 : Option V), σ = [some (.ref a0), some (.int c), some (.ref D), some (.ref lo), some rt, some v, some u, some (.int mo), some y, some (.str (PyData.list [d, e, f]).shown), some (.ref own), some (.ref bh), some (.ref du), y13, none] ∧ Same KF G) ⟨_, rfl, Same.refl _⟩ ?_ ?_
      · rintro k σ G hk ⟨y13, rfl, sG⟩
        have hk5 : k < 5 := hk
        have s8G := sKF.trans sG
        rw [Int.zero_add (k : Int)]
        obtain ⟨o, due, ix, hix, hcont⟩ : ∃ (o : Option Nat) (due : DueM k d e f (.int mo) o) (ix : Addr), atI [V.ref own, .ref own, .ref cn, .ref bh, .ref bh] (k : Int) = some (.ref ix) ∧ KF ix = some (.lst (dueL o)) := by
          have goodS : o2 = false → GoodS f := fun h => by
            rcases sh with ⟨h1, _⟩ | ⟨_, h2⟩
            · rw [h] at h1; cases h1
            · exact ⟨ss, h2, oks, by omega⟩
          have badS : o2 = true → isShows f = false := fun h => by
            rcases sh with ⟨_, h2⟩ | ⟨h1, _⟩
            · exact h2
            · rw [h] at h1; cases h1
          have askB : AskS d e f (oB = some 0) (oB = some 1) (oB = some 2) fun _ _ _ => oB = none := by
            rcases tr with ⟨h1, h2⟩ | ⟨h1, h2⟩
            · exact .inl ⟨h2, by rw [hoB, h1]; rfl⟩
            · refine .inr ⟨ps, h2, by rw [h2]; exact isT_of hok1 p1, hok1, p1, by omega, ?_⟩
              rcases st with ⟨g1, g2⟩ | ⟨g1, g2⟩
              · exact .inl ⟨g2, by rw [hoB, h1, g1]; rfl⟩
              · refine .inr ⟨xs, g2, by rw [g2]; exact isSt_of hok1 hso, hso, ?_⟩
                cases e2 : o2 with
                | true => exact .inl ⟨badS e2, by rw [hoB, h1, g1, e2]; rfl⟩
                | false =>
                  obtain ⟨ss', i1, i2, i3⟩ := goodS e2
                  exact .inr ⟨ss', i1, i2, i3, by rw [hoB, h1, g1, e2]; rfl⟩
          have dueA : (isShows f = false ∧ oA = some 2) ∨ (GoodS f ∧ oA = none) := by
            cases e2 : o2 with
            | true => exact .inl ⟨badS e2, by rw [hoA, e2]; rfl⟩
            | false => exact .inr ⟨goodS e2, by rw [hoA, e2]; rfl⟩
          have dueC : (isShows f = false ∧ oC = some 2) ∨ (GoodS f ∧ ((isMost (.int mo) = false ∧ oC = some 3) ∨ (GoodM (.int mo) ∧ oC = none))) := by
            cases e2 : o2 with
            | true => exact .inl ⟨badS e2, by rw [hoC, e2]; rfl⟩
            | false =>
              refine .inr ⟨goodS e2, ?_⟩
              rcases mgood with ⟨h1, h2⟩ | ⟨h1, h2⟩
              · exact .inl ⟨h2, by rw [hoC, e2, h1]; rfl⟩
              · exact .inr ⟨h2, by rw [hoC, e2, h1]; rfl⟩
          have : k = 0 ∨ k = 1 ∨ k = 2 ∨ k = 3 ∨ k = 4 := by omega
          rcases this with rfl | rfl | rfl | rfl | rfl
          · exact ⟨oA, .inl ⟨by decide, dueA⟩, own, rfl, hownF⟩
          · exact ⟨oA, .inl ⟨by decide, dueA⟩, own, rfl, hownF⟩
          · exact ⟨oC, .inr (.inl ⟨rfl, dueC⟩), cn, rfl, hcnF⟩
          · exact ⟨oB, .inr (.inr ⟨.inl rfl, askB⟩), bh, rfl, hbhF⟩
          · exact ⟨oB, .inr (.inr ⟨.inr rfl, askB⟩), bh, rfl, hbhF⟩
        walk_at "ct"
        refine ⟨k, y, rt, v, u, .int mo, g, d, e, f, .int mo, o, rfl, hk5, dp_same s8G hy8, lay, dep, mlen, dp_same s8G hr8, dp_same s8G hv8, dp_same s8G hu8, .int mo, fd.mono (by decide) (by decide), tB8.same s8G, due, fun l G2 s2 hl => ?_⟩
        walk_at "ct"
        refine w_ixL (.of ((sG.trans s2) _ _ hdu)) hix ?_
        obtain ⟨ns9, hns9⟩ : ∃ ns9 : List Int, dueL o = ns9.map V.int := by
          cases o with
          | none => exact ⟨[], rfl⟩
          | some n => exact ⟨[(n : Int)], rfl⟩
        rw [hns9] at hl hcont
        refine w_neSame (.list (ns9.map PyData.int)) (.lst (.of hl) (dpAll_ints ns9)) (.lst (.of ((sG.trans s2) _ _ hcont)) (dpAll_ints ns9)) (lay_lst (lay_ints ns9 0)) (by decide) ?_
        walk_at "ct"
        refine ⟨len2 rfl, fun q2 nq2 => ?_⟩
        have x2 : Same G2 (upd G2 q2 (.lst [rt, v, u])) := same_upd nq2
        have hq2 : (upd G2 q2 (.lst [rt, v, u])) q2 = some (.lst [rt, v, u]) := upd_same
        generalize upd G2 q2 _ = G9 at *
        refine ⟨q2, _, rfl, triple ((s8G.trans s2).trans x2) hq2, fine3, ?_⟩
        walk_at "ct"
        refine w_rNeS (b := false) (by rw [decide_eq_true rfl]; rfl) ?_
        walk_at "ct"
        exact ⟨_, rfl, sG.trans (s2.trans x2)⟩
      · rintro σ G ⟨y13, rfl, sG⟩
        exact ⟨_, _, _, _, _, _, _, _, _, _, _, _, _, rfl, sm.trans (sB8.trans (sKF.trans sG))⟩
    · rintro σ G ⟨y1, y2, y3, y4, y5, y6, y7, y8, y9, y10, y11, y12, y13, rfl, sG⟩
      walk_at "ct"
      exact q G (sHH.trans sG)
end
theorem all_mk {l : PySem.W.OpenLaw} {w : World} {K : PySem.W.Frag} {h : Heap} {mg : Str → Option Value} {fa : Addr} (X : K.In h) (G : h.Ns mainGlobals mg) (hfa : mg "law" = some (.ref fa))
    {f_is_whole : Addr} {od0 an0 : Option Addr} {sl0 : Array (Option Value)} {oc0 kV0 dc0 pm0 cd0 ct0 : Value}
    (a0 : PySem.W.nsIn K mainGlobals "is_whole" = some (some (.ref f_is_whole))) (l0 : K.lookup f_is_whole = some ⟨oc0, od0, .func (PySem.W.fnOf "is_whole" "is_whole" (defArgs S_is_whole) (defBody S_is_whole) (defScope S_is_whole) .none kV0 dc0 pm0 an0 cd0 ct0), sl0⟩) (c0 : PySem.W.codeIn K cd0 "is_whole" = true) (k0 : PySem.W.keepIn K (.ref f_is_whole) = true)
    {f_are_marks : Addr} {od1 an1 : Option Addr} {sl1 : Array (Option Value)} {oc1 kV1 dc1 pm1 cd1 ct1 : Value}
    (a1 : PySem.W.nsIn K mainGlobals "are_marks" = some (some (.ref f_are_marks))) (l1 : K.lookup f_are_marks = some ⟨oc1, od1, .func (PySem.W.fnOf "are_marks" "are_marks" (defArgs S_are_marks) (defBody S_are_marks) (defScope S_are_marks) .none kV1 dc1 pm1 an1 cd1 ct1), sl1⟩) (c1 : PySem.W.codeIn K cd1 "are_marks" = true) (k1 : PySem.W.keepIn K (.ref f_are_marks) = true)
    {f_is_part : Addr} {od2 an2 : Option Addr} {sl2 : Array (Option Value)} {oc2 kV2 dc2 pm2 cd2 ct2 : Value}
    (a2 : PySem.W.nsIn K mainGlobals "is_part" = some (some (.ref f_is_part))) (l2 : K.lookup f_is_part = some ⟨oc2, od2, .func (PySem.W.fnOf "is_part" "is_part" (defArgs S_is_part) (defBody S_is_part) (defScope S_is_part) .none kV2 dc2 pm2 an2 cd2 ct2), sl2⟩) (c2 : PySem.W.codeIn K cd2 "is_part" = true) (k2 : PySem.W.keepIn K (.ref f_is_part) = true)
    {f_check_train : Addr} {od3 an3 : Option Addr} {sl3 : Array (Option Value)} {oc3 kV3 dc3 pm3 cd3 ct3 : Value}
    (a3 : PySem.W.nsIn K mainGlobals "check_train" = some (some (.ref f_check_train))) (l3 : K.lookup f_check_train = some ⟨oc3, od3, .func (PySem.W.fnOf "check_train" "check_train" (defArgs S_check_train) (defBody S_check_train) (defScope S_check_train) .none kV3 dc3 pm3 an3 cd3 ct3), sl3⟩) (c3 : PySem.W.codeIn K cd3 "check_train" = true) (k3 : PySem.W.keepIn K (.ref f_check_train) = true)
    {f_place_count : Addr} {od4 an4 : Option Addr} {sl4 : Array (Option Value)} {oc4 kV4 dc4 pm4 cd4 ct4 : Value}
    (a4 : PySem.W.nsIn K mainGlobals "place_count" = some (some (.ref f_place_count))) (l4 : K.lookup f_place_count = some ⟨oc4, od4, .func (PySem.W.fnOf "place_count" "place_count" (defArgs S_place_count) (defBody S_place_count) (defScope S_place_count) .none kV4 dc4 pm4 an4 cd4 ct4), sl4⟩) (c4 : PySem.W.codeIn K cd4 "place_count" = true) (k4 : PySem.W.keepIn K (.ref f_place_count) = true)
    {f_is_stand : Addr} {od5 an5 : Option Addr} {sl5 : Array (Option Value)} {oc5 kV5 dc5 pm5 cd5 ct5 : Value}
    (a5 : PySem.W.nsIn K mainGlobals "is_stand" = some (some (.ref f_is_stand))) (l5 : K.lookup f_is_stand = some ⟨oc5, od5, .func (PySem.W.fnOf "is_stand" "is_stand" (defArgs S_is_stand) (defBody S_is_stand) (defScope S_is_stand) .none kV5 dc5 pm5 an5 cd5 ct5), sl5⟩) (c5 : PySem.W.codeIn K cd5 "is_stand" = true) (k5 : PySem.W.keepIn K (.ref f_is_stand) = true)
    {f_check_stand : Addr} {od6 an6 : Option Addr} {sl6 : Array (Option Value)} {oc6 kV6 dc6 pm6 cd6 ct6 : Value}
    (a6 : PySem.W.nsIn K mainGlobals "check_stand" = some (some (.ref f_check_stand))) (l6 : K.lookup f_check_stand = some ⟨oc6, od6, .func (PySem.W.fnOf "check_stand" "check_stand" (defArgs S_check_stand) (defBody S_check_stand) (defScope S_check_stand) .none kV6 dc6 pm6 an6 cd6 ct6), sl6⟩) (c6 : PySem.W.codeIn K cd6 "check_stand" = true) (k6 : PySem.W.keepIn K (.ref f_check_stand) = true)
    {f_is_way : Addr} {od7 an7 : Option Addr} {sl7 : Array (Option Value)} {oc7 kV7 dc7 pm7 cd7 ct7 : Value}
    (a7 : PySem.W.nsIn K mainGlobals "is_way" = some (some (.ref f_is_way))) (l7 : K.lookup f_is_way = some ⟨oc7, od7, .func (PySem.W.fnOf "is_way" "is_way" (defArgs S_is_way) (defBody S_is_way) (defScope S_is_way) .none kV7 dc7 pm7 an7 cd7 ct7), sl7⟩) (c7 : PySem.W.codeIn K cd7 "is_way" = true) (k7 : PySem.W.keepIn K (.ref f_is_way) = true)
    {f_wheel_pushed : Addr} {od8 an8 : Option Addr} {sl8 : Array (Option Value)} {oc8 kV8 dc8 pm8 cd8 ct8 : Value}
    (a8 : PySem.W.nsIn K mainGlobals "wheel_pushed" = some (some (.ref f_wheel_pushed))) (l8 : K.lookup f_wheel_pushed = some ⟨oc8, od8, .func (PySem.W.fnOf "wheel_pushed" "wheel_pushed" (defArgs S_wheel_pushed) (defBody S_wheel_pushed) (defScope S_wheel_pushed) .none kV8 dc8 pm8 an8 cd8 ct8), sl8⟩) (c8 : PySem.W.codeIn K cd8 "wheel_pushed" = true) (k8 : PySem.W.keepIn K (.ref f_wheel_pushed) = true)
    {f_rocker_pushed : Addr} {od9 an9 : Option Addr} {sl9 : Array (Option Value)} {oc9 kV9 dc9 pm9 cd9 ct9 : Value}
    (a9 : PySem.W.nsIn K mainGlobals "rocker_pushed" = some (some (.ref f_rocker_pushed))) (l9 : K.lookup f_rocker_pushed = some ⟨oc9, od9, .func (PySem.W.fnOf "rocker_pushed" "rocker_pushed" (defArgs S_rocker_pushed) (defBody S_rocker_pushed) (defScope S_rocker_pushed) .none kV9 dc9 pm9 an9 cd9 ct9), sl9⟩) (c9 : PySem.W.codeIn K cd9 "rocker_pushed" = true) (k9 : PySem.W.keepIn K (.ref f_rocker_pushed) = true)
    {f_spring_pushed : Addr} {od10 an10 : Option Addr} {sl10 : Array (Option Value)} {oc10 kV10 dc10 pm10 cd10 ct10 : Value}
    (a10 : PySem.W.nsIn K mainGlobals "spring_pushed" = some (some (.ref f_spring_pushed))) (l10 : K.lookup f_spring_pushed = some ⟨oc10, od10, .func (PySem.W.fnOf "spring_pushed" "spring_pushed" (defArgs S_spring_pushed) (defBody S_spring_pushed) (defScope S_spring_pushed) .none kV10 dc10 pm10 an10 cd10 ct10), sl10⟩) (c10 : PySem.W.codeIn K cd10 "spring_pushed" = true) (k10 : PySem.W.keepIn K (.ref f_spring_pushed) = true)
    {f_part_pushed : Addr} {od11 an11 : Option Addr} {sl11 : Array (Option Value)} {oc11 kV11 dc11 pm11 cd11 ct11 : Value}
    (a11 : PySem.W.nsIn K mainGlobals "part_pushed" = some (some (.ref f_part_pushed))) (l11 : K.lookup f_part_pushed = some ⟨oc11, od11, .func (PySem.W.fnOf "part_pushed" "part_pushed" (defArgs S_part_pushed) (defBody S_part_pushed) (defScope S_part_pushed) .none kV11 dc11 pm11 an11 cd11 ct11), sl11⟩) (c11 : PySem.W.codeIn K cd11 "part_pushed" = true) (k11 : PySem.W.keepIn K (.ref f_part_pushed) = true)
    {f_pushed : Addr} {od12 an12 : Option Addr} {sl12 : Array (Option Value)} {oc12 kV12 dc12 pm12 cd12 ct12 : Value}
    (a12 : PySem.W.nsIn K mainGlobals "pushed" = some (some (.ref f_pushed))) (l12 : K.lookup f_pushed = some ⟨oc12, od12, .func (PySem.W.fnOf "pushed" "pushed" (defArgs S_pushed) (defBody S_pushed) (defScope S_pushed) .none kV12 dc12 pm12 an12 cd12 ct12), sl12⟩) (c12 : PySem.W.codeIn K cd12 "pushed" = true) (k12 : PySem.W.keepIn K (.ref f_pushed) = true)
    {f_is_sign : Addr} {od13 an13 : Option Addr} {sl13 : Array (Option Value)} {oc13 kV13 dc13 pm13 cd13 ct13 : Value}
    (a13 : PySem.W.nsIn K mainGlobals "is_sign" = some (some (.ref f_is_sign))) (l13 : K.lookup f_is_sign = some ⟨oc13, od13, .func (PySem.W.fnOf "is_sign" "is_sign" (defArgs S_is_sign) (defBody S_is_sign) (defScope S_is_sign) .none kV13 dc13 pm13 an13 cd13 ct13), sl13⟩) (c13 : PySem.W.codeIn K cd13 "is_sign" = true) (k13 : PySem.W.keepIn K (.ref f_is_sign) = true)
    {f_fed : Addr} {od14 an14 : Option Addr} {sl14 : Array (Option Value)} {oc14 kV14 dc14 pm14 cd14 ct14 : Value}
    (a14 : PySem.W.nsIn K mainGlobals "fed" = some (some (.ref f_fed))) (l14 : K.lookup f_fed = some ⟨oc14, od14, .func (PySem.W.fnOf "fed" "fed" (defArgs S_fed) (defBody S_fed) (defScope S_fed) .none kV14 dc14 pm14 an14 cd14 ct14), sl14⟩) (c14 : PySem.W.codeIn K cd14 "fed" = true) (k14 : PySem.W.keepIn K (.ref f_fed) = true)
    {f_is_show : Addr} {od15 an15 : Option Addr} {sl15 : Array (Option Value)} {oc15 kV15 dc15 pm15 cd15 ct15 : Value}
    (a15 : PySem.W.nsIn K mainGlobals "is_show" = some (some (.ref f_is_show))) (l15 : K.lookup f_is_show = some ⟨oc15, od15, .func (PySem.W.fnOf "is_show" "is_show" (defArgs S_is_show) (defBody S_is_show) (defScope S_is_show) .none kV15 dc15 pm15 an15 cd15 ct15), sl15⟩) (c15 : PySem.W.codeIn K cd15 "is_show" = true) (k15 : PySem.W.keepIn K (.ref f_is_show) = true)
    {f_check_shows : Addr} {od16 an16 : Option Addr} {sl16 : Array (Option Value)} {oc16 kV16 dc16 pm16 cd16 ct16 : Value}
    (a16 : PySem.W.nsIn K mainGlobals "check_shows" = some (some (.ref f_check_shows))) (l16 : K.lookup f_check_shows = some ⟨oc16, od16, .func (PySem.W.fnOf "check_shows" "check_shows" (defArgs S_check_shows) (defBody S_check_shows) (defScope S_check_shows) .none kV16 dc16 pm16 an16 cd16 ct16), sl16⟩) (c16 : PySem.W.codeIn K cd16 "check_shows" = true) (k16 : PySem.W.keepIn K (.ref f_check_shows) = true)
    {f_passes_of : Addr} {od17 an17 : Option Addr} {sl17 : Array (Option Value)} {oc17 kV17 dc17 pm17 cd17 ct17 : Value}
    (a17 : PySem.W.nsIn K mainGlobals "passes_of" = some (some (.ref f_passes_of))) (l17 : K.lookup f_passes_of = some ⟨oc17, od17, .func (PySem.W.fnOf "passes_of" "passes_of" (defArgs S_passes_of) (defBody S_passes_of) (defScope S_passes_of) .none kV17 dc17 pm17 an17 cd17 ct17), sl17⟩) (c17 : PySem.W.codeIn K cd17 "passes_of" = true) (k17 : PySem.W.keepIn K (.ref f_passes_of) = true)
    {f_passes_alone : Addr} {od18 an18 : Option Addr} {sl18 : Array (Option Value)} {oc18 kV18 dc18 pm18 cd18 ct18 : Value}
    (a18 : PySem.W.nsIn K mainGlobals "passes_alone" = some (some (.ref f_passes_alone))) (l18 : K.lookup f_passes_alone = some ⟨oc18, od18, .func (PySem.W.fnOf "passes_alone" "passes_alone" (defArgs S_passes_alone) (defBody S_passes_alone) (defScope S_passes_alone) .none kV18 dc18 pm18 an18 cd18 ct18), sl18⟩) (c18 : PySem.W.codeIn K cd18 "passes_alone" = true) (k18 : PySem.W.keepIn K (.ref f_passes_alone) = true)
    {f_passes_behind : Addr} {od19 an19 : Option Addr} {sl19 : Array (Option Value)} {oc19 kV19 dc19 pm19 cd19 ct19 : Value}
    (a19 : PySem.W.nsIn K mainGlobals "passes_behind" = some (some (.ref f_passes_behind))) (l19 : K.lookup f_passes_behind = some ⟨oc19, od19, .func (PySem.W.fnOf "passes_behind" "passes_behind" (defArgs S_passes_behind) (defBody S_passes_behind) (defScope S_passes_behind) .none kV19 dc19 pm19 an19 cd19 ct19), sl19⟩) (c19 : PySem.W.codeIn K cd19 "passes_behind" = true) (k19 : PySem.W.keepIn K (.ref f_passes_behind) = true)
    {f_is_wrong : Addr} {od20 an20 : Option Addr} {sl20 : Array (Option Value)} {oc20 kV20 dc20 pm20 cd20 ct20 : Value}
    (a20 : PySem.W.nsIn K mainGlobals "is_wrong" = some (some (.ref f_is_wrong))) (l20 : K.lookup f_is_wrong = some ⟨oc20, od20, .func (PySem.W.fnOf "is_wrong" "is_wrong" (defArgs S_is_wrong) (defBody S_is_wrong) (defScope S_is_wrong) .none kV20 dc20 pm20 an20 cd20 ct20), sl20⟩) (c20 : PySem.W.codeIn K cd20 "is_wrong" = true) (k20 : PySem.W.keepIn K (.ref f_is_wrong) = true)
    {f_are_unlike : Addr} {od21 an21 : Option Addr} {sl21 : Array (Option Value)} {oc21 kV21 dc21 pm21 cd21 ct21 : Value}
    (a21 : PySem.W.nsIn K mainGlobals "are_unlike" = some (some (.ref f_are_unlike))) (l21 : K.lookup f_are_unlike = some ⟨oc21, od21, .func (PySem.W.fnOf "are_unlike" "are_unlike" (defArgs S_are_unlike) (defBody S_are_unlike) (defScope S_are_unlike) .none kV21 dc21 pm21 an21 cd21 ct21), sl21⟩) (c21 : PySem.W.codeIn K cd21 "are_unlike" = true) (k21 : PySem.W.keepIn K (.ref f_are_unlike) = true)
    {f_first_clash : Addr} {od22 an22 : Option Addr} {sl22 : Array (Option Value)} {oc22 kV22 dc22 pm22 cd22 ct22 : Value}
    (a22 : PySem.W.nsIn K mainGlobals "first_clash" = some (some (.ref f_first_clash))) (l22 : K.lookup f_first_clash = some ⟨oc22, od22, .func (PySem.W.fnOf "first_clash" "first_clash" (defArgs S_first_clash) (defBody S_first_clash) (defScope S_first_clash) .none kV22 dc22 pm22 an22 cd22 ct22), sl22⟩) (c22 : PySem.W.codeIn K cd22 "first_clash" = true) (k22 : PySem.W.keepIn K (.ref f_first_clash) = true)
    {f_marks_of : Addr} {od23 an23 : Option Addr} {sl23 : Array (Option Value)} {oc23 kV23 dc23 pm23 cd23 ct23 : Value}
    (a23 : PySem.W.nsIn K mainGlobals "marks_of" = some (some (.ref f_marks_of))) (l23 : K.lookup f_marks_of = some ⟨oc23, od23, .func (PySem.W.fnOf "marks_of" "marks_of" (defArgs S_marks_of) (defBody S_marks_of) (defScope S_marks_of) .none kV23 dc23 pm23 an23 cd23 ct23), sl23⟩) (c23 : PySem.W.codeIn K cd23 "marks_of" = true) (k23 : PySem.W.keepIn K (.ref f_marks_of) = true)
    {f_smallest_of : Addr} {od24 an24 : Option Addr} {sl24 : Array (Option Value)} {oc24 kV24 dc24 pm24 cd24 ct24 : Value}
    (a24 : PySem.W.nsIn K mainGlobals "smallest_of" = some (some (.ref f_smallest_of))) (l24 : K.lookup f_smallest_of = some ⟨oc24, od24, .func (PySem.W.fnOf "smallest_of" "smallest_of" (defArgs S_smallest_of) (defBody S_smallest_of) (defScope S_smallest_of) .none kV24 dc24 pm24 an24 cd24 ct24), sl24⟩) (c24 : PySem.W.codeIn K cd24 "smallest_of" = true) (k24 : PySem.W.keepIn K (.ref f_smallest_of) = true)
    {f_smallest : Addr} {od25 an25 : Option Addr} {sl25 : Array (Option Value)} {oc25 kV25 dc25 pm25 cd25 ct25 : Value}
    (a25 : PySem.W.nsIn K mainGlobals "smallest" = some (some (.ref f_smallest))) (l25 : K.lookup f_smallest = some ⟨oc25, od25, .func (PySem.W.fnOf "smallest" "smallest" (defArgs S_smallest) (defBody S_smallest) (defScope S_smallest) .none kV25 dc25 pm25 an25 cd25 ct25), sl25⟩) (c25 : PySem.W.codeIn K cd25 "smallest" = true) (k25 : PySem.W.keepIn K (.ref f_smallest) = true)
    {f_smallest_behind : Addr} {od26 an26 : Option Addr} {sl26 : Array (Option Value)} {oc26 kV26 dc26 pm26 cd26 ct26 : Value}
    (a26 : PySem.W.nsIn K mainGlobals "smallest_behind" = some (some (.ref f_smallest_behind))) (l26 : K.lookup f_smallest_behind = some ⟨oc26, od26, .func (PySem.W.fnOf "smallest_behind" "smallest_behind" (defArgs S_smallest_behind) (defBody S_smallest_behind) (defScope S_smallest_behind) .none kV26 dc26 pm26 an26 cd26 ct26), sl26⟩) (c26 : PySem.W.codeIn K cd26 "smallest_behind" = true) (k26 : PySem.W.keepIn K (.ref f_smallest_behind) = true)
    {f_are_places : Addr} {od27 an27 : Option Addr} {sl27 : Array (Option Value)} {oc27 kV27 dc27 pm27 cd27 ct27 : Value}
    (a27 : PySem.W.nsIn K mainGlobals "are_places" = some (some (.ref f_are_places))) (l27 : K.lookup f_are_places = some ⟨oc27, od27, .func (PySem.W.fnOf "are_places" "are_places" (defArgs S_are_places) (defBody S_are_places) (defScope S_are_places) .none kV27 dc27 pm27 an27 cd27 ct27), sl27⟩) (c27 : PySem.W.codeIn K cd27 "are_places" = true) (k27 : PySem.W.keepIn K (.ref f_are_places) = true)
    {f_is_bar : Addr} {od28 an28 : Option Addr} {sl28 : Array (Option Value)} {oc28 kV28 dc28 pm28 cd28 ct28 : Value}
    (a28 : PySem.W.nsIn K mainGlobals "is_bar" = some (some (.ref f_is_bar))) (l28 : K.lookup f_is_bar = some ⟨oc28, od28, .func (PySem.W.fnOf "is_bar" "is_bar" (defArgs S_is_bar) (defBody S_is_bar) (defScope S_is_bar) .none kV28 dc28 pm28 an28 cd28 ct28), sl28⟩) (c28 : PySem.W.codeIn K cd28 "is_bar" = true) (k28 : PySem.W.keepIn K (.ref f_is_bar) = true)
    {f_does : Addr} {od29 an29 : Option Addr} {sl29 : Array (Option Value)} {oc29 kV29 dc29 pm29 cd29 ct29 : Value}
    (a29 : PySem.W.nsIn K mainGlobals "does" = some (some (.ref f_does))) (l29 : K.lookup f_does = some ⟨oc29, od29, .func (PySem.W.fnOf "does" "does" (defArgs S_does) (defBody S_does) (defScope S_does) .none kV29 dc29 pm29 an29 cd29 ct29), sl29⟩) (c29 : PySem.W.codeIn K cd29 "does" = true) (k29 : PySem.W.keepIn K (.ref f_does) = true)
    {f_tells_wheel : Addr} {od30 an30 : Option Addr} {sl30 : Array (Option Value)} {oc30 kV30 dc30 pm30 cd30 ct30 : Value}
    (a30 : PySem.W.nsIn K mainGlobals "tells_wheel" = some (some (.ref f_tells_wheel))) (l30 : K.lookup f_tells_wheel = some ⟨oc30, od30, .func (PySem.W.fnOf "tells_wheel" "tells_wheel" (defArgs S_tells_wheel) (defBody S_tells_wheel) (defScope S_tells_wheel) .none kV30 dc30 pm30 an30 cd30 ct30), sl30⟩) (c30 : PySem.W.codeIn K cd30 "tells_wheel" = true) (k30 : PySem.W.keepIn K (.ref f_tells_wheel) = true)
    {f_tells_none : Addr} {od31 an31 : Option Addr} {sl31 : Array (Option Value)} {oc31 kV31 dc31 pm31 cd31 ct31 : Value}
    (a31 : PySem.W.nsIn K mainGlobals "tells_none" = some (some (.ref f_tells_none))) (l31 : K.lookup f_tells_none = some ⟨oc31, od31, .func (PySem.W.fnOf "tells_none" "tells_none" (defArgs S_tells_none) (defBody S_tells_none) (defScope S_tells_none) .none kV31 dc31 pm31 an31 cd31 ct31), sl31⟩) (c31 : PySem.W.codeIn K cd31 "tells_none" = true) (k31 : PySem.W.keepIn K (.ref f_tells_none) = true)
    {f_is_right : Addr} {od32 an32 : Option Addr} {sl32 : Array (Option Value)} {oc32 kV32 dc32 pm32 cd32 ct32 : Value}
    (a32 : PySem.W.nsIn K mainGlobals "is_right" = some (some (.ref f_is_right))) (l32 : K.lookup f_is_right = some ⟨oc32, od32, .func (PySem.W.fnOf "is_right" "is_right" (defArgs S_is_right) (defBody S_is_right) (defScope S_is_right) .none kV32 dc32 pm32 an32 cd32 ct32), sl32⟩) (c32 : PySem.W.codeIn K cd32 "is_right" = true) (k32 : PySem.W.keepIn K (.ref f_is_right) = true)
    {f_is_smallest : Addr} {od33 an33 : Option Addr} {sl33 : Array (Option Value)} {oc33 kV33 dc33 pm33 cd33 ct33 : Value}
    (a33 : PySem.W.nsIn K mainGlobals "is_smallest" = some (some (.ref f_is_smallest))) (l33 : K.lookup f_is_smallest = some ⟨oc33, od33, .func (PySem.W.fnOf "is_smallest" "is_smallest" (defArgs S_is_smallest) (defBody S_is_smallest) (defScope S_is_smallest) .none kV33 dc33 pm33 an33 cd33 ct33), sl33⟩) (c33 : PySem.W.codeIn K cd33 "is_smallest" = true) (k33 : PySem.W.keepIn K (.ref f_is_smallest) = true)
    {f_is_smallest_behind : Addr} {od34 an34 : Option Addr} {sl34 : Array (Option Value)} {oc34 kV34 dc34 pm34 cd34 ct34 : Value}
    (a34 : PySem.W.nsIn K mainGlobals "is_smallest_behind" = some (some (.ref f_is_smallest_behind))) (l34 : K.lookup f_is_smallest_behind = some ⟨oc34, od34, .func (PySem.W.fnOf "is_smallest_behind" "is_smallest_behind" (defArgs S_is_smallest_behind) (defBody S_is_smallest_behind) (defScope S_is_smallest_behind) .none kV34 dc34 pm34 an34 cd34 ct34), sl34⟩) (c34 : PySem.W.codeIn K cd34 "is_smallest_behind" = true) (k34 : PySem.W.keepIn K (.ref f_is_smallest_behind) = true)
    {f_teeth_of : Addr} {od35 an35 : Option Addr} {sl35 : Array (Option Value)} {oc35 kV35 dc35 pm35 cd35 ct35 : Value}
    (a35 : PySem.W.nsIn K mainGlobals "teeth_of" = some (some (.ref f_teeth_of))) (l35 : K.lookup f_teeth_of = some ⟨oc35, od35, .func (PySem.W.fnOf "teeth_of" "teeth_of" (defArgs S_teeth_of) (defBody S_teeth_of) (defScope S_teeth_of) .none kV35 dc35 pm35 an35 cd35 ct35), sl35⟩) (c35 : PySem.W.codeIn K cd35 "teeth_of" = true) (k35 : PySem.W.keepIn K (.ref f_teeth_of) = true)
    {f__law_draws : Addr} {od36 an36 : Option Addr} {sl36 : Array (Option Value)} {oc36 kV36 dc36 pm36 cd36 ct36 : Value}
    (a36 : PySem.W.nsIn K mainGlobals "_law_draws" = some (some (.ref f__law_draws))) (l36 : K.lookup f__law_draws = some ⟨oc36, od36, .func (PySem.W.fnOf "_law_draws" "_law_draws" (defArgs S__law_draws) (defBody S__law_draws) (defScope S__law_draws) .none kV36 dc36 pm36 an36 cd36 ct36), sl36⟩) (c36 : PySem.W.codeIn K cd36 "_law_draws" = true) (k36 : PySem.W.keepIn K (.ref f__law_draws) = true)
    {f__law_next : Addr} {od37 an37 : Option Addr} {sl37 : Array (Option Value)} {oc37 kV37 dc37 pm37 cd37 ct37 : Value}
    (a37 : PySem.W.nsIn K mainGlobals "_law_next" = some (some (.ref f__law_next))) (l37 : K.lookup f__law_next = some ⟨oc37, od37, .func (PySem.W.fnOf "_law_next" "_law_next" (defArgs S__law_next) (defBody S__law_next) (defScope S__law_next) .none kV37 dc37 pm37 an37 cd37 ct37), sl37⟩) (c37 : PySem.W.codeIn K cd37 "_law_next" = true) (k37 : PySem.W.keepIn K (.ref f__law_next) = true)
    {f__law_train : Addr} {od38 an38 : Option Addr} {sl38 : Array (Option Value)} {oc38 kV38 dc38 pm38 cd38 ct38 : Value}
    (a38 : PySem.W.nsIn K mainGlobals "_law_train" = some (some (.ref f__law_train))) (l38 : K.lookup f__law_train = some ⟨oc38, od38, .func (PySem.W.fnOf "_law_train" "_law_train" (defArgs S__law_train) (defBody S__law_train) (defScope S__law_train) .none kV38 dc38 pm38 an38 cd38 ct38), sl38⟩) (c38 : PySem.W.codeIn K cd38 "_law_train" = true) (k38 : PySem.W.keepIn K (.ref f__law_train) = true)
    {f__law_stand : Addr} {od39 an39 : Option Addr} {sl39 : Array (Option Value)} {oc39 kV39 dc39 pm39 cd39 ct39 : Value}
    (a39 : PySem.W.nsIn K mainGlobals "_law_stand" = some (some (.ref f__law_stand))) (l39 : K.lookup f__law_stand = some ⟨oc39, od39, .func (PySem.W.fnOf "_law_stand" "_law_stand" (defArgs S__law_stand) (defBody S__law_stand) (defScope S__law_stand) .none kV39 dc39 pm39 an39 cd39 ct39), sl39⟩) (c39 : PySem.W.codeIn K cd39 "_law_stand" = true) (k39 : PySem.W.keepIn K (.ref f__law_stand) = true)
    {f__law_odd_train : Addr} {od40 an40 : Option Addr} {sl40 : Array (Option Value)} {oc40 kV40 dc40 pm40 cd40 ct40 : Value}
    (a40 : PySem.W.nsIn K mainGlobals "_law_odd_train" = some (some (.ref f__law_odd_train))) (l40 : K.lookup f__law_odd_train = some ⟨oc40, od40, .func (PySem.W.fnOf "_law_odd_train" "_law_odd_train" (defArgs S__law_odd_train) (defBody S__law_odd_train) (defScope S__law_odd_train) .none kV40 dc40 pm40 an40 cd40 ct40), sl40⟩) (c40 : PySem.W.codeIn K cd40 "_law_odd_train" = true) (k40 : PySem.W.keepIn K (.ref f__law_odd_train) = true)
    {f__law_odd_stand : Addr} {od41 an41 : Option Addr} {sl41 : Array (Option Value)} {oc41 kV41 dc41 pm41 cd41 ct41 : Value}
    (a41 : PySem.W.nsIn K mainGlobals "_law_odd_stand" = some (some (.ref f__law_odd_stand))) (l41 : K.lookup f__law_odd_stand = some ⟨oc41, od41, .func (PySem.W.fnOf "_law_odd_stand" "_law_odd_stand" (defArgs S__law_odd_stand) (defBody S__law_odd_stand) (defScope S__law_odd_stand) .none kV41 dc41 pm41 an41 cd41 ct41), sl41⟩) (c41 : PySem.W.codeIn K cd41 "_law_odd_stand" = true) (k41 : PySem.W.keepIn K (.ref f__law_odd_stand) = true)
    {f__law_odd_shows : Addr} {od42 an42 : Option Addr} {sl42 : Array (Option Value)} {oc42 kV42 dc42 pm42 cd42 ct42 : Value}
    (a42 : PySem.W.nsIn K mainGlobals "_law_odd_shows" = some (some (.ref f__law_odd_shows))) (l42 : K.lookup f__law_odd_shows = some ⟨oc42, od42, .func (PySem.W.fnOf "_law_odd_shows" "_law_odd_shows" (defArgs S__law_odd_shows) (defBody S__law_odd_shows) (defScope S__law_odd_shows) .none kV42 dc42 pm42 an42 cd42 ct42), sl42⟩) (c42 : PySem.W.codeIn K cd42 "_law_odd_shows" = true) (k42 : PySem.W.keepIn K (.ref f__law_odd_shows) = true)
    {f__law_marks : Addr} {od43 an43 : Option Addr} {sl43 : Array (Option Value)} {oc43 kV43 dc43 pm43 cd43 ct43 : Value}
    (a43 : PySem.W.nsIn K mainGlobals "_law_marks" = some (some (.ref f__law_marks))) (l43 : K.lookup f__law_marks = some ⟨oc43, od43, .func (PySem.W.fnOf "_law_marks" "_law_marks" (defArgs S__law_marks) (defBody S__law_marks) (defScope S__law_marks) .none kV43 dc43 pm43 an43 cd43 ct43), sl43⟩) (c43 : PySem.W.codeIn K cd43 "_law_marks" = true) (k43 : PySem.W.keepIn K (.ref f__law_marks) = true)
    {f_law : Addr} {od44 an44 : Option Addr} {sl44 : Array (Option Value)} {oc44 kV44 dc44 pm44 cd44 ct44 : Value}
    (a44 : PySem.W.nsIn K mainGlobals "law" = some (some (.ref f_law))) (l44 : K.lookup f_law = some ⟨oc44, od44, .func (PySem.W.fnOf "law" "law" (defArgs S_law) (defBody S_law) (defScope S_law) .none kV44 dc44 pm44 an44 cd44 ct44), sl44⟩) (c44 : PySem.W.codeIn K cd44 "law" = true) (k44 : PySem.W.keepIn K (.ref f_law) = true)
    (z0 : PySem.W.nsIn K mainGlobals "isinstance" = some none)
    (z1 : PySem.W.nsIn K mainGlobals "int" = some none)
    (z2 : PySem.W.nsIn K mainGlobals "bool" = some none)
    (z3 : PySem.W.nsIn K mainGlobals "tuple" = some none)
    (z4 : PySem.W.nsIn K mainGlobals "len" = some none)
    (z5 : PySem.W.nsIn K mainGlobals "list" = some none)
    (z6 : PySem.W.nsIn K mainGlobals "zip" = some none)
    (z7 : PySem.W.nsIn K mainGlobals "max" = some none)
    (z8 : PySem.W.nsIn K mainGlobals "range" = some none)
    (z9 : PySem.W.nsIn K mainGlobals "all" = some none)
    (z10 : PySem.W.nsIn K mainGlobals "enumerate" = some none)
    (z11 : PySem.W.nsIn K mainGlobals "sorted" = some none)
    (z12 : PySem.W.nsIn K mainGlobals "set" = some none)
    (z13 : PySem.W.nsIn K mainGlobals "any" = some none)
    (z14 : PySem.W.nsIn K mainGlobals "ValueError" = some none)
    (z15 : PySem.W.nsIn K mainGlobals "str" = some none)
    {c_NoTrain : Addr} (y_NoTrain : PySem.W.nsIn K mainGlobals "NoTrain" = some (some (.ref c_NoTrain)))
    {c_NoStand : Addr} (y_NoStand : PySem.W.nsIn K mainGlobals "NoStand" = some (some (.ref c_NoStand)))
    {c_NoPushes : Addr} (y_NoPushes : PySem.W.nsIn K mainGlobals "NoPushes" = some (some (.ref c_NoPushes)))
    {c_NoRow : Addr} (y_NoRow : PySem.W.nsIn K mainGlobals "NoRow" = some (some (.ref c_NoRow)))
    {c_NoCount : Addr} (y_NoCount : PySem.W.nsIn K mainGlobals "NoCount" = some (some (.ref c_NoCount)))
    {c_NoText : Addr} (y_NoText : PySem.W.nsIn K mainGlobals "NoText" = some (some (.ref c_NoText)))
    {c_TooMany : Addr} (y_TooMany : PySem.W.nsIn K mainGlobals "TooMany" = some (some (.ref c_TooMany)))
    {c_TrainError : Addr} (y_TrainError : PySem.W.nsIn K mainGlobals "TrainError" = some (some (.ref c_TrainError)))
    (r1_NoTrain : PySem.W.keepIn K (.ref c_NoTrain) = true) (r2_NoTrain : PySem.W.excIn K c_NoTrain [.type "ValueError", .type "Exception", .type "BaseException", .type "object"] "ValueError.__new__" = true) (r3_NoTrain : PySem.W.subIn K (.ref c_NoTrain) (.type "BaseException") = some true) (r4_NoTrain : PySem.W.typeIn K (.ref c_NoTrain) = some (.type "type"))
    (r5_NoTrain : PySem.W.findIn K (.ref c_NoTrain) "__getattribute__" = some (some (.builtin "BaseException.__getattribute__"))) (r6_NoTrain : PySem.W.findIn K (.ref c_NoTrain) "__getattr__" = some none) (r7_NoTrain : PySem.W.hasDictIn K c_NoTrain = true) (r8_NoTrain : PySem.W.findIn K (.ref c_NoTrain) "__class__" = some (some (.builtin "object.__class__"))) (r9_NoTrain : PySem.W.mroIn K c_NoTrain (.type "object") = some true)
    (r1_NoStand : PySem.W.keepIn K (.ref c_NoStand) = true) (r2_NoStand : PySem.W.excIn K c_NoStand [.type "ValueError", .type "Exception", .type "BaseException", .type "object"] "ValueError.__new__" = true) (r3_NoStand : PySem.W.subIn K (.ref c_NoStand) (.type "BaseException") = some true) (r4_NoStand : PySem.W.typeIn K (.ref c_NoStand) = some (.type "type"))
    (r5_NoStand : PySem.W.findIn K (.ref c_NoStand) "__getattribute__" = some (some (.builtin "BaseException.__getattribute__"))) (r6_NoStand : PySem.W.findIn K (.ref c_NoStand) "__getattr__" = some none) (r7_NoStand : PySem.W.hasDictIn K c_NoStand = true) (r8_NoStand : PySem.W.findIn K (.ref c_NoStand) "__class__" = some (some (.builtin "object.__class__"))) (r9_NoStand : PySem.W.mroIn K c_NoStand (.type "object") = some true)
    (r1_NoPushes : PySem.W.keepIn K (.ref c_NoPushes) = true) (r2_NoPushes : PySem.W.excIn K c_NoPushes [.type "ValueError", .type "Exception", .type "BaseException", .type "object"] "ValueError.__new__" = true) (r3_NoPushes : PySem.W.subIn K (.ref c_NoPushes) (.type "BaseException") = some true) (r4_NoPushes : PySem.W.typeIn K (.ref c_NoPushes) = some (.type "type"))
    (r5_NoPushes : PySem.W.findIn K (.ref c_NoPushes) "__getattribute__" = some (some (.builtin "BaseException.__getattribute__"))) (r6_NoPushes : PySem.W.findIn K (.ref c_NoPushes) "__getattr__" = some none) (r7_NoPushes : PySem.W.hasDictIn K c_NoPushes = true) (r8_NoPushes : PySem.W.findIn K (.ref c_NoPushes) "__class__" = some (some (.builtin "object.__class__"))) (r9_NoPushes : PySem.W.mroIn K c_NoPushes (.type "object") = some true)
    (r1_NoRow : PySem.W.keepIn K (.ref c_NoRow) = true) (r2_NoRow : PySem.W.excIn K c_NoRow [.type "ValueError", .type "Exception", .type "BaseException", .type "object"] "ValueError.__new__" = true) (r3_NoRow : PySem.W.subIn K (.ref c_NoRow) (.type "BaseException") = some true) (r4_NoRow : PySem.W.typeIn K (.ref c_NoRow) = some (.type "type"))
    (r5_NoRow : PySem.W.findIn K (.ref c_NoRow) "__getattribute__" = some (some (.builtin "BaseException.__getattribute__"))) (r6_NoRow : PySem.W.findIn K (.ref c_NoRow) "__getattr__" = some none) (r7_NoRow : PySem.W.hasDictIn K c_NoRow = true) (r8_NoRow : PySem.W.findIn K (.ref c_NoRow) "__class__" = some (some (.builtin "object.__class__"))) (r9_NoRow : PySem.W.mroIn K c_NoRow (.type "object") = some true)
    (r1_NoCount : PySem.W.keepIn K (.ref c_NoCount) = true) (r2_NoCount : PySem.W.excIn K c_NoCount [.type "ValueError", .type "Exception", .type "BaseException", .type "object"] "ValueError.__new__" = true) (r3_NoCount : PySem.W.subIn K (.ref c_NoCount) (.type "BaseException") = some true) (r4_NoCount : PySem.W.typeIn K (.ref c_NoCount) = some (.type "type"))
    (r5_NoCount : PySem.W.findIn K (.ref c_NoCount) "__getattribute__" = some (some (.builtin "BaseException.__getattribute__"))) (r6_NoCount : PySem.W.findIn K (.ref c_NoCount) "__getattr__" = some none) (r7_NoCount : PySem.W.hasDictIn K c_NoCount = true) (r8_NoCount : PySem.W.findIn K (.ref c_NoCount) "__class__" = some (some (.builtin "object.__class__"))) (r9_NoCount : PySem.W.mroIn K c_NoCount (.type "object") = some true)
    (rA : PySem.W.specialIn K (.builtin "object.__class__") "__get__" = some (some (.builtin "getset_descriptor.__get__"))) (rB : PySem.W.takesIn K (.builtin "object.__class__") = some true)
    {tk_MOST_TEETH : Tok} (v_MOST_TEETH : PySem.W.nsIn K mainGlobals "MOST_TEETH" = some (some (.int 200 tk_MOST_TEETH)))
    (kx_NoTrain : PySem.W.exmOne K (.ref c_NoTrain) (.ref c_TrainError) = some true)
    (kv_NoTrain : PySem.W.kitOne K (.ref c_NoTrain) (.type "ValueError") = some true)
    (k1_NoTrain : PySem.W.kitOne K (.ref c_NoTrain) (.ref c_NoTrain) = some true)
    (k2_NoTrain : PySem.W.kitOne K (.ref c_NoTrain) (.ref c_NoStand) = some false)
    (k3_NoTrain : PySem.W.kitOne K (.ref c_NoTrain) (.ref c_NoRow) = some false)
    (k4_NoTrain : PySem.W.kitOne K (.ref c_NoTrain) (.ref c_NoCount) = some false)
    (k5_NoTrain : PySem.W.kitOne K (.ref c_NoTrain) (.ref c_TooMany) = some false)
    (k6_NoTrain : PySem.W.kitOne K (.ref c_NoTrain) (.ref c_NoText) = some false)
    (kx_NoStand : PySem.W.exmOne K (.ref c_NoStand) (.ref c_TrainError) = some true)
    (kv_NoStand : PySem.W.kitOne K (.ref c_NoStand) (.type "ValueError") = some true)
    (k1_NoStand : PySem.W.kitOne K (.ref c_NoStand) (.ref c_NoTrain) = some false)
    (k2_NoStand : PySem.W.kitOne K (.ref c_NoStand) (.ref c_NoStand) = some true)
    (k3_NoStand : PySem.W.kitOne K (.ref c_NoStand) (.ref c_NoRow) = some false)
    (k4_NoStand : PySem.W.kitOne K (.ref c_NoStand) (.ref c_NoCount) = some false)
    (k5_NoStand : PySem.W.kitOne K (.ref c_NoStand) (.ref c_TooMany) = some false)
    (k6_NoStand : PySem.W.kitOne K (.ref c_NoStand) (.ref c_NoText) = some false)
    (kx_NoRow : PySem.W.exmOne K (.ref c_NoRow) (.ref c_TrainError) = some true)
    (kv_NoRow : PySem.W.kitOne K (.ref c_NoRow) (.type "ValueError") = some true)
    (k1_NoRow : PySem.W.kitOne K (.ref c_NoRow) (.ref c_NoTrain) = some false)
    (k2_NoRow : PySem.W.kitOne K (.ref c_NoRow) (.ref c_NoStand) = some false)
    (k3_NoRow : PySem.W.kitOne K (.ref c_NoRow) (.ref c_NoRow) = some true)
    (k4_NoRow : PySem.W.kitOne K (.ref c_NoRow) (.ref c_NoCount) = some false)
    (k5_NoRow : PySem.W.kitOne K (.ref c_NoRow) (.ref c_TooMany) = some false)
    (k6_NoRow : PySem.W.kitOne K (.ref c_NoRow) (.ref c_NoText) = some false)
    (kx_NoCount : PySem.W.exmOne K (.ref c_NoCount) (.ref c_TrainError) = some true)
    (kv_NoCount : PySem.W.kitOne K (.ref c_NoCount) (.type "ValueError") = some true)
    (k1_NoCount : PySem.W.kitOne K (.ref c_NoCount) (.ref c_NoTrain) = some false)
    (k2_NoCount : PySem.W.kitOne K (.ref c_NoCount) (.ref c_NoStand) = some false)
    (k3_NoCount : PySem.W.kitOne K (.ref c_NoCount) (.ref c_NoRow) = some false)
    (k4_NoCount : PySem.W.kitOne K (.ref c_NoCount) (.ref c_NoCount) = some true)
    (k5_NoCount : PySem.W.kitOne K (.ref c_NoCount) (.ref c_TooMany) = some false)
    (k6_NoCount : PySem.W.kitOne K (.ref c_NoCount) (.ref c_NoText) = some false)
    (kn_NoTrain : PySem.W.kitOne K (.type "NoneType") (.ref c_NoTrain) = some false)
    (kn_NoStand : PySem.W.kitOne K (.type "NoneType") (.ref c_NoStand) = some false)
    (kn_NoRow : PySem.W.kitOne K (.type "NoneType") (.ref c_NoRow) = some false)
    (kn_NoCount : PySem.W.kitOne K (.type "NoneType") (.ref c_NoCount) = some false)
    (kn_TooMany : PySem.W.kitOne K (.type "NoneType") (.ref c_TooMany) = some false)
    (kn_NoText : PySem.W.kitOne K (.type "NoneType") (.ref c_NoText) = some false)
    (tb_fed : tabOkB K cd14 = true)
    (tb_check_shows : tabOkB K cd16 = true)
    (tb_tells_wheel : tabOkB K cd30 = true)
    (tb_teeth_of : tabOkB K cd35 = true)
    : LawAtX l w K 63 "_law_script" mg fa ["fed", "check_shows", "tells_wheel", "teeth_of"] := by
  have e := hfa.symm.trans (PySem.W.mg_of X G a44)
  cases e
  have F_is_whole := fun_mk (st := S_is_whole) l0 c0 k0
  have F_are_marks := fun_mk (st := S_are_marks) l1 c1 k1
  have F_is_part := fun_mk (st := S_is_part) l2 c2 k2
  have F_check_train := fun_mk (st := S_check_train) l3 c3 k3
  have F_place_count := fun_mk (st := S_place_count) l4 c4 k4
  have F_is_stand := fun_mk (st := S_is_stand) l5 c5 k5
  have F_check_stand := fun_mk (st := S_check_stand) l6 c6 k6
  have F_is_way := fun_mk (st := S_is_way) l7 c7 k7
  have F_wheel_pushed := fun_mk (st := S_wheel_pushed) l8 c8 k8
  have F_rocker_pushed := fun_mk (st := S_rocker_pushed) l9 c9 k9
  have F_spring_pushed := fun_mk (st := S_spring_pushed) l10 c10 k10
  have F_part_pushed := fun_mk (st := S_part_pushed) l11 c11 k11
  have F_pushed := fun_mk (st := S_pushed) l12 c12 k12
  have F_is_sign := fun_mk (st := S_is_sign) l13 c13 k13
  have F_fed := fun_mk (st := S_fed) l14 c14 k14
  have F_is_show := fun_mk (st := S_is_show) l15 c15 k15
  have F_check_shows := fun_mk (st := S_check_shows) l16 c16 k16
  have F_passes_of := fun_mk (st := S_passes_of) l17 c17 k17
  have F_passes_alone := fun_mk (st := S_passes_alone) l18 c18 k18
  have F_passes_behind := fun_mk (st := S_passes_behind) l19 c19 k19
  have F_is_wrong := fun_mk (st := S_is_wrong) l20 c20 k20
  have F_are_unlike := fun_mk (st := S_are_unlike) l21 c21 k21
  have F_first_clash := fun_mk (st := S_first_clash) l22 c22 k22
  have F_marks_of := fun_mk (st := S_marks_of) l23 c23 k23
  have F_smallest_of := fun_mk (st := S_smallest_of) l24 c24 k24
  have F_smallest := fun_mk (st := S_smallest) l25 c25 k25
  have F_smallest_behind := fun_mk (st := S_smallest_behind) l26 c26 k26
  have F_are_places := fun_mk (st := S_are_places) l27 c27 k27
  have F_is_bar := fun_mk (st := S_is_bar) l28 c28 k28
  have F_does := fun_mk (st := S_does) l29 c29 k29
  have F_tells_wheel := fun_mk (st := S_tells_wheel) l30 c30 k30
  have F_tells_none := fun_mk (st := S_tells_none) l31 c31 k31
  have F_is_right := fun_mk (st := S_is_right) l32 c32 k32
  have F_is_smallest := fun_mk (st := S_is_smallest) l33 c33 k33
  have F_is_smallest_behind := fun_mk (st := S_is_smallest_behind) l34 c34 k34
  have F_teeth_of := fun_mk (st := S_teeth_of) l35 c35 k35
  have F__law_draws := fun_mk (st := S__law_draws) l36 c36 k36
  have F__law_next := fun_mk (st := S__law_next) l37 c37 k37
  have F__law_train := fun_mk (st := S__law_train) l38 c38 k38
  have F__law_stand := fun_mk (st := S__law_stand) l39 c39 k39
  have F__law_odd_train := fun_mk (st := S__law_odd_train) l40 c40 k40
  have F__law_odd_stand := fun_mk (st := S__law_odd_stand) l41 c41 k41
  have F__law_odd_shows := fun_mk (st := S__law_odd_shows) l42 c42 k42
  have F__law_marks := fun_mk (st := S__law_marks) l43 c43 k43
  have F_law := fun_mk (st := S_law) l44 c44 k44
  have m_isinstance := PySem.W.mg_none_of X G z0
  have m_int := PySem.W.mg_none_of X G z1
  have m_bool := PySem.W.mg_none_of X G z2
  have m_tuple := PySem.W.mg_none_of X G z3
  have m_len := PySem.W.mg_none_of X G z4
  have m_list := PySem.W.mg_none_of X G z5
  have m_zip := PySem.W.mg_none_of X G z6
  have m_max := PySem.W.mg_none_of X G z7
  have m_range := PySem.W.mg_none_of X G z8
  have m_all := PySem.W.mg_none_of X G z9
  have m_enumerate := PySem.W.mg_none_of X G z10
  have m_sorted := PySem.W.mg_none_of X G z11
  have m_set := PySem.W.mg_none_of X G z12
  have m_any := PySem.W.mg_none_of X G z13
  have m_ValueError := PySem.W.mg_none_of X G z14
  have m_str := PySem.W.mg_none_of X G z15
  have g_NoTrain := PySem.W.mg_of X G y_NoTrain
  have g_NoStand := PySem.W.mg_of X G y_NoStand
  have g_NoPushes := PySem.W.mg_of X G y_NoPushes
  have g_NoRow := PySem.W.mg_of X G y_NoRow
  have g_NoCount := PySem.W.mg_of X G y_NoCount
  have g_NoText := PySem.W.mg_of X G y_NoText
  have g_TooMany := PySem.W.mg_of X G y_TooMany
  have g_TrainError := PySem.W.mg_of X G y_TrainError
  have g_MOST_TEETH := PySem.W.mg_of X G v_MOST_TEETH
  have E_NoTrain : ErrC K mg "NoTrain" c_NoTrain := ⟨g_NoTrain, r1_NoTrain, r2_NoTrain, r3_NoTrain, r4_NoTrain, ⟨r5_NoTrain, r6_NoTrain, r3_NoTrain, r7_NoTrain, r8_NoTrain, rA, rB, r9_NoTrain⟩⟩
  have E_NoStand : ErrC K mg "NoStand" c_NoStand := ⟨g_NoStand, r1_NoStand, r2_NoStand, r3_NoStand, r4_NoStand, ⟨r5_NoStand, r6_NoStand, r3_NoStand, r7_NoStand, r8_NoStand, rA, rB, r9_NoStand⟩⟩
  have E_NoPushes : ErrC K mg "NoPushes" c_NoPushes := ⟨g_NoPushes, r1_NoPushes, r2_NoPushes, r3_NoPushes, r4_NoPushes, ⟨r5_NoPushes, r6_NoPushes, r3_NoPushes, r7_NoPushes, r8_NoPushes, rA, rB, r9_NoPushes⟩⟩
  have E_NoRow : ErrC K mg "NoRow" c_NoRow := ⟨g_NoRow, r1_NoRow, r2_NoRow, r3_NoRow, r4_NoRow, ⟨r5_NoRow, r6_NoRow, r3_NoRow, r7_NoRow, r8_NoRow, rA, rB, r9_NoRow⟩⟩
  have E_NoCount : ErrC K mg "NoCount" c_NoCount := ⟨g_NoCount, r1_NoCount, r2_NoCount, r3_NoCount, r4_NoCount, ⟨r5_NoCount, r6_NoCount, r3_NoCount, r7_NoCount, r8_NoCount, rA, rB, r9_NoCount⟩⟩
  have b_is_whole := F_is_whole.binds (ps := ["thing"]) fun _ _ _ _ _ _ us hl => match us, hl with | [_], _ => rfl
  have g_is_whole := PySem.W.mg_of X G a0
  have b_are_marks := F_are_marks.binds (ps := ["thing", "teeth"]) fun _ _ _ _ _ _ us hl => match us, hl with | [_, _], _ => rfl
  have g_are_marks := PySem.W.mg_of X G a1
  have b_is_part := F_is_part.binds (ps := ["thing"]) fun _ _ _ _ _ _ us hl => match us, hl with | [_], _ => rfl
  have g_is_part := PySem.W.mg_of X G a2
  have b_check_train := F_check_train.binds (ps := ["train"]) fun _ _ _ _ _ _ us hl => match us, hl with | [_], _ => rfl
  have g_check_train := PySem.W.mg_of X G a3
  have b_place_count := F_place_count.binds (ps := ["part"]) fun _ _ _ _ _ _ us hl => match us, hl with | [_], _ => rfl
  have g_place_count := PySem.W.mg_of X G a4
  have b_is_stand := F_is_stand.binds (ps := ["train", "thing"]) fun _ _ _ _ _ _ us hl => match us, hl with | [_, _], _ => rfl
  have g_is_stand := PySem.W.mg_of X G a5
  have b_check_stand := F_check_stand.binds (ps := ["train", "stand"]) fun _ _ _ _ _ _ us hl => match us, hl with | [_, _], _ => rfl
  have g_check_stand := PySem.W.mg_of X G a6
  have b_is_way := F_is_way.binds (ps := ["thing"]) fun _ _ _ _ _ _ us hl => match us, hl with | [_], _ => rfl
  have g_is_way := PySem.W.mg_of X G a7
  have b_wheel_pushed := F_wheel_pushed.binds (ps := ["part", "place", "way"]) fun _ _ _ _ _ _ us hl => match us, hl with | [_, _, _], _ => rfl
  have g_wheel_pushed := PySem.W.mg_of X G a8
  have b_rocker_pushed := F_rocker_pushed.binds (ps := ["place", "way"]) fun _ _ _ _ _ _ us hl => match us, hl with | [_, _], _ => rfl
  have g_rocker_pushed := PySem.W.mg_of X G a9
  have b_spring_pushed := F_spring_pushed.binds (ps := ["part", "place", "way"]) fun _ _ _ _ _ _ us hl => match us, hl with | [_, _, _], _ => rfl
  have g_spring_pushed := PySem.W.mg_of X G a10
  have b_part_pushed := F_part_pushed.binds (ps := ["part", "place", "way"]) fun _ _ _ _ _ _ us hl => match us, hl with | [_, _, _], _ => rfl
  have g_part_pushed := PySem.W.mg_of X G a11
  have b_pushed := F_pushed.binds (ps := ["train", "stand", "i", "way"]) fun _ _ _ _ _ _ us hl => match us, hl with | [_, _, _, _], _ => rfl
  have g_pushed := PySem.W.mg_of X G a12
  have b_is_sign := F_is_sign.binds (ps := ["thing"]) fun _ _ _ _ _ _ us hl => match us, hl with | [_], _ => rfl
  have g_is_sign := PySem.W.mg_of X G a13
  have b_fed := F_fed.binds (ps := ["train", "stand", "signs"]) fun _ _ _ _ _ _ us hl => match us, hl with | [_, _, _], _ => rfl
  have g_fed := PySem.W.mg_of X G a14
  have b_is_show := F_is_show.binds (ps := ["thing"]) fun _ _ _ _ _ _ us hl => match us, hl with | [_], _ => rfl
  have g_is_show := PySem.W.mg_of X G a15
  have b_check_shows := F_check_shows.binds (ps := ["shows"]) fun _ _ _ _ _ _ us hl => match us, hl with | [_], _ => rfl
  have g_check_shows := PySem.W.mg_of X G a16
  have b_passes_of := F_passes_of.binds (ps := ["comes", "shows"]) fun _ _ _ _ _ _ us hl => match us, hl with | [_, _], _ => rfl
  have g_passes_of := PySem.W.mg_of X G a17
  have b_passes_alone := F_passes_alone.binds (ps := ["shows"]) fun _ _ _ _ _ _ us hl => match us, hl with | [_], _ => rfl
  have g_passes_alone := PySem.W.mg_of X G a18
  have b_passes_behind := F_passes_behind.binds (ps := ["train", "stand", "shows"]) fun _ _ _ _ _ _ us hl => match us, hl with | [_, _, _], _ => rfl
  have g_passes_behind := PySem.W.mg_of X G a19
  have b_is_wrong := F_is_wrong.binds (ps := ["push"]) fun _ _ _ _ _ _ us hl => match us, hl with | [_], _ => rfl
  have g_is_wrong := PySem.W.mg_of X G a20
  have b_are_unlike := F_are_unlike.binds (ps := ["one", "other"]) fun _ _ _ _ _ _ us hl => match us, hl with | [_, _], _ => rfl
  have g_are_unlike := PySem.W.mg_of X G a21
  have b_first_clash := F_first_clash.binds (ps := ["passes", "teeth"]) fun _ _ _ _ _ _ us hl => match us, hl with | [_, _], _ => rfl
  have g_first_clash := PySem.W.mg_of X G a22
  have b_marks_of := F_marks_of.binds (ps := ["passes", "teeth"]) fun _ _ _ _ _ _ us hl => match us, hl with | [_, _], _ => rfl
  have g_marks_of := PySem.W.mg_of X G a23
  have b_smallest_of := F_smallest_of.binds (ps := ["passes"]) fun _ _ _ _ _ _ us hl => match us, hl with | [_], _ => rfl
  have g_smallest_of := PySem.W.mg_of X G a24
  have b_smallest := F_smallest.binds (ps := ["shows"]) fun _ _ _ _ _ _ us hl => match us, hl with | [_], _ => rfl
  have g_smallest := PySem.W.mg_of X G a25
  have b_smallest_behind := F_smallest_behind.binds (ps := ["train", "stand", "shows"]) fun _ _ _ _ _ _ us hl => match us, hl with | [_, _, _], _ => rfl
  have g_smallest_behind := PySem.W.mg_of X G a26
  have b_are_places := F_are_places.binds (ps := ["j", "k", "passes"]) fun _ _ _ _ _ _ us hl => match us, hl with | [_, _, _], _ => rfl
  have g_are_places := PySem.W.mg_of X G a27
  have b_is_bar := F_is_bar.binds (ps := ["passes", "teeth", "thing"]) fun _ _ _ _ _ _ us hl => match us, hl with | [_, _, _], _ => rfl
  have g_is_bar := PySem.W.mg_of X G a28
  have b_does := F_does.binds (ps := ["passes", "teeth", "marks"]) fun _ _ _ _ _ _ us hl => match us, hl with | [_, _, _], _ => rfl
  have g_does := PySem.W.mg_of X G a29
  have b_tells_wheel := F_tells_wheel.binds (ps := ["passes", "teeth", "marks", "bars"]) fun _ _ _ _ _ _ us hl => match us, hl with | [_, _, _, _], _ => rfl
  have g_tells_wheel := PySem.W.mg_of X G a30
  have b_tells_none := F_tells_none.binds (ps := ["passes", "j", "k"]) fun _ _ _ _ _ _ us hl => match us, hl with | [_, _, _], _ => rfl
  have g_tells_none := PySem.W.mg_of X G a31
  have b_is_right := F_is_right.binds (ps := ["passes", "thing"]) fun _ _ _ _ _ _ us hl => match us, hl with | [_, _], _ => rfl
  have g_is_right := PySem.W.mg_of X G a32
  have b_is_smallest := F_is_smallest.binds (ps := ["shows", "thing"]) fun _ _ _ _ _ _ us hl => match us, hl with | [_, _], _ => rfl
  have g_is_smallest := PySem.W.mg_of X G a33
  have b_is_smallest_behind := F_is_smallest_behind.binds (ps := ["train", "stand", "shows", "thing"]) fun _ _ _ _ _ _ us hl => match us, hl with | [_, _, _, _], _ => rfl
  have g_is_smallest_behind := PySem.W.mg_of X G a34
  have b_teeth_of := F_teeth_of.binds (ps := ["shows", "most"]) fun _ _ _ _ _ _ us hl => match us, hl with | [_, _], _ => rfl
  have g_teeth_of := PySem.W.mg_of X G a35
  have b__law_draws := F__law_draws.binds (ps := ["_law_cell"]) fun _ _ _ _ _ _ us hl => match us, hl with | [_], _ => rfl
  have g__law_draws := PySem.W.mg_of X G a36
  have b__law_next := F__law_next.binds (ps := ["_law_draws_here"]) fun _ _ _ _ _ _ us hl => match us, hl with | [_], _ => rfl
  have g__law_next := PySem.W.mg_of X G a37
  have b__law_train := F__law_train.binds (ps := ["_law_draws_here"]) fun _ _ _ _ _ _ us hl => match us, hl with | [_], _ => rfl
  have g__law_train := PySem.W.mg_of X G a38
  have b__law_stand := F__law_stand.binds (ps := ["_law_draws_here", "_law_train_here"]) fun _ _ _ _ _ _ us hl => match us, hl with | [_, _], _ => rfl
  have g__law_stand := PySem.W.mg_of X G a39
  have b__law_odd_train := F__law_odd_train.binds (ps := ["_law_draws_here", "_law_train_here"]) fun _ _ _ _ _ _ us hl => match us, hl with | [_, _], _ => rfl
  have g__law_odd_train := PySem.W.mg_of X G a40
  have b__law_odd_stand := F__law_odd_stand.binds (ps := ["_law_draws_here", "_law_train_here", "_law_stand_here"]) fun _ _ _ _ _ _ us hl => match us, hl with | [_, _, _], _ => rfl
  have g__law_odd_stand := PySem.W.mg_of X G a41
  have b__law_odd_shows := F__law_odd_shows.binds (ps := ["_law_draws_here", "_law_shows"]) fun _ _ _ _ _ _ us hl => match us, hl with | [_, _], _ => rfl
  have g__law_odd_shows := PySem.W.mg_of X G a42
  have b__law_marks := F__law_marks.binds (ps := ["_law_ask", "_law_thing", "_law_train_here", "_law_stand_here", "_law_shows", "_law_most"]) fun _ _ _ _ _ _ us hl => match us, hl with | [_, _, _, _, _, _], _ => rfl
  have g__law_marks := PySem.W.mg_of X G a43
  refine ⟨PySem.W.fnOf "law" "law" (defArgs S_law) (defBody S_law) (defScope S_law) .none kV44 dc44 pm44 an44 cd44 ct44, [("fed", cd14), ("check_shows", cd16), ("tells_wheel", cd30), ("teeth_of", cd35)], sp_law K [tabOf K cd14, tabOf K cd16, tabOf K cd30, tabOf K cd35], fun p hp => ?_, fun s v => .of_eq rfl, fun H a ns hlen hT hS => ?_, fun base _ _ hTB => ?_⟩
  · rcases List.mem_cons.mp hp with rfl | hp
    · exact ⟨by simp, f_fed, _, _, _, _, g_fed, l14, rfl, tb_fed⟩
    rcases List.mem_cons.mp hp with rfl | hp
    · exact ⟨by simp, f_check_shows, _, _, _, _, g_check_shows, l16, rfl, tb_check_shows⟩
    rcases List.mem_cons.mp hp with rfl | hp
    · exact ⟨by simp, f_tells_wheel, _, _, _, _, g_tells_wheel, l30, rfl, tb_tells_wheel⟩
    rcases List.mem_cons.mp hp with rfl | hp
    · exact ⟨by simp, f_teeth_of, _, _, _, _, g_teeth_of, l35, rfl, tb_teeth_of⟩
    cases hp
  · exact ⟨a, ns, rfl, hS, hlen, fun P hP => (by
      obtain ⟨p, hp, rfl⟩ := List.mem_map.mp (show P ∈ ([("fed", cd14), ("check_shows", cd16), ("tells_wheel", cd30), ("teeth_of", cd35)] : List (Str × Value)).map (fun p => tabOf K p.2) from hP)
      exact hT p hp), fun H2 s2 => ⟨rfl, s2⟩⟩
  have G_is_whole : FnOk l.prog w K mg base CX0 1 _ _ ["thing"] (sp_is_whole K) := ok_is_whole F_is_whole  m_isinstance m_int m_bool   
  have G_are_marks : FnOk l.prog w K mg base CX0 2 _ _ ["thing", "teeth"] (sp_are_marks K) := ok_are_marks F_are_marks F_is_whole b_is_whole g_is_whole G_is_whole m_isinstance m_tuple   
  have G_is_part : FnOk l.prog w K mg base CX0 3 _ _ ["thing"] (sp_is_part K) := ok_is_part F_is_part F_is_whole b_is_whole g_is_whole G_is_whole F_are_marks b_are_marks g_are_marks G_are_marks m_isinstance m_tuple m_len   
  have G_check_train : FnOk l.prog w K mg base (L2.CX l.prog w) 4 _ _ ["train"] (sp_check_train K c_NoTrain) := ok_check_train F_check_train F_is_part b_is_part g_is_part G_is_part m_isinstance m_list m_len g_NoTrain E_NoTrain  
  have G_place_count : FnOk l.prog w K mg base CX0 1 _ _ ["part"] (sp_place_count K) := ok_place_count F_place_count     
  have G_is_stand : FnOk l.prog w K mg base CX0 2 _ _ ["train", "thing"] (sp_is_stand K) := ok_is_stand F_is_stand F_place_count b_place_count g_place_count G_place_count F_is_whole b_is_whole g_is_whole G_is_whole m_zip m_isinstance m_tuple m_len   
  have G_check_stand : FnOk l.prog w K mg base (L2.CX l.prog w) 5 _ _ ["train", "stand"] (sp_check_stand K c_NoTrain c_NoStand) := ok_check_stand F_check_stand F_is_stand b_is_stand g_is_stand G_is_stand F_check_train b_check_train g_check_train G_check_train  g_NoStand E_NoStand  
  have G_is_way : FnOk l.prog w K mg base CX0 2 _ _ ["thing"] (sp_is_way K) := ok_is_way F_is_way F_is_whole b_is_whole g_is_whole G_is_whole    
  have G_wheel_pushed : FnOk l.prog w K mg base CX0 1 _ _ ["part", "place", "way"] (sp_wheel_pushed K) := ok_wheel_pushed F_wheel_pushed     
  have G_rocker_pushed : FnOk l.prog w K mg base CX0 1 _ _ ["place", "way"] (sp_rocker_pushed K) := ok_rocker_pushed F_rocker_pushed     
  have G_spring_pushed : FnOk l.prog w K mg base CX0 1 _ _ ["part", "place", "way"] (sp_spring_pushed K) := ok_spring_pushed F_spring_pushed  m_max   
  have G_part_pushed : FnOk l.prog w K mg base CX0 2 _ _ ["part", "place", "way"] (sp_part_pushed K) := ok_part_pushed F_part_pushed F_spring_pushed b_spring_pushed g_spring_pushed G_spring_pushed F_rocker_pushed b_rocker_pushed g_rocker_pushed G_rocker_pushed F_wheel_pushed b_wheel_pushed g_wheel_pushed G_wheel_pushed    
  have G_pushed : FnOk l.prog w K mg base CX0 3 _ _ ["train", "stand", "i", "way"] (sp_pushed K) := ok_pushed F_pushed F_part_pushed b_part_pushed g_part_pushed G_part_pushed m_list m_range m_len m_tuple   
  have G_is_sign : FnOk l.prog w K mg base CX0 2 _ _ ["thing"] (sp_is_sign K) := ok_is_sign F_is_sign F_is_whole b_is_whole g_is_whole G_is_whole    
  have G_fed : FnOk l.prog w K mg base (L2.CX l.prog w) 7 _ _ ["train", "stand", "signs"] (sp_fed K [tabOf K cd14, tabOf K cd16, tabOf K cd30, tabOf K cd35]) := ok_fed F_fed F_pushed b_pushed g_pushed G_pushed F_is_sign b_is_sign g_is_sign G_is_sign F_check_stand b_check_stand g_check_stand G_check_stand m_isinstance m_list m_all g_NoPushes E_NoPushes   (hTB ("fed", cd14) (by simp)) (by obtain ⟨_, _, _, _, h, _⟩ := tab_inv tb_fed; exact h) (by simp)
  have G_is_show : FnOk l.prog w K mg base CX0 3 _ _ ["thing"] (sp_is_show K) := ok_is_show F_is_show F_is_whole b_is_whole g_is_whole G_is_whole F_is_way b_is_way g_is_way G_is_way m_isinstance m_tuple m_len   
  have G_check_shows : FnOk l.prog w K mg base (L2.CX l.prog w) 5 _ _ ["shows"] (sp_check_shows K [tabOf K cd14, tabOf K cd16, tabOf K cd30, tabOf K cd35] c_NoRow) := ok_check_shows F_check_shows F_is_show b_is_show g_is_show G_is_show m_isinstance m_list m_all g_NoRow E_NoRow   (hTB ("check_shows", cd16) (by simp)) (by obtain ⟨_, _, _, _, h, _⟩ := tab_inv tb_check_shows; exact h) (by simp)
  have G_passes_of : FnOk l.prog w K mg base CX0 1 _ _ ["comes", "shows"] (sp_passes_of K) := ok_passes_of F_passes_of  m_zip   
  have G_passes_alone : FnOk l.prog w K mg base (L2.CX l.prog w) 6 _ _ ["shows"] (sp_passes_alone K [tabOf K cd14, tabOf K cd16, tabOf K cd30, tabOf K cd35] c_NoRow) := ok_passes_alone F_passes_alone F_passes_of b_passes_of g_passes_of G_passes_of F_check_shows b_check_shows g_check_shows G_check_shows    
  have G_passes_behind : FnOk l.prog w K mg base (L2.CX l.prog w) 8 _ _ ["train", "stand", "shows"] (sp_passes_behind K [tabOf K cd14, tabOf K cd16, tabOf K cd30, tabOf K cd35] c_NoTrain c_NoStand c_NoRow) := ok_passes_behind F_passes_behind F_passes_of b_passes_of g_passes_of G_passes_of F_fed b_fed g_fed G_fed F_check_shows b_check_shows g_check_shows G_check_shows F_check_stand b_check_stand g_check_stand G_check_stand    
  have G_is_wrong : FnOk l.prog w K mg base CX0 1 _ _ ["push"] (sp_is_wrong K) := ok_is_wrong F_is_wrong     
  have G_are_unlike : FnOk l.prog w K mg base CX0 1 _ _ ["one", "other"] (sp_are_unlike K) := ok_are_unlike F_are_unlike     
  have G_first_clash : FnOk l.prog w K mg base CX0 2 _ _ ["passes", "teeth"] (sp_first_clash K) := ok_first_clash F_first_clash F_are_unlike b_are_unlike g_are_unlike G_are_unlike m_enumerate   
  have G_marks_of : FnOk l.prog w K mg base CX0 1 _ _ ["passes", "teeth"] (sp_marks_of K) := ok_marks_of F_marks_of  m_tuple m_sorted   
  have G_smallest_of : FnOk l.prog w K mg base CX0 3 _ _ ["passes"] (sp_smallest_of K) := ok_smallest_of F_smallest_of F_marks_of b_marks_of g_marks_of G_marks_of F_first_clash b_first_clash g_first_clash G_first_clash F_is_wrong b_is_wrong g_is_wrong G_is_wrong m_enumerate m_range m_max m_len   
  have G_smallest : FnOk l.prog w K mg base (L2.CX l.prog w) 7 _ _ ["shows"] (sp_smallest K [tabOf K cd14, tabOf K cd16, tabOf K cd30, tabOf K cd35] c_NoRow) := ok_smallest F_smallest F_passes_alone b_passes_alone g_passes_alone G_passes_alone F_smallest_of b_smallest_of g_smallest_of G_smallest_of    
  have G_smallest_behind : FnOk l.prog w K mg base (L2.CX l.prog w) 9 _ _ ["train", "stand", "shows"] (sp_smallest_behind K [tabOf K cd14, tabOf K cd16, tabOf K cd30, tabOf K cd35] c_NoTrain c_NoStand c_NoRow) := ok_smallest_behind F_smallest_behind F_passes_behind b_passes_behind g_passes_behind G_passes_behind F_smallest_of b_smallest_of g_smallest_of G_smallest_of    
  have G_are_places : FnOk l.prog w K mg base CX0 2 _ _ ["j", "k", "passes"] (sp_are_places K) := ok_are_places F_are_places F_is_whole b_is_whole g_is_whole G_is_whole m_len   
  have G_is_bar : FnOk l.prog w K mg base CX0 3 _ _ ["passes", "teeth", "thing"] (sp_is_bar K) := ok_is_bar F_is_bar F_are_unlike b_are_unlike g_are_unlike G_are_unlike F_are_places b_are_places g_are_places G_are_places m_isinstance m_tuple m_len   
  have G_does : FnOk l.prog w K mg base CX0 1 _ _ ["passes", "teeth", "marks"] (sp_does K) := ok_does F_does  m_set   
  have G_tells_wheel : FnOk l.prog w K mg base CX0 5 _ _ ["passes", "teeth", "marks", "bars"] (sp_tells_wheel K [tabOf K cd14, tabOf K cd16, tabOf K cd30, tabOf K cd35]) := ok_tells_wheel F_tells_wheel F_does b_does g_does G_does F_are_marks b_are_marks g_are_marks G_are_marks F_is_bar b_is_bar g_is_bar G_is_bar F_is_whole b_is_whole g_is_whole G_is_whole m_all m_isinstance m_list m_len m_enumerate    (hTB ("tells_wheel", cd30) (by simp)) (by obtain ⟨_, _, _, _, h, _⟩ := tab_inv tb_tells_wheel; exact h) (by simp)
  have G_tells_none : FnOk l.prog w K mg base CX0 3 _ _ ["passes", "j", "k"] (sp_tells_none K) := ok_tells_none F_tells_none F_are_unlike b_are_unlike g_are_unlike G_are_unlike F_is_wrong b_is_wrong g_is_wrong G_is_wrong F_are_places b_are_places g_are_places G_are_places    
  have G_is_right : FnOk l.prog w K mg base CX0 6 _ _ ["passes", "thing"] (sp_is_right K [tabOf K cd14, tabOf K cd16, tabOf K cd30, tabOf K cd35]) := ok_is_right F_is_right F_tells_none b_tells_none g_tells_none G_tells_none F_tells_wheel b_tells_wheel g_tells_wheel G_tells_wheel m_isinstance m_tuple m_len   
  have G_is_smallest : FnOk l.prog w K mg base (L2.CX l.prog w) 7 _ _ ["shows", "thing"] (sp_is_smallest K [tabOf K cd14, tabOf K cd16, tabOf K cd30, tabOf K cd35] c_NoRow) := ok_is_smallest F_is_smallest F_passes_alone b_passes_alone g_passes_alone G_passes_alone F_is_right b_is_right g_is_right G_is_right    
  have G_is_smallest_behind : FnOk l.prog w K mg base (L2.CX l.prog w) 9 _ _ ["train", "stand", "shows", "thing"] (sp_is_smallest_behind K [tabOf K cd14, tabOf K cd16, tabOf K cd30, tabOf K cd35] c_NoTrain c_NoStand c_NoRow) := ok_is_smallest_behind F_is_smallest_behind F_passes_behind b_passes_behind g_passes_behind G_passes_behind F_is_right b_is_right g_is_right G_is_right    
  have G_teeth_of : FnOk l.prog w K mg base (L2.CX l.prog w) 8 _ _ ["shows", "most"] (sp_teeth_of K [tabOf K cd14, tabOf K cd16, tabOf K cd30, tabOf K cd35] c_NoRow c_NoCount) := ok_teeth_of F_teeth_of F_first_clash b_first_clash g_first_clash G_first_clash F_is_wrong b_is_wrong g_is_wrong G_is_wrong F_is_whole b_is_whole g_is_whole G_is_whole F_passes_alone b_passes_alone g_passes_alone G_passes_alone m_any m_range g_NoCount E_NoCount g_MOST_TEETH  (hTB ("teeth_of", cd35) (by simp)) (by obtain ⟨_, _, _, _, h, _⟩ := tab_inv tb_teeth_of; exact h) (by simp)
  have G__law_draws : FnOk l.prog w K mg base CX0 1 _ _ ["_law_cell"] (sp__law_draws K) := ok__law_draws F__law_draws     
  have G__law_next : FnOk l.prog w K mg base CX0 1 _ _ ["_law_draws_here"] (sp__law_next K) := ok__law_next F__law_next     
  have G__law_train : FnOk l.prog w K mg base CX0 2 _ _ ["_law_draws_here"] (sp__law_train K) := ok__law_train F__law_train F__law_next b__law_next g__law_next G__law_next m_range m_tuple m_max   
  have G__law_stand : FnOk l.prog w K mg base CX0 2 _ _ ["_law_draws_here", "_law_train_here"] (sp__law_stand K) := ok__law_stand F__law_stand F__law_next b__law_next g__law_next G__law_next m_int   
  have G__law_odd_train : FnOk l.prog w K mg base CX0 2 _ _ ["_law_draws_here", "_law_train_here"] (sp__law_odd_train K) := ok__law_odd_train F__law_odd_train F__law_next b__law_next g__law_next G__law_next m_tuple   
  have G__law_odd_stand : FnOk l.prog w K mg base CX0 2 _ _ ["_law_draws_here", "_law_train_here", "_law_stand_here"] (sp__law_odd_stand K) := ok__law_odd_stand F__law_odd_stand F__law_next b__law_next g__law_next G__law_next m_len m_list   
  have G__law_odd_shows : FnOk l.prog w K mg base CX0 2 _ _ ["_law_draws_here", "_law_shows"] (sp__law_odd_shows K) := ok__law_odd_shows F__law_odd_shows F__law_next b__law_next g__law_next G__law_next m_isinstance m_list m_tuple m_len   
  have G__law_marks : FnOk l.prog w K mg base CX0 10 _ _ ["_law_ask", "_law_thing", "_law_train_here", "_law_stand_here", "_law_shows", "_law_most"] (sp__law_marks K [tabOf K cd14, tabOf K cd16, tabOf K cd30, tabOf K cd35] c_NoTrain c_NoStand c_NoRow c_NoCount c_TooMany c_NoText c_TrainError) := ok__law_marks F__law_marks F_is_smallest_behind b_is_smallest_behind g_is_smallest_behind G_is_smallest_behind F_smallest_behind b_smallest_behind g_smallest_behind G_smallest_behind F_teeth_of b_teeth_of g_teeth_of G_teeth_of F_is_smallest b_is_smallest g_is_smallest G_is_smallest F_smallest b_smallest g_smallest G_smallest m_isinstance m_range m_ValueError g_NoText g_TooMany g_NoCount g_NoRow g_NoStand g_NoTrain g_TrainError  E_NoTrain kx_NoTrain kv_NoTrain k1_NoTrain k2_NoTrain k3_NoTrain k4_NoTrain k5_NoTrain k6_NoTrain E_NoStand kx_NoStand kv_NoStand k1_NoStand k2_NoStand k3_NoStand k4_NoStand k5_NoStand k6_NoStand E_NoRow kx_NoRow kv_NoRow k1_NoRow k2_NoRow k3_NoRow k4_NoRow k5_NoRow k6_NoRow E_NoCount kx_NoCount kv_NoCount k1_NoCount k2_NoCount k3_NoCount k4_NoCount k5_NoCount k6_NoCount kn_NoTrain kn_NoStand kn_NoRow kn_NoCount kn_TooMany kn_NoText
  exact fun z H ws vs Q E e b r h => FnG.goes (k := 11) (ok_law F_law F__law_marks b__law_marks g__law_marks G__law_marks F__law_next b__law_next g__law_next G__law_next F__law_odd_train b__law_odd_train g__law_odd_train G__law_odd_train F__law_odd_shows b__law_odd_shows g__law_odd_shows G__law_odd_shows F__law_odd_stand b__law_odd_stand g__law_odd_stand G__law_odd_stand F__law_stand b__law_stand g__law_stand G__law_stand F__law_train b__law_train g__law_train G__law_train F__law_draws b__law_draws g__law_draws G__law_draws m_str m_range m_int   ) callerA rfl ⟨rfl, by decide, by decide⟩ [] z H ⟨ws, []⟩ ws vs Q E e b r h
end My
open PySem PySem.W PyProof.Rows
set_option maxHeartbeats 0 in
theorem PySem.Challenge.cw_clicktrain_k64_shows_refused_holds : PySem.Challenge.rw_clicktrain_k64_shows_refused.Holds := by
  w_on; o_law; k_head; (case hw => w_witness2)
  k_fill
  refine Ct.walk_ofX (l := PySem.Challenge.rw_clicktrain_k64_shows_refused) (n := 63) (x := "_law_script") (defs := ["fed", "check_shows", "tells_wheel", "teeth_of"]) rfl (by decide) rfl (by decide +kernel) (fun w h Y => PySem.W.kIn_of Y) ?F
  case F =>
    intro w mg fa h KX G hmg
    refine' My.all_mk KX G hmg ?a0 ?l0 ?c0 ?k0 ?a1 ?l1 ?c1 ?k1 ?a2 ?l2 ?c2 ?k2 ?a3 ?l3 ?c3 ?k3 ?a4 ?l4 ?c4 ?k4 ?a5 ?l5 ?c5 ?k5 ?a6 ?l6 ?c6 ?k6 ?a7 ?l7 ?c7 ?k7 ?a8 ?l8 ?c8 ?k8 ?a9 ?l9 ?c9 ?k9 ?a10 ?l10 ?c10 ?k10 ?a11 ?l11 ?c11 ?k11 ?a12 ?l12 ?c12 ?k12 ?a13 ?l13 ?c13 ?k13 ?a14 ?l14 ?c14 ?k14 ?a15 ?l15 ?c15 ?k15 ?a16 ?l16 ?c16 ?k16 ?a17 ?l17 ?c17 ?k17 ?a18 ?l18 ?c18 ?k18 ?a19 ?l19 ?c19 ?k19 ?a20 ?l20 ?c20 ?k20 ?a21 ?l21 ?c21 ?k21 ?a22 ?l22 ?c22 ?k22 ?a23 ?l23 ?c23 ?k23 ?a24 ?l24 ?c24 ?k24 ?a25 ?l25 ?c25 ?k25 ?a26 ?l26 ?c26 ?k26 ?a27 ?l27 ?c27 ?k27 ?a28 ?l28 ?c28 ?k28 ?a29 ?l29 ?c29 ?k29 ?a30 ?l30 ?c30 ?k30 ?a31 ?l31 ?c31 ?k31 ?a32 ?l32 ?c32 ?k32 ?a33 ?l33 ?c33 ?k33 ?a34 ?l34 ?c34 ?k34 ?a35 ?l35 ?c35 ?k35 ?a36 ?l36 ?c36 ?k36 ?a37 ?l37 ?c37 ?k37 ?a38 ?l38 ?c38 ?k38 ?a39 ?l39 ?c39 ?k39 ?a40 ?l40 ?c40 ?k40 ?a41 ?l41 ?c41 ?k41 ?a42 ?l42 ?c42 ?k42 ?a43 ?l43 ?c43 ?k43 ?a44 ?l44 ?c44 ?k44 ?z0 ?z1 ?z2 ?z3 ?z4 ?z5 ?z6 ?z7 ?z8 ?z9 ?z10 ?z11 ?z12 ?z13 ?z14 ?z15 ?y_NoTrain ?y_NoStand ?y_NoPushes ?y_NoRow ?y_NoCount ?y_NoText ?y_TooMany ?y_TrainError ?r1_NoTrain ?r2_NoTrain ?r3_NoTrain ?r4_NoTrain ?r5_NoTrain ?r6_NoTrain ?r7_NoTrain ?r8_NoTrain ?r9_NoTrain ?r1_NoStand ?r2_NoStand ?r3_NoStand ?r4_NoStand ?r5_NoStand ?r6_NoStand ?r7_NoStand ?r8_NoStand ?r9_NoStand ?r1_NoPushes ?r2_NoPushes ?r3_NoPushes ?r4_NoPushes ?r5_NoPushes ?r6_NoPushes ?r7_NoPushes ?r8_NoPushes ?r9_NoPushes ?r1_NoRow ?r2_NoRow ?r3_NoRow ?r4_NoRow ?r5_NoRow ?r6_NoRow ?r7_NoRow ?r8_NoRow ?r9_NoRow ?r1_NoCount ?r2_NoCount ?r3_NoCount ?r4_NoCount ?r5_NoCount ?r6_NoCount ?r7_NoCount ?r8_NoCount ?r9_NoCount ?rA ?rB ?v_MOST_TEETH ?kx_NoTrain ?kv_NoTrain ?k1_NoTrain ?k2_NoTrain ?k3_NoTrain ?k4_NoTrain ?k5_NoTrain ?k6_NoTrain ?kx_NoStand ?kv_NoStand ?k1_NoStand ?k2_NoStand ?k3_NoStand ?k4_NoStand ?k5_NoStand ?k6_NoStand ?kx_NoRow ?kv_NoRow ?k1_NoRow ?k2_NoRow ?k3_NoRow ?k4_NoRow ?k5_NoRow ?k6_NoRow ?kx_NoCount ?kv_NoCount ?k1_NoCount ?k2_NoCount ?k3_NoCount ?k4_NoCount ?k5_NoCount ?k6_NoCount ?kn_NoTrain ?kn_NoStand ?kn_NoRow ?kn_NoCount ?kn_TooMany ?kn_NoText ?tb_fed ?tb_check_shows ?tb_tells_wheel ?tb_teeth_of
    (case a0 => first | k_is | k_exc | kit_is | exact PySem.W.exm_ref (by k_is) (by k_is) (by k_is) (by k_is))
    (case l0 => first | k_is | k_exc | kit_is | exact PySem.W.exm_ref (by k_is) (by k_is) (by k_is) (by k_is))
    (case c0 => first | k_is | k_exc | kit_is | exact PySem.W.exm_ref (by k_is) (by k_is) (by k_is) (by k_is))
    (case k0 => first | k_is | k_exc | kit_is | exact PySem.W.exm_ref (by k_is) (by k_is) (by k_is) (by k_is))
    (case a1 => first | k_is | k_exc | kit_is | exact PySem.W.exm_ref (by k_is) (by k_is) (by k_is) (by k_is))
    (case l1 => first | k_is | k_exc | kit_is | exact PySem.W.exm_ref (by k_is) (by k_is) (by k_is) (by k_is))
    (case c1 => first | k_is | k_exc | kit_is | exact PySem.W.exm_ref (by k_is) (by k_is) (by k_is) (by k_is))
    (case k1 => first | k_is | k_exc | kit_is | exact PySem.W.exm_ref (by k_is) (by k_is) (by k_is) (by k_is))
    (case a2 => first | k_is | k_exc | kit_is | exact PySem.W.exm_ref (by k_is) (by k_is) (by k_is) (by k_is))
    (case l2 => first | k_is | k_exc | kit_is | exact PySem.W.exm_ref (by k_is) (by k_is) (by k_is) (by k_is))
    (case c2 => first | k_is | k_exc | kit_is | exact PySem.W.exm_ref (by k_is) (by k_is) (by k_is) (by k_is))
    (case k2 => first | k_is | k_exc | kit_is | exact PySem.W.exm_ref (by k_is) (by k_is) (by k_is) (by k_is))
    (case a3 => first | k_is | k_exc | kit_is | exact PySem.W.exm_ref (by k_is) (by k_is) (by k_is) (by k_is))
    (case l3 => first | k_is | k_exc | kit_is | exact PySem.W.exm_ref (by k_is) (by k_is) (by k_is) (by k_is))
    (case c3 => first | k_is | k_exc | kit_is | exact PySem.W.exm_ref (by k_is) (by k_is) (by k_is) (by k_is))
    (case k3 => first | k_is | k_exc | kit_is | exact PySem.W.exm_ref (by k_is) (by k_is) (by k_is) (by k_is))
    (case a4 => first | k_is | k_exc | kit_is | exact PySem.W.exm_ref (by k_is) (by k_is) (by k_is) (by k_is))
    (case l4 => first | k_is | k_exc | kit_is | exact PySem.W.exm_ref (by k_is) (by k_is) (by k_is) (by k_is))
    (case c4 => first | k_is | k_exc | kit_is | exact PySem.W.exm_ref (by k_is) (by k_is) (by k_is) (by k_is))
    (case k4 => first | k_is | k_exc | kit_is | exact PySem.W.exm_ref (by k_is) (by k_is) (by k_is) (by k_is))
    (case a5 => first | k_is | k_exc | kit_is | exact PySem.W.exm_ref (by k_is) (by k_is) (by k_is) (by k_is))
    (case l5 => first | k_is | k_exc | kit_is | exact PySem.W.exm_ref (by k_is) (by k_is) (by k_is) (by k_is))
    (case c5 => first | k_is | k_exc | kit_is | exact PySem.W.exm_ref (by k_is) (by k_is) (by k_is) (by k_is))
    (case k5 => first | k_is | k_exc | kit_is | exact PySem.W.exm_ref (by k_is) (by k_is) (by k_is) (by k_is))
    (case a6 => first | k_is | k_exc | kit_is | exact PySem.W.exm_ref (by k_is) (by k_is) (by k_is) (by k_is))
    (case l6 => first | k_is | k_exc | kit_is | exact PySem.W.exm_ref (by k_is) (by k_is) (by k_is) (by k_is))
    (case c6 => first | k_is | k_exc | kit_is | exact PySem.W.exm_ref (by k_is) (by k_is) (by k_is) (by k_is))
    (case k6 => first | k_is | k_exc | kit_is | exact PySem.W.exm_ref (by k_is) (by k_is) (by k_is) (by k_is))
    (case a7 => first | k_is | k_exc | kit_is | exact PySem.W.exm_ref (by k_is) (by k_is) (by k_is) (by k_is))
    (case l7 => first | k_is | k_exc | kit_is | exact PySem.W.exm_ref (by k_is) (by k_is) (by k_is) (by k_is))
    (case c7 => first | k_is | k_exc | kit_is | exact PySem.W.exm_ref (by k_is) (by k_is) (by k_is) (by k_is))
    (case k7 => first | k_is | k_exc | kit_is | exact PySem.W.exm_ref (by k_is) (by k_is) (by k_is) (by k_is))
    (case a8 => first | k_is | k_exc | kit_is | exact PySem.W.exm_ref (by k_is) (by k_is) (by k_is) (by k_is))
    (case l8 => first | k_is | k_exc | kit_is | exact PySem.W.exm_ref (by k_is) (by k_is) (by k_is) (by k_is))
    (case c8 => first | k_is | k_exc | kit_is | exact PySem.W.exm_ref (by k_is) (by k_is) (by k_is) (by k_is))
    (case k8 => first | k_is | k_exc | kit_is | exact PySem.W.exm_ref (by k_is) (by k_is) (by k_is) (by k_is))
    (case a9 => first | k_is | k_exc | kit_is | exact PySem.W.exm_ref (by k_is) (by k_is) (by k_is) (by k_is))
    (case l9 => first | k_is | k_exc | kit_is | exact PySem.W.exm_ref (by k_is) (by k_is) (by k_is) (by k_is))
    (case c9 => first | k_is | k_exc | kit_is | exact PySem.W.exm_ref (by k_is) (by k_is) (by k_is) (by k_is))
    (case k9 => first | k_is | k_exc | kit_is | exact PySem.W.exm_ref (by k_is) (by k_is) (by k_is) (by k_is))
    (case a10 => first | k_is | k_exc | kit_is | exact PySem.W.exm_ref (by k_is) (by k_is) (by k_is) (by k_is))
    (case l10 => first | k_is | k_exc | kit_is | exact PySem.W.exm_ref (by k_is) (by k_is) (by k_is) (by k_is))
    (case c10 => first | k_is | k_exc | kit_is | exact PySem.W.exm_ref (by k_is) (by k_is) (by k_is) (by k_is))
    (case k10 => first | k_is | k_exc | kit_is | exact PySem.W.exm_ref (by k_is) (by k_is) (by k_is) (by k_is))
    (case a11 => first | k_is | k_exc | kit_is | exact PySem.W.exm_ref (by k_is) (by k_is) (by k_is) (by k_is))
    (case l11 => first | k_is | k_exc | kit_is | exact PySem.W.exm_ref (by k_is) (by k_is) (by k_is) (by k_is))
    (case c11 => first | k_is | k_exc | kit_is | exact PySem.W.exm_ref (by k_is) (by k_is) (by k_is) (by k_is))
    (case k11 => first | k_is | k_exc | kit_is | exact PySem.W.exm_ref (by k_is) (by k_is) (by k_is) (by k_is))
    (case a12 => first | k_is | k_exc | kit_is | exact PySem.W.exm_ref (by k_is) (by k_is) (by k_is) (by k_is))
    (case l12 => first | k_is | k_exc | kit_is | exact PySem.W.exm_ref (by k_is) (by k_is) (by k_is) (by k_is))
    (case c12 => first | k_is | k_exc | kit_is | exact PySem.W.exm_ref (by k_is) (by k_is) (by k_is) (by k_is))
    (case k12 => first | k_is | k_exc | kit_is | exact PySem.W.exm_ref (by k_is) (by k_is) (by k_is) (by k_is))
    (case a13 => first | k_is | k_exc | kit_is | exact PySem.W.exm_ref (by k_is) (by k_is) (by k_is) (by k_is))
    (case l13 => first | k_is | k_exc | kit_is | exact PySem.W.exm_ref (by k_is) (by k_is) (by k_is) (by k_is))
    (case c13 => first | k_is | k_exc | kit_is | exact PySem.W.exm_ref (by k_is) (by k_is) (by k_is) (by k_is))
    (case k13 => first | k_is | k_exc | kit_is | exact PySem.W.exm_ref (by k_is) (by k_is) (by k_is) (by k_is))
    (case a14 => first | k_is | k_exc | kit_is | exact PySem.W.exm_ref (by k_is) (by k_is) (by k_is) (by k_is))
    (case l14 => first | k_is | k_exc | kit_is | exact PySem.W.exm_ref (by k_is) (by k_is) (by k_is) (by k_is))
    (case c14 => first | k_is | k_exc | kit_is | exact PySem.W.exm_ref (by k_is) (by k_is) (by k_is) (by k_is))
    (case k14 => first | k_is | k_exc | kit_is | exact PySem.W.exm_ref (by k_is) (by k_is) (by k_is) (by k_is))
    (case a15 => first | k_is | k_exc | kit_is | exact PySem.W.exm_ref (by k_is) (by k_is) (by k_is) (by k_is))
    (case l15 => first | k_is | k_exc | kit_is | exact PySem.W.exm_ref (by k_is) (by k_is) (by k_is) (by k_is))
    (case c15 => first | k_is | k_exc | kit_is | exact PySem.W.exm_ref (by k_is) (by k_is) (by k_is) (by k_is))
    (case k15 => first | k_is | k_exc | kit_is | exact PySem.W.exm_ref (by k_is) (by k_is) (by k_is) (by k_is))
    (case a16 => first | k_is | k_exc | kit_is | exact PySem.W.exm_ref (by k_is) (by k_is) (by k_is) (by k_is))
    (case l16 => first | k_is | k_exc | kit_is | exact PySem.W.exm_ref (by k_is) (by k_is) (by k_is) (by k_is))
    (case c16 => first | k_is | k_exc | kit_is | exact PySem.W.exm_ref (by k_is) (by k_is) (by k_is) (by k_is))
    (case k16 => first | k_is | k_exc | kit_is | exact PySem.W.exm_ref (by k_is) (by k_is) (by k_is) (by k_is))
    (case a17 => first | k_is | k_exc | kit_is | exact PySem.W.exm_ref (by k_is) (by k_is) (by k_is) (by k_is))
    (case l17 => first | k_is | k_exc | kit_is | exact PySem.W.exm_ref (by k_is) (by k_is) (by k_is) (by k_is))
    (case c17 => first | k_is | k_exc | kit_is | exact PySem.W.exm_ref (by k_is) (by k_is) (by k_is) (by k_is))
    (case k17 => first | k_is | k_exc | kit_is | exact PySem.W.exm_ref (by k_is) (by k_is) (by k_is) (by k_is))
    (case a18 => first | k_is | k_exc | kit_is | exact PySem.W.exm_ref (by k_is) (by k_is) (by k_is) (by k_is))
    (case l18 => first | k_is | k_exc | kit_is | exact PySem.W.exm_ref (by k_is) (by k_is) (by k_is) (by k_is))
    (case c18 => first | k_is | k_exc | kit_is | exact PySem.W.exm_ref (by k_is) (by k_is) (by k_is) (by k_is))
    (case k18 => first | k_is | k_exc | kit_is | exact PySem.W.exm_ref (by k_is) (by k_is) (by k_is) (by k_is))
    (case a19 => first | k_is | k_exc | kit_is | exact PySem.W.exm_ref (by k_is) (by k_is) (by k_is) (by k_is))
    (case l19 => first | k_is | k_exc | kit_is | exact PySem.W.exm_ref (by k_is) (by k_is) (by k_is) (by k_is))
    (case c19 => first | k_is | k_exc | kit_is | exact PySem.W.exm_ref (by k_is) (by k_is) (by k_is) (by k_is))
    (case k19 => first | k_is | k_exc | kit_is | exact PySem.W.exm_ref (by k_is) (by k_is) (by k_is) (by k_is))
    (case a20 => first | k_is | k_exc | kit_is | exact PySem.W.exm_ref (by k_is) (by k_is) (by k_is) (by k_is))
    (case l20 => first | k_is | k_exc | kit_is | exact PySem.W.exm_ref (by k_is) (by k_is) (by k_is) (by k_is))
    (case c20 => first | k_is | k_exc | kit_is | exact PySem.W.exm_ref (by k_is) (by k_is) (by k_is) (by k_is))
    (case k20 => first | k_is | k_exc | kit_is | exact PySem.W.exm_ref (by k_is) (by k_is) (by k_is) (by k_is))
    (case a21 => first | k_is | k_exc | kit_is | exact PySem.W.exm_ref (by k_is) (by k_is) (by k_is) (by k_is))
    (case l21 => first | k_is | k_exc | kit_is | exact PySem.W.exm_ref (by k_is) (by k_is) (by k_is) (by k_is))
    (case c21 => first | k_is | k_exc | kit_is | exact PySem.W.exm_ref (by k_is) (by k_is) (by k_is) (by k_is))
    (case k21 => first | k_is | k_exc | kit_is | exact PySem.W.exm_ref (by k_is) (by k_is) (by k_is) (by k_is))
    (case a22 => first | k_is | k_exc | kit_is | exact PySem.W.exm_ref (by k_is) (by k_is) (by k_is) (by k_is))
    (case l22 => first | k_is | k_exc | kit_is | exact PySem.W.exm_ref (by k_is) (by k_is) (by k_is) (by k_is))
    (case c22 => first | k_is | k_exc | kit_is | exact PySem.W.exm_ref (by k_is) (by k_is) (by k_is) (by k_is))
    (case k22 => first | k_is | k_exc | kit_is | exact PySem.W.exm_ref (by k_is) (by k_is) (by k_is) (by k_is))
    (case a23 => first | k_is | k_exc | kit_is | exact PySem.W.exm_ref (by k_is) (by k_is) (by k_is) (by k_is))
    (case l23 => first | k_is | k_exc | kit_is | exact PySem.W.exm_ref (by k_is) (by k_is) (by k_is) (by k_is))
    (case c23 => first | k_is | k_exc | kit_is | exact PySem.W.exm_ref (by k_is) (by k_is) (by k_is) (by k_is))
    (case k23 => first | k_is | k_exc | kit_is | exact PySem.W.exm_ref (by k_is) (by k_is) (by k_is) (by k_is))
    (case a24 => first | k_is | k_exc | kit_is | exact PySem.W.exm_ref (by k_is) (by k_is) (by k_is) (by k_is))
    (case l24 => first | k_is | k_exc | kit_is | exact PySem.W.exm_ref (by k_is) (by k_is) (by k_is) (by k_is))
    (case c24 => first | k_is | k_exc | kit_is | exact PySem.W.exm_ref (by k_is) (by k_is) (by k_is) (by k_is))
    (case k24 => first | k_is | k_exc | kit_is | exact PySem.W.exm_ref (by k_is) (by k_is) (by k_is) (by k_is))
    (case a25 => first | k_is | k_exc | kit_is | exact PySem.W.exm_ref (by k_is) (by k_is) (by k_is) (by k_is))
    (case l25 => first | k_is | k_exc | kit_is | exact PySem.W.exm_ref (by k_is) (by k_is) (by k_is) (by k_is))
    (case c25 => first | k_is | k_exc | kit_is | exact PySem.W.exm_ref (by k_is) (by k_is) (by k_is) (by k_is))
    (case k25 => first | k_is | k_exc | kit_is | exact PySem.W.exm_ref (by k_is) (by k_is) (by k_is) (by k_is))
    (case a26 => first | k_is | k_exc | kit_is | exact PySem.W.exm_ref (by k_is) (by k_is) (by k_is) (by k_is))
    (case l26 => first | k_is | k_exc | kit_is | exact PySem.W.exm_ref (by k_is) (by k_is) (by k_is) (by k_is))
    (case c26 => first | k_is | k_exc | kit_is | exact PySem.W.exm_ref (by k_is) (by k_is) (by k_is) (by k_is))
    (case k26 => first | k_is | k_exc | kit_is | exact PySem.W.exm_ref (by k_is) (by k_is) (by k_is) (by k_is))
    (case a27 => first | k_is | k_exc | kit_is | exact PySem.W.exm_ref (by k_is) (by k_is) (by k_is) (by k_is))
    (case l27 => first | k_is | k_exc | kit_is | exact PySem.W.exm_ref (by k_is) (by k_is) (by k_is) (by k_is))
    (case c27 => first | k_is | k_exc | kit_is | exact PySem.W.exm_ref (by k_is) (by k_is) (by k_is) (by k_is))
    (case k27 => first | k_is | k_exc | kit_is | exact PySem.W.exm_ref (by k_is) (by k_is) (by k_is) (by k_is))
    (case a28 => first | k_is | k_exc | kit_is | exact PySem.W.exm_ref (by k_is) (by k_is) (by k_is) (by k_is))
    (case l28 => first | k_is | k_exc | kit_is | exact PySem.W.exm_ref (by k_is) (by k_is) (by k_is) (by k_is))
    (case c28 => first | k_is | k_exc | kit_is | exact PySem.W.exm_ref (by k_is) (by k_is) (by k_is) (by k_is))
    (case k28 => first | k_is | k_exc | kit_is | exact PySem.W.exm_ref (by k_is) (by k_is) (by k_is) (by k_is))
    (case a29 => first | k_is | k_exc | kit_is | exact PySem.W.exm_ref (by k_is) (by k_is) (by k_is) (by k_is))
    (case l29 => first | k_is | k_exc | kit_is | exact PySem.W.exm_ref (by k_is) (by k_is) (by k_is) (by k_is))
    (case c29 => first | k_is | k_exc | kit_is | exact PySem.W.exm_ref (by k_is) (by k_is) (by k_is) (by k_is))
    (case k29 => first | k_is | k_exc | kit_is | exact PySem.W.exm_ref (by k_is) (by k_is) (by k_is) (by k_is))
    (case a30 => first | k_is | k_exc | kit_is | exact PySem.W.exm_ref (by k_is) (by k_is) (by k_is) (by k_is))
    (case l30 => first | k_is | k_exc | kit_is | exact PySem.W.exm_ref (by k_is) (by k_is) (by k_is) (by k_is))
    (case c30 => first | k_is | k_exc | kit_is | exact PySem.W.exm_ref (by k_is) (by k_is) (by k_is) (by k_is))
    (case k30 => first | k_is | k_exc | kit_is | exact PySem.W.exm_ref (by k_is) (by k_is) (by k_is) (by k_is))
    (case a31 => first | k_is | k_exc | kit_is | exact PySem.W.exm_ref (by k_is) (by k_is) (by k_is) (by k_is))
    (case l31 => first | k_is | k_exc | kit_is | exact PySem.W.exm_ref (by k_is) (by k_is) (by k_is) (by k_is))
    (case c31 => first | k_is | k_exc | kit_is | exact PySem.W.exm_ref (by k_is) (by k_is) (by k_is) (by k_is))
    (case k31 => first | k_is | k_exc | kit_is | exact PySem.W.exm_ref (by k_is) (by k_is) (by k_is) (by k_is))
    (case a32 => first | k_is | k_exc | kit_is | exact PySem.W.exm_ref (by k_is) (by k_is) (by k_is) (by k_is))
    (case l32 => first | k_is | k_exc | kit_is | exact PySem.W.exm_ref (by k_is) (by k_is) (by k_is) (by k_is))
    (case c32 => first | k_is | k_exc | kit_is | exact PySem.W.exm_ref (by k_is) (by k_is) (by k_is) (by k_is))
    (case k32 => first | k_is | k_exc | kit_is | exact PySem.W.exm_ref (by k_is) (by k_is) (by k_is) (by k_is))
    (case a33 => first | k_is | k_exc | kit_is | exact PySem.W.exm_ref (by k_is) (by k_is) (by k_is) (by k_is))
    (case l33 => first | k_is | k_exc | kit_is | exact PySem.W.exm_ref (by k_is) (by k_is) (by k_is) (by k_is))
    (case c33 => first | k_is | k_exc | kit_is | exact PySem.W.exm_ref (by k_is) (by k_is) (by k_is) (by k_is))
    (case k33 => first | k_is | k_exc | kit_is | exact PySem.W.exm_ref (by k_is) (by k_is) (by k_is) (by k_is))
    (case a34 => first | k_is | k_exc | kit_is | exact PySem.W.exm_ref (by k_is) (by k_is) (by k_is) (by k_is))
    (case l34 => first | k_is | k_exc | kit_is | exact PySem.W.exm_ref (by k_is) (by k_is) (by k_is) (by k_is))
    (case c34 => first | k_is | k_exc | kit_is | exact PySem.W.exm_ref (by k_is) (by k_is) (by k_is) (by k_is))
    (case k34 => first | k_is | k_exc | kit_is | exact PySem.W.exm_ref (by k_is) (by k_is) (by k_is) (by k_is))
    (case a35 => first | k_is | k_exc | kit_is | exact PySem.W.exm_ref (by k_is) (by k_is) (by k_is) (by k_is))
    (case l35 => first | k_is | k_exc | kit_is | exact PySem.W.exm_ref (by k_is) (by k_is) (by k_is) (by k_is))
    (case c35 => first | k_is | k_exc | kit_is | exact PySem.W.exm_ref (by k_is) (by k_is) (by k_is) (by k_is))
    (case k35 => first | k_is | k_exc | kit_is | exact PySem.W.exm_ref (by k_is) (by k_is) (by k_is) (by k_is))
    (case a36 => first | k_is | k_exc | kit_is | exact PySem.W.exm_ref (by k_is) (by k_is) (by k_is) (by k_is))
    (case l36 => first | k_is | k_exc | kit_is | exact PySem.W.exm_ref (by k_is) (by k_is) (by k_is) (by k_is))
    (case c36 => first | k_is | k_exc | kit_is | exact PySem.W.exm_ref (by k_is) (by k_is) (by k_is) (by k_is))
    (case k36 => first | k_is | k_exc | kit_is | exact PySem.W.exm_ref (by k_is) (by k_is) (by k_is) (by k_is))
    (case a37 => first | k_is | k_exc | kit_is | exact PySem.W.exm_ref (by k_is) (by k_is) (by k_is) (by k_is))
    (case l37 => first | k_is | k_exc | kit_is | exact PySem.W.exm_ref (by k_is) (by k_is) (by k_is) (by k_is))
    (case c37 => first | k_is | k_exc | kit_is | exact PySem.W.exm_ref (by k_is) (by k_is) (by k_is) (by k_is))
    (case k37 => first | k_is | k_exc | kit_is | exact PySem.W.exm_ref (by k_is) (by k_is) (by k_is) (by k_is))
    (case a38 => first | k_is | k_exc | kit_is | exact PySem.W.exm_ref (by k_is) (by k_is) (by k_is) (by k_is))
    (case l38 => first | k_is | k_exc | kit_is | exact PySem.W.exm_ref (by k_is) (by k_is) (by k_is) (by k_is))
    (case c38 => first | k_is | k_exc | kit_is | exact PySem.W.exm_ref (by k_is) (by k_is) (by k_is) (by k_is))
    (case k38 => first | k_is | k_exc | kit_is | exact PySem.W.exm_ref (by k_is) (by k_is) (by k_is) (by k_is))
    (case a39 => first | k_is | k_exc | kit_is | exact PySem.W.exm_ref (by k_is) (by k_is) (by k_is) (by k_is))
    (case l39 => first | k_is | k_exc | kit_is | exact PySem.W.exm_ref (by k_is) (by k_is) (by k_is) (by k_is))
    (case c39 => first | k_is | k_exc | kit_is | exact PySem.W.exm_ref (by k_is) (by k_is) (by k_is) (by k_is))
    (case k39 => first | k_is | k_exc | kit_is | exact PySem.W.exm_ref (by k_is) (by k_is) (by k_is) (by k_is))
    (case a40 => first | k_is | k_exc | kit_is | exact PySem.W.exm_ref (by k_is) (by k_is) (by k_is) (by k_is))
    (case l40 => first | k_is | k_exc | kit_is | exact PySem.W.exm_ref (by k_is) (by k_is) (by k_is) (by k_is))
    (case c40 => first | k_is | k_exc | kit_is | exact PySem.W.exm_ref (by k_is) (by k_is) (by k_is) (by k_is))
    (case k40 => first | k_is | k_exc | kit_is | exact PySem.W.exm_ref (by k_is) (by k_is) (by k_is) (by k_is))
    (case a41 => first | k_is | k_exc | kit_is | exact PySem.W.exm_ref (by k_is) (by k_is) (by k_is) (by k_is))
    (case l41 => first | k_is | k_exc | kit_is | exact PySem.W.exm_ref (by k_is) (by k_is) (by k_is) (by k_is))
    (case c41 => first | k_is | k_exc | kit_is | exact PySem.W.exm_ref (by k_is) (by k_is) (by k_is) (by k_is))
    (case k41 => first | k_is | k_exc | kit_is | exact PySem.W.exm_ref (by k_is) (by k_is) (by k_is) (by k_is))
    (case a42 => first | k_is | k_exc | kit_is | exact PySem.W.exm_ref (by k_is) (by k_is) (by k_is) (by k_is))
    (case l42 => first | k_is | k_exc | kit_is | exact PySem.W.exm_ref (by k_is) (by k_is) (by k_is) (by k_is))
    (case c42 => first | k_is | k_exc | kit_is | exact PySem.W.exm_ref (by k_is) (by k_is) (by k_is) (by k_is))
    (case k42 => first | k_is | k_exc | kit_is | exact PySem.W.exm_ref (by k_is) (by k_is) (by k_is) (by k_is))
    (case a43 => first | k_is | k_exc | kit_is | exact PySem.W.exm_ref (by k_is) (by k_is) (by k_is) (by k_is))
    (case l43 => first | k_is | k_exc | kit_is | exact PySem.W.exm_ref (by k_is) (by k_is) (by k_is) (by k_is))
    (case c43 => first | k_is | k_exc | kit_is | exact PySem.W.exm_ref (by k_is) (by k_is) (by k_is) (by k_is))
    (case k43 => first | k_is | k_exc | kit_is | exact PySem.W.exm_ref (by k_is) (by k_is) (by k_is) (by k_is))
    (case a44 => first | k_is | k_exc | kit_is | exact PySem.W.exm_ref (by k_is) (by k_is) (by k_is) (by k_is))
    (case l44 => first | k_is | k_exc | kit_is | exact PySem.W.exm_ref (by k_is) (by k_is) (by k_is) (by k_is))
    (case c44 => first | k_is | k_exc | kit_is | exact PySem.W.exm_ref (by k_is) (by k_is) (by k_is) (by k_is))
    (case k44 => first | k_is | k_exc | kit_is | exact PySem.W.exm_ref (by k_is) (by k_is) (by k_is) (by k_is))
    (case z0 => first | k_is | k_exc | kit_is | exact PySem.W.exm_ref (by k_is) (by k_is) (by k_is) (by k_is))
    (case z1 => first | k_is | k_exc | kit_is | exact PySem.W.exm_ref (by k_is) (by k_is) (by k_is) (by k_is))
    (case z2 => first | k_is | k_exc | kit_is | exact PySem.W.exm_ref (by k_is) (by k_is) (by k_is) (by k_is))
    (case z3 => first | k_is | k_exc | kit_is | exact PySem.W.exm_ref (by k_is) (by k_is) (by k_is) (by k_is))
    (case z4 => first | k_is | k_exc | kit_is | exact PySem.W.exm_ref (by k_is) (by k_is) (by k_is) (by k_is))
    (case z5 => first | k_is | k_exc | kit_is | exact PySem.W.exm_ref (by k_is) (by k_is) (by k_is) (by k_is))
    (case z6 => first | k_is | k_exc | kit_is | exact PySem.W.exm_ref (by k_is) (by k_is) (by k_is) (by k_is))
    (case z7 => first | k_is | k_exc | kit_is | exact PySem.W.exm_ref (by k_is) (by k_is) (by k_is) (by k_is))
    (case z8 => first | k_is | k_exc | kit_is | exact PySem.W.exm_ref (by k_is) (by k_is) (by k_is) (by k_is))
    (case z9 => first | k_is | k_exc | kit_is | exact PySem.W.exm_ref (by k_is) (by k_is) (by k_is) (by k_is))
    (case z10 => first | k_is | k_exc | kit_is | exact PySem.W.exm_ref (by k_is) (by k_is) (by k_is) (by k_is))
    (case z11 => first | k_is | k_exc | kit_is | exact PySem.W.exm_ref (by k_is) (by k_is) (by k_is) (by k_is))
    (case z12 => first | k_is | k_exc | kit_is | exact PySem.W.exm_ref (by k_is) (by k_is) (by k_is) (by k_is))
    (case z13 => first | k_is | k_exc | kit_is | exact PySem.W.exm_ref (by k_is) (by k_is) (by k_is) (by k_is))
    (case z14 => first | k_is | k_exc | kit_is | exact PySem.W.exm_ref (by k_is) (by k_is) (by k_is) (by k_is))
    (case z15 => first | k_is | k_exc | kit_is | exact PySem.W.exm_ref (by k_is) (by k_is) (by k_is) (by k_is))
    (case y_NoTrain => first | k_is | k_exc | kit_is | exact PySem.W.exm_ref (by k_is) (by k_is) (by k_is) (by k_is))
    (case y_NoStand => first | k_is | k_exc | kit_is | exact PySem.W.exm_ref (by k_is) (by k_is) (by k_is) (by k_is))
    (case y_NoPushes => first | k_is | k_exc | kit_is | exact PySem.W.exm_ref (by k_is) (by k_is) (by k_is) (by k_is))
    (case y_NoRow => first | k_is | k_exc | kit_is | exact PySem.W.exm_ref (by k_is) (by k_is) (by k_is) (by k_is))
    (case y_NoCount => first | k_is | k_exc | kit_is | exact PySem.W.exm_ref (by k_is) (by k_is) (by k_is) (by k_is))
    (case y_NoText => first | k_is | k_exc | kit_is | exact PySem.W.exm_ref (by k_is) (by k_is) (by k_is) (by k_is))
    (case y_TooMany => first | k_is | k_exc | kit_is | exact PySem.W.exm_ref (by k_is) (by k_is) (by k_is) (by k_is))
    (case y_TrainError => first | k_is | k_exc | kit_is | exact PySem.W.exm_ref (by k_is) (by k_is) (by k_is) (by k_is))
    (case r1_NoTrain => first | k_is | k_exc | kit_is | exact PySem.W.exm_ref (by k_is) (by k_is) (by k_is) (by k_is))
    (case r2_NoTrain => first | k_is | k_exc | kit_is | exact PySem.W.exm_ref (by k_is) (by k_is) (by k_is) (by k_is))
    (case r3_NoTrain => first | k_is | k_exc | kit_is | exact PySem.W.exm_ref (by k_is) (by k_is) (by k_is) (by k_is))
    (case r4_NoTrain => first | k_is | k_exc | kit_is | exact PySem.W.exm_ref (by k_is) (by k_is) (by k_is) (by k_is))
    (case r5_NoTrain => first | k_is | k_exc | kit_is | exact PySem.W.exm_ref (by k_is) (by k_is) (by k_is) (by k_is))
    (case r6_NoTrain => first | k_is | k_exc | kit_is | exact PySem.W.exm_ref (by k_is) (by k_is) (by k_is) (by k_is))
    (case r7_NoTrain => first | k_is | k_exc | kit_is | exact PySem.W.exm_ref (by k_is) (by k_is) (by k_is) (by k_is))
    (case r8_NoTrain => first | k_is | k_exc | kit_is | exact PySem.W.exm_ref (by k_is) (by k_is) (by k_is) (by k_is))
    (case r9_NoTrain => first | k_is | k_exc | kit_is | exact PySem.W.exm_ref (by k_is) (by k_is) (by k_is) (by k_is))
    (case r1_NoStand => first | k_is | k_exc | kit_is | exact PySem.W.exm_ref (by k_is) (by k_is) (by k_is) (by k_is))
    (case r2_NoStand => first | k_is | k_exc | kit_is | exact PySem.W.exm_ref (by k_is) (by k_is) (by k_is) (by k_is))
    (case r3_NoStand => first | k_is | k_exc | kit_is | exact PySem.W.exm_ref (by k_is) (by k_is) (by k_is) (by k_is))
    (case r4_NoStand => first | k_is | k_exc | kit_is | exact PySem.W.exm_ref (by k_is) (by k_is) (by k_is) (by k_is))
    (case r5_NoStand => first | k_is | k_exc | kit_is | exact PySem.W.exm_ref (by k_is) (by k_is) (by k_is) (by k_is))
    (case r6_NoStand => first | k_is | k_exc | kit_is | exact PySem.W.exm_ref (by k_is) (by k_is) (by k_is) (by k_is))
    (case r7_NoStand => first | k_is | k_exc | kit_is | exact PySem.W.exm_ref (by k_is) (by k_is) (by k_is) (by k_is))
    (case r8_NoStand => first | k_is | k_exc | kit_is | exact PySem.W.exm_ref (by k_is) (by k_is) (by k_is) (by k_is))
    (case r9_NoStand => first | k_is | k_exc | kit_is | exact PySem.W.exm_ref (by k_is) (by k_is) (by k_is) (by k_is))
    (case r1_NoPushes => first | k_is | k_exc | kit_is | exact PySem.W.exm_ref (by k_is) (by k_is) (by k_is) (by k_is))
    (case r2_NoPushes => first | k_is | k_exc | kit_is | exact PySem.W.exm_ref (by k_is) (by k_is) (by k_is) (by k_is))
    (case r3_NoPushes => first | k_is | k_exc | kit_is | exact PySem.W.exm_ref (by k_is) (by k_is) (by k_is) (by k_is))
    (case r4_NoPushes => first | k_is | k_exc | kit_is | exact PySem.W.exm_ref (by k_is) (by k_is) (by k_is) (by k_is))
    (case r5_NoPushes => first | k_is | k_exc | kit_is | exact PySem.W.exm_ref (by k_is) (by k_is) (by k_is) (by k_is))
    (case r6_NoPushes => first | k_is | k_exc | kit_is | exact PySem.W.exm_ref (by k_is) (by k_is) (by k_is) (by k_is))
    (case r7_NoPushes => first | k_is | k_exc | kit_is | exact PySem.W.exm_ref (by k_is) (by k_is) (by k_is) (by k_is))
    (case r8_NoPushes => first | k_is | k_exc | kit_is | exact PySem.W.exm_ref (by k_is) (by k_is) (by k_is) (by k_is))
    (case r9_NoPushes => first | k_is | k_exc | kit_is | exact PySem.W.exm_ref (by k_is) (by k_is) (by k_is) (by k_is))
    (case r1_NoRow => first | k_is | k_exc | kit_is | exact PySem.W.exm_ref (by k_is) (by k_is) (by k_is) (by k_is))
    (case r2_NoRow => first | k_is | k_exc | kit_is | exact PySem.W.exm_ref (by k_is) (by k_is) (by k_is) (by k_is))
    (case r3_NoRow => first | k_is | k_exc | kit_is | exact PySem.W.exm_ref (by k_is) (by k_is) (by k_is) (by k_is))
    (case r4_NoRow => first | k_is | k_exc | kit_is | exact PySem.W.exm_ref (by k_is) (by k_is) (by k_is) (by k_is))
    (case r5_NoRow => first | k_is | k_exc | kit_is | exact PySem.W.exm_ref (by k_is) (by k_is) (by k_is) (by k_is))
    (case r6_NoRow => first | k_is | k_exc | kit_is | exact PySem.W.exm_ref (by k_is) (by k_is) (by k_is) (by k_is))
    (case r7_NoRow => first | k_is | k_exc | kit_is | exact PySem.W.exm_ref (by k_is) (by k_is) (by k_is) (by k_is))
    (case r8_NoRow => first | k_is | k_exc | kit_is | exact PySem.W.exm_ref (by k_is) (by k_is) (by k_is) (by k_is))
    (case r9_NoRow => first | k_is | k_exc | kit_is | exact PySem.W.exm_ref (by k_is) (by k_is) (by k_is) (by k_is))
    (case r1_NoCount => first | k_is | k_exc | kit_is | exact PySem.W.exm_ref (by k_is) (by k_is) (by k_is) (by k_is))
    (case r2_NoCount => first | k_is | k_exc | kit_is | exact PySem.W.exm_ref (by k_is) (by k_is) (by k_is) (by k_is))
    (case r3_NoCount => first | k_is | k_exc | kit_is | exact PySem.W.exm_ref (by k_is) (by k_is) (by k_is) (by k_is))
    (case r4_NoCount => first | k_is | k_exc | kit_is | exact PySem.W.exm_ref (by k_is) (by k_is) (by k_is) (by k_is))
    (case r5_NoCount => first | k_is | k_exc | kit_is | exact PySem.W.exm_ref (by k_is) (by k_is) (by k_is) (by k_is))
    (case r6_NoCount => first | k_is | k_exc | kit_is | exact PySem.W.exm_ref (by k_is) (by k_is) (by k_is) (by k_is))
    (case r7_NoCount => first | k_is | k_exc | kit_is | exact PySem.W.exm_ref (by k_is) (by k_is) (by k_is) (by k_is))
    (case r8_NoCount => first | k_is | k_exc | kit_is | exact PySem.W.exm_ref (by k_is) (by k_is) (by k_is) (by k_is))
    (case r9_NoCount => first | k_is | k_exc | kit_is | exact PySem.W.exm_ref (by k_is) (by k_is) (by k_is) (by k_is))
    (case rA => first | k_is | k_exc | kit_is | exact PySem.W.exm_ref (by k_is) (by k_is) (by k_is) (by k_is))
    (case rB => first | k_is | k_exc | kit_is | exact PySem.W.exm_ref (by k_is) (by k_is) (by k_is) (by k_is))
    (case v_MOST_TEETH => first | k_is | k_exc | kit_is | exact PySem.W.exm_ref (by k_is) (by k_is) (by k_is) (by k_is))
    (case kx_NoTrain => first | k_is | k_exc | kit_is | exact PySem.W.exm_ref (by k_is) (by k_is) (by k_is) (by k_is))
    (case kv_NoTrain => first | k_is | k_exc | kit_is | exact PySem.W.exm_ref (by k_is) (by k_is) (by k_is) (by k_is))
    (case k1_NoTrain => first | k_is | k_exc | kit_is | exact PySem.W.exm_ref (by k_is) (by k_is) (by k_is) (by k_is))
    (case k2_NoTrain => first | k_is | k_exc | kit_is | exact PySem.W.exm_ref (by k_is) (by k_is) (by k_is) (by k_is))
    (case k3_NoTrain => first | k_is | k_exc | kit_is | exact PySem.W.exm_ref (by k_is) (by k_is) (by k_is) (by k_is))
    (case k4_NoTrain => first | k_is | k_exc | kit_is | exact PySem.W.exm_ref (by k_is) (by k_is) (by k_is) (by k_is))
    (case k5_NoTrain => first | k_is | k_exc | kit_is | exact PySem.W.exm_ref (by k_is) (by k_is) (by k_is) (by k_is))
    (case k6_NoTrain => first | k_is | k_exc | kit_is | exact PySem.W.exm_ref (by k_is) (by k_is) (by k_is) (by k_is))
    (case kx_NoStand => first | k_is | k_exc | kit_is | exact PySem.W.exm_ref (by k_is) (by k_is) (by k_is) (by k_is))
    (case kv_NoStand => first | k_is | k_exc | kit_is | exact PySem.W.exm_ref (by k_is) (by k_is) (by k_is) (by k_is))
    (case k1_NoStand => first | k_is | k_exc | kit_is | exact PySem.W.exm_ref (by k_is) (by k_is) (by k_is) (by k_is))
    (case k2_NoStand => first | k_is | k_exc | kit_is | exact PySem.W.exm_ref (by k_is) (by k_is) (by k_is) (by k_is))
    (case k3_NoStand => first | k_is | k_exc | kit_is | exact PySem.W.exm_ref (by k_is) (by k_is) (by k_is) (by k_is))
    (case k4_NoStand => first | k_is | k_exc | kit_is | exact PySem.W.exm_ref (by k_is) (by k_is) (by k_is) (by k_is))
    (case k5_NoStand => first | k_is | k_exc | kit_is | exact PySem.W.exm_ref (by k_is) (by k_is) (by k_is) (by k_is))
    (case k6_NoStand => first | k_is | k_exc | kit_is | exact PySem.W.exm_ref (by k_is) (by k_is) (by k_is) (by k_is))
    (case kx_NoRow => first | k_is | k_exc | kit_is | exact PySem.W.exm_ref (by k_is) (by k_is) (by k_is) (by k_is))
    (case kv_NoRow => first | k_is | k_exc | kit_is | exact PySem.W.exm_ref (by k_is) (by k_is) (by k_is) (by k_is))
    (case k1_NoRow => first | k_is | k_exc | kit_is | exact PySem.W.exm_ref (by k_is) (by k_is) (by k_is) (by k_is))
    (case k2_NoRow => first | k_is | k_exc | kit_is | exact PySem.W.exm_ref (by k_is) (by k_is) (by k_is) (by k_is))
    (case k3_NoRow => first | k_is | k_exc | kit_is | exact PySem.W.exm_ref (by k_is) (by k_is) (by k_is) (by k_is))
    (case k4_NoRow => first | k_is | k_exc | kit_is | exact PySem.W.exm_ref (by k_is) (by k_is) (by k_is) (by k_is))
    (case k5_NoRow => first | k_is | k_exc | kit_is | exact PySem.W.exm_ref (by k_is) (by k_is) (by k_is) (by k_is))
    (case k6_NoRow => first | k_is | k_exc | kit_is | exact PySem.W.exm_ref (by k_is) (by k_is) (by k_is) (by k_is))
    (case kx_NoCount => first | k_is | k_exc | kit_is | exact PySem.W.exm_ref (by k_is) (by k_is) (by k_is) (by k_is))
    (case kv_NoCount => first | k_is | k_exc | kit_is | exact PySem.W.exm_ref (by k_is) (by k_is) (by k_is) (by k_is))
    (case k1_NoCount => first | k_is | k_exc | kit_is | exact PySem.W.exm_ref (by k_is) (by k_is) (by k_is) (by k_is))
    (case k2_NoCount => first | k_is | k_exc | kit_is | exact PySem.W.exm_ref (by k_is) (by k_is) (by k_is) (by k_is))
    (case k3_NoCount => first | k_is | k_exc | kit_is | exact PySem.W.exm_ref (by k_is) (by k_is) (by k_is) (by k_is))
    (case k4_NoCount => first | k_is | k_exc | kit_is | exact PySem.W.exm_ref (by k_is) (by k_is) (by k_is) (by k_is))
    (case k5_NoCount => first | k_is | k_exc | kit_is | exact PySem.W.exm_ref (by k_is) (by k_is) (by k_is) (by k_is))
    (case k6_NoCount => first | k_is | k_exc | kit_is | exact PySem.W.exm_ref (by k_is) (by k_is) (by k_is) (by k_is))
    (case kn_NoTrain => first | k_is | k_exc | kit_is | exact PySem.W.exm_ref (by k_is) (by k_is) (by k_is) (by k_is))
    (case kn_NoStand => first | k_is | k_exc | kit_is | exact PySem.W.exm_ref (by k_is) (by k_is) (by k_is) (by k_is))
    (case kn_NoRow => first | k_is | k_exc | kit_is | exact PySem.W.exm_ref (by k_is) (by k_is) (by k_is) (by k_is))
    (case kn_NoCount => first | k_is | k_exc | kit_is | exact PySem.W.exm_ref (by k_is) (by k_is) (by k_is) (by k_is))
    (case kn_TooMany => first | k_is | k_exc | kit_is | exact PySem.W.exm_ref (by k_is) (by k_is) (by k_is) (by k_is))
    (case kn_NoText => first | k_is | k_exc | kit_is | exact PySem.W.exm_ref (by k_is) (by k_is) (by k_is) (by k_is))
    (case tb_fed => first | kernel_rfl | rfl)
    (case tb_check_shows => first | kernel_rfl | rfl)
    (case tb_tells_wheel => first | kernel_rfl | rfl)
    (case tb_teeth_of => first | kernel_rfl | rfl)
