import PyProof.Rows.All
import Wide.All
import OpenK.AllK
import Wide.FinOn
import HandS.ForMost
import HandS.Wide
import HandS.IsInst
import HandS.Walk
import HandS.Star
import HandS.TupAny
import HandS.Style
import HandS.Deep
import KE.GoesNew
import KE.KDictDisplayH
import KE.KDictKeyed
import KE.KeyNested
import KE.SortData
import HandS.TupSets
import KE.KSetInts
import HandS.SetKeys
import HandS.SetBool
import HandS.Strs
import HandS.SortInts
import HandS.GenList
import HandS.AnyAll
import HandS.EndBits
import KE.KDictKeyed
import KE.KeyNested
import KE.KDictCopyH
import HandS.DictTup
import HandS.DictComp
import HandS.Rev
import PySem.Challenge.RW_clicktrain_k18_whole_trains_alike
set_option Elab.async false
set_option linter.all false
set_option maxRecDepth 100000
set_option maxHeartbeats 4000000
namespace Ct
open PySem PySem.Spec PyProof.Rows L2
/-! walking a reading, construct by construct -/
section
variable {K : PySem.W.Frag} {H : Hp} {σ : L2.St} {D : Ends} {Q : VK} {QB : Bool → Hp → Prop} {QA : List V → Hp → Prop} {QS : L2.St → Hp → Prop}
theorem w_seq {t u : TS} (h : t { D with nx := u D } σ H) : tSeq t u D σ H := h
theorem w_join {t u : TS} (J : L2.St → Hp → Prop) (h1 : ∀ σ' H', J σ' H' → u D σ' H') (h2 : ∀ N : L2.St → Hp → Prop, (∀ σ' H', J σ' H' → N σ' H') → t { D with nx := N } σ H) : tSeq t u D σ H := h2 (u D) h1
theorem w_asg {te : TE} {g : TG} (h : te σ H fun x H1 => g x σ H1 D.nx) : tAsg te g D σ H := h
theorem w_ret {te : TE} (h : te σ H D.rt) : tRet te D σ H := h
theorem w_ifS {c : TT} {t u : TS} (h : c σ H fun b H1 => if b = true then t D σ H1 else u D σ H1) : tIfS c t u D σ H := h
theorem w_drop {te : TE} (h : te σ H fun _ H1 => D.nx σ H1) : tDrop te D σ H := h
theorem w_next (h : D.nx σ H) : tNext D σ H := h
theorem w_var {i : Nat} {v : V} (e : σ[i]? = some (some v)) (h : Q v H) : tVar i σ H Q := ⟨v, e, h⟩
theorem w_c {v : V} (h : Q v H) : tC v σ H Q := h
theorem w_op {r : R2} {ta tb : TE} (h : ta σ H fun x H1 => tb σ H1 fun y H2 => r x y H2 Q) : tOp r ta tb σ H Q := h
theorem w_chain {r r' : R2} {ta tb tc : TE} (h : ta σ H fun x H1 => tb σ H1 fun y H2 => r x y H2 fun z H3 => ∃ k, z = .bl k ∧ (if k = true then tc σ H3 fun w' H4 => r' y w' H4 Q else Q (.bl false) H3)) : tChain r r' ta tb tc σ H Q := h
theorem w_un {r : V → Hp → VK → Prop} {ta : TE} (h : ta σ H fun x H1 => r x H1 Q) : tUn r ta σ H Q := h
theorem w_test {t : TE} (h : t σ H fun x H' => ∃ k, x = .bl k ∧ QB k H') : tTest t σ H QB := h
theorem w_B {t : TE} (h : t σ H fun x H' => ∃ k, x = .bl k ∧ QB k H') : tB t σ H QB := h
theorem w_and {t u : TT} (h : t σ H fun c H1 => if c = true then u σ H1 QB else QB false H1) : tAnd t u σ H QB := h
theorem w_or {t u : TT} (h : t σ H fun c H1 => if c = true then QB true H1 else u σ H1 QB) : tOr t u σ H QB := h
theorem w_not {t : TT} (h : t σ H fun c H1 => QB (!c) H1) : tNot t σ H QB := h
theorem w_if {t : TT} {ta tb : TE} (h : t σ H fun c H1 => if c = true then ta σ H1 Q else tb σ H1 Q) : tIf t ta tb σ H Q := h
theorem w_nil (h : QA [] H) : tNil σ H QA := h
theorem w_cons {ta : TE} {tr : TA} (h : ta σ H fun x H1 => tr σ H1 fun xs H2 => QA (x :: xs) H2) : tCons ta tr σ H QA := h
theorem w_cb {r : List V → Hp → VK → Prop} {t : TA} (h : t σ H fun vs H1 => r vs H1 Q) : tCB r t σ H Q := h
theorem w_call {sp : Sp} {dvs : List V} {E : XK} {t : TA} (h : t σ H fun vs H1 => sp (vs ++ dvs) H1 Q E) : tCall sp dvs E t σ H Q := h
theorem w_name {i : Nat} {v : V} {σ' : L2.St} (e : σ.set i (some v) = σ') (h : QS σ' H) : gName i v σ H QS := by
  unfold gName
  rw [e]
  exact h
theorem w_rI {C : Int → Int → Prop} {g : Int → Int → V} {i j : Int} (c : C i j) (h : Q (g i j) H) : rI C g (.int i) (.int j) H Q := ⟨i, j, rfl, rfl, c, h⟩
theorem w_rI0 {g : Int → Int → V} {i j : Int} (h : Q (g i j) H) : rI0 g (.int i) (.int j) H Q := ⟨i, j, rfl, rfl, h⟩
theorem w_rU {g : Int → V} {i : Int} (h : Q (g i) H) : rU g (.int i) H Q := ⟨i, rfl, h⟩
theorem w_rEqI {i j : Int} (h : Q (.bl (decide (i = j))) H) : rEq (.int i) (.int j) H Q := by
  refine ⟨rfl, ?_⟩
  rw [show decide (V.int i = V.int j) = decide (i = j) from by
    by_cases e : i = j
    · subst e
      rw [decide_eq_true rfl, decide_eq_true rfl]
    · rw [decide_eq_false e, decide_eq_false fun z => e (V.int.inj z)]]
  exact h
theorem w_rNeI {i j : Int} (h : Q (.bl (!decide (i = j))) H) : rNe (.int i) (.int j) H Q := by
  refine ⟨rfl, ?_⟩
  rw [show decide (V.int i = V.int j) = decide (i = j) from by
    by_cases e : i = j
    · subst e
      rw [decide_eq_true rfl, decide_eq_true rfl]
    · rw [decide_eq_false e, decide_eq_false fun z => e (V.int.inj z)]]
  exact h
theorem w_rEqS {x y : Str} {b : Bool} (e : decide (V.str x = V.str y) = b) (h : Q (.bl b) H) : rEq (.str x) (.str y) H Q := by
  refine ⟨rfl, ?_⟩
  rw [e]
  exact h
theorem w_bl {b : Bool} {QP : Bool → Prop} (h : QP b) : ∃ k, V.bl b = .bl k ∧ QP k := ⟨b, rfl, h⟩
theorem w_in {i : Int} {QP : Int → Prop} (h : QP i) : ∃ k, V.int i = .int k ∧ QP k := ⟨i, rfl, h⟩
theorem w_ixT {p : Addr} {xs : List V} {i : Int} {v : V} (h : SqT K H p xs) (e : atI xs i = some v) (q : Q v H) : rIxT K (.ref p) (.int i) H Q := ⟨p, xs, i, v, rfl, rfl, h, e, q⟩
theorem w_ixL {p : Addr} {xs : List V} {i : Int} {v : V} (h : SqL K H p xs) (e : atI xs i = some v) (q : Q v H) : rIxL K (.ref p) (.int i) H Q := ⟨p, xs, i, v, rfl, rfl, h, e, q⟩
theorem w_tup {t : TA} (h : t σ H fun xs H1 => xs.length ≤ sizeLine ∧ ∀ p, H1 p = none → Q (.ref p) (upd H1 p (.tup xs))) : tTup t σ H Q := h
theorem w_lst {t : TA} (h : t σ H fun xs H1 => xs.length ≤ sizeLine ∧ ∀ p, H1 p = none → Q (.ref p) (upd H1 p (.lst xs))) : tLst t σ H Q := h
theorem w_bm {T : String} {r : V → List V → Hp → VK → Prop} {to : TE} {t : TA} (h : to σ H fun x H1 => tyV K T x H1 ∧ t σ H1 fun xs H2 => r x xs H2 Q) : tBM K T r to t σ H Q := h
theorem w_inT {p : Addr} {x : Int} {ns : List Int} (h : SqT K H p (ns.map V.int)) (q : Q (.bl (decide (x ∈ ns))) H) : rIn K false (.int x) (.ref p) H Q := by
  refine ⟨p, ns.map V.int, rfl, .inr h, rfl, ?_, ?_⟩
  · rw [List.all_map]
    exact List.all_eq_true.mpr fun _ _ => rfl
  · rw [if_neg Bool.false_ne_true]
    rw [show inV (.int x) (ns.map V.int) = decide (x ∈ ns) from by
      unfold inV
      rw [List.any_map]
      by_cases e : x ∈ ns
      · rw [decide_eq_true e, List.any_eq_true]
        exact ⟨x, e, by show (x == x) = true; exact beq_self_eq_true x⟩
      · rw [decide_eq_false e, List.any_eq_false]
        intro y hy
        show ¬ (y == x) = true
        intro z
        have : y = x := eq_of_beq z
        subst this
        exact e hy]
    exact q
theorem w_break (h : D.bk σ H) : tBreak D σ H := h
theorem w_cont (h : D.ct σ H) : tCont D σ H := h
theorem w_nT {A B : Prop} (h : B) : if (!true) = true then A else B := h
theorem w_nF {A B : Prop} (h : A) : if (!false) = true then A else B := h
theorem w_ite {c A B : Prop} [Decidable c] (h1 : c → A) (h2 : ¬ c → B) : if (decide c) = true then A else B := by
  by_cases h : c
  · rw [if_pos (decide_eq_true h)]
    exact h1 h
  · rw [if_neg (by rw [decide_eq_false h]; exact Bool.false_ne_true)]
    exact h2 h
theorem w_iteN {c A B : Prop} [Decidable c] (h1 : ¬ c → A) (h2 : c → B) : if (!decide c) = true then A else B := by
  by_cases h : c
  · rw [decide_eq_true h]
    exact iteF (h2 h)
  · rw [decide_eq_false h]
    exact iteT (h1 h)
theorem w_st {t : TS} {σ' : L2.St} (e : σ = σ') (h : t D σ' H) : t D σ H := by
  rw [e]
  exact h
end
/-! heaps -/
theorem same_new {H0 H : Hp} {p : Addr} {o : HO} (s : Same H0 H) (h : H0 p = none) : Same H0 (upd H p o) := fun b x e => by
  rw [upd_ne (ne_of_none e h)]
  exact s b x e
theorem same_upd {H : Hp} {p : Addr} {o : HO} (h : H p = none) : Same H (upd H p o) := same_new (Same.refl H) h
theorem Same.tup {K : PySem.W.Frag} {H H' : Hp} {a : Addr} {xs : List V} (e : Same H H') (h : SqT K H a xs) : SqT K H' a xs := by
  rcases h with (h | ⟨o, h⟩) | h
  · exact .inl (.inl (e _ _ h))
  · exact .inl (.inr ⟨o, e _ _ h⟩)
  · exact .inr h
theorem Same.new {H H' : Hp} {p : Addr} (s : Same H H') (h : H' p = none) : H p = none := s.free h
mutual
theorem dp_same {K : PySem.W.Frag} {H H' : Hp} (e : Same H H') : ∀ {v : V} {d : PyData}, Dp K H v d → Dp K H' v d
  | _, _, .non => .non
  | _, _, .bl b => .bl b
  | _, _, .int i => .int i
  | _, _, .str x => .str x
  | _, _, .lst h t => .lst (e.seq h) (dpAll_same e t)
  | _, _, .tup h t => .tup (Same.tup e h) (dpAll_same e t)
theorem dpAll_same {K : PySem.W.Frag} {H H' : Hp} (e : Same H H') : ∀ {vs : List V} {ds : List PyData}, DpAll K H vs ds → DpAll K H' vs ds
  | _, _, .nil => .nil
  | _, _, .cons h t => .cons (dp_same e h) (dpAll_same e t)
end
theorem dpAll_len {K : PySem.W.Frag} {H : Hp} : ∀ {vs : List V} {ds : List PyData}, DpAll K H vs ds → vs.length = ds.length
  | _, _, .nil => rfl
  | _, _, .cons _ t => by rw [List.length_cons, List.length_cons, dpAll_len t]
theorem dpAll_get {K : PySem.W.Frag} {H : Hp} : ∀ {vs : List V} {ds : List PyData} {i : Nat} {d : PyData}, DpAll K H vs ds → ds[i]? = some d → ∃ v, vs[i]? = some v ∧ Dp K H v d
  | _, _, _, _, .nil, e => by simp at e
  | _, _, 0, _, .cons h _, e => by
    cases (Option.some.inj e)
    exact ⟨_, rfl, h⟩
  | _, _, i + 1, _, .cons _ t, e => dpAll_get (i := i) t e
theorem dpAll_ints {K : PySem.W.Frag} {H : Hp} : ∀ (ns : List Int), DpAll K H (ns.map V.int) (ns.map PyData.int)
  | [] => .nil
  | n :: r => .cons (.int n) (dpAll_ints r)
theorem dpAll_ints_inv {K : PySem.W.Frag} {H : Hp} : ∀ {vs : List V} (ns : List Int), DpAll K H vs (ns.map PyData.int) → vs = ns.map V.int
  | _, [], .nil => rfl
  | _, n :: r, .cons (.int _) t => by rw [dpAll_ints_inv r t, List.map_cons]
theorem dpAll_app {K : PySem.W.Frag} {H : Hp} : ∀ {vs ws : List V} {ds es : List PyData}, DpAll K H vs ds → DpAll K H ws es → DpAll K H (vs ++ ws) (ds ++ es)
  | _, _, _, _, .nil, h => h
  | _, _, _, _, .cons a t, h => .cons a (dpAll_app t h)
theorem ix_at {n j : Nat} {k : Int} (e : k = (j : Int)) (h : j < n) : ixN n k = some j := by
  subst e
  unfold ixN
  rw [if_pos (Int.natCast_nonneg j), if_pos (by omega)]
  rfl
theorem cutV_map (ms : List Int) (lo hi : Option Int) : cutV (ms.map V.int) lo hi = ((ms.drop (HT.sIx ms.length 0 lo)).take (HT.sIx ms.length ms.length hi - HT.sIx ms.length 0 lo)).map V.int := by
  unfold cutV
  rw [List.length_map, List.map_take, List.map_drop]
theorem at0 {x : V} {r : List V} : atI (x :: r) 0 = some x := atI_nat (xs := x :: r) (j := 0) rfl
theorem at1 {x y : V} {r : List V} : atI (x :: y :: r) 1 = some y := atI_nat (xs := x :: y :: r) (j := 1) rfl
theorem at2 {x y z : V} {r : List V} : atI (x :: y :: z :: r) 2 = some z := atI_nat (xs := x :: y :: z :: r) (j := 2) rfl
theorem len2 {n : Nat} (h : Nat.ble n sizeLine = true) : n ≤ sizeLine := Nat.le_of_ble_eq_true h
/-! sizes of numbers -/
theorem div_ok {i j : Int} (h : 0 < j) (h2 : j < 2 ^ 250) : CDivW i j := wide_div (b := 250) h (by omega) (by decide) (by decide)
theorem mul_ok {i j : Int} (h1 : -(2 ^ 250) < i) (h2 : i < 2 ^ 250) (h3 : -(2 ^ 250) < j) (h4 : j < 2 ^ 250) : CMulW i j := wide_mul (a := 250) (b := 250) (by omega) (by omega) (by decide) (by decide) (by decide)
/-- a power whose bits are few -/
def CPowB (i j : Int) : Prop := 0 ≤ j ∧ (Builtin.Int.intBits i : Int) * j ≤ 2 ^ 27
theorem op_powB {X : Cx} : OpR X (binaryOp .Pow) (rI CPowB fun i j => .int (i ^ j.toNat)) := opI fun _ _ _ _ _ _ _ hc q => pow_int hc.1 hc.2 q
/-! loops, targets, stores -/
section
variable {K : PySem.W.Frag} {H : Hp} {σ : L2.St} {D : Ends} {Q : VK} {QA : List V → Hp → Prop} {QS : L2.St → Hp → Prop} {R : It → Hp → Prop}
def FB (J : It) (g : TG) (tb : TS) (D : Ends) (σ : L2.St) (H : Hp) : Prop := tFor (fun _ H R => R J H) g tb D σ H
theorem w_for {wi : TI} {g : TG} {tb : TS} (h : wi σ H fun J H1 => FB J g tb D σ H1) : tFor wi g tb D σ H := h
def RG1 (vs : List V) (H : Hp) (R : It → Hp → Prop) : Prop := iRng1 (fun _ H Q => Q vs H) [] H R
def RG2 (vs : List V) (H : Hp) (R : It → Hp → Prop) : Prop := iRng2 (fun _ H Q => Q vs H) [] H R
theorem w_rng1 {ta : TA} (h : ta σ H fun vs H1 => RG1 vs H1 R) : iRng1 ta σ H R := h
theorem w_rng2 {ta : TA} (h : ta σ H fun vs H1 => RG2 vs H1 R) : iRng2 ta σ H R := h
theorem w_RG1 {j : Int} (h1 : -(2 ^ 62) ≤ j) (h2 : j < 2 ^ 62) (h : R (Itr 0 j.toNat) H) : RG1 [.int j] H R := ⟨j, rfl, h1, h2, h⟩
theorem w_RG2 {i j : Int} (h1 : -(2 ^ 62) ≤ i) (h2 : i < 2 ^ 62) (h3 : -(2 ^ 62) ≤ j) (h4 : j < 2 ^ 62) (h : R (Itr i (j - i).toNat) H) : RG2 [.int i, .int j] H R := ⟨i, j, rfl, ⟨h1, h2, h3, h4⟩, h⟩
def IL (K : PySem.W.Frag) (v : V) (H : Hp) (R : It → Hp → Prop) : Prop := iList K (tC v) [] H R
def IT (K : PySem.W.Frag) (v : V) (H : Hp) (R : It → Hp → Prop) : Prop := iTup K (tC v) [] H R
theorem w_ilist {tl : TE} (h : tl σ H fun v H1 => IL K v H1 R) : iList K tl σ H R := h
theorem w_itup {tl : TE} (h : tl σ H fun v H1 => IT K v H1 R) : iTup K tl σ H R := h
theorem w_IL {a : Addr} {xs : List V} (h : SqL K H a xs) (q : R (Itl K a) H) : IL K (.ref a) H R := ⟨a, rfl, ⟨xs, h⟩, q⟩
theorem w_IT {a : Addr} {xs : List V} (h : SqT K H a xs) (q : R (Itt K a) H) : IT K (.ref a) H R := ⟨a, rfl, ⟨xs, h⟩, q⟩
theorem fb_range {lo : Int} {n : Nat} {g : TG} {tb : TS} (Pv : Nat → L2.St → Hp → Prop) (h0 : Pv 0 σ H)
    (hs : ∀ i σ H, i < n → Pv i σ H → g (.int (lo + i)) σ H fun σ2 H2 => tb { D with nx := Pv (i + 1), ct := Pv (i + 1), bk := D.nx } σ2 H2) (hd : ∀ σ H, Pv n σ H → D.nx σ H) : FB (Itr lo n) g tb D σ H := for_range Pv h0 hs hd
theorem fb_list {a : Addr} (xs : List V) {g : TG} {tb : TS} (Pv : Nat → L2.St → Hp → Prop) (h0 : Pv 0 σ H) (hl : ∀ i σ H, i ≤ xs.length → Pv i σ H → SqL K H a xs)
    (hs : ∀ i x σ H, xs[i]? = some x → Pv i σ H → g x σ H fun σ2 H2 => tb { D with nx := Pv (i + 1), ct := Pv (i + 1), bk := D.nx } σ2 H2) (hd : ∀ σ H, Pv xs.length σ H → D.nx σ H) : FB (Itl K a) g tb D σ H := for_list Pv h0 hl hs hd
theorem fb_tup {a : Addr} (xs : List V) {g : TG} {tb : TS} (Pv : Nat → L2.St → Hp → Prop) (h0 : Pv 0 σ H) (hl : ∀ i σ H, i ≤ xs.length → Pv i σ H → SqT K H a xs)
    (hs : ∀ i x σ H, xs[i]? = some x → Pv i σ H → g x σ H fun σ2 H2 => tb { D with nx := Pv (i + 1), ct := Pv (i + 1), bk := D.nx } σ2 H2) (hd : ∀ σ H, Pv xs.length σ H → D.nx σ H) : FB (Itt K a) g tb D σ H := for_tup Pv h0 hl hs hd
def LB (J : It) (g : TG) (tt : TT) (te : TE) (vs : List Nat) (σ : L2.St) (H : Hp) (Q : VK) : Prop := tLc (fun _ H R => R J H) g tt te vs σ H Q
theorem w_lc {wi : TI} {g : TG} {tt : TT} {te : TE} {vs : List Nat} (h : wi σ H fun J H1 => LB J g tt te vs σ H1 Q) : tLc wi g tt te vs σ H Q := h
theorem lb_range {lo : Int} {n : Nat} {g : TG} {tt : TT} {te : TE} {vs : List Nat} (Pv : Addr → Nat → Hp → Prop) (h0 : ∀ D, H D = none → Pv D 0 (upd H D (.lst [])))
    (hs : ∀ D, H D = none → ∀ i H1, i < n → Pv D i H1 → g (.int (lo + i)) (wipe σ vs) H1 fun σ2 H2 => wipe σ2 vs = wipe σ vs ∧ tt σ2 H2 fun b H3 =>
      if b = true then te σ2 H3 fun y H4 => ∃ acc, H4 D = some (.lst acc) ∧ acc.length < sizeLine ∧ Pv D (i + 1) (upd H4 D (.lst (acc ++ [y]))) else Pv D (i + 1) H3) (hd : ∀ D, H D = none → ∀ H1, Pv D n H1 → Q (.ref D) H1) : LB (Itr lo n) g tt te vs σ H Q :=
  fun D hD => lc_range (Pv D) (h0 D hD) (hs D hD) (hd D hD)
theorem lb_list {a : Addr} (xs : List V) {g : TG} {tt : TT} {te : TE} {vs : List Nat} (Pv : Addr → Nat → Hp → Prop) (h0 : ∀ D, H D = none → Pv D 0 (upd H D (.lst []))) (hl : ∀ D, H D = none → ∀ i H1, i ≤ xs.length → Pv D i H1 → SqL K H1 a xs)
    (hs : ∀ D, H D = none → ∀ i x H1, xs[i]? = some x → Pv D i H1 → g x (wipe σ vs) H1 fun σ2 H2 => wipe σ2 vs = wipe σ vs ∧ tt σ2 H2 fun b H3 =>
      if b = true then te σ2 H3 fun y H4 => ∃ acc, H4 D = some (.lst acc) ∧ acc.length < sizeLine ∧ Pv D (i + 1) (upd H4 D (.lst (acc ++ [y]))) else Pv D (i + 1) H3) (hd : ∀ D, H D = none → ∀ H1, Pv D xs.length H1 → Q (.ref D) H1) : LB (Itl K a) g tt te vs σ H Q :=
  fun D hD => lc_list (Pv D) (h0 D hD) (hl D hD) (hs D hD) (hd D hD)
def IE (K : PySem.W.Frag) (vs : List V) (H : Hp) (R : It → Hp → Prop) : Prop := iEnum K (fun _ H Q => Q vs H) [] H R
theorem w_enum {ta : TA} (h : ta σ H fun vs H1 => IE K vs H1 R) : iEnum K ta σ H R := h
theorem w_IE {a : Addr} {xs : List V} (h : SqL K H a xs) (q : R (Ite K a) H) : IE K [.ref a] H R := ⟨a, xs, rfl, h, q⟩
theorem lb_enum {a : Addr} (xs : List V) {g : TG} {tt : TT} {te : TE} {vs : List Nat} (Pv : Addr → Nat → Hp → Prop) (h0 : ∀ D, H D = none → Pv D 0 (upd H D (.lst []))) (hl : ∀ D, H D = none → ∀ i H1, i ≤ xs.length → Pv D i H1 → SqL K H1 a xs)
    (hs : ∀ D, H D = none → ∀ i v T H1, xs[i]? = some v → Pv D i H1 → H1 T = none → g (.ref T) (wipe σ vs) (upd H1 T (.tup [.int (i : Nat), v])) fun σ2 H2 => wipe σ2 vs = wipe σ vs ∧ tt σ2 H2 fun b H3 =>
      if b = true then te σ2 H3 fun y H4 => ∃ acc, H4 D = some (.lst acc) ∧ acc.length < sizeLine ∧ Pv D (i + 1) (upd H4 D (.lst (acc ++ [y]))) else Pv D (i + 1) H3) (hd : ∀ D, H D = none → ∀ H1, Pv D xs.length H1 → Q (.ref D) H1) : LB (Ite K a) g tt te vs σ H Q :=
  fun D hD => lc_it (walk_enum (xs := xs)) (Pv D) (h0 D hD) (hl D hD) (fun i x H1 H2 _ p y => by
    obtain ⟨T, u, v, rfl, hT, rfl, e1, e2⟩ := y
    cases Option.some.inj e1
    exact hs D hD i v T H1 e2 p hT) (hd D hD)
theorem w_yes {QB : Bool → Hp → Prop} (h : QB true H) : tYes σ H QB := h
theorem w_gtup {n : Nat} {t : TGs} {a : Addr} {xs : List V} (h : SqT K H a xs) (e : xs.length = n) (q : t xs σ H QS) : gTup K n t (.ref a) σ H QS := ⟨a, xs, rfl, h, e, q⟩
theorem w_gcons {t : TG} {u : TGs} {v : V} {r : List V} (h : t v σ H fun σ' H' => u r σ' H' QS) : gCons t u (v :: r) σ H QS := ⟨v, r, rfl, h⟩
theorem w_gnil (h : QS σ H) : gNil [] σ H QS := ⟨rfl, h⟩
theorem w_gsub {to ti : TE} {t : TSet} {v : V} (h : to σ H fun o H1 => ti σ H1 fun i H2 => t o i v H2 fun H3 => QS σ H3) : gSub to ti t v σ H QS := h
theorem w_setL {p : Addr} {xs : List V} {k : Int} {j : Nat} {v : V} {QH : Hp → Prop} (h : H p = some (.lst xs)) (e : ixN xs.length k = some j) (q : QH (upd H p (.lst (xs.set j v)))) : rSetL (.ref p) (.int k) v H QH := ⟨p, xs, k, j, rfl, rfl, h, e, q⟩
theorem w_aug {i : Nat} {te : TE} {ti : TIp} {x : V} (e : σ[i]? = some (some x)) (h : te σ H fun y H1 => ti x y H1 fun z H2 => D.nx (σ.set i (some z)) H2) : tAug i te ti D σ H := ⟨x, e, h⟩
theorem w_ipI {f : Int → Int → Int} {i j : Int} (h : Q (.int (f i j)) H) : ipI f (.int i) (.int j) H Q := ⟨i, j, rfl, rfl, h⟩
theorem w_append {l : Addr} {xs : List V} {y : V} (h : H l = some (.lst xs)) (hl : xs.length < sizeLine) (q : Q .non (upd H l (.lst (xs ++ [y])))) : rAppend (.ref l) [y] H Q := ⟨l, xs, y, rfl, rfl, h, hl, q⟩
theorem ty_list {l : Addr} {xs : List V} (h : H l = some (.lst xs)) : tyV K "list" (.ref l) H := .inl ⟨rfl, _, .inl (.inl h)⟩
theorem w_mod {i j : Int} (h : 0 < j) (q : ∀ r, 0 ≤ r → r < j → Q (.int r) H) : rI (fun _ j => 0 < j) (fun i j => .int (i % j)) (.int i) (.int j) H Q :=
  ⟨i, j, rfl, rfl, h, q _ (Int.emod_nonneg _ (by omega)) (Int.emod_lt_of_pos _ h)⟩
theorem w_div {i j : Int} (h : CDivW i j) (q : ∀ r, Q (.int r) H) : rI CDivW (fun i j => .int (i / j)) (.int i) (.int j) H Q := ⟨i, j, rfl, rfl, h, q _⟩
theorem w_rIv {C : Int → Int → Prop} {g : Int → Int → V} {i j : Int} (v : V) (c : C i j) (e : g i j = v) (h : Q v H) : rI C g (.int i) (.int j) H Q := ⟨i, j, rfl, rfl, c, by rw [e]; exact h⟩
theorem w_isi {x : V} {n : String} {t : Value} {b : Bool} (ty : TyX K H x t) (k : PySem.W.kitOne K t (.type n) = some b) (q : Q (.bl b) H) : rIsi K [x, .ty n] H Q := ⟨x, .ty n, t, .type n, b, rfl, .ty n, ty, k, q⟩
theorem w_andV {ta tb : TE} (h : ta σ H fun x H1 => ∃ c, x = .bl c ∧ if c = true then tb σ H1 Q else Q (.bl false) H1) : tAndV ta tb σ H Q := h
theorem w_orV {ta tb : TE} (h : ta σ H fun x H1 => ∃ c, x = .bl c ∧ if c = true then Q (.bl true) H1 else tb σ H1 Q) : tOrV ta tb σ H Q := h
theorem w_notV {ta : TE} (h : ta σ H fun x H1 => ∃ c, x = .bl c ∧ Q (.bl (!c)) H1) : tNotV ta σ H Q := h
theorem w_slL {a : Addr} {xs : List V} {lo hi : Option Int} (h : SqL K H a xs) (q : ∀ p, H p = none → Q (.ref p) (upd H p (.lst (cutV xs lo hi)))) : rSlL K (.ref a) lo hi H Q := ⟨a, xs, rfl, h, q⟩
theorem w_sl {r : V → Option Int → Option Int → Hp → VK → Prop} {te : TE} {tl th : TO} (h : te σ H fun x H1 => tl σ H1 fun l H2 => th σ H2 fun u H3 => r x l u H3 Q) : tSl r te tl th σ H Q := h
theorem w_nopart {QO : Option Int → Hp → Prop} (h : QO none H) : tNoPart σ H QO := h
theorem w_part {QO : Option Int → Hp → Prop} {t : TE} (h : t σ H fun x H1 => ∃ i, x = .int i ∧ QO (some i) H1) : tPart t σ H QO := h
end
end Ct

namespace Ct
open PySem PySem.Spec PyProof.Rows L2
/-! parts, stands, what a push does -/
inductive Part where
  | wheel (z : Int) (ms : List Int) | click | rocker | spring (k : Int)
def Part.data : Part → PyData
  | .wheel z ms => .tuple [.str "wheel", .int z, .tuple (ms.map PyData.int)]
  | .click => .tuple [.str "click"]
  | .rocker => .tuple [.str "rocker"]
  | .spring k => .tuple [.str "spring", .int k]
def Part.places : Part → Int
  | .wheel z _ => z
  | .click => 1
  | .rocker => 2
  | .spring k => k
def Rise (z : Int) (ms : List Int) : Prop := ms.Pairwise (· < ·) ∧ ∀ m ∈ ms, 0 ≤ m ∧ m < z
def Part.ok : Part → Prop
  | .wheel z ms => 1 ≤ z ∧ z < 2 ^ 200 ∧ Rise z ms ∧ ms.length ≤ 1000
  | .click => True
  | .rocker => True
  | .spring k => 1 ≤ k ∧ k < 2 ^ 200
theorem Part.ok.pos {p : Part} (h : p.ok) : 1 ≤ p.places ∧ p.places < 2 ^ 200 := by
  cases p with
  | wheel z ms => exact ⟨h.1, h.2.1⟩
  | click => exact ⟨by decide, by decide⟩
  | rocker => exact ⟨by decide, by decide⟩
  | spring k => exact h
/-- the new place and what is given -/
def pp : Part → Int → Int → Int × Int
  | .wheel z ms, x, w => ((x + w) % z, if (if w = 1 then (x + w) % z else x) ∈ ms then w else 0)
  | .click, _, w => (0, if w = 1 then 1 else 0)
  | .rocker, x, w => (if w = 1 then 1 else 0, if w = 1 ∧ x = 0 then 1 else 0)
  | .spring k, x, w => if w = 1 then (if x = k - 1 then (0, 1) else (x + 1, 0)) else (if x - 1 > 0 then x - 1 else 0, 0)
def stands : List Part → Int
  | [] => 1
  | p :: r => p.places * stands r
def Sign (w : Int) : Prop := w = 1 ∨ w = -1
theorem pp_sign (p : Part) (x w : Int) (h : Sign w) : (pp p x w).2 = 0 ∨ Sign (pp p x w).2 := by
  cases p with
  | wheel z ms =>
    by_cases e : (if w = 1 then (x + w) % z else x) ∈ ms
    · rw [show (pp (.wheel z ms) x w).2 = w from if_pos e]
      exact .inr h
    · exact .inl (if_neg e)
  | click =>
    show (if w = 1 then (1 : Int) else 0) = 0 ∨ Sign (if w = 1 then (1 : Int) else 0)
    split
    · exact .inr (.inl rfl)
    · exact .inl rfl
  | rocker =>
    show (if w = 1 ∧ x = 0 then (1 : Int) else 0) = 0 ∨ Sign (if w = 1 ∧ x = 0 then (1 : Int) else 0)
    split
    · exact .inr (.inl rfl)
    · exact .inl rfl
  | spring k =>
    show (if w = 1 then (if x = k - 1 then ((0 : Int), (1 : Int)) else (x + 1, 0)) else (if x - 1 > 0 then x - 1 else 0, 0)).2 = 0 ∨ Sign (if w = 1 then (if x = k - 1 then ((0 : Int), (1 : Int)) else (x + 1, 0)) else (if x - 1 > 0 then x - 1 else 0, 0)).2
    split
    · split
      · exact .inr (.inl rfl)
      · exact .inl rfl
    · exact .inl rfl
/-- one part's turn in a push that goes along a train -/
def stp (ps : List Part) (s : List Int × Int) (n : Nat) : List Int × Int :=
  if s.2 = 0 then s else match ps[n]?, s.1[n]? with
    | some p, some x => (s.1.set n (pp p x s.2).1, (pp p x s.2).2)
    | _, _ => s
def runN (ps : List Part) (i : Nat) (s : List Int × Int) : Nat → List Int × Int
  | 0 => s
  | n + 1 => stp ps (runN ps i s n) (i + n)
theorem stp_zero {ps : List Part} {s : List Int × Int} {n : Nat} (h : s.2 = 0) : stp ps s n = s := by
  unfold stp
  rw [if_pos h]
theorem stp_at {ps : List Part} {s : List Int × Int} {n : Nat} {p : Part} {x : Int} (h : s.2 ≠ 0) (hp : ps[n]? = some p) (hx : s.1[n]? = some x) : stp ps s n = (s.1.set n (pp p x s.2).1, (pp p x s.2).2) := by
  unfold stp
  rw [if_neg h, hp, hx]
theorem runN_zero {ps : List Part} {i : Nat} {s : List Int × Int} {n : Nat} (h : (runN ps i s n).2 = 0) : ∀ m, runN ps i s (n + m) = runN ps i s n
  | 0 => rfl
  | m + 1 => by
    show stp ps (runN ps i s (n + m)) _ = _
    rw [runN_zero h m]
    exact stp_zero h
theorem stp_len (ps : List Part) (s : List Int × Int) (n : Nat) : (stp ps s n).1.length = s.1.length := by
  unfold stp
  split
  · rfl
  · split
    · show (s.1.set n _).length = _
      rw [List.length_set]
    · rfl
theorem runN_len (ps : List Part) (i : Nat) (s : List Int × Int) : ∀ n, (runN ps i s n).1.length = s.1.length
  | 0 => rfl
  | n + 1 => by
    show (stp ps _ _).1.length = _
    rw [stp_len, runN_len ps i s n]
theorem stp_other {ps : List Part} {s : List Int × Int} {n m : Nat} (h : n ≠ m) : (stp ps s n).1[m]? = s.1[m]? := by
  unfold stp
  split
  · rfl
  · split
    · show (s.1.set n _)[m]? = _
      rw [List.getElem?_set_ne h]
    · rfl
/-- parts not come to yet stand as they stood -/
theorem runN_ahead (ps : List Part) (i : Nat) (s : List Int × Int) : ∀ n m, i + n ≤ m → (runN ps i s n).1[m]? = s.1[m]?
  | 0, _, _ => rfl
  | n + 1, m, h => by
    show (stp ps _ _).1[m]? = _
    rw [stp_other (by omega), runN_ahead ps i s n m (by omega)]
theorem runN_sign (ps : List Part) (i : Nat) (s : List Int × Int) (h : Sign s.2) : ∀ n, (runN ps i s n).2 = 0 ∨ Sign (runN ps i s n).2
  | 0 => .inr h
  | n + 1 => by
    show (stp ps _ _).2 = 0 ∨ Sign (stp ps _ _).2
    rcases runN_sign ps i s h n with e | e
    · rw [stp_zero e]
      exact .inl e
    · unfold stp
      split
      · rename_i z
        exact .inl z
      · split
        · exact pp_sign _ _ _ e
        · exact .inr e
def StandOk (ps : List Part) (xs : List Int) : Prop := xs.length = ps.length ∧ ∀ (i : Nat) (p : Part) (x : Int), ps[i]? = some p → xs[i]? = some x → 0 ≤ x ∧ x < p.places
def run (ps : List Part) (xs : List Int) (i : Nat) (w : Int) : List Int × Int := runN ps i (xs, w) (ps.length - i)
/-! what stands for a part -/
section
variable {K : PySem.W.Frag} {H : Hp}
theorem tup_inv {v : V} {ds : List PyData} (h : Dp K H v (.tuple ds)) : ∃ a vs, v = .ref a ∧ SqT K H a vs ∧ DpAll K H vs ds := by
  cases h with
  | tup h t => exact ⟨_, _, rfl, h, t⟩
theorem lst_inv {v : V} {ds : List PyData} (h : Dp K H v (.list ds)) : ∃ a vs, v = .ref a ∧ SqL K H a vs ∧ DpAll K H vs ds := by
  cases h with
  | lst h t => exact ⟨_, _, rfl, h, t⟩
theorem wheel_inv {v : V} {z : Int} {ms : List Int} (h : Dp K H v (Part.wheel z ms).data) : ∃ a b, v = .ref a ∧ SqT K H a [.str "wheel", .int z, .ref b] ∧ SqT K H b (ms.map V.int) := by
  obtain ⟨a, vs, rfl, hs, ht⟩ := tup_inv h
  cases ht with
  | cons h1 t1 => cases h1; cases t1 with
    | cons h2 t2 => cases h2; cases t2 with
      | cons h3 t3 =>
        cases t3
        obtain ⟨b, ws, rfl, hb, hw⟩ := tup_inv h3
        cases dpAll_ints_inv ms hw
        exact ⟨a, b, rfl, hs, hb⟩
theorem spring_inv {v : V} {k : Int} (h : Dp K H v (Part.spring k).data) : ∃ a, v = .ref a ∧ SqT K H a [.str "spring", .int k] := by
  obtain ⟨a, vs, rfl, hs, ht⟩ := tup_inv h
  cases ht with
  | cons h1 t1 => cases h1; cases t1 with
    | cons h2 t2 => cases h2; cases t2; exact ⟨a, rfl, hs⟩
theorem click_inv {v : V} (h : Dp K H v Part.click.data) : ∃ a, v = .ref a ∧ SqT K H a [.str "click"] := by
  obtain ⟨a, vs, rfl, hs, ht⟩ := tup_inv h
  cases ht with
  | cons h1 t1 => cases h1; cases t1; exact ⟨a, rfl, hs⟩
theorem rocker_inv {v : V} (h : Dp K H v Part.rocker.data) : ∃ a, v = .ref a ∧ SqT K H a [.str "rocker"] := by
  obtain ⟨a, vs, rfl, hs, ht⟩ := tup_inv h
  cases ht with
  | cons h1 t1 => cases h1; cases t1; exact ⟨a, rfl, hs⟩
theorem wheel_dp {a b : Addr} {z : Int} {ms : List Int} (h : SqT K H a [.str "wheel", .int z, .ref b]) (hb : SqT K H b (ms.map V.int)) : Dp K H (.ref a) (Part.wheel z ms).data :=
  .tup h (.cons (.str _) (.cons (.int _) (.cons (.tup hb (dpAll_ints ms)) .nil)))
theorem spring_dp {a : Addr} {k : Int} (h : SqT K H a [.str "spring", .int k]) : Dp K H (.ref a) (Part.spring k).data := .tup h (.cons (.str _) (.cons (.int _) .nil))
theorem click_dp {a : Addr} (h : SqT K H a [.str "click"]) : Dp K H (.ref a) Part.click.data := .tup h (.cons (.str _) .nil)
theorem rocker_dp {a : Addr} (h : SqT K H a [.str "rocker"]) : Dp K H (.ref a) Part.rocker.data := .tup h (.cons (.str _) .nil)
/-- a train at a: its parts -/
def TrainAt (K : PySem.W.Frag) (H : Hp) (a : Addr) (ps : List Part) : Prop := ∃ vs, SqL K H a vs ∧ DpAll K H vs (ps.map Part.data)
theorem TrainAt.same {H' : Hp} {a : Addr} {ps : List Part} (e : Same H H') (h : TrainAt K H a ps) : TrainAt K H' a ps := by
  obtain ⟨vs, h1, h2⟩ := h
  exact ⟨vs, e.seq h1, dpAll_same e h2⟩
theorem TrainAt.at {a : Addr} {ps : List Part} {vs : List V} (h2 : DpAll K H vs (ps.map Part.data)) {i : Nat} {p : Part} (e : ps[i]? = some p) : ∃ v, vs[i]? = some v ∧ Dp K H v p.data :=
  dpAll_get h2 (by rw [List.getElem?_map, e]; rfl)
end
/-- a list that is changed leaves the parts as they are -/
theorem sqT_upd {K : PySem.W.Frag} {H : Hp} {a l : Addr} {xs ws : List V} {o : HO} (h : SqT K H a xs) (hl : H l = some (.lst ws)) : SqT K (upd H l o) a xs := by
  rcases h with (h | ⟨u, h⟩) | h
  · exact .inl (.inl (by rw [upd_ne (ne_of h hl (by intro z; cases z))]; exact h))
  · exact .inl (.inr ⟨u, by rw [upd_ne (ne_of h hl (by intro z; cases z))]; exact h⟩)
  · exact .inr h
theorem part_upd {K : PySem.W.Frag} {H : Hp} {l : Addr} {ws : List V} {o : HO} {v : V} {p : Part} (h : Dp K H v p.data) (hl : H l = some (.lst ws)) : Dp K (upd H l o) v p.data := by
  cases p with
  | wheel z ms =>
    obtain ⟨a, b, rfl, ha, hb⟩ := wheel_inv h
    exact wheel_dp (sqT_upd ha hl) (sqT_upd hb hl)
  | click =>
    obtain ⟨a, rfl, ha⟩ := click_inv h
    exact click_dp (sqT_upd ha hl)
  | rocker =>
    obtain ⟨a, rfl, ha⟩ := rocker_inv h
    exact rocker_dp (sqT_upd ha hl)
  | spring k =>
    obtain ⟨a, rfl, ha⟩ := spring_inv h
    exact spring_dp (sqT_upd ha hl)
theorem parts_upd {K : PySem.W.Frag} {H : Hp} {l : Addr} {ws : List V} {o : HO} (hl : H l = some (.lst ws)) : ∀ {vs : List V} (ps : List Part), DpAll K H vs (ps.map Part.data) → DpAll K (upd H l o) vs (ps.map Part.data)
  | _, [], .nil => .nil
  | _, p :: r, .cons h t => .cons (part_upd h hl) (parts_upd hl r t)
theorem stands_app : ∀ (ps : List Part) (p : Part), stands (ps ++ [p]) = stands ps * p.places
  | [], p => by
    show p.places * 1 = 1 * p.places
    rw [Int.mul_one, Int.one_mul]
  | a :: r, p => by
    show a.places * stands (r ++ [p]) = a.places * stands r * p.places
    rw [stands_app r p, Int.mul_assoc]
theorem stands_pos : ∀ (ps : List Part), (∀ p ∈ ps, p.ok) → 1 ≤ stands ps
  | [], _ => Int.le_refl _
  | a :: r, h => by
    have h1 := (h a List.mem_cons_self).pos.1
    have h2 := stands_pos r fun p hp => h p (List.mem_cons_of_mem _ hp)
    show 1 ≤ a.places * stands r
    have := Int.mul_le_mul h1 h2 (by decide) (by omega)
    omega
theorem room_step {s pl room most : Int} (hs : 1 ≤ s) (h1 : 1 ≤ pl) (h2 : pl ≤ room) (h : s * room ≤ most) : 1 ≤ room / pl ∧ s * pl * (room / pl) ≤ most := by
  refine ⟨Int.le_ediv_of_mul_le (by omega) (by omega), ?_⟩
  rw [Int.mul_assoc]
  exact Int.le_trans (Int.mul_le_mul_of_nonneg_left (Int.mul_ediv_self_le (by omega)) (by omega)) h
theorem room_end {s room most : Int} (hs : 1 ≤ s) (h1 : 1 ≤ room) (h : s * room ≤ most) : s ≤ most := by
  have := Int.mul_le_mul_of_nonneg_left h1 (show 0 ≤ s by omega)
  omega
/-! data that can be laid -/
theorem canLay_ints : ∀ ns : List Int, PyData.canLayAll0 (ns.map PyData.int) = true
  | [] => rfl
  | n :: r => by
    rw [List.map_cons, PyData.canLayAll0, canLay_ints r]
    rfl
theorem lay_all {n : Nat} : ∀ ds : List PyData, (∀ d ∈ ds, d.canLay0 = true ∧ d.depth ≤ n) → PyData.canLayAll0 ds = true ∧ PyData.depthAll ds ≤ n
  | [], _ => ⟨rfl, Nat.zero_le _⟩
  | d :: r, h => by
    have h1 := h d List.mem_cons_self
    have h2 := lay_all r fun e he => h e (List.mem_cons_of_mem _ he)
    rw [PyData.canLayAll0, PyData.depthAll, h1.1, h2.1]
    exact ⟨rfl, Nat.max_le.mpr ⟨h1.2, h2.2⟩⟩
theorem lay_tup {n : Nat} {ds : List PyData} (h : ∀ d ∈ ds, d.canLay0 = true ∧ d.depth ≤ n) : (PyData.tuple ds).canLay0 = true ∧ (PyData.tuple ds).depth ≤ n + 1 := by
  obtain ⟨h1, h2⟩ := lay_all ds h
  rw [PyData.canLay0, PyData.depth]
  exact ⟨h1, by omega⟩
theorem lay_lst {n : Nat} {ds : List PyData} (h : ∀ d ∈ ds, d.canLay0 = true ∧ d.depth ≤ n) : (PyData.list ds).canLay0 = true ∧ (PyData.list ds).depth ≤ n + 1 := by
  obtain ⟨h1, h2⟩ := lay_all ds h
  rw [PyData.canLay0, PyData.depth]
  exact ⟨h1, by omega⟩
theorem lay_int (n : Nat) (i : Int) : (PyData.int i).canLay0 = true ∧ (PyData.int i).depth ≤ n := ⟨rfl, Nat.zero_le _⟩
theorem lay_str (n : Nat) (x : Str) (h : (PyData.str x).canLay0 = true := by decide +kernel) : (PyData.str x).canLay0 = true ∧ (PyData.str x).depth ≤ n := ⟨h, Nat.zero_le _⟩
theorem lay_ints (ns : List Int) (n : Nat) : ∀ d ∈ ns.map PyData.int, d.canLay0 = true ∧ d.depth ≤ n := fun d hd => by
  obtain ⟨i, _, rfl⟩ := List.mem_map.mp hd
  exact lay_int n i
theorem lay_mono {d : PyData} {n m : Nat} (h : d.canLay0 = true ∧ d.depth ≤ n) (e : n ≤ m) : d.canLay0 = true ∧ d.depth ≤ m := ⟨h.1, Nat.le_trans h.2 e⟩
theorem lay_part (p : Part) : p.data.canLay0 = true ∧ p.data.depth ≤ 2 := by
  cases p with
  | wheel z ms =>
    refine lay_tup (n := 1) fun d hd => ?_
    rcases List.mem_cons.mp hd with rfl | hd
    · exact lay_str _ _
    rcases List.mem_cons.mp hd with rfl | hd
    · exact lay_int _ _
    rcases List.mem_cons.mp hd with rfl | hd
    · exact lay_tup (lay_ints ms 0)
    · cases hd
  | click => exact lay_mono (lay_tup (n := 0) fun d hd => by
      rcases List.mem_cons.mp hd with rfl | hd
      · exact lay_str _ _
      · cases hd) (by decide)
  | rocker => exact lay_mono (lay_tup (n := 0) fun d hd => by
      rcases List.mem_cons.mp hd with rfl | hd
      · exact lay_str _ _
      · cases hd) (by decide)
  | spring k => exact lay_mono (lay_tup (n := 0) fun d hd => by
      rcases List.mem_cons.mp hd with rfl | hd
      · exact lay_str _ _
      rcases List.mem_cons.mp hd with rfl | hd
      · exact lay_int _ _
      · cases hd) (by decide)
theorem lay_train (ps : List Part) : (PyData.list (ps.map Part.data)).canLay0 = true ∧ (PyData.list (ps.map Part.data)).depth ≤ 3 := lay_lst fun d hd => by
  obtain ⟨p, _, rfl⟩ := List.mem_map.mp hd
  exact lay_part p
theorem shaped_of {d : PyData} {n : Nat} (h : d.canLay0 = true ∧ d.depth ≤ n) (e : n ≤ 64) : SeqAt.shaped d = true := by
  unfold SeqAt.shaped
  rw [h.1, decide_eq_true (Nat.le_trans h.2 e)]
  rfl
theorem lay_told (xs : List Int) (y : Int) : (PyData.tuple [.tuple (xs.map PyData.int), .int y]).canLay0 = true ∧ (PyData.tuple [.tuple (xs.map PyData.int), .int y]).depth ≤ 2 := lay_tup (n := 1) fun d hd => by
  rcases List.mem_cons.mp hd with rfl | hd
  · exact lay_tup (lay_ints xs 0)
  rcases List.mem_cons.mp hd with rfl | hd
  · exact lay_int _ _
  · cases hd
theorem w_neSame {K : PySem.W.Frag} {H : Hp} {Q : VK} {x y : V} (d : PyData) {n : Nat} (hx : Dp K H x d) (hy : Dp K H y d) (h : d.canLay0 = true ∧ d.depth ≤ n) (e : n ≤ 64) (q : Q (.bl false) H) : rNeD K x y H Q :=
  ⟨d, d, hx, hy, shaped_of h e, shaped_of h e, by rw [SeqAt.eqv_refl d h.1]; exact q⟩
theorem tyx_T {K : PySem.W.Frag} {H : Hp} {a : Addr} {xs : List V} (h : SqT K H a xs) : TyX K H (.ref a) (.type "tuple") := by
  rcases h with (h | ⟨o, h⟩) | ⟨o, its, n, hk, hc, _⟩
  · exact .base (.tup h)
  · exact .fTuple h
  · exact .kTuple hk hc
theorem tyx_L {K : PySem.W.Frag} {H : Hp} {a : Addr} {xs : List V} (h : SqL K H a xs) : TyX K H (.ref a) (.type "list") := by
  rcases h with (h | ⟨o, h⟩) | ⟨o, its, n, hk, hc, _⟩
  · exact .base (.lst h)
  · exact .base (.frz h)
  · exact .kList hk hc
end Ct

namespace Ct
open PySem PySem.Spec PyProof.Rows L2
/-! zip of a list and a tuple: the list first -/
def ItM (K : PySem.W.Frag) (a b : Addr) : It where
  go := fun i H => ∃ (xs ys : List V) (x y : V), SqL K H a xs ∧ SqT K H b ys ∧ xs[i]? = some x ∧ ys[i]? = some y
  yld := fun i H v H' => ∃ T x y, v = .ref T ∧ H T = none ∧ H' = upd H T (.tup [x, y]) ∧ (∀ xs, SqL K H a xs → xs[i]? = some x) ∧ ∀ ys, SqT K H b ys → ys[i]? = some y
  stop := fun i H => ∃ xs ys : List V, SqL K H a xs ∧ SqT K H b ys ∧ min xs.length ys.length = i
abbrev ZSt (a b z TI TO i1 i2 : Addr) (i : Nat) (h : Heap) : Prop :=
  IsZip h z TI TO .none ∧ IsTupOf2 h TI (.ref i1) (.ref i2) ∧ (∃ a1 a2, IsTupOf2 h TO a1 a2) ∧ h.IsListIter i1 a i ∧ h.IsTupleIter i2 b i
theorem turnM {P : Program} {w : World} {K : PySem.W.Frag} {es : List Expr} {kk : Nat} {tp : Pos} {a b N : Nat} (ha : a < N) (hb : b < N) :
    Turn P w K (.Tuple es kk tp) (ItM K a b) [N + 4, N + 2, N + 3, N, N + 1] (N + 4) (ZSt a b (N + 4) (N + 2) (N + 3) N (N + 1)) := by
  have five : ∀ {c : Nat}, c ∈ [N + 4, N + 2, N + 3, N, N + 1] → N ≤ c := fun {c} hc => by
    simp only [List.mem_cons, List.not_mem_nil, or_false] at hc
    omega
  have sep : ZipSep2 (N + 4) (N + 2) (N + 3) N (N + 1) [N, a] [N + 1, b] := zip_sep2 (fun c hc => by rw [List.mem_singleton] at hc; rw [hc]; exact ha) fun c hc => by rw [List.mem_singleton] at hc; rw [hc]; exact hb
  have wrfp : ∀ {c : Nat}, c ∉ [N + 4, N + 2, N + 3, N, N + 1] → c ∉ [N + 4, N + 3, N, N + 1] := fun {c} hc hm => hc (by
    simp only [List.mem_cons, List.not_mem_nil, or_false] at hm ⊢
    omega)
  refine ⟨List.mem_cons_self, fun i h st c hc => ?_, fun i h h' st k => ?_, ?_, ?_, fun A i s Q E st h => wpAny_pyIter_zip st.1 h⟩
  · obtain ⟨s1, s2, ⟨u, v, s3⟩, ⟨o1, g1, _, d1⟩, ⟨o2, g2, _, d2⟩⟩ := st
    simp only [List.mem_cons, List.not_mem_nil, or_false] at hc
    rcases hc with e | e | e | e | e <;> subst e
    · exact ⟨_, s1, fun v q => nomatch q⟩
    · exact ⟨_, s2, fun v q => nomatch q⟩
    · exact ⟨_, s3, fun v q => nomatch q⟩
    · exact ⟨o1, g1, fun v q => by rw [d1] at q; cases q⟩
    · exact ⟨o2, g2, fun v q => by rw [d2] at q; cases q⟩
  · obtain ⟨s1, s2, ⟨u, v, s3⟩, s4, s5⟩ := st
    exact ⟨k _ (by simp) _ s1, k _ (by simp) _ s2, ⟨u, v, k _ (by simp) _ s3⟩, s4.at fun o q => k N (by simp) o q, s5.at fun o q => k (N + 1) (by simp) o q⟩
  · intro X eP ew eK calm i pins s σ H E I hf st hg
    subst eP ew eK
    obtain ⟨xs, ys, x, y, lx, ty, gx, gy⟩ := hg
    obtain ⟨us, rx, px, _⟩ := I.list lx
    obtain ⟨vs, ry, py, _⟩ := I.tuple ty
    obtain ⟨s1, s2, s3, s4, s5⟩ := st
    have hh : X.A.in1.handled = none := I.ok.hd calm
    have G := GoesN.zip2 (elts := es) (x1 := kk) (pos := tp) sep (Draws.list (prog := X.prog) (w := X.w) hh N a (Nat.ne_of_lt ha) us.toArray) (Draws.tuple (prog := X.prog) (w := X.w) hh (N + 1) b (Nat.ne_of_lt (Nat.lt_succ_of_lt hb)) vs.toArray)
    have lu := rx.length
    have lv := ry.length
    have ix : i < xs.length := (List.getElem?_eq_some_iff.mp gx).1
    have iy : i < ys.length := (List.getElem?_eq_some_iff.mp gy).1
    refine G.goes i s _ E (by rw [List.size_toArray, List.size_toArray]; omega) ⟨s1, s2, s3, ⟨s4, px.isList⟩, ⟨s5, py⟩⟩ fun v h' tk hY st' hk _ => ?_
    obtain ⟨T, u1, u2, rfl, hT, q1, q2, hTu⟩ := hY
    obtain ⟨w1, e1, r1⟩ := rx.get gx
    obtain ⟨w2, e2, r2⟩ := ry.get gy
    have f1 : w1 = u1 := Option.some.inj (e1.symm.trans (by simpa using q1))
    have f2 : w2 = u2 := Option.some.inj (e2.symm.trans (by simpa using q2))
    subst f1 f2
    have new : ObjOk X.prog X.w (upd H T (.tup [x, y])) h' T (.tup [x, y]) := ⟨len2 rfl, [w1, w2], .cons r1 (.cons r2 .nil), hTu⟩
    refine ⟨.ref T, _, I.turnedNew (t' := tk) (fun c o hc e => hk c o (wrfp hc) e) hf hT new, rfl, ⟨T, x, y, rfl, I.hok.fresh hT, rfl, fun l hl => by rw [I.list_inj hl lx]; exact gx, fun l hl => by rw [I.tuple_inj hl ty]; exact gy⟩, ⟨st'.1, st'.2.1, st'.2.2.1, st'.2.2.2.1.1, st'.2.2.2.2.1⟩, fun c hc => ?_⟩
    obtain ⟨o, g, _⟩ : ∃ o, s.heap.get? c = some o ∧ True := by
      obtain ⟨u, v, s3⟩ := s3
      obtain ⟨o1, g1, _⟩ := s4
      obtain ⟨o2, g2, _⟩ := s5
      simp only [List.mem_cons, List.not_mem_nil, or_false] at hc
      rcases hc with e | e | e | e | e <;> subst e
      · exact ⟨_, s1, trivial⟩
      · exact ⟨_, s2, trivial⟩
      · exact ⟨_, s3, trivial⟩
      · exact ⟨_, g1, trivial⟩
      · exact ⟨_, g2, trivial⟩
    rw [upd_ne (Nat.ne_of_lt (Nat.lt_of_lt_of_le (Heap.lt_size g) hT))]
    exact (hf c hc).1
  · intro X eP ew eK calm i pins s σ H E I hf st hg
    subst eP ew eK
    obtain ⟨xs, ys, lx, ty, hm⟩ := hg
    obtain ⟨us, rx, px, _⟩ := I.list lx
    obtain ⟨vs, ry, py, _⟩ := I.tuple ty
    obtain ⟨s1, s2, s3, s4, s5⟩ := st
    have hh : X.A.in1.handled = none := I.ok.hd calm
    have G := GoesN.zip2 (elts := es) (x1 := kk) (pos := tp) sep (Draws.list (prog := X.prog) (w := X.w) hh N a (Nat.ne_of_lt ha) us.toArray) (Draws.tuple (prog := X.prog) (w := X.w) hh (N + 1) b (Nat.ne_of_lt (Nat.lt_succ_of_lt hb)) vs.toArray)
    have lu := rx.length
    have lv := ry.length
    have hn : min us.toArray.size vs.toArray.size = i := by rw [List.size_toArray, List.size_toArray]; omega
    rw [hn] at G
    exact G.stops s _ E ⟨s1, s2, s3, ⟨s4, px.isList⟩, ⟨s5, py⟩⟩ fun h' tk hk _ => I.turnedL (t' := tk) (fun c o hc e => hk c o (wrfp hc) e) hf
def iM (K : PySem.W.Frag) (ta : TA) : TI := fun σ H R => ta σ H fun vs H1 => ∃ a b xs ys, vs = [.ref a, .ref b] ∧ SqL K H1 a xs ∧ SqT K H1 b ys ∧ R (ItM K a b) H1
theorem pi_zipM {X : Cx} {e e2 : Expr} {ta : TA} {p pos tp : Pos} {es : List Expr} {kk : Nat} (gl : Gl X "zip") (mz : X.mg "zip" = none) (pa : PA X [e, e2] ta)
    (se : starEach [e, e2] X.env = (false, eval e X.env) :: starEach [e2] X.env := by rfl) (bk : (backTo pos (starEach [e2] X.env)).any (·.1) = false := by rfl) : PI X (.Tuple es kk tp) (.Call (.Name "zip" p) [e, e2] [] pos) (iM X.K ta) := by
  refine ⟨fun pins s σ H R I h => Call_ (ld_blt I gl mz boot_zip (callWith_type1 (thn (pa.run pos pins s σ H _ I h) fun us s1 ⟨vs, H1, I1, r1, q1⟩ => ?_) se bk))⟩
  obtain ⟨a, b, xs, ys, rfl, lx, ty, q⟩ := q1
  cases r1 with
  | cons ra rr => cases rr with
    | cons rb rn =>
      cases rn
      cases ra
      cases rb
      obtain ⟨us, rx, px, _⟩ := I1.list lx
      obtain ⟨vs, ry, py, _⟩ := I1.tuple ty
      obtain ⟨ob, gb, _⟩ := id py
      refine zip_begins2 (begins_list a us.toArray) (begins_tuple b vs.toArray) px.isList py fun h' z1 z2 z3 g1 g2 _ hk => wpAny_pyIter_zip z1 ?_
      have I2 : Inv X pins σ H1 { s1 with heap := h' } := I1.kept (t' := s1.toks) hk
      refine ⟨_, _, _, _, H1, rfl, I2, turnM px.lt (Heap.lt_size gb), ⟨z1, z2, ⟨_, _, z3⟩, ⟨_, g1, rfl, rfl⟩, ⟨_, g2, rfl, rfl⟩⟩, fun c hc => ?_, q⟩
      have hle : s1.heap.objs.size ≤ c := by
        simp only [List.mem_cons, List.not_mem_nil, or_false] at hc
        rcases hc with e | e | e | e | e <;> subst e <;> first | exact Nat.le_add_right _ _ | exact Nat.le_refl _
      exact I1.fpOk hle (I1.hok.fresh hle)
section
variable {K : PySem.W.Frag} {H : Hp} {σ : L2.St} {D : Ends} {R : It → Hp → Prop}
def IM (K : PySem.W.Frag) (vs : List V) (H : Hp) (R : It → Hp → Prop) : Prop := iM K (fun _ H Q => Q vs H) [] H R
theorem w_im {ta : TA} (h : ta σ H fun vs H1 => IM K vs H1 R) : iM K ta σ H R := h
theorem w_IM {a b : Addr} {xs ys : List V} (h1 : SqL K H a xs) (h2 : SqT K H b ys) (q : R (ItM K a b) H) : IM K [.ref a, .ref b] H R := ⟨a, b, xs, ys, rfl, h1, h2, q⟩
theorem fb_zipM {a b : Addr} (xs ys : List V) (hl : xs.length = ys.length) {g : TG} {tb : TS} (Pv : Nat → L2.St → Hp → Prop) (h0 : Pv 0 σ H) (hq : ∀ i σ H, i ≤ xs.length → Pv i σ H → SqL K H a xs ∧ SqT K H b ys)
    (hs : ∀ i x y T σ H, xs[i]? = some x → ys[i]? = some y → Pv i σ H → H T = none → g (.ref T) σ (upd H T (.tup [x, y])) fun σ2 H2 => tb { D with nx := Pv (i + 1), ct := Pv (i + 1), bk := D.nx } σ2 H2) (hd : ∀ σ H, Pv xs.length σ H → D.nx σ H) : FB (ItM K a b) g tb D σ H := by
  refine ⟨fun i m σ H => m = xs.length - i ∧ i ≤ xs.length ∧ Pv i σ H, ⟨xs.length, rfl, Nat.zero_le _, h0⟩, ?_⟩
  rintro i m σ H ⟨rfl, hi, p⟩
  obtain ⟨q1, q2⟩ := hq i σ H hi p
  by_cases hlt : i < xs.length
  · refine .inr ⟨⟨xs, ys, _, _, q1, q2, List.getElem?_eq_getElem hlt, List.getElem?_eq_getElem (hl ▸ hlt)⟩, Pv (i + 1), fun σ' H' p' => ⟨xs.length - (i + 1), by omega, rfl, hlt, p'⟩, fun v H' y => ?_⟩
    obtain ⟨T, x1, x2, rfl, hT, rfl, f1, f2⟩ := y
    exact hs i x1 x2 T σ H (f1 _ q1) (f2 _ q2) p hT
  · exact .inl ⟨⟨xs, ys, q1, q2, by omega⟩, hd σ H (by rw [show xs.length = i by omega]; exact p)⟩
end
end Ct

namespace Ct
open PySem PySem.Spec PyProof.Rows L2
/-! pushes of one deed, reckoned at once -/
def cnt (ms : List Int) (r : Int) : Int := ((ms.filter fun m => decide (m ≤ r)).length : Int)
theorem cnt_nil (r : Int) : cnt [] r = 0 := rfl
theorem cnt_cons (m : Int) (ms : List Int) (r : Int) : cnt (m :: ms) r = (if m ≤ r then 1 else 0) + cnt ms r := by
  unfold cnt
  rw [List.filter_cons]
  by_cases h : m ≤ r
  · rw [if_pos h, if_pos (decide_eq_true h), List.length_cons]
    omega
  · rw [if_neg h, if_neg (by rw [decide_eq_false h]; exact Bool.false_ne_true)]
    omega
theorem cnt_all : ∀ {ms : List Int} {r : Int}, (∀ m ∈ ms, m ≤ r) → cnt ms r = ms.length
  | [], _, _ => rfl
  | m :: ms, r, h => by
    rw [cnt_cons, if_pos (h m List.mem_cons_self), cnt_all fun x hx => h x (List.mem_cons_of_mem _ hx), List.length_cons]
    omega
theorem cnt_zero : ∀ {ms : List Int} {r : Int}, (∀ m ∈ ms, r < m) → cnt ms r = 0
  | [], _, _ => rfl
  | m :: ms, r, h => by
    have h1 := h m List.mem_cons_self
    rw [cnt_cons, if_neg (by omega), cnt_zero fun x hx => h x (List.mem_cons_of_mem _ hx)]
    rfl
theorem cnt_split : ∀ (ms : List Int) (k : Nat) (r : Int), k ≤ ms.length → (∀ (j : Nat) (m : Int), j < k → ms[j]? = some m → m ≤ r) → (∀ (j : Nat) (m : Int), k ≤ j → ms[j]? = some m → r < m) → cnt ms r = k
  | ms, 0, r, _, _, h => cnt_zero fun m hm => by
    obtain ⟨j, hj, e⟩ := List.mem_iff_getElem.mp hm
    exact h j m (Nat.zero_le _) (by rw [List.getElem?_eq_getElem hj, e])
  | [], k + 1, r, hk, _, _ => absurd hk (by simp)
  | m :: ms, k + 1, r, hk, h1, h2 => by
    rw [cnt_cons, if_pos (h1 0 m (Nat.succ_pos k) rfl), cnt_split ms k r (by rw [List.length_cons] at hk; omega) (fun j x hj hx => h1 (j + 1) x (by omega) hx) fun j x hj hx => h2 (j + 1) x (by omega) hx]
    omega
theorem cnt_step : ∀ {ms : List Int} (r : Int), ms.Pairwise (· < ·) → cnt ms r = cnt ms (r - 1) + (if r ∈ ms then 1 else 0)
  | [], _, _ => rfl
  | m :: ms, r, h => by
    obtain ⟨h1, h2⟩ := List.pairwise_cons.mp h
    have ih := cnt_step r h2
    rw [cnt_cons, cnt_cons, ih]
    by_cases e : r = m
    · subst e
      have hn : r ∉ ms := fun z => by
        have := h1 r z
        omega
      rw [if_neg hn, if_pos List.mem_cons_self, if_pos (Int.le_refl _), if_neg (by omega)]
      omega
    · have hm : (r ∈ m :: ms) ↔ r ∈ ms := ⟨fun z => (List.mem_cons.mp z).resolve_left e, fun z => List.mem_cons_of_mem _ z⟩
      by_cases hr : r ∈ ms
      · rw [if_pos hr, if_pos (hm.mpr hr)]
        by_cases h3 : m ≤ r
        · rw [if_pos h3, if_pos (by omega)]
          omega
        · rw [if_neg h3, if_neg (by omega)]
          omega
      · rw [if_neg hr, if_neg (fun z => hr (hm.mp z))]
        by_cases h3 : m ≤ r
        · rw [if_pos h3, if_pos (by omega)]
          omega
        · rw [if_neg h3, if_neg (by omega)]
          omega
/-- marks up to a tooth, over all turns -/
def mah (z : Int) (ms : List Int) (y : Int) : Int := y / z * (ms.length : Int) + cnt ms (y % z)
theorem mah_step {z : Int} {ms : List Int} (hz : 1 ≤ z) (rs : Rise z ms) (y : Int) : mah z ms y = mah z ms (y - 1) + (if y % z ∈ ms then 1 else 0) := by
  unfold mah
  have e := Int.emod_add_mul_ediv y z
  have r0 := Int.emod_nonneg y (show z ≠ 0 by omega)
  have r1 := Int.emod_lt_of_pos y (show 0 < z by omega)
  by_cases h : y % z = 0
  · obtain ⟨e1, e2⟩ := (Int.ediv_emod_unique (a := y - 1) (b := z) (r := z - 1) (q := y / z - 1) (by omega)).mpr ⟨by rw [Int.mul_sub]; omega, by omega, by omega⟩
    rw [e1, e2, h, cnt_all (ms := ms) (r := z - 1) (fun m hm => by have := (rs.2 m hm).2; omega), cnt_step 0 rs.1, cnt_zero (ms := ms) (r := 0 - 1) (fun m hm => by have := (rs.2 m hm).1; omega), Int.sub_mul]
    omega
  · obtain ⟨e1, e2⟩ := (Int.ediv_emod_unique (a := y - 1) (b := z) (r := y % z - 1) (q := y / z) (by omega)).mpr ⟨by omega, by omega, by omega⟩
    rw [e1, e2, cnt_step (y % z) rs.1]
    omega
theorem mah_up {z : Int} {ms : List Int} (hz : 1 ≤ z) (rs : Rise z ms) (y : Int) : ∀ t : Nat, mah z ms y ≤ mah z ms (y + t)
  | 0 => by rw [show y + ((0 : Nat) : Int) = y by omega]; exact Int.le_refl _
  | t + 1 => by
    have h := mah_step hz rs (y + ((t + 1 : Nat) : Int))
    rw [show y + ((t + 1 : Nat) : Int) - 1 = y + t by omega] at h
    have ih := mah_up hz rs y t
    rw [h]
    split <;> omega
/-- so many pushes one way at a part: its place, and how many it gives -/
def pt (p : Part) (x w t : Int) : Int × Int := match p with
  | .wheel z ms => ((x + w * t) % z, if mah z ms (x + w * t) - mah z ms x < 0 then -(mah z ms (x + w * t) - mah z ms x) else mah z ms (x + w * t) - mah z ms x)
  | .click => (x, if w = 1 then t else 0)
  | .rocker => if t = 0 then (x, 0) else if w = -1 then (0, 0) else (1, 1 - x)
  | .spring k => if w = -1 then (if x - t > 0 then x - t else 0, 0) else ((x + t) % k, (x + t) / k)
theorem pt_zero {p : Part} {x w : Int} (ok : p.ok) (h0 : 0 ≤ x) (h1 : x < p.places) : pt p x w 0 = (x, 0) := by
  cases p with
  | wheel z ms =>
    have h2 : x < z := h1
    simp only [pt, Int.mul_zero, Int.add_zero, Int.emod_eq_of_lt h0 h2, Int.sub_self]
    rfl
  | click =>
    simp only [pt]
    split <;> rfl
  | rocker => rfl
  | spring k =>
    have h2 : x < k := h1
    simp only [pt]
    split
    · rw [show (if x - 0 > 0 then x - 0 else 0) = x by split <;> omega]
    · rw [Int.add_zero, Int.emod_eq_of_lt h0 h2, Int.ediv_eq_zero_of_lt h0 h2]
theorem pp_way (p : Part) (x w : Int) (h : Sign w) : (pp p x w).2 = 0 ∨ (pp p x w).2 = w := by
  cases p with
  | wheel z ms =>
    by_cases e : (if w = 1 then (x + w) % z else x) ∈ ms
    · exact .inr (if_pos e)
    · exact .inl (if_neg e)
  | click =>
    by_cases e : w = 1
    · exact .inr (by simp only [pp, if_pos e]; exact e.symm)
    · exact .inl (if_neg e)
  | rocker =>
    by_cases e : w = 1 ∧ x = 0
    · exact .inr (by simp only [pp, if_pos e]; exact e.1.symm)
    · exact .inl (if_neg e)
  | spring k =>
    by_cases e : w = 1
    · by_cases e2 : x = k - 1
      · exact .inr (by simp only [pp, if_pos e, if_pos e2]; exact e.symm)
      · exact .inl (by simp only [pp, if_pos e, if_neg e2])
    · exact .inl (by simp only [pp, if_neg e])
theorem neg_abs {d : Int} (h : 0 ≤ d) : (if d < 0 then -d else d) = d := if_neg (by omega)
theorem abs_neg {d : Int} (h : d ≤ 0) : (if d < 0 then -d else d) = -d := by
  split <;> omega
/-- one push more -/
theorem pt_step {p : Part} {x w : Int} (ok : p.ok) (h0 : 0 ≤ x) (h1 : x < p.places) (hw : Sign w) (t : Nat) :
    pt p x w ((t + 1 : Nat) : Int) = ((pp p (pt p x w t).1 w).1, (pt p x w t).2 + if (pp p (pt p x w t).1 w).2 = 0 then 0 else 1) := by
  cases p with
  | wheel z ms =>
    have hz : 1 ≤ z := ok.1
    have rs : Rise z ms := ok.2.2.1
    rcases hw with rfl | rfl
    · have u1 := mah_up hz rs x t
      have u2 := mah_up hz rs x (t + 1)
      have st := mah_step hz rs (x + ((t + 1 : Nat) : Int))
      rw [show x + ((t + 1 : Nat) : Int) - 1 = x + t by omega] at st
      simp only [pt, pp, Int.one_mul, if_true]
      rw [neg_abs (by omega), neg_abs (by omega)]
      have em : ((x + (t : Int)) % z + 1) % z = (x + ((t + 1 : Nat) : Int)) % z := by
        rw [Int.emod_add_emod]
        congr 1
        omega
      rw [em]
      by_cases hm : (x + ((t + 1 : Nat) : Int)) % z ∈ ms
      · rw [if_pos hm] at st ⊢
        rw [if_neg (by decide)]
        exact Prod.ext rfl (by show mah z ms _ - mah z ms x = mah z ms _ - mah z ms x + 1; omega)
      · rw [if_neg hm] at st ⊢
        rw [if_pos rfl]
        exact Prod.ext rfl (by show mah z ms _ - mah z ms x = mah z ms _ - mah z ms x + 0; omega)
    · have v1 := mah_up hz rs (x - t) t
      have v2 := mah_up hz rs (x - ((t + 1 : Nat) : Int)) (t + 1)
      have st := mah_step hz rs (x - t)
      rw [show x - t + t = x by omega] at v1
      rw [show x - ((t + 1 : Nat) : Int) + ((t + 1 : Nat) : Int) = x by omega] at v2
      simp only [pt, pp, show ∀ y : Int, x + -1 * y = x - y from fun y => by omega, if_neg (show ¬ (-1 : Int) = 1 by decide)]
      rw [abs_neg (by omega), abs_neg (by omega)]
      have em : ((x - (t : Int)) % z + -1) % z = (x - ((t + 1 : Nat) : Int)) % z := by
        rw [Int.emod_add_emod]
        congr 1
        omega
      rw [em]
      rw [show x - (t : Int) - 1 = x - ((t + 1 : Nat) : Int) by omega] at st
      by_cases hm : (x - (t : Int)) % z ∈ ms
      · rw [if_pos hm] at st ⊢
        rw [if_neg (by decide)]
        exact Prod.ext rfl (by show -(mah z ms _ - mah z ms x) = -(mah z ms _ - mah z ms x) + 1; omega)
      · rw [if_neg hm] at st ⊢
        rw [if_pos rfl]
        exact Prod.ext rfl (by show -(mah z ms _ - mah z ms x) = -(mah z ms _ - mah z ms x) + 0; omega)
  | click =>
    have h2 : x < 1 := h1
    have ex : x = 0 := by omega
    subst ex
    rcases hw with rfl | rfl
    · simp only [pt, pp, if_true]
      rw [if_neg (by decide)]
      exact Prod.ext rfl (by show ((t + 1 : Nat) : Int) = (t : Int) + 1; omega)
    · rfl
  | rocker =>
    have h2 : x < 2 := h1
    rcases hw with rfl | rfl
    · simp only [pt, pp, if_neg (show ¬ ((t + 1 : Nat) : Int) = 0 by omega), if_neg (show ¬ (1 : Int) = -1 by decide), if_true]
      by_cases ht : (t : Int) = 0
      · rw [if_pos ht]
        by_cases hx : x = 0
        · subst hx
          rfl
        · have hx1 : x = 1 := by omega
          subst hx1
          rfl
      · rw [if_neg ht]
        simp
    · simp only [pt, pp, if_neg (show ¬ ((t + 1 : Nat) : Int) = 0 by omega), if_true]
      by_cases ht : (t : Int) = 0
      · rw [if_pos ht]
        rfl
      · rw [if_neg ht]
        rfl
  | spring k =>
    have h2 : x < k := h1
    have hk : 1 ≤ k := ok.1
    rcases hw with rfl | rfl
    · simp only [pt, pp, if_neg (show ¬ (1 : Int) = -1 by decide), if_true]
      have e := Int.emod_add_mul_ediv (x + t) k
      have r0 := Int.emod_nonneg (x + t) (show k ≠ 0 by omega)
      have r1 := Int.emod_lt_of_pos (x + t) (show 0 < k by omega)
      by_cases hx : (x + (t : Int)) % k = k - 1
      · obtain ⟨e1, e2⟩ := (Int.ediv_emod_unique (a := x + ((t + 1 : Nat) : Int)) (b := k) (r := 0) (q := (x + t) / k + 1) (by omega)).mpr ⟨by rw [Int.mul_add]; omega, by omega, by omega⟩
        rw [if_pos hx, e1, e2]
        rfl
      · obtain ⟨e1, e2⟩ := (Int.ediv_emod_unique (a := x + ((t + 1 : Nat) : Int)) (b := k) (r := (x + t) % k + 1) (q := (x + t) / k) (by omega)).mpr ⟨by omega, by omega, by omega⟩
        rw [if_neg hx, e1, e2]
        exact Prod.ext rfl (by show (x + (t : Int)) / k = (x + (t : Int)) / k + 0; omega)
    · simp only [pt, pp, if_true, if_neg (show ¬ (-1 : Int) = 1 by decide)]
      refine Prod.ext ?_ rfl
      show (if x - ((t + 1 : Nat) : Int) > 0 then x - ((t + 1 : Nat) : Int) else 0) = (if (if x - (t : Int) > 0 then x - (t : Int) else 0) - 1 > 0 then (if x - (t : Int) > 0 then x - (t : Int) else 0) - 1 else 0)
      by_cases hx : x - (t : Int) > 0
      · rw [if_pos hx]
        split <;> split <;> omega
      · rw [if_neg hx]
        split <;> split <;> omega
theorem pt_nn {p : Part} {x w : Int} (ok : p.ok) (h0 : 0 ≤ x) (h1 : x < p.places) (hw : Sign w) : ∀ t : Nat, 0 ≤ (pt p x w t).2
  | 0 => by
    show 0 ≤ (pt p x w 0).2
    rw [pt_zero ok h0 h1]
    exact Int.le_refl _
  | t + 1 => by
    rw [pt_step ok h0 h1 hw t]
    have := pt_nn ok h0 h1 hw t
    show 0 ≤ (pt p x w t).2 + _
    split <;> omega
theorem pt_le {p : Part} {x w : Int} (ok : p.ok) (h0 : 0 ≤ x) (h1 : x < p.places) (hw : Sign w) : ∀ t : Nat, (pt p x w t).2 ≤ t
  | 0 => by
    show (pt p x w 0).2 ≤ 0
    rw [pt_zero ok h0 h1]
    exact Int.le_refl _
  | t + 1 => by
    rw [pt_step ok h0 h1 hw t]
    have := pt_le ok h0 h1 hw t
    show (pt p x w t).2 + _ ≤ _
    split <;> omega
theorem pp_place {p : Part} {x w : Int} (ok : p.ok) (h0 : 0 ≤ x) (h1 : x < p.places) (hw : Sign w) : 0 ≤ (pp p x w).1 ∧ (pp p x w).1 < p.places := by
  cases p with
  | wheel z ms =>
    have hz : 1 ≤ z := ok.1
    exact ⟨Int.emod_nonneg _ (by omega), Int.emod_lt_of_pos _ (by omega)⟩
  | click => exact ⟨Int.le_refl _, show (0 : Int) < 1 by decide⟩
  | rocker =>
    rcases hw with rfl | rfl
    · exact ⟨show (0 : Int) ≤ 1 by decide, show (1 : Int) < 2 by decide⟩
    · exact ⟨show (0 : Int) ≤ 0 by decide, show (0 : Int) < 2 by decide⟩
  | spring k =>
    have h2 : x < k := h1
    rcases hw with rfl | rfl
    · simp only [pp, if_true]
      by_cases e : x = k - 1
      · rw [if_pos e]
        exact ⟨Int.le_refl _, show (0 : Int) < k by omega⟩
      · rw [if_neg e]
        exact ⟨show 0 ≤ x + 1 by omega, show x + 1 < k by omega⟩
    · simp only [pp, if_neg (show ¬ (-1 : Int) = 1 by decide)]
      refine ⟨?_, ?_⟩
      · show 0 ≤ (if x - 1 > 0 then x - 1 else 0)
        split <;> omega
      · show (if x - 1 > 0 then x - 1 else 0) < k
        split <;> omega
theorem pt_place {p : Part} {x w : Int} (ok : p.ok) (h0 : 0 ≤ x) (h1 : x < p.places) (hw : Sign w) : ∀ t : Nat, 0 ≤ (pt p x w t).1 ∧ (pt p x w t).1 < p.places
  | 0 => by
    show 0 ≤ (pt p x w 0).1 ∧ (pt p x w 0).1 < p.places
    rw [pt_zero ok h0 h1]
    exact ⟨h0, h1⟩
  | t + 1 => by
    rw [pt_step ok h0 h1 hw t]
    obtain ⟨a, b⟩ := pt_place ok h0 h1 hw t
    exact pp_place ok a b hw
/-! along a train -/
def gen (f : Part → Int → Int → Int × Int) : List Part → List Int → Int → List Int × Int
  | p :: ps, x :: xs, a => ((f p x a).1 :: (gen f ps xs (f p x a).2).1, (gen f ps xs (f p x a).2).2)
  | _, xs, a => (xs, a)
def stF (f : Part → Int → Int → Int × Int) (ps : List Part) (s : List Int × Int) (n : Nat) : List Int × Int := match ps[n]?, s.1[n]? with
  | some p, some x => (s.1.set n (f p x s.2).1, (f p x s.2).2)
  | _, _ => s
def rnF (f : Part → Int → Int → Int × Int) (ps : List Part) (i : Nat) (s : List Int × Int) : Nat → List Int × Int
  | 0 => s
  | n + 1 => stF f ps (rnF f ps i s n) (i + n)
theorem stF_at {f : Part → Int → Int → Int × Int} {ps : List Part} {s : List Int × Int} {n : Nat} {p : Part} {x : Int} (hp : ps[n]? = some p) (hx : s.1[n]? = some x) : stF f ps s n = (s.1.set n (f p x s.2).1, (f p x s.2).2) := by
  unfold stF
  rw [hp, hx]
theorem rnF_first (f : Part → Int → Int → Int × Int) (ps : List Part) (i : Nat) (s : List Int × Int) : ∀ n, rnF f ps i s (n + 1) = rnF f ps (i + 1) (stF f ps s i) n
  | 0 => rfl
  | n + 1 => by
    show stF f ps (rnF f ps i s (n + 1)) (i + (n + 1)) = stF f ps (rnF f ps (i + 1) (stF f ps s i) n) (i + 1 + n)
    rw [rnF_first f ps i s n, show i + (n + 1) = i + 1 + n by omega]
theorem rnF_len (f : Part → Int → Int → Int × Int) (ps : List Part) (i : Nat) (s : List Int × Int) : ∀ n, (rnF f ps i s n).1.length = s.1.length
  | 0 => rfl
  | n + 1 => by
    show (stF f ps _ _).1.length = _
    rw [← rnF_len f ps i s n]
    unfold stF
    split
    · show (List.set _ _ _).length = _
      rw [List.length_set]
    · rfl
theorem rnF_ahead (f : Part → Int → Int → Int × Int) (ps : List Part) (i : Nat) (s : List Int × Int) : ∀ n m, i + n ≤ m → (rnF f ps i s n).1[m]? = s.1[m]?
  | 0, _, _ => rfl
  | n + 1, m, h => by
    rw [← rnF_ahead f ps i s n m (by omega)]
    show (stF f ps _ _).1[m]? = _
    unfold stF
    split
    · show (List.set _ _ _)[m]? = _
      rw [List.getElem?_set_ne (by omega)]
    · rfl
/-- places one by one, by number, or by going down the train -/
theorem rnF_gen (f : Part → Int → Int → Int × Int) (ps : List Part) : ∀ (n i : Nat) (xs : List Int) (a : Int), xs.length = ps.length → i + n = ps.length →
    rnF f ps i (xs, a) n = (xs.take i ++ (gen f (ps.drop i) (xs.drop i) a).1, (gen f (ps.drop i) (xs.drop i) a).2)
  | 0, i, xs, a, hl, hn => by
    have e1 : ps.drop i = [] := List.drop_of_length_le (by omega)
    have e2 : xs.drop i = [] := List.drop_of_length_le (by omega)
    rw [e1, e2]
    show (xs, a) = (xs.take i ++ [], a)
    rw [List.append_nil, List.take_of_length_le (by omega)]
  | n + 1, i, xs, a, hl, hn => by
    have hi : i < ps.length := by omega
    have hx : i < xs.length := by omega
    rw [rnF_first, stF_at (List.getElem?_eq_getElem hi) (List.getElem?_eq_getElem hx), rnF_gen f ps n (i + 1) _ _ (by rw [List.length_set]; exact hl) (by omega)]
    rw [List.drop_eq_getElem_cons hi, List.drop_eq_getElem_cons hx]
    show (List.take (i + 1) (xs.set i _) ++ (gen f _ (List.drop (i + 1) (xs.set i _)) _).1, _) = (xs.take i ++ ((f ps[i] xs[i] a).1 :: (gen f (ps.drop (i + 1)) (xs.drop (i + 1)) (f ps[i] xs[i] a).2).1), (gen f (ps.drop (i + 1)) (xs.drop (i + 1)) (f ps[i] xs[i] a).2).2)
    rw [List.drop_set_of_lt (by omega), show List.take (i + 1) (xs.set i (f ps[i] xs[i] a).1) = xs.take i ++ [(f ps[i] xs[i] a).1] by
      rw [List.take_set, List.take_add_one, List.getElem?_eq_getElem hx, List.set_append_right _ _ (by rw [List.length_take]; omega), List.length_take, show i - min i xs.length = 0 by omega]
      rfl, List.append_assoc]
    rfl
/-- a push that may be none -/
def ppz (p : Part) (x g : Int) : Int × Int := if g = 0 then (x, 0) else pp p x g
theorem stp_stF (ps : List Part) (s : List Int × Int) (n : Nat) : stp ps s n = stF ppz ps s n := by
  unfold stp stF
  split
  · rename_i h
    cases e1 : ps[n]? with
    | none => rfl
    | some p =>
      cases e2 : s.1[n]? with
      | none => rfl
      | some x =>
        obtain ⟨hn, hx⟩ := List.getElem?_eq_some_iff.mp e2
        show s = (s.1.set n (ppz p x s.2).1, (ppz p x s.2).2)
        unfold ppz
        rw [if_pos h]
        show s = (s.1.set n x, 0)
        rw [← hx, List.set_getElem_self, ← h]
  · rename_i h
    cases e1 : ps[n]? with
    | none => rfl
    | some p =>
      cases e2 : s.1[n]? with
      | none => rfl
      | some x =>
        show _ = (s.1.set n (ppz p x s.2).1, (ppz p x s.2).2)
        unfold ppz
        rw [if_neg h]
theorem runN_rnF (ps : List Part) (i : Nat) (s : List Int × Int) : ∀ n, runN ps i s n = rnF ppz ps i s n
  | 0 => rfl
  | n + 1 => by
    show stp ps _ _ = stF ppz ps _ _
    rw [stp_stF, runN_rnF ps i s n]
theorem run_gen {ps : List Part} {xs : List Int} {i : Nat} {w : Int} (hl : xs.length = ps.length) (hi : i ≤ ps.length) : Ct.run ps xs i w = (xs.take i ++ (gen ppz (ps.drop i) (xs.drop i) w).1, (gen ppz (ps.drop i) (xs.drop i) w).2) := by
  unfold Ct.run
  rw [runN_rnF, rnF_gen ppz ps _ _ _ _ hl (by omega)]
/-- pushes one by one -/
def itP (ps : List Part) (w : Int) : Nat → List Int → List Int × Int
  | 0, xs => (xs, 0)
  | t + 1, xs => ((gen ppz ps (itP ps w t xs).1 w).1, (itP ps w t xs).2 + (gen ppz ps (itP ps w t xs).1 w).2)
def ptw (w : Int) (p : Part) (x t : Int) : Int × Int := pt p x w t
theorem gen_ppz_zero : ∀ (ps : List Part) (xs : List Int), gen ppz ps xs 0 = (xs, 0)
  | [], _ => rfl
  | _ :: _, [] => rfl
  | p :: ps, x :: xs => by
    show ((ppz p x 0).1 :: (gen ppz ps xs (ppz p x 0).2).1, (gen ppz ps xs (ppz p x 0).2).2) = _
    rw [show ppz p x 0 = (x, 0) from rfl, gen_ppz_zero ps xs]
def StandL : List Part → List Int → Prop
  | [], [] => True
  | p :: ps, x :: xs => p.ok ∧ 0 ≤ x ∧ x < p.places ∧ StandL ps xs
  | _, _ => False
theorem itP_cons {p : Part} {x : Int} (ps : List Part) (xs : List Int) {w : Int} (ok : p.ok) (h0 : 0 ≤ x) (h1 : x < p.places) (hw : Sign w) : ∀ t : Nat,
    itP (p :: ps) w t (x :: xs) = ((pt p x w t).1 :: (itP ps w (pt p x w t).2.toNat xs).1, (itP ps w (pt p x w t).2.toNat xs).2)
  | 0 => by
    show (x :: xs, (0 : Int)) = ((pt p x w 0).1 :: (itP ps w (pt p x w 0).2.toNat xs).1, (itP ps w (pt p x w 0).2.toNat xs).2)
    rw [pt_zero ok h0 h1]
    rfl
  | t + 1 => by
    have w0 : w ≠ 0 := by rcases hw with rfl | rfl <;> decide
    have nn := pt_nn ok h0 h1 hw t
    show ((gen ppz (p :: ps) (itP (p :: ps) w t (x :: xs)).1 w).1, (itP (p :: ps) w t (x :: xs)).2 + (gen ppz (p :: ps) (itP (p :: ps) w t (x :: xs)).1 w).2) = _
    rw [itP_cons ps xs ok h0 h1 hw t, pt_step ok h0 h1 hw t]
    generalize hy : (pt p x w t).1 = y
    generalize hn : (pt p x w t).2 = n at nn
    show ((ppz p y w).1 :: (gen ppz ps (itP ps w n.toNat xs).1 (ppz p y w).2).1, (itP ps w n.toNat xs).2 + (gen ppz ps (itP ps w n.toNat xs).1 (ppz p y w).2).2) = _
    rw [show ppz p y w = pp p y w from if_neg w0]
    rcases pp_way p y w hw with e | e
    · rw [e, gen_ppz_zero, if_pos rfl]
      show ((pp p y w).1 :: (itP ps w n.toNat xs).1, (itP ps w n.toNat xs).2 + 0) = ((pp p y w).1 :: (itP ps w (n + 0).toNat xs).1, (itP ps w (n + 0).toNat xs).2)
      rw [Int.add_zero, Int.add_zero]
    · rw [e, if_neg w0]
      show ((pp p y w).1 :: (gen ppz ps (itP ps w n.toNat xs).1 w).1, (itP ps w n.toNat xs).2 + (gen ppz ps (itP ps w n.toNat xs).1 w).2) = ((pp p y w).1 :: (itP ps w (n + 1).toNat xs).1, (itP ps w (n + 1).toNat xs).2)
      rw [show (n + 1).toNat = n.toNat + 1 by omega]
      rfl
theorem itP_nil (w : Int) : ∀ (t : Nat), itP [] w t [] = ([], w * t)
  | 0 => by
    show (([] : List Int), (0 : Int)) = ([], w * ((0 : Nat) : Int))
    rw [show ((0 : Nat) : Int) = 0 from rfl, Int.mul_zero]
  | t + 1 => by
    show ((gen ppz [] (itP [] w t []).1 w).1, (itP [] w t []).2 + (gen ppz [] (itP [] w t []).1 w).2) = _
    rw [itP_nil w t]
    refine Prod.ext rfl ?_
    show w * t + w = w * ((t + 1 : Nat) : Int)
    rw [show ((t + 1 : Nat) : Int) = (t : Int) + 1 by omega, Int.mul_add, Int.mul_one]
/-- THE promise: reckoned at once is as pushed one by one -/
theorem itP_gen {w : Int} (hw : Sign w) : ∀ (ps : List Part) (xs : List Int) (t : Nat), StandL ps xs → itP ps w t xs = ((gen (ptw w) ps xs t).1, w * (gen (ptw w) ps xs t).2)
  | [], [], t, _ => itP_nil w t
  | p :: ps, x :: xs, t, ⟨ok, h0, h1, h⟩ => by
    rw [itP_cons ps xs ok h0 h1 hw t, itP_gen hw ps xs _ h]
    have nn := pt_nn ok h0 h1 hw t
    show _ = ((pt p x w t).1 :: (gen (ptw w) ps xs (pt p x w t).2).1, w * (gen (ptw w) ps xs (pt p x w t).2).2)
    rw [show (((pt p x w t).2.toNat : Nat) : Int) = (pt p x w t).2 by omega]
theorem gen_stand {w : Int} (hw : Sign w) : ∀ (ps : List Part) (xs : List Int) (t : Int), 0 ≤ t → StandL ps xs → StandL ps (gen (ptw w) ps xs t).1 ∧ 0 ≤ (gen (ptw w) ps xs t).2
  | [], [], t, ht, _ => ⟨trivial, ht⟩
  | p :: ps, x :: xs, t, ht, ⟨ok, h0, h1, h⟩ => by
    have e : ((t.toNat : Nat) : Int) = t := by omega
    have a := pt_place ok h0 h1 hw t.toNat
    have n := pt_nn ok h0 h1 hw t.toNat
    rw [e] at a n
    have ih := gen_stand hw ps xs (pt p x w t).2 n h
    exact ⟨⟨ok, a.1, a.2, ih.1⟩, ih.2⟩
theorem stand_drop : ∀ {ps : List Part} {xs : List Int} (i : Nat), StandL ps xs → StandL (ps.drop i) (xs.drop i)
  | [], [], i, _ => by rw [List.drop_nil, List.drop_nil]; trivial
  | p :: ps, x :: xs, 0, h => h
  | p :: ps, x :: xs, i + 1, ⟨_, _, _, h⟩ => stand_drop (ps := ps) (xs := xs) i h
theorem stand_join : ∀ {ps : List Part} {xs ys : List Int} (i : Nat), StandL ps xs → StandL (ps.drop i) ys → StandL ps (xs.take i ++ ys)
  | ps, xs, ys, 0, _, h => h
  | [], [], ys, i + 1, _, h => by
    rw [List.drop_nil] at h
    exact h
  | p :: ps, x :: xs, ys, i + 1, ⟨a, b, c, d⟩, h => ⟨a, b, c, stand_join (ps := ps) (xs := xs) i d h⟩
theorem StandL.len : ∀ {ps : List Part} {xs : List Int}, StandL ps xs → xs.length = ps.length
  | [], [], _ => rfl
  | p :: ps, x :: xs, ⟨_, _, _, h⟩ => by rw [List.length_cons, List.length_cons, StandL.len (ps := ps) (xs := xs) h]
theorem StandL.okp : ∀ {ps : List Part} {xs : List Int}, StandL ps xs → ∀ p ∈ ps, p.ok
  | [], [], _, p, hp => by cases hp
  | a :: ps, x :: xs, ⟨h, _, _, hr⟩, p, hp => by
    rcases List.mem_cons.mp hp with rfl | hp
    · exact h
    · exact StandL.okp (ps := ps) (xs := xs) hr p hp
theorem standL_of : ∀ {ps : List Part} {xs : List Int}, (∀ p ∈ ps, p.ok) → StandOk ps xs → StandL ps xs
  | [], [], _, _ => trivial
  | [], _ :: _, _, h => by have := h.1; simp at this
  | _ :: _, [], _, h => by have := h.1; simp at this
  | p :: ps, x :: xs, hp, h => by
    have a := h.2 0 p x rfl rfl
    exact ⟨hp p List.mem_cons_self, a.1, a.2, standL_of (fun q hq => hp q (List.mem_cons_of_mem _ hq)) ⟨by have := h.1; rw [List.length_cons, List.length_cons] at this; omega, fun i q y hq hy => h.2 (i + 1) q y hq hy⟩⟩
theorem StandL.ok : ∀ {ps : List Part} {xs : List Int}, StandL ps xs → StandOk ps xs
  | [], [], _ => ⟨rfl, fun i p x h _ => by simp at h⟩
  | p :: ps, x :: xs, ⟨_, a, b, h⟩ => by
    have ih := StandL.ok (ps := ps) (xs := xs) h
    refine ⟨by rw [List.length_cons, List.length_cons, ih.1], fun i q y hq hy => ?_⟩
    cases i with
    | zero =>
      cases Option.some.inj hq
      cases Option.some.inj hy
      exact ⟨a, b⟩
    | succ i => exact ih.2 i q y hq hy
/-! rows -/
structure Deed where
  i : Nat
  w : Int
  t : Nat
def Deed.ok (d : Deed) (n : Nat) : Prop := d.i < n ∧ Sign d.w
def Deed.data (d : Deed) : PyData := .tuple [.int d.i, .int d.w, .int d.t]
/-- one deed, at once -/
def deedL (ps : List Part) (xs : List Int) (d : Deed) : List Int × Int := (xs.take d.i ++ (gen (ptw d.w) (ps.drop d.i) (xs.drop d.i) d.t).1, d.w * (gen (ptw d.w) (ps.drop d.i) (xs.drop d.i) d.t).2)
def rowL (ps : List Part) : List Deed → List Int × Int → List Int × Int
  | [], s => s
  | d :: ds, s => rowL ps ds ((deedL ps s.1 d).1, s.2 + (deedL ps s.1 d).2)
theorem rowL_app (ps : List Part) : ∀ (ds es : List Deed) (s : List Int × Int), rowL ps (ds ++ es) s = rowL ps es (rowL ps ds s)
  | [], _, _ => rfl
  | d :: ds, es, s => rowL_app ps ds es _
theorem deedL_stand {ps : List Part} {xs : List Int} {d : Deed} (h : StandL ps xs) (hd : d.ok ps.length) : StandL ps (deedL ps xs d).1 :=
  stand_join d.i h (gen_stand hd.2 _ _ d.t (by omega) (stand_drop d.i h)).1
theorem rowL_stand {ps : List Part} : ∀ {ds : List Deed} {s : List Int × Int}, StandL ps s.1 → (∀ d ∈ ds, d.ok ps.length) → StandL ps (rowL ps ds s).1
  | [], _, h, _ => h
  | d :: ds, s, h, hd => rowL_stand (ds := ds) (deedL_stand h (hd d List.mem_cons_self)) fun e he => hd e (List.mem_cons_of_mem _ he)
/-- a deed, push by push: each push goes along the train from part i -/
def pushes (ps : List Part) (i : Nat) (w : Int) : Nat → List Int × Int → List Int × Int
  | 0, s => s
  | t + 1, s => ((Ct.run ps (pushes ps i w t s).1 i w).1, (pushes ps i w t s).2 + (Ct.run ps (pushes ps i w t s).1 i w).2)
theorem pushes_itP {ps : List Part} {xs : List Int} {i : Nat} {w : Int} (hl : xs.length = ps.length) (hi : i ≤ ps.length) (a : Int) : ∀ t, pushes ps i w t (xs, a) = (xs.take i ++ (itP (ps.drop i) w t (xs.drop i)).1, a + (itP (ps.drop i) w t (xs.drop i)).2) ∧ (itP (ps.drop i) w t (xs.drop i)).1.length = ps.length - i
  | 0 => by
    refine ⟨Prod.ext ?_ ?_, ?_⟩
    · show xs = xs.take i ++ xs.drop i
      rw [List.take_append_drop]
    · show a = a + 0
      omega
    · show (xs.drop i).length = _
      rw [List.length_drop, hl]
  | t + 1 => by
    obtain ⟨ih, il⟩ := pushes_itP hl hi a t
    have tl : (xs.take i).length = i := by rw [List.length_take]; omega
    have gl : ∀ (qs : List Part) (ys : List Int) (g : Int), (gen ppz qs ys g).1.length = ys.length := fun qs => by
      induction qs with
      | nil => intro ys g; rfl
      | cons q qs ih =>
        intro ys g
        cases ys with
        | nil => rfl
        | cons y ys =>
          show ((ppz q y g).1 :: (gen ppz qs ys (ppz q y g).2).1).length = _
          rw [List.length_cons, List.length_cons, ih]
    refine ⟨?_, ?_⟩
    · show ((Ct.run ps (pushes ps i w t (xs, a)).1 i w).1, (pushes ps i w t (xs, a)).2 + (Ct.run ps (pushes ps i w t (xs, a)).1 i w).2) = _
      rw [ih]
      rw [run_gen (by show (xs.take i ++ _).length = _; rw [List.length_append, tl, il]; omega) hi]
      show (List.take i (xs.take i ++ _) ++ (gen ppz (ps.drop i) (List.drop i (xs.take i ++ _)) w).1, a + _ + (gen ppz (ps.drop i) (List.drop i (xs.take i ++ _)) w).2) = _
      rw [List.take_left' tl, List.drop_left' tl]
      refine Prod.ext rfl ?_
      show a + (itP (ps.drop i) w t (xs.drop i)).2 + (gen ppz (ps.drop i) (itP (ps.drop i) w t (xs.drop i)).1 w).2 = a + ((itP (ps.drop i) w t (xs.drop i)).2 + (gen ppz (ps.drop i) (itP (ps.drop i) w t (xs.drop i)).1 w).2)
      omega
    · show (gen ppz (ps.drop i) (itP (ps.drop i) w t (xs.drop i)).1 w).1.length = _
      rw [gl, il]
theorem pushes_deed {ps : List Part} {xs : List Int} {d : Deed} (h : StandL ps xs) (hd : d.ok ps.length) (a : Int) : pushes ps d.i d.w d.t (xs, a) = ((deedL ps xs d).1, a + (deedL ps xs d).2) := by
  rw [(pushes_itP h.len (Nat.le_of_lt hd.1) a d.t).1, itP_gen hd.2 _ _ _ (stand_drop d.i h)]
  rfl
theorem pushes_stand {ps : List Part} {xs : List Int} {i : Nat} {w : Int} (h : StandL ps xs) (hi : i < ps.length) (hw : Sign w) (a : Int) (t : Nat) : StandL ps (pushes ps i w t (xs, a)).1 := by
  have := deedL_stand (d := ⟨i, w, t⟩) h ⟨hi, hw⟩
  rw [pushes_deed (d := ⟨i, w, t⟩) h ⟨hi, hw⟩ a]
  exact this
section
variable {K : PySem.W.Frag} {H : Hp}
theorem deed_inv {v : V} {d : Deed} (h : Dp K H v d.data) : ∃ a, v = .ref a ∧ SqT K H a [.int d.i, .int d.w, .int d.t] := by
  obtain ⟨a, vs, rfl, hs, ht⟩ := tup_inv h
  cases ht with
  | cons h1 t1 => cases h1; cases t1 with
    | cons h2 t2 => cases h2; cases t2 with
      | cons h3 t3 => cases h3; cases t3; exact ⟨a, rfl, hs⟩
theorem deed_dp {a : Addr} {d : Deed} (h : SqT K H a [.int d.i, .int d.w, .int d.t]) : Dp K H (.ref a) d.data := .tup h (.cons (.int _) (.cons (.int _) (.cons (.int _) .nil)))
theorem deeds_upd {l : Addr} {ws : List V} {o : HO} (hl : H l = some (.lst ws)) : ∀ {vs : List V} (ds : List Deed), DpAll K H vs (ds.map Deed.data) → DpAll K (upd H l o) vs (ds.map Deed.data)
  | _, [], .nil => .nil
  | _, d :: r, .cons h t => by
    obtain ⟨a, rfl, ha⟩ := deed_inv h
    exact .cons (deed_dp (sqT_upd ha hl)) (deeds_upd hl r t)
def RowAt (K : PySem.W.Frag) (H : Hp) (a : Addr) (ds : List Deed) : Prop := ∃ vs, SqL K H a vs ∧ DpAll K H vs (ds.map Deed.data)
theorem RowAt.same {H' : Hp} {a : Addr} {ds : List Deed} (e : Same H H') (h : RowAt K H a ds) : RowAt K H' a ds := by
  obtain ⟨vs, h1, h2⟩ := h
  exact ⟨vs, e.seq h1, dpAll_same e h2⟩
theorem deed_get {ds : List Deed} {vs : List V} (h2 : DpAll K H vs (ds.map Deed.data)) {i : Nat} {d : Deed} (e : ds[i]? = some d) : ∃ v, vs[i]? = some v ∧ Dp K H v d.data :=
  dpAll_get h2 (by rw [List.getElem?_map, e]; rfl)
end
theorem lay_deed (d : Deed) : d.data.canLay0 = true ∧ d.data.depth ≤ 1 := lay_tup (n := 0) (lay_ints [(d.i : Int), d.w, (d.t : Int)] 0)
theorem lay_row (ds : List Deed) : (PyData.list (ds.map Deed.data)).canLay0 = true ∧ (PyData.list (ds.map Deed.data)).depth ≤ 2 := lay_lst fun d hd => by
  obtain ⟨e, _, rfl⟩ := List.mem_map.mp hd
  exact lay_deed e
/-! what the checks look at -/
def isW : PyData → Bool
  | .int _ => true
  | _ => false
def risesD (last z : Int) : List PyData → Bool
  | [] => true
  | .int m :: r => if m ≤ last ∨ z ≤ m then false else risesD m z r
  | _ :: _ => false
def areM (d : PyData) (z : Int) : Bool := match d with
  | .tuple ds => risesD (-1) z ds
  | _ => false
def wheelT : List PyData → Bool
  | [.int z, m] => decide (1 ≤ z) && areM m z
  | _ => false
def springT : List PyData → Bool
  | [.int k] => decide (1 ≤ k)
  | _ => false
def isP : PyData → Bool
  | .tuple (h :: t) =>
    if PyData.eqv h (.str "wheel") = true then wheelT t
    else if PyData.eqv h (.str "spring") = true then springT t
    else PyData.eqv (.tuple (h :: t)) (.tuple [.str "click"]) || PyData.eqv (.tuple (h :: t)) (.tuple [.str "rocker"])
  | _ => false
theorem rises_of : ∀ {ms : List Int} {last z : Int}, ms.Pairwise (· < ·) → (∀ m ∈ ms, last < m ∧ m < z) → risesD last z (ms.map PyData.int) = true
  | [], _, _, _, _ => rfl
  | m :: ms, last, z, h, hm => by
    obtain ⟨h1, h2⟩ := List.pairwise_cons.mp h
    have hm1 := hm m List.mem_cons_self
    show (if m ≤ last ∨ z ≤ m then false else risesD m z (ms.map PyData.int)) = true
    rw [if_neg (by omega)]
    exact rises_of h2 fun x hx => ⟨h1 x hx, (hm x (List.mem_cons_of_mem _ hx)).2⟩
theorem isP_of {p : Part} (ok : p.ok) : isP p.data = true := by
  cases p with
  | wheel z ms =>
    simp only [isP, Part.data, wheelT, areM]
    rw [if_pos (by decide +kernel), decide_eq_true ok.1, rises_of ok.2.2.1.1 fun m hm => ?_]
    · rfl
    · have := ok.2.2.1.2 m hm
      omega
  | click => decide +kernel
  | rocker => decide +kernel
  | spring k =>
    simp only [isP, Part.data, springT]
    rw [if_neg (by decide +kernel), if_pos (by decide +kernel)]
    exact decide_eq_true ok.1
def isD (d : PyData) (n : Int) : Bool := match d with
  | .tuple [.int i, .int w, .int t] => decide (0 ≤ i) && decide (i < n) && (decide (w = 1) || decide (w = -1)) && decide (0 ≤ t)
  | _ => false
theorem dpAll_drop {K : PySem.W.Frag} {H : Hp} : ∀ {vs : List V} {ds : List PyData} (k : Nat), DpAll K H vs ds → DpAll K H (vs.drop k) (ds.drop k)
  | _, _, 0, h => h
  | _, _, _ + 1, .nil => .nil
  | _, _, k + 1, .cons _ t => dpAll_drop k t
theorem dpAll_take {K : PySem.W.Frag} {H : Hp} : ∀ {vs : List V} {ds : List PyData} (k : Nat), DpAll K H vs ds → DpAll K H (vs.take k) (ds.take k)
  | _, _, 0, _ => .nil
  | _, _, _ + 1, .nil => .nil
  | _, _, k + 1, .cons h t => .cons h (dpAll_take k t)
theorem dpAll_cut {K : PySem.W.Frag} {H : Hp} {vs : List V} {ds : List Deed} (lo hi : Option Int) (h : DpAll K H vs (ds.map Deed.data)) : ∃ es : List Deed, DpAll K H (cutV vs lo hi) (es.map Deed.data) ∧ ∀ d ∈ es, d ∈ ds := by
  refine ⟨(ds.drop (HT.sIx vs.length 0 lo)).take (HT.sIx vs.length vs.length hi - HT.sIx vs.length 0 lo), ?_, fun d hd => List.mem_of_mem_drop (List.mem_of_mem_take hd)⟩
  rw [List.map_take, List.map_drop]
  exact dpAll_take _ (dpAll_drop _ h)
/-! how often each mark is met -/
def wsum (z : Int) : List Int → Int → Int
  | [], _ => 0
  | m :: r, y => (y - m) / z + wsum z r y
theorem wsum_app (z y : Int) : ∀ (ms : List Int) (m : Int), wsum z (ms ++ [m]) y = wsum z ms y + (y - m) / z
  | [], m => by
    show (y - m) / z + 0 = 0 + (y - m) / z
    omega
  | a :: r, m => by
    show (y - a) / z + wsum z (r ++ [m]) y = (y - a) / z + wsum z r y + (y - m) / z
    rw [wsum_app z y r m]
    omega
theorem wsum_mah {z : Int} (hz : 1 ≤ z) (y : Int) : ∀ {ms : List Int}, (∀ m ∈ ms, 0 ≤ m ∧ m < z) → wsum z ms y = mah z ms y - ms.length
  | [], _ => by
    show (0 : Int) = y / z * ((0 : Nat) : Int) + 0 - ((0 : Nat) : Int)
    rw [show ((0 : Nat) : Int) = 0 from rfl, Int.mul_zero]
    rfl
  | m :: r, h => by
    have hm := h m List.mem_cons_self
    have ih := wsum_mah hz y (ms := r) fun x hx => h x (List.mem_cons_of_mem _ hx)
    have e := Int.emod_add_mul_ediv y z
    have r0 := Int.emod_nonneg y (show z ≠ 0 by omega)
    have r1 := Int.emod_lt_of_pos y (show 0 < z by omega)
    show (y - m) / z + wsum z r y = _
    rw [ih]
    unfold mah
    rw [cnt_cons, List.length_cons, show ((r.length + 1 : Nat) : Int) = (r.length : Int) + 1 by omega, Int.mul_add, Int.mul_one]
    by_cases hmr : m ≤ y % z
    · obtain ⟨e1, _⟩ := (Int.ediv_emod_unique (a := y - m) (b := z) (r := y % z - m) (q := y / z) (by omega)).mpr ⟨by omega, by omega, by omega⟩
      rw [e1, if_pos hmr]
      omega
    · obtain ⟨e1, _⟩ := (Int.ediv_emod_unique (a := y - m) (b := z) (r := y % z - m + z) (q := y / z - 1) (by omega)).mpr ⟨by rw [Int.mul_sub]; omega, by omega, by omega⟩
      rw [e1, if_neg hmr]
      omega
theorem wsum_up {z : Int} {ms : List Int} {x : Int} (ok : (Part.wheel z ms).ok) (t : Nat) : wsum z ms (x + t) - wsum z ms x = (pt (.wheel z ms) x 1 t).2 := by
  have rs : Rise z ms := ok.2.2.1
  have u := mah_up ok.1 rs x t
  rw [wsum_mah ok.1 _ rs.2, wsum_mah ok.1 _ rs.2]
  simp only [pt, Int.one_mul]
  rw [neg_abs (by omega)]
  omega
theorem wsum_down {z : Int} {ms : List Int} {x : Int} (ok : (Part.wheel z ms).ok) (t : Nat) : wsum z ms x - wsum z ms (x - t) = (pt (.wheel z ms) x (-1) t).2 := by
  have rs : Rise z ms := ok.2.2.1
  have u := mah_up ok.1 rs (x - t) t
  rw [show x - (t : Int) + t = x by omega] at u
  rw [wsum_mah ok.1 _ rs.2, wsum_mah ok.1 _ rs.2]
  simp only [pt, show x + -1 * (t : Int) = x - t by omega]
  rw [abs_neg (by omega)]
  omega
/-! a deed in two -/
theorem pushes_add (ps : List Part) (i : Nat) (w : Int) (a : Nat) (s : List Int × Int) : ∀ b, pushes ps i w (a + b) s = pushes ps i w b (pushes ps i w a s)
  | 0 => rfl
  | b + 1 => by
    show ((Ct.run ps (pushes ps i w (a + b) s).1 i w).1, (pushes ps i w (a + b) s).2 + (Ct.run ps (pushes ps i w (a + b) s).1 i w).2) = _
    rw [pushes_add ps i w a s b]
    rfl
theorem rowL_one {ps : List Part} {s : List Int × Int} {d : Deed} (h : StandL ps s.1) (hd : d.ok ps.length) : rowL ps [d] s = pushes ps d.i d.w d.t s := (pushes_deed h hd s.2).symm
def halves : List Deed → List Deed
  | [] => []
  | d :: r => ⟨d.i, d.w, d.t / 2⟩ :: ⟨d.i, d.w, d.t - d.t / 2⟩ :: halves r
theorem halves_app : ∀ (ds es : List Deed), halves (ds ++ es) = halves ds ++ halves es
  | [], _ => rfl
  | d :: r, es => by
    show _ :: _ :: halves (r ++ es) = _ :: _ :: (halves r ++ halves es)
    rw [halves_app r es]
theorem halves_ok {n : Nat} {b : Nat} : ∀ {ds : List Deed}, (∀ d ∈ ds, d.ok n ∧ d.t < b) → ∀ d ∈ halves ds, d.ok n ∧ d.t < b
  | [], _, d, hd => by cases hd
  | e :: r, h, d, hd => by
    have he := h e List.mem_cons_self
    rcases List.mem_cons.mp hd with rfl | hd
    · exact ⟨he.1, Nat.lt_of_le_of_lt (Nat.div_le_self _ _) he.2⟩
    rcases List.mem_cons.mp hd with rfl | hd
    · exact ⟨he.1, Nat.lt_of_le_of_lt (Nat.sub_le _ _) he.2⟩
    · exact halves_ok (fun d hd => h d (List.mem_cons_of_mem _ hd)) d hd
theorem rowL_halves {ps : List Part} : ∀ {ds : List Deed} {s : List Int × Int}, StandL ps s.1 → (∀ d ∈ ds, d.ok ps.length) → rowL ps (halves ds) s = rowL ps ds s
  | [], _, _, _ => rfl
  | d :: r, s, h, hd => by
    have hd0 := hd d List.mem_cons_self
    have k1 : Deed.ok ⟨d.i, d.w, d.t / 2⟩ ps.length := hd0
    have k2 : Deed.ok ⟨d.i, d.w, d.t - d.t / 2⟩ ps.length := hd0
    show rowL ps ([⟨d.i, d.w, d.t / 2⟩] ++ ([⟨d.i, d.w, d.t - d.t / 2⟩] ++ halves r)) s = rowL ps ([d] ++ r) s
    have h1 : StandL ps (rowL ps [⟨d.i, d.w, d.t / 2⟩] s).1 := rowL_stand h fun e he => by rw [List.mem_singleton] at he; rw [he]; exact k1
    have h2 : StandL ps (rowL ps [⟨d.i, d.w, d.t - d.t / 2⟩] (rowL ps [⟨d.i, d.w, d.t / 2⟩] s)).1 := rowL_stand h1 fun e he => by rw [List.mem_singleton] at he; rw [he]; exact k2
    rw [rowL_app, rowL_app, rowL_app, rowL_halves h2 fun e he => hd e (List.mem_cons_of_mem _ he)]
    rw [rowL_one h1 k2, rowL_one h k1, rowL_one h hd0, ← pushes_add, show d.t / 2 + (d.t - d.t / 2) = d.t by omega]
theorem run_deed {ps : List Part} {xs : List Int} {i : Nat} {w : Int} (h : StandL ps xs) (hi : i < ps.length) (hw : Sign w) : deedL ps xs ⟨i, w, 1⟩ = Ct.run ps xs i w := by
  have e : ((Ct.run ps xs i w).1, 0 + (Ct.run ps xs i w).2) = ((deedL ps xs ⟨i, w, 1⟩).1, 0 + (deedL ps xs ⟨i, w, 1⟩).2) := pushes_deed (d := ⟨i, w, 1⟩) h ⟨hi, hw⟩ 0
  obtain ⟨e1, e2⟩ := Prod.mk.inj e
  exact Prod.ext e1.symm (by omega)
theorem rowL_snoc (ps : List Part) (ds : List Deed) (d : Deed) (s : List Int × Int) : rowL ps (ds ++ [d]) s = ((deedL ps (rowL ps ds s).1 d).1, (rowL ps ds s).2 + (deedL ps (rowL ps ds s).1 d).2) := rowL_app ps ds [d] s
theorem told_dp {K : PySem.W.Frag} {H : Hp} {q u : Addr} {xs : List Int} {y : Int} (h : SqT K H q [.ref u, .int y]) (hu : SqT K H u (xs.map V.int)) : Dp K H (.ref q) (.tuple [.tuple (xs.map PyData.int), .int y]) :=
  .tup h (.cons (.tup hu (dpAll_ints xs)) (.cons (.int y) .nil))
end Ct

namespace Ct
open PySem PySem.Spec PyProof.Rows L2
/-! all stands of a train -/
theorem ip_mul {X : Cx} : PIp X .Mult (rI CMul fun i j => .int (i * j)) := iop_mul
def rowS (s : List Int) (k : Nat) : List (List Int) := (List.range k).map fun (x : Nat) => s ++ [(x : Int)]
def grow (ss : List (List Int)) (p : Part) : List (List Int) := ss.flatMap fun s => rowS s p.places.toNat
def allS (ps : List Part) : List (List Int) := ps.foldl grow [[]]
def tupD (s : List Int) : PyData := .tuple (s.map PyData.int)
theorem rowS_len (s : List Int) (k : Nat) : (rowS s k).length = k := by
  unfold rowS
  rw [List.length_map, List.length_range]
theorem rowS_succ (s : List Int) (k : Nat) : rowS s (k + 1) = rowS s k ++ [s ++ [(k : Int)]] := by
  unfold rowS
  rw [List.range_succ, List.map_append]
  rfl
theorem flat_len (k : Nat) : ∀ ss : List (List Int), (ss.flatMap fun s => rowS s k).length = ss.length * k
  | [] => by simp
  | s :: r => by
    rw [List.flatMap_cons, List.length_append, rowS_len, flat_len k r, List.length_cons, Nat.add_mul, Nat.one_mul]
    omega
theorem allS_snoc (ps : List Part) (p : Part) : allS (ps ++ [p]) = grow (allS ps) p := by
  unfold allS
  rw [List.foldl_append]
  rfl
theorem allS_take {ps : List Part} {n : Nat} {p : Part} (h : ps[n]? = some p) : allS (ps.take (n + 1)) = grow (allS (ps.take n)) p := by
  rw [List.take_add_one, h]
  exact allS_snoc _ _
theorem stands_take {ps : List Part} {n : Nat} {p : Part} (h : ps[n]? = some p) : stands (ps.take (n + 1)) = stands (ps.take n) * p.places := by
  rw [List.take_add_one, h]
  exact stands_app _ _
theorem allS_len {ps : List Part} (hok : ∀ p ∈ ps, p.ok) : ∀ n, n ≤ ps.length → ((allS (ps.take n)).length : Int) = stands (ps.take n)
  | 0, _ => rfl
  | n + 1, hn => by
    obtain ⟨p, hp⟩ : ∃ p, ps[n]? = some p := ⟨_, List.getElem?_eq_getElem (by omega)⟩
    have po := (hok p (List.mem_of_getElem? hp)).pos.1
    rw [allS_take hp, stands_take hp, ← allS_len hok n (by omega)]
    unfold grow
    rw [flat_len, Int.natCast_mul, Int.toNat_of_nonneg (by omega)]
theorem stands_le {ps : List Part} (hok : ∀ p ∈ ps, p.ok) : ∀ n, n ≤ ps.length → stands (ps.take (ps.length - n)) ≤ stands ps
  | 0, _ => by
    rw [Nat.sub_zero, List.take_length]
    exact Int.le_refl _
  | n + 1, hn => by
    have ih := stands_le hok n (by omega)
    obtain ⟨p, hp⟩ : ∃ p, ps[ps.length - (n + 1)]? = some p := ⟨_, List.getElem?_eq_getElem (by omega)⟩
    have po := (hok p (List.mem_of_getElem? hp)).pos.1
    have e := stands_take hp
    rw [show ps.length - (n + 1) + 1 = ps.length - n by omega] at e
    have sp := stands_pos (ps.take (ps.length - (n + 1))) fun q hq => hok q (List.mem_of_mem_take hq)
    rw [e] at ih
    have := Int.mul_le_mul_of_nonneg_left po (show 0 ≤ stands (ps.take (ps.length - (n + 1))) by omega)
    omega
theorem stands_le' {ps : List Part} (hok : ∀ p ∈ ps, p.ok) {n : Nat} (hn : n ≤ ps.length) : stands (ps.take n) ≤ stands ps := by
  have := stands_le hok (ps.length - n) (by omega)
  rw [show ps.length - (ps.length - n) = n by omega] at this
  exact this
theorem place_le {ps : List Part} (hok : ∀ p ∈ ps, p.ok) {n : Nat} {p : Part} (hp : ps[n]? = some p) : p.places ≤ stands ps := by
  have hn : n < ps.length := (List.getElem?_eq_some_iff.mp hp).1
  have po := (hok p (List.mem_of_getElem? hp)).pos.1
  have h3 := stands_le' hok (n := n + 1) hn
  have sp := stands_pos (ps.take n) fun q hq => hok q (List.mem_of_mem_take hq)
  rw [stands_take hp] at h3
  have := Int.mul_le_mul_of_nonneg_right sp (show 0 ≤ p.places by omega)
  omega
theorem fold_each {k : Nat} : ∀ (ps : List Part) (ss : List (List Int)), (∀ s ∈ ss, s.length = k) → ∀ s ∈ ps.foldl grow ss, s.length = k + ps.length
  | [], ss, h, s, hs => h s hs
  | p :: ps, ss, h, s, hs => by
    have := fold_each (k := k + 1) ps (grow ss p) (fun t ht => by
      obtain ⟨u, hu, hr⟩ := List.mem_flatMap.mp ht
      obtain ⟨x, _, rfl⟩ := List.mem_map.mp hr
      rw [List.length_append, h u hu]
      rfl) s hs
    rw [List.length_cons]
    omega
theorem allS_each (ps : List Part) (s : List Int) (h : s ∈ allS ps) : s.length = ps.length := by
  have := fold_each (k := 0) ps [[]] (fun t ht => by rw [List.mem_singleton] at ht; rw [ht]; rfl) s h
  omega
theorem grow_le {ps : List Part} (hok : ∀ p ∈ ps, p.ok) {n : Nat} {p : Part} (hp : ps[n]? = some p) {i : Nat} : (((allS (ps.take n)).take i).flatMap fun s => rowS s p.places.toNat).length ≤ (stands ps).toNat := by
  have hn : n < ps.length := (List.getElem?_eq_some_iff.mp hp).1
  have h1 : (((allS (ps.take n)).take i).flatMap fun s => rowS s p.places.toNat).length ≤ (grow (allS (ps.take n)) p).length := by
    unfold grow
    rw [flat_len, flat_len, List.length_take]
    exact Nat.mul_le_mul_right _ (Nat.min_le_right _ _)
  rw [← allS_take hp] at h1
  have h2 := allS_len hok (n + 1) hn
  have h3 := stands_le' hok (n := n + 1) hn
  omega
section
variable {K : PySem.W.Frag} {H : Hp}
theorem tupD_inv {v : V} {s : List Int} (h : Dp K H v (tupD s)) : ∃ a, v = .ref a ∧ SqT K H a (s.map V.int) := by
  obtain ⟨a, vs, rfl, hs, ht⟩ := tup_inv h
  cases dpAll_ints_inv s ht
  exact ⟨a, rfl, hs⟩
theorem tupD_dp {a : Addr} {s : List Int} (h : SqT K H a (s.map V.int)) : Dp K H (.ref a) (tupD s) := .tup h (dpAll_ints s)
theorem tups_upd {l : Addr} {ws : List V} {o : HO} (hl : H l = some (.lst ws)) : ∀ {vs : List V} (ss : List (List Int)), DpAll K H vs (ss.map tupD) → DpAll K (upd H l o) vs (ss.map tupD)
  | _, [], .nil => .nil
  | _, s :: r, .cons h t => by
    obtain ⟨a, rfl, ha⟩ := tupD_inv h
    exact .cons (tupD_dp (sqT_upd ha hl)) (tups_upd hl r t)
theorem tup_get {ss : List (List Int)} {vs : List V} (h2 : DpAll K H vs (ss.map tupD)) {i : Nat} {s : List Int} (e : ss[i]? = some s) : ∃ a, vs[i]? = some (.ref a) ∧ SqT K H a (s.map V.int) := by
  obtain ⟨v, hv, hd⟩ := dpAll_get h2 (d := tupD s) (by rw [List.getElem?_map, e]; rfl)
  obtain ⟨a, rfl, ha⟩ := tupD_inv hd
  exact ⟨a, hv, ha⟩
end
theorem lay_tupD (s : List Int) : (tupD s).canLay0 = true ∧ (tupD s).depth ≤ 1 := lay_tup (lay_ints s 0)
theorem lay_tups (ss : List (List Int)) : (PyData.list (ss.map tupD)).canLay0 = true ∧ (PyData.list (ss.map tupD)).depth ≤ 2 := lay_lst fun d hd => by
  obtain ⟨s, _, rfl⟩ := List.mem_map.mp hd
  exact lay_tupD s
theorem stands_rev : ∀ ps : List Part, stands ps.reverse = stands ps
  | [] => rfl
  | p :: r => by
    rw [List.reverse_cons, stands_app, stands_rev r]
    exact Int.mul_comm _ _
theorem dpAll_rev {K : PySem.W.Frag} {H : Hp} : ∀ {vs : List V} {ds : List PyData}, DpAll K H vs ds → DpAll K H vs.reverse ds.reverse
  | _, _, .nil => .nil
  | _, _, .cons h t => by
    rw [List.reverse_cons, List.reverse_cons]
    exact dpAll_app (dpAll_rev t) (.cons h .nil)
/-! two fors in one list -/
section
variable {K : PySem.W.Frag} {H : Hp} {σ : L2.St} {Q : VK}
def LB2 (J : It) (g : TG) (tt : TT) (wi1 : TI) (g1 : TG) (tt1 : TT) (te : TE) (vs vs1 : List Nat) (σ : L2.St) (H : Hp) (Q : VK) : Prop := tLc2 (fun _ H R => R J H) g tt wi1 g1 tt1 te vs vs1 σ H Q
theorem w_lc2 {wi wi1 : TI} {g g1 : TG} {tt tt1 : TT} {te : TE} {vs vs1 : List Nat} (h : wi σ H fun J H1 => LB2 J g tt wi1 g1 tt1 te vs vs1 σ H1 Q) : tLc2 wi g tt wi1 g1 tt1 te vs vs1 σ H Q := h
/-- the inner loop, from which Nx is reached -/
def IB (J : It) (g : TG) (tt : TT) (te : TE) (vs : List Nat) (D : Addr) (σ : L2.St) (H : Hp) (Nx : Hp → Prop) : Prop :=
  ∃ U : Nat → Nat → Hp → Prop, (∃ m, U 0 m H) ∧
    ∀ j k H, U j k H → (J.stop j H ∧ Nx H) ∨
      (J.go j H ∧ ∃ Z : Hp → Prop, (∀ H', Z H' → ∃ k', k' < k ∧ U (j + 1) k' H') ∧
        ∀ x H', J.yld j H x H' →
          g x (wipe σ vs) H' fun σ3 H5 => wipe σ3 vs = wipe σ vs ∧ tt σ3 H5 fun b H6 =>
            if b = true then te σ3 H6 fun y H7 => ∃ acc, H7 D = some (.lst acc) ∧ acc.length < sizeLine ∧ Z (upd H7 D (.lst (acc ++ [y]))) else Z H6)
theorem ib_range {lo : Int} {n : Nat} {g : TG} {tt : TT} {te : TE} {vs : List Nat} {D : Addr} {Nx : Hp → Prop} (Pi : Nat → Hp → Prop) (h0 : Pi 0 H)
    (hs : ∀ j H, j < n → Pi j H → g (.int (lo + j)) (wipe σ vs) H fun σ3 H5 => wipe σ3 vs = wipe σ vs ∧ tt σ3 H5 fun b H6 =>
      if b = true then te σ3 H6 fun y H7 => ∃ acc, H7 D = some (.lst acc) ∧ acc.length < sizeLine ∧ Pi (j + 1) (upd H7 D (.lst (acc ++ [y]))) else Pi (j + 1) H6) (hd : ∀ H, Pi n H → Nx H) : IB (Itr lo n) g tt te vs D σ H Nx := by
  refine ⟨fun j k H => k = n - j ∧ j ≤ n ∧ Pi j H, ⟨n, rfl, Nat.zero_le _, h0⟩, ?_⟩
  rintro j k H ⟨rfl, hj, p⟩
  by_cases hlt : j < n
  · refine .inr ⟨hlt, Pi (j + 1), fun H' p' => ⟨n - (j + 1), by omega, rfl, hlt, p'⟩, fun x H' y => ?_⟩
    obtain ⟨e1, e2⟩ := y
    subst e1 e2
    exact hs j _ hlt p
  · have e : j = n := by omega
    subst e
    exact .inl ⟨Nat.le_refl _, hd H p⟩
theorem lb2_list {a : Addr} (xs : List V) {wi1 : TI} {g g1 : TG} {tt tt1 : TT} {te : TE} {vs vs1 : List Nat} (Pv : Addr → Nat → Hp → Prop) (h0 : ∀ D, H D = none → Pv D 0 (upd H D (.lst []))) (hl : ∀ D, H D = none → ∀ i H1, i ≤ xs.length → Pv D i H1 → SqL K H1 a xs)
    (hs : ∀ D, H D = none → ∀ i x H1, xs[i]? = some x → Pv D i H1 → g x (wipe σ vs) H1 fun σ2 H2 => wipe σ2 vs = wipe σ vs ∧ tt σ2 H2 fun b H3 =>
      if b = true then wi1 σ2 H3 fun J1 H4 => IB J1 g1 tt1 te vs1 D σ2 H4 (Pv D (i + 1)) else Pv D (i + 1) H3) (hd : ∀ D, H D = none → ∀ H1, Pv D xs.length H1 → Q (.ref D) H1) : LB2 (Itl K a) g tt wi1 g1 tt1 te vs vs1 σ H Q := by
  intro D hD
  refine ⟨fun i m H1 => m = xs.length - i ∧ i ≤ xs.length ∧ Pv D i H1, ⟨xs.length, rfl, Nat.zero_le _, h0 D hD⟩, ?_⟩
  rintro i m H1 ⟨rfl, hi, p⟩
  have q := hl D hD i H1 hi p
  by_cases hlt : i < xs.length
  · refine .inr ⟨⟨xs, _, q, List.getElem?_eq_getElem hlt⟩, Pv D (i + 1), fun H' p' => ⟨xs.length - (i + 1), by omega, rfl, hlt, p'⟩, fun x H' y => ?_⟩
    obtain ⟨e, y⟩ := y
    subst e
    exact hs D hD i x _ (y xs q) p
  · have e : i = xs.length := by omega
    subst e
    exact .inl ⟨⟨xs, q, Nat.le_refl _⟩, hd D hD H1 p⟩
theorem w_star {te : TE} {t : TA} {QA : List V → Hp → Prop} (h : te σ H fun x H1 => ∃ p xs, x = V.ref p ∧ (SqT K H1 p xs ∨ SqL K H1 p xs) ∧ t σ H1 fun ys H2 => QA (xs ++ ys) H2) : StX.tStar K te t σ H QA := h
theorem lb_tup {a : Addr} (xs : List V) {g : TG} {tt : TT} {te : TE} {vs : List Nat} (Pv : Addr → Nat → Hp → Prop) (h0 : ∀ D, H D = none → Pv D 0 (upd H D (.lst []))) (hl : ∀ D, H D = none → ∀ i H1, i ≤ xs.length → Pv D i H1 → SqT K H1 a xs)
    (hs : ∀ D, H D = none → ∀ i x H1, xs[i]? = some x → Pv D i H1 → g x (wipe σ vs) H1 fun σ2 H2 => wipe σ2 vs = wipe σ vs ∧ tt σ2 H2 fun b H3 =>
      if b = true then te σ2 H3 fun y H4 => ∃ acc, H4 D = some (.lst acc) ∧ acc.length < sizeLine ∧ Pv D (i + 1) (upd H4 D (.lst (acc ++ [y]))) else Pv D (i + 1) H3) (hd : ∀ D, H D = none → ∀ H1, Pv D xs.length H1 → Q (.ref D) H1) : LB (Itt K a) g tt te vs σ H Q :=
  fun D hD => lc_tup (Pv D) (h0 D hD) (hl D hD) (hs D hD) (hd D hD)
theorem w_revL {te : TE} (h : te σ H fun x H1 => ∃ a xs, x = .ref a ∧ SqL K H1 a xs ∧ ∀ p, H1 p = none → Q (.ref p) (upd H1 p (.lst xs.reverse))) : tRevL K te σ H Q := h
end
end Ct
namespace Ct
open PySem PySem.Spec PyProof.Rows L2
theorem w_catA {K : PySem.W.Frag} {H : Hp} {Q : VK} {a b : Addr} {xs ys : List V} (ha : SqT K H a xs) (hb : SqT K H b ys) (l : xs.length + ys.length ≤ 1000) (q : ∀ u H', Same H H' → SqT K H' u (xs ++ ys) → Q (.ref u) H') : rCatA K (.ref a) (.ref b) H Q := by
  refine ⟨a, b, xs, ys, rfl, rfl, ha, hb, Nat.le_of_lt (small1000 l), fun hx => ?_, fun _ hy => ?_, fun _ _ p np => ?_⟩
  · refine q b H (Same.refl H) ?_
    rw [hx, List.nil_append]
    exact hb
  · refine q a H (Same.refl H) ?_
    rw [hy, List.append_nil]
    exact ha
  · exact q p _ (same_upd np) (.of upd_same)
end Ct
namespace Ct
open PySem PySem.Spec PyProof.Rows L2
theorem standL_app : ∀ {ps qs : List Part} {xs ys : List Int}, StandL ps xs → StandL qs ys → StandL (ps ++ qs) (xs ++ ys)
  | [], _, [], _, _, h => h
  | _ :: _, _, _ :: _, _, ⟨a, b, c, d⟩, h => ⟨a, b, c, standL_app d h⟩
end Ct
namespace Ct
open PySem PySem.Spec PyProof.Rows L2
/-! signs fed to a train -/
def isSg : PyData → Bool
  | .int i => decide (i ∈ [(1 : Int), -1, 0])
  | _ => false
theorem isSg_of {s : Int} (h : s = 0 ∨ Sign s) : isSg (.int s) = true := by
  rcases h with h | h | h <;> rw [h] <;> decide
theorem run_zero (ps : List Part) (xs : List Int) (i : Nat) : Ct.run ps xs i 0 = (xs, 0) := by
  unfold Ct.run
  have z := runN_zero (ps := ps) (i := i) (s := (xs, 0)) (n := 0) rfl (ps.length - i)
  rw [Nat.zero_add] at z
  exact z
theorem run_stand {ps : List Part} {xs : List Int} {i : Nat} {w : Int} (h : StandL ps xs) (hi : i < ps.length) (hw : w = 0 ∨ Sign w) : StandL ps (Ct.run ps xs i w).1 := by
  rcases hw with e | e
  · rw [e, run_zero]
    exact h
  · rw [← run_deed h hi e]
    exact deedL_stand h ⟨hi, e⟩
def fedS (ps : List Part) : List Int → List Int → List Int × List Int
  | xs, [] => (xs, [])
  | xs, s :: r => ((fedS ps (Ct.run ps xs 0 s).1 r).1, (Ct.run ps xs 0 s).2 :: (fedS ps (Ct.run ps xs 0 s).1 r).2)
theorem fedS_snoc (ps : List Part) (s : Int) : ∀ (ss : List Int) (xs : List Int), fedS ps xs (ss ++ [s]) = ((Ct.run ps (fedS ps xs ss).1 0 s).1, (fedS ps xs ss).2 ++ [(Ct.run ps (fedS ps xs ss).1 0 s).2])
  | [], xs => rfl
  | a :: r, xs => by
    rw [List.cons_append, fedS, fedS_snoc ps s r, fedS]
    rfl
theorem fedS_take {ps : List Part} {ss : List Int} {k : Nat} {s : Int} (xs : List Int) (h : ss[k]? = some s) : fedS ps xs (ss.take (k + 1)) = ((Ct.run ps (fedS ps xs (ss.take k)).1 0 s).1, (fedS ps xs (ss.take k)).2 ++ [(Ct.run ps (fedS ps xs (ss.take k)).1 0 s).2]) := by
  rw [← fedS_snoc, List.take_add_one, h]
  rfl
theorem fedS_stand {ps : List Part} (h1 : 1 ≤ ps.length) : ∀ {ss : List Int} {xs : List Int}, StandL ps xs → (∀ s ∈ ss, s = 0 ∨ Sign s) → StandL ps (fedS ps xs ss).1
  | [], _, h, _ => h
  | s :: r, _, h, hs => fedS_stand (ss := r) h1 (run_stand h h1 (hs s List.mem_cons_self)) fun t ht => hs t (List.mem_cons_of_mem s ht)
theorem fedS_len (ps : List Part) : ∀ (ss : List Int) (xs : List Int), (fedS ps xs ss).2.length = ss.length
  | [], _ => rfl
  | s :: r, xs => by
    rw [fedS, List.length_cons, List.length_cons, fedS_len ps r]
end Ct
namespace Ct
open PySem PySem.Spec PyProof.Rows L2
theorem fold_mem : ∀ (ps : List Part) (ss : List (List Int)) (xs : List Int), (∀ p ∈ ps, p.ok) → (xs ∈ ps.foldl grow ss ↔ ∃ s ∈ ss, ∃ ys, xs = s ++ ys ∧ StandL ps ys)
  | [], ss, xs, _ => by
    constructor
    · intro h
      exact ⟨xs, h, [], (List.append_nil xs).symm, trivial⟩
    · rintro ⟨s, hs, ys, rfl, hy⟩
      cases ys with
      | nil => rw [List.append_nil]; exact hs
      | cons _ _ => exact nomatch hy
  | p :: ps, ss, xs, ok => by
    have po := (ok p List.mem_cons_self).pos.1
    rw [List.foldl_cons, fold_mem ps (grow ss p) xs fun q hq => ok q (List.mem_cons_of_mem _ hq)]
    constructor
    · rintro ⟨s', hs', ys, rfl, hy⟩
      obtain ⟨s, hs, hin⟩ := List.mem_flatMap.mp hs'
      obtain ⟨k, hk, rfl⟩ := List.mem_map.mp hin
      rw [List.mem_range] at hk
      exact ⟨s, hs, (k : Int) :: ys, by rw [List.append_assoc]; rfl, ok p List.mem_cons_self, by omega, by omega, hy⟩
    · rintro ⟨s, hs, ys, rfl, hy⟩
      cases ys with
      | nil => exact nomatch hy
      | cons y ys =>
        obtain ⟨_, y0, y1, hy⟩ := hy
        refine ⟨s ++ [y], List.mem_flatMap.mpr ⟨s, hs, List.mem_map.mpr ⟨y.toNat, List.mem_range.mpr (by omega), by rw [Int.toNat_of_nonneg y0]⟩⟩, ys, by rw [List.append_assoc]; rfl, hy⟩
theorem allS_mem {ps : List Part} (ok : ∀ p ∈ ps, p.ok) (xs : List Int) : xs ∈ allS ps ↔ StandL ps xs := by
  rw [allS, fold_mem ps [[]] xs ok]
  constructor
  · rintro ⟨s, hs, ys, rfl, hy⟩
    rw [List.mem_singleton] at hs
    rw [hs]
    exact hy
  · intro h
    exact ⟨[], List.mem_singleton.mpr rfl, xs, rfl, h⟩
/-! one-way trains -/
def gvb : Part → Bool
  | .wheel _ ms => decide (0 < ms.length)
  | _ => false
theorem pp_back {p : Part} {x w : Int} (hw : Sign w) (h : (pp p x w).2 = -1) : w = -1 ∧ gvb p = true := by
  have e := pp_way p x w hw
  rw [h] at e
  have hw1 : w = -1 := by
    rcases e with e | e
    · exact absurd e (by decide)
    · exact e.symm
  refine ⟨hw1, ?_⟩
  subst hw1
  cases p with
  | wheel z ms =>
    have h : (if (if (-1 : Int) = 1 then (x + -1) % z else x) ∈ ms then (-1 : Int) else 0) = -1 := h
    by_cases e2 : (if (-1 : Int) = 1 then (x + -1) % z else x) ∈ ms
    · exact decide_eq_true (List.length_pos_of_mem e2)
    · rw [if_neg e2] at h
      exact absurd h (by decide)
  | click => exact absurd (show (if (-1 : Int) = 1 then (1 : Int) else 0) = -1 from h) (by decide)
  | rocker =>
    have h : (if (-1 : Int) = 1 ∧ x = 0 then (1 : Int) else 0) = -1 := h
    rw [if_neg (by intro z; exact absurd z.1 (by decide))] at h
    exact absurd h (by decide)
  | spring k => exact absurd (show (0 : Int) = -1 from h) (by decide)
/-- what is shown below nought comes through all parts -/
theorem gen_back : ∀ {ps : List Part} {xs : List Int} {w : Int}, w = 0 ∨ Sign w → xs.length = ps.length → (gen ppz ps xs w).2 = -1 → w = -1 ∧ ps.all gvb = true
  | [], [], w, _, _, h => ⟨h, rfl⟩
  | p :: ps, x :: xs, w, hw, hl, h => by
    have hl' : xs.length = ps.length := Nat.succ.inj hl
    have h' : (gen ppz ps xs (ppz p x w).2).2 = -1 := h
    have hz : (ppz p x w).2 = 0 ∨ Sign (ppz p x w).2 := by
      unfold ppz
      split
      · exact .inl rfl
      · rename_i e
        exact pp_sign p x w (hw.resolve_left e)
    obtain ⟨h1, h2⟩ := gen_back hz hl' h'
    have e : w ≠ 0 := fun z => by
      rw [show ppz p x w = (x, 0) from if_pos z] at h1
      exact absurd (show (0 : Int) = -1 from h1) (by decide)
    unfold ppz at h1
    rw [if_neg e] at h1
    obtain ⟨h3, h4⟩ := pp_back (hw.resolve_left e) h1
    exact ⟨h3, by rw [List.all_cons, h4, h2]; rfl⟩
/-- a stand at which each wheel stands at a mark -/
def atMarks : List Part → List Int
  | [] => []
  | .wheel _ (m :: _) :: r => m :: atMarks r
  | _ :: r => 0 :: atMarks r
theorem marks_back : ∀ {ps : List Part}, (∀ p ∈ ps, p.ok) → ps.all gvb = true → StandL ps (atMarks ps) ∧ (gen ppz ps (atMarks ps) (-1)).2 = -1
  | [], _, _ => ⟨trivial, rfl⟩
  | .wheel z (m :: ms) :: r, ok, h => by
    rw [List.all_cons, Bool.and_eq_true] at h
    have o := ok _ List.mem_cons_self
    obtain ⟨h1, h2⟩ := marks_back (fun p hp => ok p (List.mem_cons_of_mem _ hp)) h.2
    have hm := o.2.2.1.2 m List.mem_cons_self
    refine ⟨⟨o, hm.1, hm.2, h1⟩, ?_⟩
    show (gen ppz r (atMarks r) (ppz (.wheel z (m :: ms)) m (-1)).2).2 = -1
    rw [show (ppz (.wheel z (m :: ms)) m (-1)).2 = -1 from if_pos List.mem_cons_self]
    exact h2
  | .wheel z [] :: r, _, h => by
    rw [List.all_cons, Bool.and_eq_true] at h
    exact absurd (show false = true from h.1) (by decide)
  | .click :: r, _, h => by
    rw [List.all_cons, Bool.and_eq_true] at h
    exact absurd h.1 (by decide)
  | .rocker :: r, _, h => by
    rw [List.all_cons, Bool.and_eq_true] at h
    exact absurd h.1 (by decide)
  | .spring k :: r, _, h => by
    rw [List.all_cons, Bool.and_eq_true] at h
    exact absurd (show false = true from h.1) (by decide)
theorem run_back {ps : List Part} {xs : List Int} {w : Int} (hl : xs.length = ps.length) (hw : Sign w) (h : (Ct.run ps xs 0 w).2 = -1) : w = -1 ∧ ps.all gvb = true := by
  rw [run_gen hl (Nat.zero_le _)] at h
  exact gen_back (.inr hw) hl h
theorem run_marks {ps : List Part} (ok : ∀ p ∈ ps, p.ok) (h : ps.all gvb = true) : StandL ps (atMarks ps) ∧ (Ct.run ps (atMarks ps) 0 (-1)).2 = -1 := by
  obtain ⟨h1, h2⟩ := marks_back ok h
  refine ⟨h1, ?_⟩
  rw [run_gen h1.len (Nat.zero_le _)]
  exact h2
/-! worn teeth -/
def offMark (ms : List Int) (m : Int) : List Int := ms.filter fun k => !decide (k = m)
def wornP (ps : List Part) : Option (Nat × Int) → List Part
  | none => ps
  | some (i, m) => match ps[i]? with
    | some (.wheel z ms) => ps.set i (.wheel z (offMark ms m))
    | _ => ps
theorem offMark_ok {z : Int} {ms : List Int} {m : Int} (h : (Part.wheel z ms).ok) : (Part.wheel z (offMark ms m)).ok :=
  ⟨h.1, h.2.1, ⟨h.2.2.1.1.filter _, fun k hk => h.2.2.1.2 k (List.mem_filter.mp hk).1⟩, Nat.le_trans (List.length_filter_le _ _) h.2.2.2⟩
theorem wornP_ok {ps : List Part} (h : ∀ p ∈ ps, p.ok) (w : Option (Nat × Int)) : ∀ p ∈ wornP ps w, p.ok := by
  unfold wornP
  split
  · exact h
  · split
    · rename_i i m z ms e
      intro p hp
      rcases List.mem_or_eq_of_mem_set hp with hp | hp
      · exact h p hp
      · rw [hp]
        exact offMark_ok (h _ (List.mem_of_getElem? e))
    · exact h
theorem wornP_len (ps : List Part) (w : Option (Nat × Int)) : (wornP ps w).length = ps.length := by
  unfold wornP
  split
  · rfl
  · split
    · rw [List.length_set]
    · rfl
/-- a wear as it is handed in -/
def WearAt (K : PySem.W.Frag) (H : Hp) (v : V) : Option (Nat × Int) → Prop
  | none => v = .non
  | some (i, m) => ∃ g, v = .ref g ∧ SqT K H g [.int i, .int m]
end Ct
namespace Ct
open PySem PySem.Spec PyProof.Rows L2
theorem dpAll_set {K : PySem.W.Frag} {H : Hp} : ∀ {vs : List V} {ds : List PyData} {i : Nat} {v : V} {d : PyData}, DpAll K H vs ds → Dp K H v d → DpAll K H (vs.set i v) (ds.set i d)
  | _, _, _, _, _, .nil, _ => .nil
  | _, _, 0, _, _, .cons _ t, h => .cons h t
  | _, _, _ + 1, _, _, .cons a t, h => .cons a (dpAll_set t h)
theorem WearAt.same {K : PySem.W.Frag} {H H' : Hp} {v : V} {w : Option (Nat × Int)} (s : Same H H') (h : WearAt K H v w) : WearAt K H' v w := by
  cases w with
  | none => exact h
  | some im =>
    obtain ⟨g, e, hg⟩ := h
    exact ⟨g, e, Same.tup s hg⟩
end Ct
namespace Ct
open PySem PySem.Spec PyProof.Rows L2
/-! trains behind one another -/
theorem gen_app (f : Part → Int → Int → Int × Int) (qs : List Part) (ys : List Int) : ∀ (ps : List Part) (xs : List Int) (a : Int), xs.length = ps.length →
    gen f (ps ++ qs) (xs ++ ys) a = ((gen f ps xs a).1 ++ (gen f qs ys (gen f ps xs a).2).1, (gen f qs ys (gen f ps xs a).2).2)
  | [], [], _, _ => rfl
  | p :: ps, x :: xs, a, h => by
    have ih := gen_app f qs ys ps xs (f p x a).2 (Nat.succ.inj h)
    show ((f p x a).1 :: (gen f (ps ++ qs) (xs ++ ys) (f p x a).2).1, (gen f (ps ++ qs) (xs ++ ys) (f p x a).2).2) = _
    rw [ih]
    rfl
theorem run0 {ps : List Part} {xs : List Int} (w : Int) (hx : xs.length = ps.length) : Ct.run ps xs 0 w = gen ppz ps xs w := by
  rw [run_gen hx (Nat.zero_le _)]
  rfl
theorem run_len (ps : List Part) (xs : List Int) (w : Int) : (Ct.run ps xs 0 w).1.length = xs.length := runN_len ps 0 (xs, w) _
theorem run_app {ps qs : List Part} {xs ys : List Int} (w : Int) (hx : xs.length = ps.length) (hy : ys.length = qs.length) :
    Ct.run (ps ++ qs) (xs ++ ys) 0 w = ((Ct.run ps xs 0 w).1 ++ (Ct.run qs ys 0 (Ct.run ps xs 0 w).2).1, (Ct.run qs ys 0 (Ct.run ps xs 0 w).2).2) := by
  rw [run0 w (by rw [List.length_append, List.length_append, hx, hy]), gen_app ppz qs ys ps xs w hx, run0 w hx, run0 _ hy]
theorem run_sg {ps : List Part} {xs : List Int} {w : Int} (hw : w = 0 ∨ Sign w) : (Ct.run ps xs 0 w).2 = 0 ∨ Sign (Ct.run ps xs 0 w).2 := by
  rcases hw with e | e
  · rw [e, run_zero]
    exact .inl rfl
  · exact runN_sign ps 0 (xs, w) e _
theorem fedS_sg {ps : List Part} : ∀ {ss : List Int} {xs : List Int}, (∀ s ∈ ss, s = 0 ∨ Sign s) → ∀ s ∈ (fedS ps xs ss).2, s = 0 ∨ Sign s
  | [], _, _, _, h => by cases h
  | s :: r, xs, hs, t, h => by
    rcases List.mem_cons.mp h with h | h
    · rw [h]
      exact run_sg (hs s List.mem_cons_self)
    · exact fedS_sg (ss := r) (fun u hu => hs u (List.mem_cons_of_mem s hu)) t h
theorem fedS_len1 (ps : List Part) : ∀ (ss : List Int) (xs : List Int), (fedS ps xs ss).1.length = xs.length
  | [], _ => rfl
  | s :: r, xs => by rw [fedS, fedS_len1 ps r, run_len]
theorem fed_app {ps qs : List Part} : ∀ {ss : List Int} {xs ys : List Int}, xs.length = ps.length → ys.length = qs.length →
    fedS (ps ++ qs) (xs ++ ys) ss = ((fedS ps xs ss).1 ++ (fedS qs ys (fedS ps xs ss).2).1, (fedS qs ys (fedS ps xs ss).2).2)
  | [], _, _, _, _ => rfl
  | s :: r, xs, ys, hx, hy => by
    have ih := fed_app (ss := r) (xs := (Ct.run ps xs 0 s).1) (ys := (Ct.run qs ys 0 (Ct.run ps xs 0 s).2).1) (by rw [run_len, hx]) (by rw [run_len, hy])
    rw [fedS, run_app s hx hy, fedS]
    show ((fedS (ps ++ qs) ((Ct.run ps xs 0 s).1 ++ (Ct.run qs ys 0 (Ct.run ps xs 0 s).2).1) r).1, (Ct.run qs ys 0 (Ct.run ps xs 0 s).2).2 :: (fedS (ps ++ qs) ((Ct.run ps xs 0 s).1 ++ (Ct.run qs ys 0 (Ct.run ps xs 0 s).2).1) r).2) = _
    rw [ih]
    rfl
theorem gen_nought {w : Int} : ∀ {ps : List Part} {xs : List Int}, StandL ps xs → gen (ptw w) ps xs 0 = (xs, 0)
  | [], [], _ => rfl
  | p :: ps, x :: xs, h => by
    obtain ⟨ok, x0, x1, hr⟩ := h
    show ((ptw w p x 0).1 :: (gen (ptw w) ps xs (ptw w p x 0).2).1, (gen (ptw w) ps xs (ptw w p x 0).2).2) = _
    rw [show ptw w p x 0 = (x, 0) from pt_zero ok x0 x1, gen_nought hr]
theorem gen_upto {w : Int} (hw : Sign w) : ∀ {ps : List Part} {xs : List Int} {t : Int}, 0 ≤ t → StandL ps xs → 0 ≤ (gen (ptw w) ps xs t).2 ∧ (gen (ptw w) ps xs t).2 ≤ t
  | [], [], t, h, _ => ⟨h, Int.le_refl _⟩
  | p :: ps, x :: xs, t, h, hs => by
    obtain ⟨ok, x0, x1, hr⟩ := hs
    have e : ((t.toNat : Nat) : Int) = t := Int.toNat_of_nonneg h
    have h1 := pt_nn ok x0 x1 hw t.toNat
    have h2 := pt_le ok x0 x1 hw t.toNat
    rw [e] at h1 h2
    have ih := gen_upto (ps := ps) (xs := xs) (t := (ptw w p x t).2) hw h1 hr
    exact ⟨ih.1, Int.le_trans ih.2 h2⟩
/-- a deed at a part of the first train: what it gives comes to the second one -/
theorem deed_front {ps qs : List Part} {xs ys : List Int} {d : Deed} (hx : StandL ps xs) (hy : StandL qs ys) (hd : d.ok ps.length) {w' : Int} {t' : Nat} (hw' : w' = if (deedL ps xs d).2 < 0 then -1 else 1) (ht' : (t' : Int) = if (deedL ps xs d).2 < 0 then -(deedL ps xs d).2 else (deedL ps xs d).2) :
    t' ≤ d.t ∧ deedL (ps ++ qs) (xs ++ ys) d = ((deedL ps xs d).1 ++ (deedL qs ys ⟨0, w', t'⟩).1, (deedL qs ys ⟨0, w', t'⟩).2) := by
  have hl := hx.len
  have e1 : (xs ++ ys).take d.i = xs.take d.i := List.take_append_of_le_length (by have := hd.1; omega)
  have e2 : (xs ++ ys).drop d.i = xs.drop d.i ++ ys := List.drop_append_of_le_length (by have := hd.1; omega)
  have e3 : (ps ++ qs).drop d.i = ps.drop d.i ++ qs := List.drop_append_of_le_length (by have := hd.1; omega)
  have hg := gen_upto (t := (d.t : Int)) hd.2 (by omega) (stand_drop d.i hx)
  have ga := gen_app (ptw d.w) qs ys (ps.drop d.i) (xs.drop d.i) d.t (by rw [List.length_drop, List.length_drop, hl])
  unfold deedL at hw' ht' ⊢
  rw [e1, e2, e3, ga]
  generalize gen (ptw d.w) (ps.drop d.i) (xs.drop d.i) d.t = r at *
  have hw' : w' = if d.w * r.2 < 0 then -1 else 1 := hw'
  have ht' : (t' : Int) = if d.w * r.2 < 0 then -(d.w * r.2) else d.w * r.2 := ht'
  have et : (t' : Int) = r.2 := by
    rcases hd.2 with e | e <;> rw [e] at ht' <;> split at ht' <;> omega
  refine ⟨by omega, ?_⟩
  show (xs.take d.i ++ (r.1 ++ (gen (ptw d.w) qs ys r.2).1), d.w * (gen (ptw d.w) qs ys r.2).2) = ((xs.take d.i ++ r.1) ++ ([] ++ (gen (ptw w') qs ys (t' : Int)).1), w' * (gen (ptw w') qs ys (t' : Int)).2)
  rw [et, List.nil_append, List.append_assoc]
  by_cases h0 : r.2 = 0
  · rw [h0, gen_nought hy, gen_nought hy, Int.mul_zero, Int.mul_zero]
  · have ew : w' = d.w := by
      rcases hd.2 with e | e <;> rw [e] at hw' ⊢ <;> rw [hw'] <;> split <;> omega
    rw [ew]
theorem deed_behind {ps qs : List Part} {xs ys : List Int} {d : Deed} {j : Nat} (hx : xs.length = ps.length) (hi : d.i = ps.length + j) : deedL (ps ++ qs) (xs ++ ys) d = (xs ++ (deedL qs ys ⟨j, d.w, d.t⟩).1, (deedL qs ys ⟨j, d.w, d.t⟩).2) := by
  unfold deedL
  rw [hi]
  have e1 : (xs ++ ys).take (ps.length + j) = xs ++ ys.take j := by rw [← hx, List.take_length_add_append]
  have e2 : (xs ++ ys).drop (ps.length + j) = ys.drop j := by rw [← hx, List.drop_length_add_append]
  have e3 : (ps ++ qs).drop (ps.length + j) = qs.drop j := by rw [List.drop_length_add_append]
  rw [e1, e2, e3, List.append_assoc]
end Ct

namespace Ct
open PySem PySem.Spec PyProof.Rows L2
/-! a row done often -/
def itR (ps : List Part) (ds : List Deed) : Nat → List Int → List Int × Int
  | 0, xs => (xs, 0)
  | n + 1, xs => ((rowL ps ds ((itR ps ds n xs).1, 0)).1, (itR ps ds n xs).2 + (rowL ps ds ((itR ps ds n xs).1, 0)).2)
theorem itR_stand {ps : List Part} {ds : List Deed} {xs : List Int} (h : StandL ps xs) (hd : ∀ d ∈ ds, d.ok ps.length) : ∀ n, StandL ps (itR ps ds n xs).1
  | 0 => h
  | n + 1 => rowL_stand (s := ((itR ps ds n xs).1, 0)) (itR_stand h hd n) hd
theorem itR_round {ps : List Part} {ds : List Deed} {xs : List Int} {j k : Nat} (e : (itR ps ds j xs).1 = (itR ps ds k xs).1) : ∀ m, (itR ps ds (k + m) xs).1 = (itR ps ds (j + m) xs).1 ∧ (itR ps ds (k + m) xs).2 - (itR ps ds (j + m) xs).2 = (itR ps ds k xs).2 - (itR ps ds j xs).2
  | 0 => ⟨e.symm, rfl⟩
  | m + 1 => by
    obtain ⟨h1, h2⟩ := itR_round e m
    show (rowL ps ds ((itR ps ds (k + m) xs).1, 0)).1 = (rowL ps ds ((itR ps ds (j + m) xs).1, 0)).1 ∧ (itR ps ds (k + m) xs).2 + (rowL ps ds ((itR ps ds (k + m) xs).1, 0)).2 - ((itR ps ds (j + m) xs).2 + (rowL ps ds ((itR ps ds (j + m) xs).1, 0)).2) = _
    rw [h1]
    exact ⟨rfl, by omega⟩
theorem itR_rounds {ps : List Part} {ds : List Deed} {xs : List Int} {j k : Nat} (hjk : j ≤ k) (e : (itR ps ds j xs).1 = (itR ps ds k xs).1) (m : Nat) : ∀ r : Nat, itR ps ds (j + m + r * (k - j)) xs = ((itR ps ds (j + m) xs).1, (itR ps ds (j + m) xs).2 + (r : Int) * ((itR ps ds k xs).2 - (itR ps ds j xs).2))
  | 0 => by
    rw [Nat.zero_mul, Nat.add_zero, show ((0 : Nat) : Int) = 0 from rfl, Int.zero_mul, Int.add_zero]
  | r + 1 => by
    have ih := itR_rounds hjk e m r
    have hr := itR_round e (m + r * (k - j))
    rw [← Nat.add_assoc j m, ih] at hr
    rw [show j + m + (r + 1) * (k - j) = k + (m + r * (k - j)) by rw [Nat.add_mul, Nat.one_mul]; omega]
    refine Prod.ext hr.1 ?_
    have h2 : (itR ps ds (k + (m + r * (k - j))) xs).2 - ((itR ps ds (j + m) xs).2 + (r : Int) * ((itR ps ds k xs).2 - (itR ps ds j xs).2)) = (itR ps ds k xs).2 - (itR ps ds j xs).2 := hr.2
    show (itR ps ds (k + (m + r * (k - j))) xs).2 = (itR ps ds (j + m) xs).2 + ((r + 1 : Nat) : Int) * ((itR ps ds k xs).2 - (itR ps ds j xs).2)
    rw [show ((r + 1 : Nat) : Int) = (r : Int) + 1 by omega, Int.add_mul, Int.one_mul]
    omega
/-- the way round, reckoned -/
theorem itR_at {ps : List Part} {ds : List Deed} {xs : List Int} {j k n : Nat} (hjk : j < k) (hn : j ≤ n) (e : (itR ps ds j xs).1 = (itR ps ds k xs).1) :
    itR ps ds n xs = ((itR ps ds (j + (n - j) % (k - j)) xs).1, (itR ps ds (j + (n - j) % (k - j)) xs).2 + (((n - j) / (k - j) : Nat) : Int) * ((itR ps ds k xs).2 - (itR ps ds j xs).2)) := by
  have h := itR_rounds (Nat.le_of_lt hjk) e ((n - j) % (k - j)) ((n - j) / (k - j))
  rw [show j + (n - j) % (k - j) + (n - j) / (k - j) * (k - j) = n by
    have := Nat.mod_add_div (n - j) (k - j)
    rw [Nat.mul_comm (k - j)] at this
    omega] at h
  exact h
/-! no more unlike stands than there are -/
theorem filt_len {N : Nat} : ∀ {l : List Nat}, l.Nodup → (∀ x ∈ l, x < N + 1) → l.length ≤ (l.filter fun x => decide (x < N)).length + 1
  | [], _, _ => Nat.zero_le _
  | a :: r, hn, h => by
    obtain ⟨h1, h2⟩ := List.nodup_cons.mp hn
    by_cases ha : a < N
    · rw [List.filter_cons, if_pos (decide_eq_true ha), List.length_cons, List.length_cons]
      have := filt_len h2 fun x hx => h x (List.mem_cons_of_mem _ hx)
      omega
    · have ea : a = N := by
        have := h a List.mem_cons_self
        omega
      have : (r.filter fun x => decide (x < N)) = r := List.filter_eq_self.mpr fun x hx => decide_eq_true (by
        have h3 := h x (List.mem_cons_of_mem _ hx)
        have h4 : x ≠ N := fun z => h1 (by rw [ea, ← z]; exact hx)
        omega)
      rw [List.filter_cons, if_neg (by rw [decide_eq_false ha]; exact Bool.false_ne_true), this, List.length_cons]
      omega
theorem holes : ∀ (N : Nat) (l : List Nat), l.Nodup → (∀ x ∈ l, x < N) → l.length ≤ N
  | 0, [], _, _ => Nat.le_refl _
  | 0, a :: _, _, h => absurd (h a List.mem_cons_self) (Nat.not_lt_zero a)
  | N + 1, l, hn, h => by
    have h1 := filt_len hn h
    have h2 := holes N (l.filter fun x => decide (x < N)) (hn.filter _) fun x hx => of_decide_eq_true (List.mem_filter.mp hx).2
    omega
def code : List Part → List Int → Nat
  | _ :: ps, x :: xs => x.toNat * (stands ps).toNat + code ps xs
  | _, _ => 0
theorem code_lt : ∀ {ps : List Part} {xs : List Int}, StandL ps xs → code ps xs < (stands ps).toNat
  | [], [], _ => by decide
  | p :: ps, x :: xs, ⟨ok, h0, h1, h⟩ => by
    have ih := code_lt (ps := ps) (xs := xs) h
    have po := ok.pos.1
    show x.toNat * (stands ps).toNat + code ps xs < (p.places * stands ps).toNat
    have sp : 1 ≤ stands ps := stands_pos ps h.okp
    have e : (p.places * stands ps).toNat = p.places.toNat * (stands ps).toNat := by
      rw [Int.toNat_mul (by omega) (by omega)]
    rw [e]
    have hx : x.toNat + 1 ≤ p.places.toNat := by omega
    have := Nat.mul_le_mul_right (stands ps).toNat hx
    rw [Nat.add_mul, Nat.one_mul] at this
    omega
theorem code_inj : ∀ {ps : List Part} {xs ys : List Int}, StandL ps xs → StandL ps ys → code ps xs = code ps ys → xs = ys
  | [], [], [], _, _, _ => rfl
  | p :: ps, x :: xs, y :: ys, ⟨_, a0, _, ha⟩, ⟨_, b0, _, hb⟩, e => by
    have la := code_lt ha
    have lb := code_lt hb
    have e2 : x.toNat * (stands ps).toNat + code ps xs = y.toNat * (stands ps).toNat + code ps ys := e
    generalize (stands ps).toNat = N at *
    have d1 : (x.toNat * N + code ps xs) / N = x.toNat := by
      rw [Nat.mul_comm, Nat.mul_add_div (by omega), Nat.div_eq_of_lt la, Nat.add_zero]
    have d2 : (y.toNat * N + code ps ys) / N = y.toNat := by
      rw [Nat.mul_comm, Nat.mul_add_div (by omega), Nat.div_eq_of_lt lb, Nat.add_zero]
    rw [e2, d2] at d1
    have ex : x = y := by omega
    subst ex
    rw [code_inj ha hb (by omega)]
theorem few_stands {ps : List Part} {ds : List Deed} {xs : List Int} (h : StandL ps xs) (hd : ∀ d ∈ ds, d.ok ps.length) {k : Nat} (dist : ∀ i j, i < j → j < k → (itR ps ds i xs).1 ≠ (itR ps ds j xs).1) : k ≤ (stands ps).toNat := by
  have := holes (stands ps).toNat ((List.range k).map fun i => code ps (itR ps ds i xs).1) ?_ ?_
  · rw [List.length_map, List.length_range] at this
    exact this
  · rw [List.nodup_iff_pairwise_ne, List.pairwise_map]
    refine List.Pairwise.imp_of_mem (fun {a b} ha hb hab => ?_) (List.pairwise_lt_range (n := k))
    rw [List.mem_range] at ha hb
    exact fun z => dist a b hab hb (code_inj (itR_stand h hd a) (itR_stand h hd b) z)
  · intro x hx
    obtain ⟨i, _, rfl⟩ := List.mem_map.mp hx
    exact code_lt (itR_stand h hd i)
/-! how great a sum may be -/
theorem gen_le {w : Int} (hw : Sign w) : ∀ (ps : List Part) (xs : List Int) (t : Int), 0 ≤ t → StandL ps xs → (gen (ptw w) ps xs t).2 ≤ t
  | [], [], t, _, _ => Int.le_refl _
  | p :: ps, x :: xs, t, ht, ⟨ok, h0, h1, h⟩ => by
    have e : ((t.toNat : Nat) : Int) = t := by omega
    have a := pt_le ok h0 h1 hw t.toNat
    have n := pt_nn ok h0 h1 hw t.toNat
    rw [e] at a n
    exact Int.le_trans (gen_le hw ps xs (pt p x w t).2 n h) a
theorem deedL_sum {ps : List Part} {xs : List Int} {d : Deed} (h : StandL ps xs) (hd : d.ok ps.length) : -(d.t : Int) ≤ (deedL ps xs d).2 ∧ (deedL ps xs d).2 ≤ d.t := by
  have g1 := (gen_stand hd.2 _ _ (d.t : Int) (by omega) (stand_drop d.i h)).2
  have g2 := gen_le hd.2 _ _ (d.t : Int) (by omega) (stand_drop d.i h)
  show -(d.t : Int) ≤ d.w * (gen (ptw d.w) (ps.drop d.i) (xs.drop d.i) d.t).2 ∧ d.w * (gen (ptw d.w) (ps.drop d.i) (xs.drop d.i) d.t).2 ≤ d.t
  generalize (gen (ptw d.w) (ps.drop d.i) (xs.drop d.i) d.t).2 = g at *
  rcases hd.2 with e | e
  · rw [e, Int.one_mul]
    exact ⟨by omega, g2⟩
  · rw [e]
    exact ⟨by omega, by omega⟩
theorem rowL_sum {ps : List Part} : ∀ {ds : List Deed} {s : List Int × Int}, StandL ps s.1 → (∀ d ∈ ds, d.ok ps.length ∧ d.t < 2 ^ 200) → s.2 - ds.length * 2 ^ 200 ≤ (rowL ps ds s).2 ∧ (rowL ps ds s).2 ≤ s.2 + ds.length * 2 ^ 200
  | [], s, _, _ => by
    show s.2 - ((0 : Nat) : Int) * 2 ^ 200 ≤ s.2 ∧ s.2 ≤ s.2 + ((0 : Nat) : Int) * 2 ^ 200
    rw [show ((0 : Nat) : Int) = 0 from rfl, Int.zero_mul]
    omega
  | d :: ds, s, h, hd => by
    have d0 := hd d List.mem_cons_self
    have a := deedL_sum h d0.1
    have ih := rowL_sum (ds := ds) (s := ((deedL ps s.1 d).1, s.2 + (deedL ps s.1 d).2)) (deedL_stand h d0.1) fun e he => hd e (List.mem_cons_of_mem _ he)
    have i1 : s.2 + (deedL ps s.1 d).2 - (ds.length : Int) * 2 ^ 200 ≤ (rowL ps (d :: ds) s).2 := ih.1
    have i2 : (rowL ps (d :: ds) s).2 ≤ s.2 + (deedL ps s.1 d).2 + (ds.length : Int) * 2 ^ 200 := ih.2
    have dt := d0.2
    rw [List.length_cons, show ((ds.length + 1 : Nat) : Int) = (ds.length : Int) + 1 by omega, Int.add_mul, Int.one_mul]
    omega
theorem itR_sum {ps : List Part} {ds : List Deed} {xs : List Int} (h : StandL ps xs) (hd : ∀ d ∈ ds, d.ok ps.length ∧ d.t < 2 ^ 200) (hl : ds.length ≤ 1000) : ∀ n : Nat, -(n : Int) * 2 ^ 210 ≤ (itR ps ds n xs).2 ∧ (itR ps ds n xs).2 ≤ (n : Int) * 2 ^ 210
  | 0 => by
    show -((0 : Nat) : Int) * 2 ^ 210 ≤ 0 ∧ (0 : Int) ≤ ((0 : Nat) : Int) * 2 ^ 210
    decide
  | n + 1 => by
    have ih := itR_sum h hd hl n
    have r := rowL_sum (s := ((itR ps ds n xs).1, 0)) (itR_stand h (fun d hm => (hd d hm).1) n) hd
    have r1 : (0 : Int) - ds.length * 2 ^ 200 ≤ (rowL ps ds ((itR ps ds n xs).1, 0)).2 := r.1
    have r2 : (rowL ps ds ((itR ps ds n xs).1, 0)).2 ≤ 0 + ds.length * 2 ^ 200 := r.2
    show -((n + 1 : Nat) : Int) * 2 ^ 210 ≤ (itR ps ds n xs).2 + (rowL ps ds ((itR ps ds n xs).1, 0)).2 ∧ (itR ps ds n xs).2 + (rowL ps ds ((itR ps ds n xs).1, 0)).2 ≤ ((n + 1 : Nat) : Int) * 2 ^ 210
    rw [show ((n + 1 : Nat) : Int) = (n : Int) + 1 by omega]
    omega
theorem inl_inj : ∀ {xs ys : List Int}, xs.map (Sum.inl : Int → Key) = ys.map Sum.inl → xs = ys
  | [], [], _ => rfl
  | [], _ :: _, h => nomatch h
  | _ :: _, [], h => nomatch h
  | x :: xs, y :: ys, h => by
    injection h with h1 h2
    injection h1 with h3
    rw [h3, inl_inj h2]
theorem key_map (xs : List Int) : (xs.map (Sum.inl : Int → Key)).map kV = xs.map V.int := by
  rw [List.map_map]
  rfl
theorem units65 {k : Nat} {A : Around} (r : Room k A) : A.units + 65 < cLine := by
  have := r.un
  omega
theorem eqv_ints : ∀ (xs ys : List Int), PyData.eqvAll (xs.map PyData.int) (ys.map PyData.int) = decide (xs = ys)
  | [], [] => rfl
  | [], _ :: _ => rfl
  | _ :: _, [] => rfl
  | x :: xs, y :: ys => by
    rw [List.map_cons, List.map_cons, PyData.eqvAll, eqv_ints xs ys, PyData.eqv]
    by_cases e : x = y
    · subst e
      by_cases e2 : xs = ys
      · subst e2
        simp
      · rw [decide_eq_false e2, decide_eq_false (fun z => e2 (List.cons.inj z).2), Bool.and_false]
    · rw [decide_eq_false (fun z => e (List.cons.inj z).1), show (x == y) = false from beq_eq_false_iff_ne.mpr e, Bool.false_and]
theorem eqv_tupD (xs ys : List Int) : PyData.eqv (tupD xs) (tupD ys) = decide (xs = ys) := by
  unfold tupD
  rw [PyData.eqv]
  exact eqv_ints xs ys
theorem itR_one {ps : List Part} {xs : List Int} {i : Nat} {w : Int} (h : StandL ps xs) (hi : i < ps.length) (hw : Sign w) : ∀ n, itR ps [⟨i, w, 1⟩] n xs = pushes ps i w n (xs, 0)
  | 0 => rfl
  | n + 1 => by
    have ih := itR_one h hi hw n
    have hs : StandL ps (pushes ps i w n (xs, 0)).1 := pushes_stand h hi hw 0 n
    have e : rowL ps [⟨i, w, 1⟩] ((pushes ps i w n (xs, 0)).1, 0) = pushes ps i w 1 ((pushes ps i w n (xs, 0)).1, 0) := rowL_one (s := ((pushes ps i w n (xs, 0)).1, 0)) (d := ⟨i, w, 1⟩) hs ⟨hi, hw⟩
    show ((rowL ps [⟨i, w, 1⟩] ((itR ps [⟨i, w, 1⟩] n xs).1, 0)).1, (itR ps [⟨i, w, 1⟩] n xs).2 + (rowL ps [⟨i, w, 1⟩] ((itR ps [⟨i, w, 1⟩] n xs).1, 0)).2) = _
    rw [ih, e]
    refine Prod.ext rfl ?_
    show (pushes ps i w n (xs, 0)).2 + (0 + (Ct.run ps (pushes ps i w n (xs, 0)).1 i w).2) = (pushes ps i w n (xs, 0)).2 + (Ct.run ps (pushes ps i w n (xs, 0)).1 i w).2
    omega
theorem itR_deed {ps : List Part} {xs : List Int} {i : Nat} {w : Int} (h : StandL ps xs) (hi : i < ps.length) (hw : Sign w) (n : Nat) : itR ps [⟨i, w, 1⟩] n xs = rowL ps [⟨i, w, n⟩] (xs, 0) := by
  rw [itR_one h hi hw n, rowL_one (s := (xs, 0)) (d := ⟨i, w, n⟩) h ⟨hi, hw⟩]
theorem itR_add {ps : List Part} {ds : List Deed} (a : Nat) (xs : List Int) : ∀ b, itR ps ds (a + b) xs = ((itR ps ds b (itR ps ds a xs).1).1, (itR ps ds a xs).2 + (itR ps ds b (itR ps ds a xs).1).2)
  | 0 => Prod.ext rfl (Int.add_zero _).symm
  | b + 1 => by
    have ih := itR_add (ps := ps) (ds := ds) a xs b
    show ((rowL ps ds ((itR ps ds (a + b) xs).1, 0)).1, (itR ps ds (a + b) xs).2 + (rowL ps ds ((itR ps ds (a + b) xs).1, 0)).2) = _
    rw [ih]
    refine Prod.ext rfl ?_
    show (itR ps ds a xs).2 + (itR ps ds b (itR ps ds a xs).1).2 + _ = (itR ps ds a xs).2 + ((itR ps ds b (itR ps ds a xs).1).2 + _)
    rw [Int.add_assoc]
section
variable {K : PySem.W.Frag} {H : Hp} {σ : L2.St} {Q : VK} {D : Ends}
theorem w_dnewT (h : ∀ p, H p = none → Q (.ref p) (upd H p (.dT []))) : tDNewT σ H Q := h
theorem w_dnotin {ty td : TE} (h : ty σ H fun y H1 => td σ H1 fun x H2 => ∃ a o, x = .ref a ∧ DGet H2 a y o ∧ Q (.bl (!o.isSome)) H2) : tDNotIn ty td σ H Q := h
theorem w_dget {td ty : TE} (h : td σ H fun x H1 => ty σ H1 fun y H2 => ∃ a v, x = .ref a ∧ DGet H2 a y (some v) ∧ Q v H2) : tDGet td ty σ H Q := h
theorem w_dput {td ty tv : TE} (h : tv σ H fun v H1 => td σ H1 fun x H2 => ty σ H2 fun y H3 => ∃ a H4, x = .ref a ∧ DPut H3 a y v H4 ∧ D.nx σ H4) : sDPut td ty tv D σ H := h
end
end Ct

namespace Ct
open PySem PySem.Spec PyProof.Rows L2
/-! what stays, found by looking -/
section
variable {K : PySem.W.Frag} {H G : Hp} {a p : Addr} {o : HO} {xs : List V} {v : V} {d : PyData} {ds : List PyData} {ps : List Part}
theorem mv_get (s : Same H G) (h : H a = some o) : G a = some o := s _ _ h
theorem mv_lst (s : Same H G) (h : H a = some (.lst xs)) : SqL K G a xs := .of (s _ _ h)
theorem mv_sql (s : Same H G) (h : SqL K H a xs) : SqL K G a xs := s.seq h
theorem mv_tup (s : Same H G) (h : H a = some (.tup xs)) : SqT K G a xs := .of (s _ _ h)
theorem mv_sqt (s : Same H G) (h : SqT K H a xs) : SqT K G a xs := Same.tup s h
theorem mv_dp (s : Same H G) (h : Dp K H v d) : Dp K G v d := dp_same s h
theorem mv_dpa (s : Same H G) (h : DpAll K H xs ds) : DpAll K G xs ds := dpAll_same s h
theorem mv_train (s : Same H G) (h : TrainAt K H a ps) : TrainAt K G a ps := h.same s
theorem mv_free (s : Same H G) (h : G a = none) : H a = none := s.free h
theorem upd_new (h : upd H p o = G) (n : H p = none) : Same H G ∧ G p = some o := by
  subst h
  exact ⟨same_upd n, upd_same⟩
variable {Q : VK} {b : Addr} {ys : List V} {n : Nat} {ms : List Int}
theorem w_slLu (h : SqL K H a xs) (hn : n ≤ xs.length) (q : ∀ p G, H p = none → Same H G → G p = some (.lst (xs.take n)) → Q (.ref p) G) : rSlL K (.ref a) none (some (n : Int)) H Q := by
  refine w_slL h fun p np => ?_
  have e : cutV xs none (some (n : Int)) = xs.take n := by
    unfold cutV
    rw [HT.sIx_none, HT.sIx_nat, List.drop_zero, Nat.min_eq_left (by omega), Nat.sub_zero]
  rw [e]
  exact q p _ np (same_upd np) upd_same
theorem w_slLf (h : SqL K H a xs) (hn : n ≤ xs.length) (q : ∀ p G, H p = none → Same H G → G p = some (.lst (xs.drop n)) → Q (.ref p) G) : rSlL K (.ref a) (some (n : Int)) none H Q := by
  refine w_slL h fun p np => ?_
  have e : cutV xs (some (n : Int)) none = xs.drop n := by
    unfold cutV
    rw [HT.sIx_none, HT.sIx_nat, Nat.min_eq_left (by omega), List.take_of_length_le (by rw [List.length_drop]; exact Nat.le_refl _)]
  rw [e]
  exact q p _ np (same_upd np) upd_same
theorem w_cat (h : H a = some (.lst xs)) (h2 : H b = some (.lst ys)) (l : xs.length + ys.length ≤ sizeLine) (q : ∀ p G, H p = none → Same H G → G p = some (.lst (xs ++ ys)) → Q (.ref p) G) : rCat (.ref a) (.ref b) H Q :=
  ⟨a, b, xs, ys, rfl, rfl, h, h2, l, fun p np => q p _ np (same_upd np) upd_same⟩
theorem w_rNs {x y : Str} {c : Bool} (e : (!decide (V.str x = V.str y)) = c) (h : Q (.bl c) H) : rNe (.str x) (.str y) H Q := by
  refine ⟨rfl, ?_⟩
  rw [e]
  exact h
variable {σ : L2.St}
theorem walk_zipM {n : Nat} (hn : n = min xs.length ys.length) : Walk (ItM K a b) n (fun H => SqL K H a xs ∧ SqT K H b ys) (YPair (fun i => xs[i]?) (fun i => ys[i]?)) := by
  subst hn
  refine ⟨fun i _ hi q => ?_, fun _ q => ⟨xs, ys, q.1, q.2, by omega⟩, fun i H v H' _ q y => ?_⟩
  · have h1 : i < xs.length := by omega
    have h2 : i < ys.length := by omega
    exact ⟨xs, ys, xs[i], ys[i], q.1, q.2, by simp [h1], by simp [h2]⟩
  · obtain ⟨T, x, z, h1, h2, h3, h4, h5⟩ := y
    exact ⟨T, x, z, h1, h2, h3, h4 xs q.1, h5 ys q.2⟩
theorem lb_zipM (xs ys : List V) (hl : xs.length = ys.length) {g : TG} {tt : TT} {te : TE} {vs : List Nat} (Pv : Addr → Nat → Hp → Prop) (h0 : ∀ D, H D = none → Pv D 0 (upd H D (.lst []))) (hq : ∀ D, H D = none → ∀ i H1, i ≤ xs.length → Pv D i H1 → SqL K H1 a xs ∧ SqT K H1 b ys)
    (hs : ∀ D, H D = none → ∀ i x y T H1 G, xs[i]? = some x → ys[i]? = some y → Pv D i H1 → H1 T = none → Same H1 G → G T = some (.tup [x, y]) → g (.ref T) (wipe σ vs) G fun σ2 H2 => wipe σ2 vs = wipe σ vs ∧ tt σ2 H2 fun b H3 =>
      if b = true then te σ2 H3 fun y H4 => ∃ acc, H4 D = some (.lst acc) ∧ acc.length < sizeLine ∧ Pv D (i + 1) (upd H4 D (.lst (acc ++ [y]))) else Pv D (i + 1) H3) (hd : ∀ D, H D = none → ∀ H1, Pv D xs.length H1 → Q (.ref D) H1) : LB (ItM K a b) g tt te vs σ H Q :=
  fun D hD => lc_it (walk_zipM (xs := xs) (ys := ys) (n := xs.length) (by omega)) (Pv D) (h0 D hD) (hq D hD) (fun i x H1 H2 _ p y => by
    obtain ⟨T, u, v, rfl, hT, rfl, e1, e2⟩ := y
    exact hs D hD i u v T H1 _ e1 e2 p hT (same_upd hT) upd_same) (hd D hD)
theorem ne_new {H : Hp} {a p : Addr} {o : HO} (e : H a = some o) (n : H p = none) : p ≠ a := fun z => by rw [z, e] at n; cases n
theorem keepU {H : Hp} {a p : Addr} {o o' : HO} (e : H p = some o) (n : p ≠ a) : (upd H a o') p = some o := by rw [upd_ne n]; exact e
end
end Ct
/-! zip of two lists -/
namespace Ct
open PySem PySem.Spec PyProof.Rows L2
section
variable {K : PySem.W.Frag} {H : Hp} {σ : L2.St} {D : Ends} {R : It → Hp → Prop} {a b : Addr} {xs ys : List V}
def IZw (K : PySem.W.Frag) (vs : List V) (H : Hp) (R : It → Hp → Prop) : Prop := iZip K (fun _ H Q => Q vs H) [] H R
theorem w_izipw {ta : TA} (h : ta σ H fun vs H1 => IZw K vs H1 R) : iZip K ta σ H R := h
theorem w_IZw (h1 : SqL K H a xs) (h2 : SqL K H b ys) (q : R (Itz K a b) H) : IZw K [.ref a, .ref b] H R := ⟨a, b, xs, ys, rfl, h1, h2, q⟩
theorem fb_zipw (xs ys : List V) (hl : xs.length = ys.length) {g : TG} {tb : TS} (Pv : Nat → L2.St → Hp → Prop) (h0 : Pv 0 σ H) (hq : ∀ i σ H, i ≤ xs.length → Pv i σ H → SqL K H a xs ∧ SqL K H b ys)
    (hs : ∀ i x y T σ H G, xs[i]? = some x → ys[i]? = some y → Pv i σ H → H T = none → Same H G → G T = some (.tup [x, y]) → g (.ref T) σ G fun σ2 H2 => tb { D with nx := Pv (i + 1), ct := Pv (i + 1), bk := D.nx } σ2 H2) (hd : ∀ σ H, Pv xs.length σ H → D.nx σ H) : FB (Itz K a b) g tb D σ H :=
  for_it (walk_zip (xs := xs) (ys := ys) (n := xs.length) (by omega)) Pv h0 hq (fun i x σ H H' _ p y => by
    obtain ⟨T, u, v, rfl, hT, rfl, e1, e2⟩ := y
    exact hs i u v T σ H _ e1 e2 p hT (same_upd hT) upd_same) hd
end
end Ct

/-! dicts with tuple keys: list(d), max(d.values()), dict comprehensions -/
namespace Ct
open PySem PySem.Spec PyProof.Rows L2
theorem kt_at {H : Hp} : ∀ {kvs : List (List Key × V)} {ys : List (List Key × Addr × Value)}, KT H kvs ys → ∀ {i : Nat} {k : List Key} {v : V}, kvs[i]? = some (k, v) → ∃ b u, ys[i]? = some (k, b, u) ∧ H b = some (.tup (k.map kV)) ∧ RelV v u
  | _, _, .nil, i, _, _, e => by simp at e
  | _, _, .cons (a := p) (b := y) h t, 0, k, v, e => by
    obtain ⟨k', b, u⟩ := y
    cases Option.some.inj e
    obtain ⟨h1, h2, h3⟩ := h
    cases h1
    exact ⟨b, u, rfl, h2, h3⟩
  | _, _, .cons _ t, i + 1, k, v, e => kt_at t (i := i) e
/-- what stands in the heap for such a dict -/
theorem dt_raw {P : Program} {w : World} {H : Hp} {h : Heap} {a : Addr} {kvs : List (List Key × V)} (ok : HOk P w H h) (e : H a = some (.dT kvs)) :
    (a == sysModules) = false ∧ kvs.length ≤ sizeLine ∧ ∃ (es : Array DictEntry) (ep : Nat), h.DictRaw a es ep ∧ es.size = kvs.length ∧ ∀ (i : Nat) (k : List Key) (v : V), kvs[i]? = some (k, v) → ∃ b t, es[i]? = some t ∧ t.key = .ref b ∧ H b = some (.tup (k.map kV)) ∧ RelV v t.val := by
  obtain ⟨small, notSys, ys, rel, o, es, ep, h1, h2, h3, ents, _, _⟩ := dt_of ok e
  refine ⟨notSys, small, es, ep, ⟨o, h1, h2, h3⟩, ?_, fun i k v hi => ?_⟩
  · rw [size_of_entries ents, Paired.length rel]
  · obtain ⟨b, u, hy, hb, ru⟩ := kt_at rel hi
    exact ⟨b, _, by rw [entry_at ents, hy]; rfl, rfl, hb, ru⟩
def rListT : List V → Hp → VK → Prop := fun xs H Q => ∃ (a : Addr) (kvs : List (List Key × V)), xs = [.ref a] ∧ H a = some (.dT kvs) ∧
  ∀ bs : List Addr, bs.length = kvs.length → (∀ (i : Nat) (b : Addr) (k : List Key) (v : V), bs[i]? = some b → kvs[i]? = some (k, v) → H b = some (.tup (k.map kV))) → ∀ l, H l = none → Q (.ref l) (upd H l (.lst (bs.map V.ref)))
theorem vals_refs : ∀ {us : List Value} {bs : List Addr}, us = bs.map Value.ref → Vals (bs.map V.ref) us
  | _, [], rfl => .nil
  | _, b :: bs, rfl => .cons rfl (vals_refs (bs := bs) rfl)
theorem refs_of {P : Nat → Addr → Prop} : ∀ {us : List Value} (k : Nat), (∀ (i : Nat) (u : Value), us[i]? = some u → ∃ b, u = .ref b ∧ P (k + i) b) → ∃ bs : List Addr, us = bs.map Value.ref ∧ ∀ (i : Nat) (b : Addr), bs[i]? = some b → P (k + i) b
  | [], _, _ => ⟨[], rfl, fun i b e => by simp at e⟩
  | u :: us, k, h => by
    obtain ⟨b, rfl, hb⟩ := h 0 u rfl
    obtain ⟨bs, rfl, hbs⟩ := refs_of (P := P) (k + 1) fun i u e => by
      obtain ⟨b, hb, p⟩ := h (i + 1) u e
      exact ⟨b, hb, by rw [show k + 1 + i = k + (i + 1) by omega]; exact p⟩
    refine ⟨b :: bs, rfl, fun i c e => ?_⟩
    cases i with
    | zero =>
      cases Option.some.inj e
      exact hb
    | succ i =>
      rw [show k + (i + 1) = k + 1 + i by omega]
      exact hbs i c e
section
variable {X : Cx}
theorem call_listT (calm : X.calm = true) : CallR X (.type "list") rListT := by
  rintro pins s σ H xs us Q J r ⟨a, kvs, rfl, ha, q⟩
  obtain ⟨u, rfl, r1⟩ := vals1 r
  cases (show u = Value.ref a from r1)
  obtain ⟨notSys, small, es, ep, raw, size, ents⟩ := dt_raw J.hok ha
  refine PySem.W.kdl_call (KdlSrc.rawDict (es := es) (ep := ep) notSys) (J.ok.hd calm) raw (by rw [size]; exact small) ?_
  intro h' tk acc c keeps made ⟨n, items⟩
  obtain ⟨bs, hbs, keys⟩ := refs_of (us := acc.toList) (P := fun i b => ∀ (k : List Key) (v : V), kvs[i]? = some (k, v) → H b = some (.tup (k.map kV))) 0 fun i u e => by
    rw [Array.getElem?_toList] at e
    obtain ⟨hi, hu⟩ := items i u e
    have hi2 : i < kvs.length := by omega
    obtain ⟨b, t, ht, hk, hb, _⟩ := ents i kvs[i].1 kvs[i].2 (List.getElem?_eq_getElem hi2)
    have et : es[i] = t := by
      rw [Array.getElem?_eq_getElem hi] at ht
      exact Option.some.inj ht
    refine ⟨b, by rw [hu, et, hk], fun k v e => ?_⟩
    rw [Nat.zero_add, List.getElem?_eq_getElem hi2] at e
    have e := Option.some.inj e
    rw [e] at hb
    exact hb
  have len : bs.length = kvs.length := by
    have := congrArg List.length hbs
    rw [List.length_map, Array.length_toList, n, size] at this
    exact this.symm
  refine ⟨.ref _, _, J.laid (t' := tk) (o := .lst (bs.map V.ref)) keeps (Nat.le_refl _) ?_, rfl, q bs len (fun i b k v hb hk => by
    have := keys i b hb
    rw [Nat.zero_add] at this
    exact this k v hk) _ (J.hok.fresh (Nat.le_refl _))⟩
  exact ⟨by rw [List.length_map, len]; exact small, acc.toList, c, vals_refs hbs, made⟩
/-- the view d.values() at p -/
def valuesO (p d : Addr) : HO := .ext fun h => h.IsValuesView p d
def rValuesT : V → List V → Hp → VK → Prop := fun x xs H Q => ∃ (a : Addr) (kvs : List (List Key × V)), x = .ref a ∧ xs = [] ∧ H a = some (.dT kvs) ∧ ∀ p, H p = none → Q (.ref p) (upd H p (valuesO p a))
theorem mt_valuesT : MtR X "dict.values" rValuesT := by
  rintro pins s σ H x xs v us Q J rx rxs ⟨a, kvs, rfl, rfl, ha, q⟩
  cases rx
  cases rxs
  obtain ⟨notSys, small, es, ep, raw, _, _⟩ := dt_raw J.hok ha
  refine call_meetsIn PySem.F.slot_dict_values raw.typeIs PySem.F.entry_dict_values (PySem.F.args_dict_values_1 _) (meets_dict_values_raw a notSys) ⟨⟨es, ep, raw⟩, ?_⟩
  refine ⟨.ref _, _, J.laid (t' := s.toks) (o := valuesO _ a) (fun b u e => Heap.get?_push_of_some _ e) (Nat.le_refl _) ?_, rfl, q _ (J.hok.fresh (Nat.le_refl _))⟩
  exact ⟨⟨_, Heap.get?_push_size _ rfl, rfl, rfl⟩, ⟨_, Heap.get?_push_size _ rfl⟩, fun _ _ z keep => let ⟨o, ho, r⟩ := z; ⟨o, keep o ho, r⟩⟩
/-- max of the values, whole numbers -/
def rMaxT : List V → Hp → VK → Prop := fun xs H Q => ∃ (p a : Addr) (kvs : List (List Key × V)) (ns : List Int), xs = [.ref p] ∧ H p = some (valuesO p a) ∧ H a = some (.dT kvs) ∧ kvs.map (·.2) = ns.map V.int ∧ 0 < ns.length ∧ ∀ m, m ∈ ns → (∀ y, y ∈ ns → y ≤ m) → Q (.int m) H
theorem cr_maxT (calm : X.calm = true) : CallR X (.builtin "max") rMaxT := by
  rintro pins s σ H xs us Q J r ⟨p, a, kvs, ns, rfl, hp, ha, hns, some1, q⟩
  rw [Vals.ref1 r]
  obtain ⟨notSys, small, es, ep, raw, size, ents⟩ := dt_raw J.hok ha
  have view : s.heap.IsValuesView p a := (show ObjOk X.prog X.w H s.heap p (valuesO p a) from J.hok p _ hp).1
  have kn : kvs.length = ns.length := by
    have := congrArg List.length hns
    rw [List.length_map, List.length_map] at this
    exact this
  have val : ∀ (i : Nat) (v : Value), (∃ hi : i < es.size, v = es[i].val) → ∃ t, v = .int (ns.getD i 0) t := by
    rintro i v ⟨hi, rfl⟩
    have hk : i < kvs.length := by omega
    have hn : i < ns.length := by omega
    obtain ⟨b, t, ht, _, _, rv⟩ := ents i kvs[i].1 kvs[i].2 (List.getElem?_eq_getElem hk)
    rw [Array.getElem?_eq_getElem hi] at ht
    rw [Option.some.inj ht]
    have e : kvs[i].2 = V.int ns[i] := by
      have z : (kvs.map (·.2))[i]? = (ns.map V.int)[i]? := by rw [hns]
      rw [List.getElem?_map, List.getElem?_map, List.getElem?_eq_getElem hk, List.getElem?_eq_getElem hn] at z
      exact Option.some.inj z
    rw [e] at rv
    rw [List.getD_eq_getElem?_getD, List.getElem?_eq_getElem hn]
    exact rv
  have lt : a < s.heap.objs.size := let ⟨o, ho, _⟩ := raw; Heap.lt_size ho
  refine call_max_walk (wpAny_pyIter_values_raw view raw ?_)
  refine ⟨_, _, _, _, _, _, _, rfl, Walks.rawValues (show X.A.in1.handled = none from J.ok.hd calm) s.heap.objs.size a (Nat.ne_of_lt lt) es ep, ⟨⟨_, Heap.get?_push_size _ rfl, rfl, rfl⟩, raw.at fun o e => Heap.get?_push_of_some _ e⟩, fun b hb => ?_, by omega, CmpOf.ints_gt (fun i => ns.getD i 0) val, fun v h' tk hv keep => ?_⟩
  · rw [Heap.size_push]
    rcases List.mem_cons.mp hb with z | z
    · rw [z]
      exact Nat.lt_succ_self _
    · rw [List.mem_singleton.mp z]
      exact Nat.lt_succ_of_lt lt
  · obtain ⟨t, rfl⟩ := val _ v hv
    obtain ⟨m1, m2⟩ := argBest_gt (fun i => ns.getD i 0) (es.size - 1)
    have old : ∀ b o, s.heap.get? b = some o → h'.get? b = some o := fun b o e => keep b o (fun z => by
      rw [List.mem_singleton.mp z] at e
      exact absurd (Heap.lt_size e) (Nat.lt_irrefl _)) (Heap.get?_push_of_some _ e)
    refine ⟨.int _, H, J.kept (t' := tk) old, ⟨t, rfl⟩, q _ (PySem.getD_mem ?_) fun y hy => ?_⟩
    · refine Nat.lt_of_le_of_lt m1 ?_
      omega
    · obtain ⟨j, hj, e⟩ := List.mem_iff_getElem.mp hy
      have z := m2 j (by omega)
      rw [show ns.getD j 0 = y by rw [List.getD_eq_getElem?_getD, List.getElem?_eq_getElem hj, ← e]; rfl] at z
      exact z
end
end Ct
namespace Ct
open PySem PySem.Spec PyProof.Rows L2
section
variable {X : Cx}
/-- a comprehension's store into a dict with tuple keys -/
theorem dT_store {pins : List (Addr × Obj)} {σ : L2.St} {H : Hp} {s : Shared} {E : Value → Shared → Prop} {D b : Addr} {kvs : List (List Key × V)} {k : List Key} {v : V} {r : Value} {Q : Unit → Shared → Prop} (room : X.A.units + 1 < cLine) (J : Inv X pins σ H s) (hD : H D = some (.dT kvs)) (hb : H b = some (.tup (k.map kV))) (few : kvs.length < sizeLine)
    (rv : RelV v r) (q : ∀ s', Inv X pins σ (upd H D (.dT (putK kvs k v))) s' → Q () s') : wpAny (model X.prog X.w) X.A (dictSet D (.ref b) r) Q E s := by
  obtain ⟨_, notSys, ys, rel, dd⟩ := dt_of J.hok hD
  have ylen : ys.length ≤ sizeLine := by rw [← Paired.length rel]; exact Nat.le_of_lt few
  have room' : (tupleKind (mixKind X.prog X.w)).room X.A := show X.A.units < cLine from Nat.lt_of_succ_lt room
  refine wpAny_dictSet_heap (hsz := ylen) room' (key_of J.hok hb) dd ?_
  intro h' ⟨o, es, ep, h1, h2, h3, h4, _, h5⟩ same
  refine q _ (d_write J (by rw [hD]; exact True.intro) same ⟨o, h1⟩ ⟨?_, notSys, _, (rel.put k hb rv).keeps fun c zs hc => ?_, o, es, ep, h1, h2, h3, h4, h5⟩)
  · have := length_putK kvs k v
    omega
  · rw [upd_ne (ne_of hc hD fun z => nomatch z)]
    exact hc
/-- {key: value for target in iter if ..}, keys tuples of numbers and texts; D the new dict -/
def tDcT (wi : TI) (g : TG) (tt : TT) (tk tv : TE) (vs : List Nat) : TE := fun σ H Q => wi σ H fun J H1 => ∀ D, H1 D = none → ∃ W : Nat → Nat → Hp → Prop, (∃ m, W 0 m (upd H1 D (.dT []))) ∧ ∀ i m Hi, W i m Hi →
  (J.stop i Hi ∧ Q (.ref D) Hi) ∨ (J.go i Hi ∧ ∃ Nx : Hp → Prop, (∀ H', Nx H' → ∃ m', m' < m ∧ W (i + 1) m' H') ∧ ∀ x H', J.yld i Hi x H' → g x (wipe σ vs) H' fun σ2 H2 => wipe σ2 vs = wipe σ vs ∧ tt σ2 H2 fun yes H3 =>
    if yes = true then tk σ2 H3 fun y H4 => tv σ2 H4 fun z H5 => ∃ kvs k b, y = .ref b ∧ H5 b = some (.tup (k.map kV)) ∧ H5 D = some (.dT kvs) ∧ kvs.length < sizeLine ∧ Nx (upd H5 D (.dT (putK kvs k z))) else Nx H3)
theorem dcT_core {pins : List (Addr × Obj)} {s : Shared} {σ : L2.St} {H : Hp} {Q : VK} {use : Option (Value → Sem Unit)} {Qf : Value → Shared → Prop} {kx vx tg iter : Expr} {ifs : List Expr} {scope : Scope} {own : List (Str × Nat)} {pos pos' : Pos} {wi : TI} {g : TG} {tt : TT} {tk tv : TE} (calm : X.calm = true) (room : X.A.units + 1 < cLine) (nd : X.N.Nodup) (src : PI X tg iter wi) (blk : BlkOk X.N X.env.scope scope own)
    (pG : ∀ (z : Shared) (G : Hp) (C : Addr) (cl : List (Str × Addr)) (fp : List Addr), PG (X.blk z G scope (compEnvC scope cl C X.env) fp) tg g) (pT : ∀ (z : Shared) (G : Hp) (C : Addr) (cl : List (Str × Addr)) (fp : List Addr), PTs (X.blk z G scope (compEnvC scope cl C X.env) fp) ifs tt)
    (pK : ∀ (z : Shared) (G : Hp) (C : Addr) (cl : List (Str × Addr)) (fp : List Addr), PE (X.blk z G scope (compEnvC scope cl C X.env) fp) kx tk)
    (pV : ∀ (z : Shared) (G : Hp) (C : Addr) (cl : List (Str × Addr)) (fp : List Addr), PE (X.blk z G scope (compEnvC scope cl C X.env) fp) vx tv) (plain : ∀ x, foldedSetIterable iter X.env x = pure x)
    (inv : Inv X pins σ H s) (wish : tDcT wi g tt tk tv (own.map (·.2)) σ H Q)
    (post : ∀ D C z m G, Inv X pins σ G z → Q (.ref D) G → z.heap.Ns C m → FpOk X pins G C → compPost (model X.prog X.w) X.A X.xe use Qf (.ref D) C (.ok .next) z) :
    wpAny (model X.prog X.w) X.A (comprehension (.DictComp kx vx [⟨tg, iter, ifs, 0⟩] scope pos) scope X.env pos' newDict false (eval iter X.env) use) Qf X.xe s := by
  have cells : ∀ y ∈ scope.names, y.2 = .free → ∃ c, X.env.cells.lookup y.1 = some c := fun y hy e => (blk.free y hy e).elim (fun k => inv.ok.has _ (.inl k)) fun k => inv.ok.has _ (.inr k)
  refine wpAny_comprehension_free (use := use) rfl plain (closure_ok cells) blk.kind (fun y hy e => by rw [blk.uniq y hy, e]) ?_
  refine thn (src.run pins s σ H _ inv wish) fun _ sA hA => thn hA fun _ sB hB => ?_
  obtain ⟨it, fp, at_, walk, HB, rfl, invB, T, stB, fpB, told⟩ := hB
  refine wpAny_newObj_type (newEnv_comp ?_)
  have free : HB sB.heap.objs.size = none := invB.hok.fresh (Nat.le_refl _)
  obtain ⟨W, ⟨m0, w0⟩, turn⟩ := told sB.heap.objs.size free
  have below : ∀ b ∈ fp, b < sB.heap.objs.size := fun b hb => let ⟨_, e, _⟩ := T.obj _ _ stB b hb; Heap.lt_size e
  generalize hD : sB.heap.objs.size = D at *
  generalize hC : ({ sB with heap := sB.heap.push { cls := .type "dict", data := .dict #[] } } : Shared) = sC
  have heapC : sC.heap = sB.heap.push { cls := .type "dict", data := .dict #[] } := by rw [← hC]
  have invC : Inv X pins σ (upd HB D (.dT [])) sC := by
    subst hC
    refine invB.laid (t' := sB.toks) (fun b o e => Heap.get?_push_of_some _ e) (Nat.le_of_eq hD) ?_
    subst hD
    exact dt_empty sB.heap invB.big
  have oldC : ∀ b o, sB.heap.get? b = some o → sC.heap.get? b = some o := fun b o e => by rw [heapC]; exact Heap.get?_push_of_some _ e
  have fpC : ∀ b ∈ fp, FpOk X pins (upd HB D (.dT [])) b ∧ b < sC.heap.objs.size := fun b hb => by
    have lt := below b hb
    have l2 : b < sC.heap.objs.size := by
      rw [heapC, Heap.size_push, hD]
      exact Nat.lt_succ_of_lt lt
    exact ⟨⟨by rw [upd_ne (Nat.ne_of_lt lt)]; exact (fpB b hb).1, (fpB b hb).2⟩, l2⟩
  have invD := block_start invC blk nd fpC
  generalize hcl : cellsFrom (sC.heap.objs.size + 1) scope.names (cloFrom X.env.cells scope.names []) = cl at *
  show codeAny _ _ (.compStart (.DictComp kx vx [⟨tg, iter, ifs, 0⟩] scope pos) 0 (.ref it) (.ref D) (compEnvC scope cl sC.heap.objs.size X.env)) (compPost (model X.prog X.w) X.A X.xe use Qf (.ref D) sC.heap.objs.size) { sC with heap := pushCells (sC.heap.push { cls := .type "dict", data := .dict #[] }) scope.names }
  have loc : (compEnvC scope cl sC.heap.objs.size X.env).locals = sC.heap.objs.size := rfl
  have qG := pG sC (upd HB D (.dT [])) sC.heap.objs.size cl fp
  have qT := pT sC (upd HB D (.dT [])) sC.heap.objs.size cl fp
  have qK := pK sC (upd HB D (.dT [])) sC.heap.objs.size cl fp
  have qV := pV sC (upd HB D (.dT [])) sC.heap.objs.size cl fp
  have noneC : ∀ b ∈ fp, (upd HB D (.dT [])) b = none := fun b hb => (fpC b hb).1.1
  generalize hE : compEnvC scope cl sC.heap.objs.size X.env = ce at invD qG qT qK qV loc ⊢
  generalize hG : upd HB D (.dT []) = HC at invC invD qG qT qK qV w0 noneC fpC
  generalize hZ : ({ sC with heap := pushCells (sC.heap.push { cls := .type "dict", data := .dict #[] }) scope.names } : Shared) = sD at invD ⊢
  have stD : at_ 0 sD.heap := T.keep _ _ _ stB fun b _ o e => by rw [← hZ]; exact pushCells_keeps _ _ _ _ (Heap.get?_push_of_some _ (oldC b o e))
  have calmly : ∀ {τ : L2.St} {G : Hp} {z : Shared}, Inv (X.blk sC HC scope ce fp) [] τ G z → (∀ b ∈ fp, G b = none) → ∀ b ∈ fp, FpOk (X.blk sC HC scope ce fp) [] G b := fun {τ G z} i n b hb =>
    ⟨n b hb, (i.ok.exf b hb).1, i.ok.exfs b hb, .inl hb, fun x c e => (i.ok.exf b hb).2 x c e, fun p hp => absurd (show p ∈ ([] : List (Addr × Obj)) ++ [] from hp) (by simp)⟩
  refine (fun loop => codeAny_compStart_dict loop (T.self X.A 0 _ _ _ stD loop)) ?_
  refine compLoop_anyD (fun n z => ∃ i G, Inv (X.blk sC HC scope ce fp) [] (wipe σ (own.map (·.2))) G z ∧ at_ i z.heap ∧ (∀ b ∈ fp, G b = none) ∧ W i n G) ?_ m0 ⟨0, HC, invD, stD, noneC, w0⟩
  rintro n z5 ⟨i, G5, inv5, st5, n5, w5⟩
  rcases turn i n G5 w5 with ⟨stop, fin⟩ | ⟨go, Nx, less, step⟩
  · refine thnF (T.done (X.blk sC HC scope ce fp) rfl rfl rfl calm i [] z5 _ G5 (fun _ _ => False) inv5 (calmly inv5 n5) st5 stop) ?_
    rintro r z6 ⟨rfl, inv6⟩
    have back : Inv X pins σ G5 z6 := invC.call' (ch := fp) inv6.os inv6.base inv6.hok inv6.bare fun b hb => ⟨(fpC b hb).1.2.2.2.1, (fpC b hb).1.2.1, (fpC b hb).1.2.2.2.2.1, (fpC b hb).1.2.2.2.2.2⟩
    have nL : G5 sC.heap.objs.size = none := by
      rw [← loc]
      exact inv6.free
    obtain ⟨m, names, _⟩ := inv6.loc
    have names' : z6.heap.Ns sC.heap.objs.size m := by
      rw [← loc]
      exact names
    exact post D sC.heap.objs.size z6 m G5 back fin names' (invC.fpOk (Nat.le_refl _) nL)
  · refine thnF (T.item (X.blk sC HC scope ce fp) rfl rfl rfl calm i [] z5 _ G5 (fun _ _ => False) inv5 (calmly inv5 n5) st5 go) ?_
    rintro r z6 ⟨u, rfl, h6⟩
    refine thnF h6 ?_
    rintro _ z7 ⟨x, G7, inv7, r7, y7, st7, n7⟩
    refine thnF (qG.run _ z7 _ G7 x u _ (inv7.pinned (calmly inv7 n7) (T.obj _ _ st7)) r7 (step x G7 y7)) ?_
    rintro _ z8 ⟨σ8, G8, inv8, same8, q8⟩
    refine thnF (qT.run _ z8 σ8 G8 _ inv8 q8) ?_
    rintro yes z9 ⟨G9, inv9, q9⟩
    have next : ∀ {z : Shared} {G : Hp}, Inv (X.blk sC HC scope ce fp) ([] ++ pinsAt fp z7.heap) σ8 G z → Nx G → ∃ m, m < n ∧ ∃ i G, Inv (X.blk sC HC scope ce fp) [] (wipe σ (own.map (·.2))) G z ∧ at_ i z.heap ∧ (∀ b ∈ fp, G b = none) ∧ W i m G := fun {z G} i' nx => by
      obtain ⟨m', lt, w'⟩ := less G nx
      have pinned : ∀ b ∈ fp, ∀ o, z7.heap.get? b = some o → z.heap.get? b = some o ∧ G b = none := fun b hb o e =>
        let p := i'.pin (b, o) (List.mem_append_right _ (List.mem_append_right _ (mem_pinsAt hb e)))
        ⟨p.1, p.2.1⟩
      refine ⟨m', lt, i + 1, G, (i'.unpinned (pins := [])).weak (by rw [← same8, wipe_length]) (fun j v e => ?_), T.keep _ _ _ st7 fun b hb o e => (pinned b hb o e).1, fun b hb => ?_, w'⟩
      · rw [← same8] at e
        exact (wipe_some e).1
      · obtain ⟨o, e, _⟩ := T.obj _ _ st7 b hb
        exact (pinned b hb o e).2
    cases yes with
    | false =>
      simp only [Bool.false_eq_true, if_false] at q9 ⊢
      exact next inv9 q9
    | true =>
      simp only [if_true] at q9 ⊢
      refine thnF (qK.run _ z9 σ8 G9 _ inv9 q9) ?_
      rintro ku z10 ⟨yk, G10, inv10, r10, q10⟩
      refine thnF (qV.run _ z10 σ8 G10 _ inv10 q10) ?_
      rintro vu z11 ⟨yv, G11, inv11, r11, kvs, k, b, rfl, hb, hD11, few, nx⟩
      cases (show ku = Value.ref b from r10)
      exact dT_store (X := X.blk sC HC scope ce fp) room inv11 hD11 hb few r11 fun z12 inv12 => next inv12 nx
theorem pe_dcT {kx vx tg iter : Expr} {ifs : List Expr} {scope : Scope} {own : List (Str × Nat)} {pos : Pos} {wi : TI} {g : TG} {tt : TT} {tk tv : TE} (calm : X.calm = true) (room : X.A.units + 1 < cLine) (nd : X.N.Nodup) (src : PI X tg iter wi) (blk : BlkOk X.N X.env.scope scope own)
    (pG : ∀ (z : Shared) (G : Hp) (C : Addr) (cl : List (Str × Addr)) (fp : List Addr), PG (X.blk z G scope (compEnvC scope cl C X.env) fp) tg g) (pT : ∀ (z : Shared) (G : Hp) (C : Addr) (cl : List (Str × Addr)) (fp : List Addr), PTs (X.blk z G scope (compEnvC scope cl C X.env) fp) ifs tt)
    (pK : ∀ (z : Shared) (G : Hp) (C : Addr) (cl : List (Str × Addr)) (fp : List Addr), PE (X.blk z G scope (compEnvC scope cl C X.env) fp) kx tk)
    (pV : ∀ (z : Shared) (G : Hp) (C : Addr) (cl : List (Str × Addr)) (fp : List Addr), PE (X.blk z G scope (compEnvC scope cl C X.env) fp) vx tv) (plain : ∀ x, foldedSetIterable iter X.env x = pure x := by intro _; rfl) :
    PE X (.DictComp kx vx [⟨tg, iter, ifs, 0⟩] scope pos) (tDcT wi g tt tk tv (own.map (·.2))) := by
  constructor
  intro pins s σ H Q inv wish
  rw [arm_eval_DictComp]
  refine dcT_core calm room nd src blk pG pT pK pV plain inv wish ?_
  intro D C z m G back fin names ⟨f0, f1, f2, f3, f4, f5⟩
  exact ⟨m, names, fun h'' sb => ⟨.ref D, G, back.turned (t' := z.toks) (fun b o hb e => (sb.2 b hb).trans e) f0 f1 f3 f4 f5, rfl, fin⟩⟩
theorem swD_true {kx vx : Expr} {gs : List Comprehension} {scope : Scope} {pos py : Pos} {y : Str} {l : Nat} {env : Env} (fn : env.scope.kind = .function) (loc : env.scope.names.lookup y = some .local) (row : (py.line == pos.line) = true)
    (apart : (scope.names.any fun (n, k) => n == y && (k == .local || k == .cell)) = false) : swapsWith (.DictComp kx vx gs scope pos) (some (.Name y py)) l env = pure true := by
  have e1 : env.kindOf y = some .local := loc
  have e2 : env.blockKind = .function := by unfold Env.blockKind; rw [fn]; rfl
  unfold swapsWith
  simp only [e2, e1, apart, Expr.pos, row]
  rfl
/-- name = {..}, the name a local -/
theorem ps_setDcT {i : Nat} {y : Str} {py spos : Pos} {kx vx tg iter : Expr} {ifs : List Expr} {scope : Scope} {own : List (Str × Nat)} {pos : Pos} {wi : TI} {g : TG} {tt : TT} {tk tv : TE} (at_ : X.N[i]? = some y) (loc : X.env.scope.names.lookup y = some .local)
    (sw : swapsWith (.DictComp kx vx [⟨tg, iter, ifs, 0⟩] scope pos) (some (.Name y py)) spos.line X.env = pure true) (calm : X.calm = true) (room : X.A.units + 1 < cLine) (nd : X.N.Nodup) (src : PI X tg iter wi) (blk : BlkOk X.N X.env.scope scope own)
    (pG : ∀ (z : Shared) (G : Hp) (C : Addr) (cl : List (Str × Addr)) (fp : List Addr), PG (X.blk z G scope (compEnvC scope cl C X.env) fp) tg g) (pT : ∀ (z : Shared) (G : Hp) (C : Addr) (cl : List (Str × Addr)) (fp : List Addr), PTs (X.blk z G scope (compEnvC scope cl C X.env) fp) ifs tt)
    (pK : ∀ (z : Shared) (G : Hp) (C : Addr) (cl : List (Str × Addr)) (fp : List Addr), PE (X.blk z G scope (compEnvC scope cl C X.env) fp) kx tk)
    (pV : ∀ (z : Shared) (G : Hp) (C : Addr) (cl : List (Str × Addr)) (fp : List Addr), PE (X.blk z G scope (compEnvC scope cl C X.env) fp) vx tv) (plain : ∀ x, foldedSetIterable iter X.env x = pure x := by intro _; rfl) :
    PS X (.Assign [.Name y py] (.DictComp kx vx [⟨tg, iter, ifs, 0⟩] scope pos) spos) (tAsg (tDcT wi g tt tk tv (own.map (·.2))) (gName i)) := by
  constructor
  intro pins s σ H D inv wish
  rw [exec_Assign_Name_used _ _ _ _ sw]
  refine wpAny_bind (wpAny_standAt (wpAny_bind ?_))
  show wpAny _ X.A (do let _ ← comprehension (.DictComp kx vx [⟨tg, iter, ifs, 0⟩] scope pos) scope X.env (firstIterPos [⟨tg, iter, ifs, 0⟩] pos) newDict false (eval iter X.env) (some (assign (.Name y py) X.env))) _ _ s
  have wish' : tDcT wi g tt tk tv (own.map (·.2)) σ H (fun x H1 => gName i x σ H1 D.nx) := wish
  refine wpAny_bind (thn (dcT_core (Qf := fun _ z => SP X pins D .next z) calm room nd src blk pG pT pK pV plain inv wish' ?_) fun _ z hz => wpAny_pure (wpAny_pure hz))
  intro L C z m G back fin names ⟨f0, f1, f2, f3, f4, f5⟩
  show wpAny _ _ (assign (.Name y py) X.env (.ref L)) _ _ _
  refine wpAny_assign_Name (store_ok2 (v := V.ref L) back nd at_ (.inl loc) rfl (fun z2 inv2 ⟨a, sb, ha⟩ => ?_) (.inr loc))
  have other : C ≠ a := ha.elim (fun q => by rw [q]; exact f1) fun q => fun e => f4 y a q e.symm
  exact ⟨m, names.sameBut sb other, fun h3 sb3 => ⟨_, G, inv2.turned (t' := z2.toks) (fun b o hb e => (sb3.2 b hb).trans e) f0 f1 f3 f4 f5, fin⟩⟩
/-- over a list that stays -/
theorem dcT_list {K : PySem.W.Frag} {a : Addr} {xs : List V} {g : TG} {tt : TT} {tk tv : TE} {vs : List Nat} {σ : L2.St} {H1 : Hp} {D : Addr} {Qd : Hp → Prop} (Pv : Nat → Hp → Prop) (h0 : Pv 0 (upd H1 D (.dT []))) (hl : ∀ i G, i ≤ xs.length → Pv i G → SqL K G a xs)
    (hs : ∀ i x G, xs[i]? = some x → Pv i G → g x (wipe σ vs) G fun σ2 H2 => wipe σ2 vs = wipe σ vs ∧ tt σ2 H2 fun yes H3 =>
      if yes = true then tk σ2 H3 fun y H4 => tv σ2 H4 fun z H5 => ∃ kvs k b, y = .ref b ∧ H5 b = some (.tup (k.map kV)) ∧ H5 D = some (.dT kvs) ∧ kvs.length < sizeLine ∧ Pv (i + 1) (upd H5 D (.dT (putK kvs k z))) else Pv (i + 1) H3) (hd : ∀ G, Pv xs.length G → Qd G) :
    ∃ W : Nat → Nat → Hp → Prop, (∃ m, W 0 m (upd H1 D (.dT []))) ∧ ∀ i m Hi, W i m Hi →
      ((Itl K a).stop i Hi ∧ Qd Hi) ∨ ((Itl K a).go i Hi ∧ ∃ Nx : Hp → Prop, (∀ H', Nx H' → ∃ m', m' < m ∧ W (i + 1) m' H') ∧ ∀ x H', (Itl K a).yld i Hi x H' → g x (wipe σ vs) H' fun σ2 H2 => wipe σ2 vs = wipe σ vs ∧ tt σ2 H2 fun yes H3 =>
        if yes = true then tk σ2 H3 fun y H4 => tv σ2 H4 fun z H5 => ∃ kvs k b, y = .ref b ∧ H5 b = some (.tup (k.map kV)) ∧ H5 D = some (.dT kvs) ∧ kvs.length < sizeLine ∧ Nx (upd H5 D (.dT (putK kvs k z))) else Nx H3) := by
  refine ⟨fun i m G => m = xs.length - i ∧ i ≤ xs.length ∧ Pv i G, ⟨_, rfl, Nat.zero_le _, h0⟩, ?_⟩
  rintro i m G ⟨rfl, le, p⟩
  have seq := hl i G le p
  rcases Nat.lt_or_ge i xs.length with lt | ge
  · refine .inr ⟨⟨xs, xs[i], seq, by simp [lt]⟩, Pv (i + 1), fun G' p' => ⟨xs.length - (i + 1), by omega, rfl, lt, p'⟩, ?_⟩
    rintro x G' ⟨rfl, is⟩
    exact hs i x _ (is xs seq) p
  · have e : i = xs.length := by omega
    subst e
    exact .inl ⟨⟨xs, seq, Nat.le_refl _⟩, hd G p⟩
end
end Ct
namespace Ct
open PySem PySem.Spec PyProof.Rows L2
section
variable {X : Cx}
def rLenT : List V → Hp → VK → Prop := fun xs H Q => ∃ (a : Addr) (kvs : List (List Key × V)), xs = [.ref a] ∧ H a = some (.dT kvs) ∧ Q (.int kvs.length) H
theorem call_lenT : CallR X (.builtin "len") rLenT := by
  rintro pins s σ H xs us Q J r ⟨a, kvs, rfl, ha, q⟩
  obtain ⟨u, rfl, r1⟩ := vals1 r
  cases (show u = Value.ref a from r1)
  obtain ⟨notSys, small, es, ep, raw, size, _⟩ := dt_raw J.hok ha
  have s2 := sizeLine_eq
  refine PyProof.Rows.call_len_slot (n := kvs.length) raw.typeIs PySem.F.slot_dict_len (fun Q' q' => call_len_raw notSys raw (by rw [size]; exact q')) (by omega) (by omega) ?_
  exact ⟨.int kvs.length, H, J.tok _, ⟨_, rfl⟩, q⟩
end
section
variable {K : PySem.W.Frag} {H : Hp} {σ : L2.St} {D : Ends} {Q : VK} {QB : Bool → Hp → Prop} {R : It → Hp → Prop}
def IV (K : PySem.W.Frag) (vs : List V) (H : Hp) (R : It → Hp → Prop) : Prop := iRev K (fun _ H Q => Q vs H) [] H R
theorem w_irev {ta : TA} (h : ta σ H fun vs H1 => IV K vs H1 R) : iRev K ta σ H R := h
theorem w_IV {a : Addr} {xs : List V} (h : SqL K H a xs) (q : R (Itv K a xs.length) H) : IV K [.ref a] H R := ⟨a, xs, rfl, h, q⟩
theorem fb_rev {a : Addr} (xs : List V) {g : TG} {tb : TS} (Pv : Nat → L2.St → Hp → Prop) (h0 : Pv 0 σ H) (hq : ∀ i σ H, Pv i σ H → SqL K H a xs)
    (hs : ∀ (i : Nat) (x : V) (σ : L2.St) (H : Hp), i < xs.length → xs[xs.length - 1 - i]? = some x → Pv i σ H → g x σ H fun σ2 H2 => tb { D with nx := Pv (i + 1), ct := Pv (i + 1), bk := D.nx } σ2 H2) (hd : ∀ σ H, Pv xs.length σ H → D.nx σ H) : FB (Itv K a xs.length) g tb D σ H := RT.for_Itv Pv h0 hq hs hd
def DB (J : It) (g : TG) (tt : TT) (tk tv : TE) (vs : List Nat) (σ : L2.St) (H : Hp) (Q : VK) : Prop := tDcT (fun _ H R => R J H) g tt tk tv vs σ H Q
theorem w_dcT {wi : TI} {g : TG} {tt : TT} {tk tv : TE} {vs : List Nat} (h : wi σ H fun J H1 => DB J g tt tk tv vs σ H1 Q) : tDcT wi g tt tk tv vs σ H Q := h
theorem db_list {a : Addr} (xs : List V) {g : TG} {tt : TT} {tk tv : TE} {vs : List Nat} (Pv : Addr → Nat → Hp → Prop) (h0 : ∀ D, H D = none → Pv D 0 (upd H D (.dT []))) (hl : ∀ D, H D = none → ∀ i H1, i ≤ xs.length → Pv D i H1 → SqL K H1 a xs)
    (hs : ∀ D, H D = none → ∀ i x H1, xs[i]? = some x → Pv D i H1 → g x (wipe σ vs) H1 fun σ2 H2 => wipe σ2 vs = wipe σ vs ∧ tt σ2 H2 fun yes H3 =>
      if yes = true then tk σ2 H3 fun y H4 => tv σ2 H4 fun z H5 => ∃ kvs k b, y = .ref b ∧ H5 b = some (.tup (k.map kV)) ∧ H5 D = some (.dT kvs) ∧ kvs.length < sizeLine ∧ Pv D (i + 1) (upd H5 D (.dT (putK kvs k z))) else Pv D (i + 1) H3) (hd : ∀ D, H D = none → ∀ H1, Pv D xs.length H1 → Q (.ref D) H1) : DB (Itl K a) g tt tk tv vs σ H Q :=
  fun D hD => dcT_list (Pv D) (h0 D hD) (hl D hD) (hs D hD) (hd D hD)
theorem w_par {i j : Nat} {ta : TA} (h : ta σ H fun vs H1 => ∃ v w, vs = [v, w] ∧ D.nx ((σ.set i (some v)).set j (some w)) H1) : tPar i j ta D σ H := h
theorem w_bm0 {T : String} {r : V → List V → Hp → VK → Prop} {to : TE} (h : to σ H fun x H1 => tyV K T x H1 ∧ r x [] H1 Q) : tBM0 K T r to σ H Q := h
end
/-- tracked tuples of numbers -/
inductive TpAll (H : Hp) : List V → List (List Int) → Prop
  | nil : TpAll H [] []
  | cons {b : Addr} {s : List Int} {vs : List V} {ss : List (List Int)} : H b = some (.tup (s.map V.int)) → TpAll H vs ss → TpAll H (.ref b :: vs) (s :: ss)
theorem tp_same {H H' : Hp} (e : Same H H') : ∀ {vs : List V} {ss : List (List Int)}, TpAll H vs ss → TpAll H' vs ss
  | _, _, .nil => .nil
  | _, _, .cons h t => .cons (e _ _ h) (tp_same e t)
theorem tp_len {H : Hp} : ∀ {vs : List V} {ss : List (List Int)}, TpAll H vs ss → vs.length = ss.length
  | _, _, .nil => rfl
  | _, _, .cons _ t => by rw [List.length_cons, List.length_cons, tp_len t]
theorem tp_get {H : Hp} : ∀ {vs : List V} {ss : List (List Int)}, TpAll H vs ss → ∀ {i : Nat} {s : List Int}, ss[i]? = some s → ∃ b, vs[i]? = some (.ref b) ∧ H b = some (.tup (s.map V.int))
  | _, _, .nil, _, _, e => by simp at e
  | _, _, .cons h _, 0, _, e => by
    cases Option.some.inj e
    exact ⟨_, rfl, h⟩
  | _, _, .cons _ t, i + 1, _, e => tp_get t (i := i) e
theorem tp_app {H : Hp} : ∀ {vs ws : List V} {ss ts : List (List Int)}, TpAll H vs ss → TpAll H ws ts → TpAll H (vs ++ ws) (ss ++ ts)
  | _, _, _, _, .nil, h => h
  | _, _, _, _, .cons a t, h => .cons a (tp_app t h)
theorem tp_upd {H : Hp} {l : Addr} {ws : List V} {o : HO} (hl : H l = some (.lst ws)) : ∀ {vs : List V} {ss : List (List Int)}, TpAll H vs ss → TpAll (upd H l o) vs ss
  | _, _, .nil => .nil
  | _, _, .cons h t => .cons (by rw [upd_ne (ne_of h hl (fun z => nomatch z))]; exact h) (tp_upd hl t)
theorem tp_dp {K : PySem.W.Frag} {H : Hp} : ∀ {vs : List V} {ss : List (List Int)}, TpAll H vs ss → DpAll K H vs (ss.map tupD)
  | _, _, .nil => .nil
  | _, _, .cons h t => .cons (tupD_dp (.of h)) (tp_dp t)
theorem tp_take {H : Hp} : ∀ {vs : List V} {ss : List (List Int)} (k : Nat), TpAll H vs ss → TpAll H (vs.take k) (ss.take k)
  | _, _, 0, _ => .nil
  | _, _, _ + 1, .nil => .nil
  | _, _, k + 1, .cons h t => .cons h (tp_take k t)
theorem tp_drop {H : Hp} : ∀ {vs : List V} {ss : List (List Int)} (k : Nat), TpAll H vs ss → TpAll H (vs.drop k) (ss.drop k)
  | _, _, 0, h => h
  | _, _, _ + 1, .nil => .nil
  | _, _, k + 1, .cons _ t => tp_drop k t
theorem tp_of {H : Hp} : ∀ {bs : List Addr} {ss : List (List Int)}, bs.length = ss.length → (∀ (i : Nat) (b : Addr) (s : List Int), bs[i]? = some b → ss[i]? = some s → H b = some (.tup (s.map V.int))) → TpAll H (bs.map V.ref) ss
  | [], [], _, _ => .nil
  | [], _ :: _, e, _ => nomatch e
  | _ :: _, [], e, _ => nomatch e
  | b :: bs, s :: ss, e, h => .cons (h 0 b s rfl rfl) (tp_of (by simpa using e) fun i c t hc ht => h (i + 1) c t hc ht)
end Ct

/-! steps that come round -/
namespace Ct
section
variable {α : Type}
def itf (f : α → α) : Nat → α → α
  | 0, x => x
  | n + 1, x => f (itf f n x)
theorem itf_add (f : α → α) (x : α) (n : Nat) : ∀ m, itf f (m + n) x = itf f m (itf f n x)
  | 0 => by rw [Nat.zero_add]; rfl
  | m + 1 => by
    rw [show m + 1 + n = m + n + 1 by omega]
    show f (itf f (m + n) x) = f (itf f m (itf f n x))
    rw [itf_add f x n m]
theorem itf_one (f : α → α) (x : α) (n : Nat) : itf f (n + 1) x = itf f n (f x) := itf_add f x 1 n
def Ring (f : α → α) (x : α) : Prop := ∃ k, 0 < k ∧ itf f k x = x
def Tail (f : α → α) (x : α) (t : Nat) : Prop := Ring f (itf f t x) ∧ ∀ j, j < t → ¬ Ring f (itf f j x)
def Per (f : α → α) (x : α) (c : Nat) : Prop := 0 < c ∧ (∃ t, itf f (t + c) x = itf f t x) ∧ ∀ c', 0 < c' → c' < c → ∀ t, itf f (t + c') x ≠ itf f t x
variable {f : α → α} {x : α}
theorem tail_fun {s t : Nat} (h : Tail f x s) (g : Tail f x t) : s = t := by
  rcases Nat.lt_trichotomy s t with lt | e | lt
  · exact absurd h.1 (g.2 s lt)
  · exact e
  · exact absurd g.1 (h.2 t lt)
theorem per_fun {c d : Nat} (h : Per f x c) (g : Per f x d) : c = d := by
  rcases Nat.lt_trichotomy c d with lt | e | lt
  · obtain ⟨t, e⟩ := h.2.1
    exact absurd e (g.2.2 c h.1 lt t)
  · exact e
  · obtain ⟨t, e⟩ := g.2.1
    exact absurd e (h.2.2 d g.1 lt t)
theorem tail_zero (h : Ring f x) : Tail f x 0 := ⟨h, fun j hj => absurd hj (Nat.not_lt_zero j)⟩
theorem tail_succ {t : Nat} (n : ¬ Ring f x) (h : Tail f (f x) t) : Tail f x (t + 1) := by
  refine ⟨by rw [itf_one]; exact h.1, fun j hj => ?_⟩
  cases j with
  | zero => exact n
  | succ j =>
    rw [itf_one]
    exact h.2 j (by omega)
theorem per_back {c : Nat} (h : Per f (f x) c) : Per f x c := by
  obtain ⟨h0, ⟨t, e⟩, least⟩ := h
  refine ⟨h0, ⟨t + 1, ?_⟩, fun c' p lt t e => least c' p lt t ?_⟩
  · rw [show t + 1 + c = t + c + 1 by omega, itf_one, itf_one]
    exact e
  · rw [← itf_one, ← itf_one]
    show f (itf f (t + c') x) = f (itf f t x)
    rw [e]
/-- from where it came to a second time, all that comes came already -/
theorem comes {m n : Nat} (lt : m < n) (e : itf f n x = itf f m x) : ∀ i, m ≤ i → ∃ r, m ≤ r ∧ r < n ∧ itf f i x = itf f r x
  | 0, h => ⟨0, h, by omega, rfl⟩
  | i + 1, h => by
    rcases Nat.lt_or_ge m (i + 1) with l | l
    · obtain ⟨r, r1, r2, er⟩ := comes lt e i (by omega)
      rcases Nat.lt_or_ge (r + 1) n with l2 | l2
      · exact ⟨r + 1, by omega, l2, by show f (itf f i x) = f (itf f r x); rw [er]⟩
      · refine ⟨m, Nat.le_refl _, lt, ?_⟩
        have en : r + 1 = n := by omega
        rw [← e, ← en]
        show f (itf f i x) = f (itf f r x)
        rw [er]
    · exact ⟨i + 1, h, by omega, rfl⟩
theorem rounds {j k : Nat} (e : itf f (j + k) x = itf f j x) : ∀ q, itf f (j + k * q) x = itf f j x
  | 0 => by rw [Nat.mul_zero, Nat.add_zero]
  | q + 1 => by
    rw [show j + k * (q + 1) = k + (j + k * q) by rw [Nat.mul_succ]; omega, itf_add, rounds e q, ← itf_add, Nat.add_comm k j]
    exact e
/-- a walk to the first stand that comes again -/
theorem walk_end {m n : Nat} (lt : m < n) (e : itf f n x = itf f m x) (dist : ∀ i j, i < j → j < n → itf f i x ≠ itf f j x) : Tail f x m ∧ Per f x (n - m) := by
  refine ⟨⟨⟨n - m, by omega, ?_⟩, ?_⟩, by omega, ⟨m, ?_⟩, ?_⟩
  · rw [← itf_add, show n - m + m = n by omega]
    exact e
  · rintro j hj ⟨k, k0, ek⟩
    rw [← itf_add, Nat.add_comm] at ek
    have er := rounds ek m
    have big : m ≤ j + k * m := by
      have := Nat.mul_le_mul_right m k0
      omega
    obtain ⟨r, r1, r2, e2⟩ := comes lt e _ big
    exact dist j r (by omega) r2 (by rw [← e2, er])
  · rw [show m + (n - m) = n by omega]
    exact e
  · intro c' c0 cl t et
    have all : ∀ i, t ≤ i → itf f (i + c') x = itf f i x := fun i hi => by
      obtain ⟨d, rfl⟩ : ∃ d, i = d + t := ⟨i - t, by omega⟩
      rw [show d + t + c' = d + (t + c') by omega, itf_add, et, ← itf_add]
    have em := rounds (j := m) (k := n - m) (by rw [show m + (n - m) = n by omega]; exact e) t
    have big : t ≤ m + (n - m) * t := by
      have := Nat.mul_le_mul_right t (show 1 ≤ n - m by omega)
      omega
    have ea := all _ big
    rw [Nat.add_comm _ c', itf_add, em, ← itf_add, Nat.add_comm c' m] at ea
    exact dist m (m + c') (by omega) (by omega) ea.symm
/-! greatest tails, least common rounds -/
def Ahead (f : α → α) (S : List α) (a : Nat) : Prop := (∃ x, x ∈ S ∧ Tail f x a) ∧ ∀ x, x ∈ S → ∀ t, Tail f x t → t ≤ a
def Turns (f : α → α) (S : List α) (L : Nat) : Prop := 0 < L ∧ (∀ x, x ∈ S → ∀ c, Per f x c → c ∣ L) ∧ ∀ m, (∀ x, x ∈ S → ∀ c, Per f x c → c ∣ m) → L ∣ m
theorem ahead_fun {S : List α} {a b : Nat} (h : Ahead f S a) (g : Ahead f S b) : a = b := by
  obtain ⟨⟨x, hx, tx⟩, h2⟩ := h
  obtain ⟨⟨y, hy, ty⟩, g2⟩ := g
  have := h2 y hy b ty
  have := g2 x hx a tx
  omega
theorem turns_fun {S : List α} {a b : Nat} (h : Turns f S a) (g : Turns f S b) : a = b := Nat.dvd_antisymm (h.2.2 b g.2.1) (g.2.2 a h.2.1)
theorem turns_nil : Turns f [] 1 := ⟨by decide, (fun _ h => nomatch h), fun m _ => Nat.one_dvd m⟩
theorem turns_more {S S' : List α} {L c : Nat} (h : Turns f S L) (sub : ∀ x, x ∈ S → x ∈ S') (new : ∀ x, x ∈ S' → x ∈ S ∨ Per f x c) (one : ∃ x, x ∈ S' ∧ Per f x c) (c0 : 0 < c) : Turns f S' (Nat.lcm L c) := by
  refine ⟨Nat.lcm_pos h.1 c0, fun x hx d hd => ?_, fun m hm => Nat.lcm_dvd (h.2.2 m fun x hx => hm x (sub x hx)) ?_⟩
  · rcases new x hx with hx | hp
    · exact Nat.dvd_trans (h.2.1 x hx d hd) (Nat.dvd_lcm_left L c)
    · rw [per_fun hd hp]
      exact Nat.dvd_lcm_right L c
  · obtain ⟨x, hx, hp⟩ := one
    exact hm x hx c hp
theorem turns_same {S S' : List α} {L : Nat} (h : Turns f S L) (sub : ∀ x, x ∈ S → x ∈ S') (new : ∀ x, x ∈ S' → ∀ c, Per f x c → ∃ y, y ∈ S ∧ Per f y c) : Turns f S' L := by
  refine ⟨h.1, fun x hx c hc => ?_, fun m hm => h.2.2 m fun x hx => hm x (sub x hx)⟩
  obtain ⟨y, hy, hp⟩ := new x hx c hc
  exact h.2.1 y hy c hp
end
end Ct
namespace Ct
open PySem PySem.Spec PyProof.Rows L2
/-! stands that come round -/
theorem per_fwd {α : Type} {f : α → α} {x : α} {c : Nat} (h : Per f x c) : Per f (f x) c := by
  obtain ⟨h0, ⟨t, e⟩, least⟩ := h
  refine ⟨h0, ⟨t, ?_⟩, fun c' p lt t e => least c' p lt (t + 1) ?_⟩
  · rw [← itf_one, ← itf_one]
    show f (itf f (t + c) x) = f (itf f t x)
    rw [e]
  · rw [← itf_one, ← itf_one] at e
    rw [show t + 1 + c' = t + c' + 1 by omega]
    exact e
theorem per_on {α : Type} {f : α → α} {x : α} {c : Nat} (h : Per f x c) : ∀ n, Per f (itf f n x) c
  | 0 => h
  | n + 1 => per_fwd (per_on h n)
def fact : Nat → Nat
  | 0 => 1
  | n + 1 => (n + 1) * fact n
theorem fact_pos : ∀ n, 0 < fact n
  | 0 => by decide
  | n + 1 => Nat.mul_pos (Nat.succ_pos n) (fact_pos n)
theorem fact_dvd : ∀ {n c : Nat}, 0 < c → c ≤ n → c ∣ fact n
  | 0, c, h, l => by omega
  | n + 1, c, h, l => by
    rcases Nat.lt_or_ge c (n + 1) with lt | ge
    · exact Nat.dvd_trans (fact_dvd h (by omega)) (Nat.dvd_mul_left _ _)
    · rw [show c = n + 1 by omega]
      exact Nat.dvd_mul_right _ _
theorem fact_lt : ∀ {n : Nat}, n < 2 ^ 11 → fact n ≤ 2 ^ (11 * n)
  | 0, _ => by decide
  | n + 1, h => by
    have ih := fact_lt (n := n) (by omega)
    show (n + 1) * fact n ≤ 2 ^ (11 * (n + 1))
    rw [show 11 * (n + 1) = 11 + 11 * n by omega, Nat.pow_add]
    exact Nat.mul_le_mul (Nat.le_of_lt h) ih
theorem turns_le {α : Type} {f : α → α} {S : List α} {L n : Nat} (h : Turns f S L) (b : ∀ x, x ∈ S → ∀ c, Per f x c → c ≤ n) (hn : n < 2 ^ 11) : L ≤ 2 ^ (11 * n) :=
  Nat.le_trans (Nat.le_of_dvd (fact_pos n) (h.2.2 _ fun x hx c hc => fact_dvd hc.1 (b x hx c hc))) (fact_lt hn)
/-- what a row leads to -/
def fR (ps : List Part) (ds : List Deed) : List Int → List Int := fun xs => (rowL ps ds (xs, 0)).1
theorem itR_itf (ps : List Part) (ds : List Deed) (xs : List Int) : ∀ n, (itR ps ds n xs).1 = itf (fR ps ds) n xs
  | 0 => rfl
  | n + 1 => by
    show (rowL ps ds ((itR ps ds n xs).1, 0)).1 = (rowL ps ds (itf (fR ps ds) n xs, 0)).1
    rw [itR_itf ps ds xs n]
theorem itf_stand {ps : List Part} {ds : List Deed} {xs : List Int} (h : StandL ps xs) (hd : ∀ d ∈ ds, d.ok ps.length) (n : Nat) : StandL ps (itf (fR ps ds) n xs) := by
  rw [← itR_itf]
  exact itR_stand h hd n
theorem few_itf {ps : List Part} {ds : List Deed} {xs : List Int} (h : StandL ps xs) (hd : ∀ d ∈ ds, d.ok ps.length) {k : Nat} (dist : ∀ i j, i < j → j < k → itf (fR ps ds) i xs ≠ itf (fR ps ds) j xs) : k ≤ (stands ps).toNat :=
  few_stands h hd fun i j hi hj => by
    rw [itR_itf, itR_itf]
    exact dist i j hi hj
def keyI (xs : List Int) : List Key := xs.map Sum.inl
theorem keyI_inj {xs ys : List Int} (h : keyI xs = keyI ys) : xs = ys := inl_inj h
theorem keyI_kV (xs : List Int) : (keyI xs).map kV = xs.map V.int := key_map xs
/-- the dict of what each stand leads to -/
def AfterAt (H : Hp) (f : List Int → List Int) (S : List Int → Prop) (a : Addr) : Prop := ∃ kvs, H a = some (.dT kvs) ∧ ∀ xs, S xs → ∃ b, valV kvs (keyI xs) = some (.ref b) ∧ H b = some (.tup ((f xs).map V.int))
theorem AfterAt.same {H H' : Hp} {f : List Int → List Int} {S : List Int → Prop} {a : Addr} (s : Same H H') (h : AfterAt H f S a) : AfterAt H' f S a := by
  obtain ⟨kvs, h1, h2⟩ := h
  refine ⟨kvs, s _ _ h1, fun xs hx => ?_⟩
  obtain ⟨b, e, hb⟩ := h2 xs hx
  exact ⟨b, e, s _ _ hb⟩
/-- a dict told by its pairs -/
def pairsD (dl : List (List Int × V)) : List (List Key × V) := dl.map fun p => (keyI p.1, p.2)
theorem valV_none {dl : List (List Int × V)} {xs : List Int} : valV (pairsD dl) (keyI xs) = none ↔ xs ∉ dl.map (·.1) := by
  unfold valV pairsD
  rw [Option.map_eq_none_iff, List.find?_eq_none]
  constructor
  · intro h m
    obtain ⟨p, hp, rfl⟩ := List.mem_map.mp m
    exact h (keyI p.1, p.2) (List.mem_map.mpr ⟨p, hp, rfl⟩) (decide_eq_true rfl)
  · intro h q hq
    obtain ⟨p, hp, rfl⟩ := List.mem_map.mp hq
    intro z
    exact h (List.mem_map.mpr ⟨p, hp, keyI_inj (of_decide_eq_true z)⟩)
theorem valV_some {dl : List (List Int × V)} {xs : List Int} {v : V} (h : valV (pairsD dl) (keyI xs) = some v) : (xs, v) ∈ dl := by
  unfold valV pairsD at h
  obtain ⟨q, hq, rfl⟩ := Option.map_eq_some_iff.mp h
  obtain ⟨p, hp, rfl⟩ := List.mem_map.mp (List.mem_of_find?_eq_some hq)
  have e := List.find?_some hq
  have e2 : p.1 = xs := keyI_inj (of_decide_eq_true e)
  rw [← e2]
  exact hp
theorem valV_is {dl : List (List Int × V)} {xs : List Int} (h : xs ∈ dl.map (·.1)) : ∃ v, valV (pairsD dl) (keyI xs) = some v ∧ (xs, v) ∈ dl := by
  cases e : valV (pairsD dl) (keyI xs) with
  | none => exact absurd h (valV_none.mp e)
  | some v => exact ⟨v, rfl, valV_some e⟩
theorem put_pairs {dl : List (List Int × V)} {xs : List Int} (v : V) (h : xs ∉ dl.map (·.1)) : putK (pairsD dl) (keyI xs) v = pairsD (dl ++ [(xs, v)]) := by
  rw [putK_new v (valV_none.mpr h)]
  unfold pairsD
  rw [List.map_append]
  rfl
theorem prs_len (dl : List (List Int × V)) : (pairsD dl).length = dl.length := List.length_map _
end Ct
namespace Ct
open PySem PySem.Spec PyProof.Rows L2
/-! the dict of steps ahead -/
theorem per_few {ps : List Part} {ds : List Deed} {xs : List Int} {c : Nat} (h : StandL ps xs) (hd : ∀ d ∈ ds, d.ok ps.length) (p : Per (fR ps ds) xs c) : c ≤ (stands ps).toNat := by
  obtain ⟨t, e⟩ := p.2.1
  refine few_itf (xs := itf (fR ps ds) t xs) (itf_stand h hd t) hd fun i j hij hj z => ?_
  rw [← itf_add, ← itf_add] at z
  exact p.2.2 (j - i) (by omega) (by omega) (i + t) (by rw [show i + t + (j - i) = j + t by omega]; exact z.symm)
structure DI (ps : List Part) (ds : List Deed) (dl : List (List Int × V)) (turn : Nat) : Prop where
  nd : (dl.map (·.1)).Nodup
  each : ∀ p, p ∈ dl → StandL ps p.1 ∧ ∃ t : Nat, p.2 = .int (t : Int) ∧ Tail (fR ps ds) p.1 t
  closed : ∀ x, x ∈ dl.map (·.1) → fR ps ds x ∈ dl.map (·.1)
  turns : Turns (fR ps ds) (dl.map (·.1)) turn
theorem DI.nil {ps : List Part} {ds : List Deed} : DI ps ds [] 1 := ⟨List.nodup_nil, (fun _ h => nomatch h), (fun _ h => nomatch h), turns_nil⟩
theorem DI.stand {ps : List Part} {ds : List Deed} {dl : List (List Int × V)} {turn : Nat} (h : DI ps ds dl turn) {x : List Int} (hx : x ∈ dl.map (·.1)) : StandL ps x := by
  obtain ⟨p, hp, rfl⟩ := List.mem_map.mp hx
  exact (h.each p hp).1
theorem few_of {ps : List Part} {l : List (List Int)} (nd : l.Nodup) (st : ∀ x, x ∈ l → StandL ps x) : l.length ≤ (stands ps).toNat := by
  have := holes (stands ps).toNat (l.map (code ps)) ?_ ?_
  · rw [List.length_map] at this
    exact this
  · rw [List.nodup_iff_pairwise_ne, List.pairwise_map]
    exact List.Pairwise.imp_of_mem (fun {a b} ha hb hab z => hab (code_inj (st a ha) (st b hb) z)) (List.nodup_iff_pairwise_ne.mp nd)
  · intro x hx
    obtain ⟨y, hy, rfl⟩ := List.mem_map.mp hx
    exact code_lt (st y hy)
theorem DI.len {ps : List Part} {ds : List Deed} {dl : List (List Int × V)} {turn : Nat} (h : DI ps ds dl turn) : dl.length ≤ (stands ps).toNat := by
  have := few_of h.nd fun x hx => h.stand hx
  rw [List.length_map] at this
  exact this
theorem DI.small {ps : List Part} {ds : List Deed} {dl : List (List Int × V)} {turn : Nat} (h : DI ps ds dl turn) (hd : ∀ d ∈ ds, d.ok ps.length) (s : stands ps ≤ 2000) : turn ≤ 2 ^ 30000 :=
  Nat.le_trans (turns_le h.turns (n := (stands ps).toNat) (fun x hx c hc => per_few (h.stand hx) hd hc) (by omega)) (Nat.pow_le_pow_right (by decide) (by omega))
theorem DI.on {ps : List Part} {ds : List Deed} {dl : List (List Int × V)} {turn : Nat} (h : DI ps ds dl turn) {x : List Int} (hx : x ∈ dl.map (·.1)) : ∀ n, itf (fR ps ds) n x ∈ dl.map (·.1)
  | 0 => hx
  | n + 1 => h.closed _ (h.on hx n)
/-- what lies outside, and leads inside, is on no ring -/
theorem DI.out {ps : List Part} {ds : List Deed} {dl : List (List Int × V)} {turn : Nat} (h : DI ps ds dl turn) {x : List Int} {n : Nat} (hn : itf (fR ps ds) n x ∈ dl.map (·.1)) (hx : x ∉ dl.map (·.1)) : ¬ Ring (fR ps ds) x := by
  rintro ⟨k, k0, e⟩
  have er := rounds (f := fR ps ds) (x := x) (j := 0) (k := k) (by rw [Nat.zero_add]; exact e) n
  rw [Nat.zero_add] at er
  have big : n ≤ k * n := by
    have := Nat.mul_le_mul_right n k0
    omega
  obtain ⟨d, hd⟩ : ∃ d, k * n = d + n := ⟨k * n - n, by omega⟩
  rw [hd, itf_add] at er
  refine hx ?_
  have z : itf (fR ps ds) 0 x = x := rfl
  rw [← z, ← er]
  exact h.on hn d
theorem DI.back {ps : List Part} {ds : List Deed} {dl : List (List Int × V)} {turn : Nat} (h : DI ps ds dl turn) {x : List Int} {t : Nat} (st : StandL ps x) (hx : x ∉ dl.map (·.1)) (hf : fR ps ds x ∈ dl.map (·.1)) (ht : Tail (fR ps ds) (fR ps ds x) t) : DI ps ds (dl ++ [(x, .int ((t + 1 : Nat) : Int))]) turn := by
  have nr := h.out (x := x) (n := 1) hf hx
  have em : (dl ++ [(x, V.int ((t + 1 : Nat) : Int))]).map (·.1) = dl.map (·.1) ++ [x] := by rw [List.map_append]; rfl
  refine ⟨?_, fun p hp => ?_, fun y hy => ?_, ?_⟩
  · rw [em]
    exact List.nodup_append.mpr ⟨h.nd, (List.nodup_cons.mpr ⟨List.not_mem_nil, List.nodup_nil⟩ : [x].Nodup), fun a ha b hb z => hx (by rw [List.mem_singleton] at hb; rw [← hb, ← z]; exact ha)⟩
  · rcases List.mem_append.mp hp with hp | hp
    · exact h.each p hp
    · rw [List.mem_singleton] at hp
      rw [hp]
      exact ⟨st, t + 1, rfl, tail_succ nr ht⟩
  · rw [em] at hy ⊢
    rcases List.mem_append.mp hy with hy | hy
    · exact List.mem_append_left _ (h.closed y hy)
    · rw [List.mem_singleton] at hy
      rw [hy]
      exact List.mem_append_left _ hf
  · rw [em]
    refine turns_same h.turns (fun y hy => List.mem_append_left _ hy) fun y hy c hc => ?_
    rcases List.mem_append.mp hy with hy | hy
    · exact ⟨y, hy, hc⟩
    · rw [List.mem_singleton] at hy
      rw [hy] at hc
      exact ⟨_, hf, per_fwd hc⟩
/-- a new ring -/
theorem DI.ring {ps : List Part} {ds : List Deed} {dl : List (List Int × V)} {turn : Nat} (h : DI ps ds dl turn) (hd : ∀ d ∈ ds, d.ok ps.length) {x : List Int} {m n : Nat} (st : StandL ps x) (lt : m < n) (e : itf (fR ps ds) n x = itf (fR ps ds) m x) (dist : ∀ i j, i < j → j < n → itf (fR ps ds) i x ≠ itf (fR ps ds) j x) (out : ∀ i, i < n → itf (fR ps ds) i x ∉ dl.map (·.1)) :
    DI ps ds (dl ++ (List.range (n - m)).map fun j => (itf (fR ps ds) (m + j) x, V.int 0)) (Nat.lcm turn (n - m)) := by
  obtain ⟨tl, pr⟩ := walk_end lt e dist
  have em : (dl ++ (List.range (n - m)).map fun j => (itf (fR ps ds) (m + j) x, V.int 0)).map (·.1) = dl.map (·.1) ++ (List.range (n - m)).map fun j => itf (fR ps ds) (m + j) x := by rw [List.map_append, List.map_map]; rfl
  have rg : ∀ j, Ring (fR ps ds) (itf (fR ps ds) (m + j) x) := fun j => by
    obtain ⟨k, k0, ek⟩ := tl.1
    refine ⟨k, k0, ?_⟩
    rw [Nat.add_comm m j, itf_add, ← itf_add, Nat.add_comm k j, itf_add, ek]
  refine ⟨?_, fun p hp => ?_, fun y hy => ?_, ?_⟩
  · rw [em]
    refine List.nodup_append.mpr ⟨h.nd, ?_, fun a ha b hb z => ?_⟩
    · rw [List.nodup_iff_pairwise_ne, List.pairwise_map]
      refine List.Pairwise.imp_of_mem (fun {a b} ha hb hab => ?_) (List.pairwise_lt_range (n := n - m))
      rw [List.mem_range] at ha hb
      exact dist _ _ (by omega) (by omega)
    · obtain ⟨j, hj, rfl⟩ := List.mem_map.mp hb
      rw [List.mem_range] at hj
      exact out (m + j) (by omega) (by rw [← z]; exact ha)
  · rcases List.mem_append.mp hp with hp | hp
    · exact h.each p hp
    · obtain ⟨j, hj, rfl⟩ := List.mem_map.mp hp
      exact ⟨itf_stand st hd _, 0, rfl, tail_zero (rg j)⟩
  · rw [em] at hy ⊢
    rcases List.mem_append.mp hy with hy | hy
    · exact List.mem_append_left _ (h.closed y hy)
    · obtain ⟨j, hj, rfl⟩ := List.mem_map.mp hy
      rw [List.mem_range] at hj
      refine List.mem_append_right _ ?_
      rcases Nat.lt_or_ge (j + 1) (n - m) with l | l
      · exact List.mem_map.mpr ⟨j + 1, List.mem_range.mpr l, rfl⟩
      · refine List.mem_map.mpr ⟨0, List.mem_range.mpr (by omega), ?_⟩
        show itf (fR ps ds) m x = itf (fR ps ds) (m + j + 1) x
        rw [show m + j + 1 = n by omega]
        exact e.symm
  · rw [em]
    refine turns_more h.turns (fun y hy => List.mem_append_left _ hy) (fun y hy => ?_) ⟨itf (fR ps ds) m x, List.mem_append_right _ (List.mem_map.mpr ⟨0, List.mem_range.mpr (by omega), rfl⟩), per_on pr m⟩ (by omega)
    rcases List.mem_append.mp hy with hy | hy
    · exact .inl hy
    · obtain ⟨j, hj, rfl⟩ := List.mem_map.mp hy
      exact .inr (per_on pr _)
theorem at_last {xs : List V} {v : V} {n : Nat} (l : xs.length = n + 1) (e : xs[n]? = some v) : atI xs (-1) = some v := by
  unfold atI
  rw [show ixN xs.length (-1) = some n by
    unfold ixN
    rw [l]
    rw [if_neg (by decide), if_pos (by omega)]
    congr 1
    omega]
  exact e
theorem tp_updD {H : Hp} {l : Addr} {kvs : List (List Key × V)} {o : HO} (hl : H l = some (.dT kvs)) : ∀ {vs : List V} {ss : List (List Int)}, TpAll H vs ss → TpAll (upd H l o) vs ss
  | _, _, .nil => .nil
  | _, _, .cons h t => .cons (by rw [upd_ne (ne_of h hl (fun z => nomatch z))]; exact h) (tp_updD hl t)
end Ct
namespace Ct
open PySem PySem.Spec PyProof.Rows L2
theorem tails_of : ∀ (dl : List (List Int × V)), (∀ p, p ∈ dl → ∃ t : Nat, p.2 = .int (t : Int)) → ∃ ns : List Nat, dl.map (·.2) = ns.map fun (t : Nat) => V.int (t : Int)
  | [], _ => ⟨[], rfl⟩
  | p :: dl, h => by
    obtain ⟨t, e⟩ := h p List.mem_cons_self
    obtain ⟨ns, hn⟩ := tails_of dl fun q hq => h q (List.mem_cons_of_mem _ hq)
    exact ⟨t :: ns, by rw [List.map_cons, List.map_cons, e, hn]⟩
theorem cut_toN (xs : List V) (k : Nat) (h : k ≤ xs.length) : cutV xs none (some (k : Int)) = xs.take k := by
  unfold cutV
  rw [HT.sIx_none, HT.sIx_nat, List.drop_zero, Nat.min_eq_left h, Nat.sub_zero]
end Ct
namespace Ct
open PySem PySem.Spec PyProof.Rows L2
/-! a spring drawn back -/
theorem spring_step (k y : Int) : fR [.spring k] [⟨0, -1, 1⟩] [y] = [if y - 1 > 0 then y - 1 else 0] := rfl
theorem spring_steps (k : Int) (n : Nat) : ∀ j : Nat, itf (fR [.spring k] [⟨0, -1, 1⟩]) j [(n : Int)] = [((n - j : Nat) : Int)]
  | 0 => rfl
  | j + 1 => by
    show fR [.spring k] [⟨0, -1, 1⟩] (itf (fR [.spring k] [⟨0, -1, 1⟩]) j [(n : Int)]) = _
    rw [spring_steps k n j, spring_step]
    congr 1
    split <;> omega
theorem spring_tail (k : Int) : ∀ n : Nat, Tail (fR [.spring k] [⟨0, -1, 1⟩]) [(n : Int)] n := fun n => by
  refine ⟨⟨1, by decide, ?_⟩, ?_⟩
  · rw [spring_steps k n n, Nat.sub_self]
    exact spring_steps k 0 1
  · rintro j hj ⟨i, i0, e⟩
    rw [spring_steps k n j, spring_steps k (n - j) i] at e
    have e1 := (List.cons.inj e).1
    omega
theorem spring_per (k : Int) (n : Nat) : Per (fR [.spring k] [⟨0, -1, 1⟩]) [(n : Int)] 1 := by
  refine ⟨by decide, ⟨n, ?_⟩, fun c' h0 h1 => by omega⟩
  rw [spring_steps k n (n + 1), spring_steps k n n]
  congr 1
  omega
theorem spring_all {k : Int} (h : (Part.spring k).ok) {xs : List Int} (hx : xs ∈ allS [.spring k]) : ∃ n : Nat, xs = [(n : Int)] ∧ (n : Int) < k := by
  have st := (allS_mem (ps := [.spring k]) (fun p hp => by rw [List.mem_singleton] at hp; rw [hp]; exact h) xs).mp hx
  match xs, st with
  | [y], ⟨_, y0, y1, _⟩ =>
    have y1' : y < k := y1
    exact ⟨y.toNat, by rw [Int.toNat_of_nonneg y0], by omega⟩
theorem spring_round {k : Int} (h : (Part.spring k).ok) {x L : Nat} (ah : Ahead (fR [.spring k] [⟨0, -1, 1⟩]) (allS [.spring k]) x) (tn : Turns (fR [.spring k] [⟨0, -1, 1⟩]) (allS [.spring k]) L) : (x : Int) = k - 1 ∧ L = 1 := by
  have h1 : 1 ≤ k := h.1
  constructor
  · obtain ⟨⟨y, hy, ty⟩, top⟩ := ah
    obtain ⟨n, rfl, hn⟩ := spring_all h hy
    rw [← tail_fun ty (spring_tail k n)] at hn
    have mem : [((k - 1).toNat : Int)] ∈ allS [.spring k] := (allS_mem (ps := [.spring k]) (fun p hp => by rw [List.mem_singleton] at hp; rw [hp]; exact h) _).mpr ⟨h, by omega, show ((k - 1).toNat : Int) < k by omega, trivial⟩
    have := top _ mem _ (spring_tail k (k - 1).toNat)
    omega
  · refine Nat.dvd_one.mp (tn.2.2 1 fun y hy c hc => ?_)
    obtain ⟨n, rfl, _⟩ := spring_all h hy
    rw [per_fun hc (spring_per k n)]
    exact Nat.dvd_refl 1
end Ct

/-! all(.. for .. in ..), any(.. for .. in ..): the generator's own frame -/
namespace Ct
open PySem PySem.Spec PyProof.Rows L2 GenW
/-- the table of a def's code objects, whatever it holds -/
def TabX (P : Addr) : HO := .ext fun h => ∃ ps : Array Value, h.get? P = some { cls := .none, data := .fields ps } ∧ TriplesOk ps.toList
theorem over_gen {A : Around} {elt : Expr} {gs : List Comprehension} {scope : Scope} {pos : Pos} {it acc : Value} {env : Env} : A.over (.compLoop (.GeneratorExp elt gs scope pos) 0 it acc env) [] = A.deeper env := by
  first
    | rfl
    | (obtain ⟨hd, d, fr, gu, u⟩ := A; simp [Around.over, Around.deeper, marksOver, frameCount, unitsOf, envsOf, guardsOf, pushEnvs, pushGuards, Code.envs, Code.env?, Code.isFrame, Code.guards, Code.isGuard, Code.weight, Code.frames, Code.isCreation, Code.isCaller, Code.cUnits])
theorem over_genS {A : Around} {elt : Expr} {gs : List Comprehension} {scope : Scope} {pos : Pos} {it acc : Value} {env : Env} : A.over (.compStart (.GeneratorExp elt gs scope pos) 0 it acc env) [] = A.deeper env := by
  first
    | rfl
    | (obtain ⟨hd, d, fr, gu, u⟩ := A; simp [Around.over, Around.deeper, marksOver, frameCount, unitsOf, envsOf, guardsOf, pushEnvs, pushGuards, Code.envs, Code.env?, Code.isFrame, Code.guards, Code.isGuard, Code.weight, Code.frames, Code.isCreation, Code.isCaller, Code.cUnits])
section
variable {X : Cx} {pins : List (Addr × Obj)} {σ : L2.St} {H : Hp} {s : Shared}
theorem tabx_ok {P0 : Program} {w : World} {H : Hp} {h : Heap} {P : Addr} {ps : Array Value} (hm : h.get? P = some { cls := .none, data := .fields ps }) (ht : TriplesOk ps.toList) : ObjOk P0 w H h P (TabX P) :=
  ⟨⟨ps, hm, ht⟩, ⟨_, hm⟩, fun h1 h2 ⟨qs, a, b⟩ st => ⟨qs, st _ a, b⟩⟩
/-- the table has grown, all else is kept -/
theorem inv_tabX {P : Addr} {ps : Array Value} {h' : Heap} {g' : Array GenState} {d' : Drawn} {t' : Nat} (I : Inv X pins σ H s) (hP : H P = some (TabX P)) (k : ∀ b o, b ≠ P → s.heap.get? b = some o → h'.get? b = some o)
    (hm : h'.get? P = some { cls := .none, data := .fields ps }) (ht : TriplesOk ps.toList) (hg : AllBare g') : Inv X pins σ H { s with heap := h', gens := g', drawn := d', toks := t' } := by
  have nP : ∀ b u, H b = some u → u ≠ TabX P → b ≠ P := fun b u e q z => by
    rw [z, hP] at e
    exact q (Option.some.inj e).symm
  have nN : ∀ b, H b = none → b ≠ P := fun b e z => by
    rw [z, hP] at e
    cases e
  refine I.step (g' := g') (d' := d') (ch := []) (fun b hb => absurd hb (by simp)) (fun b o _ _ _ e n => k b o (nN b n) e) (fun b o _ _ _ e n => ⟨o.slots, k b o (nN b n) e⟩)
    (fun b o _ e n => n) (fun b o _ e => ?_) (fun b xs e => e) (fun b o u e => e) (fun b qs e => ⟨#[], by rw [e]; simp⟩) (fun m hn => ?_) (fun b u e => ?_) hg
  · by_cases hb : b = P
    · rw [hb]
      exact ⟨_, hm⟩
    · exact ⟨o, k b o hb e⟩
  · obtain ⟨ob, es, ep, ho, r⟩ := hn
    exact ⟨ob, es, ep, k _ ob (nN _ I.free) ho, r⟩
  · by_cases hb2 : b = P
    · rw [hb2, hP] at e
      cases e
      rw [hb2]
      exact tabx_ok hm ht
    · refine (I.hok b u e).stay (fun d v hd q => k d v ?_ q) (fun d q => q) fun d xs q => q
      rcases hd with z | z
      · rw [z]
        exact hb2
      · exact nP d _ z (fun q => by unfold TabX at q; cases q)
/-- the context of a generator expression's frame: its iterator's objects at fp, what stands at pn -/
abbrev gxc (X : Cx) (B : Around) (s : Shared) (H : Hp) (scope : Scope) (cenv : Env) (fp : List Addr) (pn : List (Addr × Obj)) : Cx :=
  { X with A := B.deeper cenv, s_0 := s, H_0 := H, env := cenv, outer := X.stack, stack := cenv :: X.stack, ex := fp, fn := fun x => scope.names.lookup x == some .cell, pn := pn, xe := fun _ _ => False }
theorem lookup_clo {cells : List (Str × Addr)} {names : List (Str × NameKind)} {y : Str} {c : Addr} (e : (cloFrom cells names []).lookup y = some c) : (y, NameKind.free) ∈ names ∧ c = (cells.lookup y).getD 0 := by
  rcases cloFrom_mem (PySem.mem_of_lookup e) with z | z
  · cases z
  · exact z
/-- the frame is made -/
theorem gx_start {B : Around} {scope : Scope} {own : List (Str × Nat)} {fp : List Addr} {code : Value} {itv : Value} {h5 : Heap} {g5 : Array GenState} {t5 : Nat} {d5 : Drawn} {a : Addr} {go : Obj}
    (I : Inv X pins σ H s) (hB : B.frames = some X.stack) (hBh : B.handled = none) (ok : BlkOk X.N X.env.scope scope own) (hN : X.N.Nodup) (hcell : ∀ y ∈ scope.names, y.2 ≠ .cell) (hfp : ∀ b ∈ fp, FpOk X pins H b ∧ b < s.heap.objs.size)
    (hns : h5.Ns s.heap.objs.size (fun y => if y = ".0" then some itv else none)) (kp : ∀ b o, s.heap.get? b = some o → h5.get? b = some o)
    (ha : s.heap.objs.size < a) (hgo : h5.get? a = some go) (hgc : ∀ v, go.data ≠ .cell v) (hg5 : AllBare g5) :
    Inv (gxc X B s H scope (genEnv scope (cloFrom X.env.cells scope.names []) s.heap.objs.size code builtinsNs X.env) fp [(a, go)]) [] (wipe σ (own.map (·.2))) H { s with heap := h5, gens := g5, toks := t5, drawn := d5 } := by
  have hfree : ∀ y ∈ scope.names, y.2 = .free → ∃ c, X.env.cells.lookup y.1 = some c := fun y hy e => by
    rcases ok.free y hy e with k | k
    · exact I.ok.has _ (.inl k)
    · exact I.ok.has _ (.inr k)
  generalize hcenv : genEnv scope (cloFrom X.env.cells scope.names []) s.heap.objs.size code builtinsNs X.env = cenv
  have hL : cenv.locals = s.heap.objs.size := by rw [← hcenv]; rfl
  have hcl : cenv.cells = cloFrom X.env.cells scope.names [] := by rw [← hcenv]; rfl
  have hsc : cenv.scope = scope := by rw [← hcenv]; rfl
  have mem : ∀ {y c}, cenv.cells.lookup y = some c → X.env.cells.lookup y = some c ∧ c < s.heap.objs.size := fun {y c} e => by
    rw [hcl] at e
    obtain ⟨h1, rfl⟩ := lookup_clo e
    obtain ⟨c, hc⟩ := hfree _ h1 rfl
    rw [hc]
    obtain ⟨w, z⟩ := I.cell _ _ hc
    exact ⟨rfl, z.lt⟩
  have look : ∀ {y}, scope.names.lookup y = some .free → ∃ c, cenv.cells.lookup y = some c ∧ X.env.cells.lookup y = some c := fun {y} hl => by
    have hy : (y, NameKind.free) ∈ scope.names := PySem.mem_of_lookup hl
    obtain ⟨c', e'⟩ := mem_lookup (cloFrom_has (cells := X.env.cells) (acc := []) hy)
    rw [← hcl] at e'
    exact ⟨c', e', (mem e').1⟩
  have okB : (gxc X B s H scope cenv fp [(a, go)]).Ok := by
    refine ⟨I.ok.mod, by show cenv.scope.kind = _; rw [hsc]; exact ok.kind, by show cenv.globals = _; rw [← hcenv]; exact I.ok.glob, by show cenv.builtins = _; rw [← hcenv]; rfl, by show s.heap.objs.size ≤ cenv.locals; rw [hL]; exact Nat.le_refl _,
      fun y z c e1 e2 => I.ok.inj y z c (mem e1).1 (mem e2).1, fun y hy => ?_, fun y c z e => ?_, fun _ => hBh, Around.frames_deeper hB, .inr ⟨rfl, ?_⟩, fun b hb => ⟨?_, fun y c e z => ?_⟩, I.bs, Nat.le_trans I.ok.bsz I.sz, fun b o e hb => ?_, fun b hb z => ?_, I.stack, I.stkFree⟩
    · have hy : cenv.scope.names.lookup y = some .cell ∨ cenv.scope.names.lookup y = some .free := hy
      rw [hsc] at hy
      rcases hy with hy | hy
      · exact absurd rfl (hcell _ (PySem.mem_of_lookup hy))
      · obtain ⟨c, h1, _⟩ := look hy
        exact ⟨c, h1⟩
    · have z : (scope.names.lookup y == some NameKind.cell) = true := z
      have z : scope.names.lookup y = some .cell := by simpa using z
      exact absurd rfl (hcell _ (PySem.mem_of_lookup z))
    · show cenv.frame = some cenv.locals
      rw [← hcenv]
      rfl
    · show b ≠ cenv.locals
      rw [hL]
      exact Nat.ne_of_lt (hfp b hb).2
    · exact (hfp b hb).1.2.2.2.2.1 y c (mem e).1 z
    · rcases (hfp b hb).1.2.2.2.1 with z | z
      · exact I.ok.noex b o e z
      · exact absurd (Nat.lt_of_lt_of_le (Heap.lt_size e) (Nat.le_trans I.ok.bsz z)) (Nat.lt_irrefl _)
    · rcases List.mem_cons.mp (I.stkSub b z) with z | z
      · exact (hfp b hb).1.2.1 z
      · exact (hfp b hb).1.2.2.1 z
  refine ⟨okB, rfl, hg5, Un.kept kp, ⟨fun y => if y = ".0" then some itv else none, ?_, fun i y av e1 e2 e3 => ?_⟩, fun y c e => ?_, ?_, fun y c e => ?_, fun p hp => ?_, I.hok.kept kp, by rw [wipe_length]; exact I.len⟩
  · show Heap.Ns _ cenv.locals _
    rw [hL]
    exact hns
  · obtain ⟨e2, hne⟩ := wipe_some e2
    have hfr : scope.names.lookup y = some .free := by
      have e3 : Vis cenv.scope y := e3
      rw [hsc] at e3
      have no : ∀ k, scope.names.lookup y = some k → ¬ (k = .local ∨ k = .cell) := fun k e hh => by
        rcases ok.own _ (PySem.mem_of_lookup e) hh with e' | e'
        · obtain ⟨p, hp, hpy⟩ := List.mem_map.mp e'
          have e3 := ok.ix p hp
          have : p.1 = y := hpy
          rw [this] at e3
          exact hne (List.mem_map.mpr ⟨p, hp, nodup_ix hN e3 e1⟩)
        · exact e' (List.mem_of_getElem? e1)
      rcases e3 with e3 | e3 | e3
      · exact absurd (.inl rfl) (no _ e3)
      · exact absurd (.inr rfl) (no _ e3)
      · exact e3
    obtain ⟨m, hn, hl⟩ := I.loc
    have hvis : Vis X.env.scope y := (ok.free _ (PySem.mem_of_lookup hfr) rfl).elim (fun k => .inr (.inl k)) (fun k => .inr (.inr k))
    obtain ⟨w, r, q⟩ := hl i y av e1 e2 hvis
    refine ⟨w, r, .inr ⟨.inr (by show cenv.scope.names.lookup y = _; rw [hsc]; exact hfr), ?_⟩⟩
    obtain ⟨c, h1, h2⟩ := look hfr
    rcases q with ⟨k, _⟩ | ⟨_, c', e', z⟩
    · have k : X.env.scope.names.lookup y = some .local := k
      rcases ok.free _ (PySem.mem_of_lookup hfr) rfl with k' | k' <;> rw [show X.env.scope.names.lookup y = _ from k'] at k <;> cases k
    · rw [h2] at e'
      cases e'
      exact ⟨c, h1, z.keeps kp⟩
  · obtain ⟨w, z⟩ := I.cell y c (mem e).1
    exact ⟨w, z.keeps kp⟩
  · show H cenv.locals = none
    rw [hL]
    exact I.hok.fresh (Nat.le_refl _)
  · exact I.freeC y c (mem e).1
  · have hp : p ∈ [(a, go)] ++ [] := hp
    rw [List.append_nil, List.mem_singleton] at hp
    subst hp
    refine ⟨hgo, I.hok.fresh (Nat.le_of_lt ha), ?_, ?_, hgc⟩
    · show a ≠ cenv.locals
      rw [hL]
      exact Nat.ne_of_gt ha
    · show a ∉ frs X.stack
      intro z
      rcases List.mem_cons.mp (I.stkSub a z) with z | z
      · have h1 := I.lt
        rw [← z] at h1
        exact Nat.lt_irrefl _ (Nat.lt_trans h1 ha)
      · exact I.nofs (Nat.le_of_lt ha) z
end
end Ct
namespace Ct
open PySem PySem.Spec PyProof.Rows L2 GenW
section
variable {X : Cx}
/-- what is known where the whole is done: b the answer -/
def GFin (P : Program) (w : World) (fr fp : List Addr) (H4 : Hp) (h4 : Heap) (Q : VK) (b : Bool) (h : Heap) : Prop := ∃ H', Un fr fp H4 H' h4 h ∧ HOk P w H' h ∧ Q (.bl b) H'
def GDone (P : Program) (w : World) (fr fp : List Addr) (H4 : Hp) (s4 : Shared) (Q : VK) (st : Bool) : Nat → Shared → Shared → Prop := fun _ _ s1 => s1.os = s4.os ∧ AllBare s1.gens ∧ GFin P w fr fp H4 s4.heap Q (!st) s1.heap
/-- the generator hands out a truth: the one that ends the walk, or another one, and goes on -/
def GYld (P : Program) (w : World) (fr fp : List Addr) (H4 : Hp) (s4 : Shared) (Q : VK) (st : Bool) (a : Addr) (g : Nat) : Protocol := fun _ _ v s1 kap =>
  ∃ b, v = .bool b ∧ s1.os = s4.os ∧ AllBare s1.gens ∧ s1.heap.NoLimit ∧ s1.heap.IsGen a g ∧ (if b = st then GFin P w fr fp H4 s4.heap Q st s1.heap else ∀ s' : Shared, s'.heap = s1.heap → s'.os = s1.os → AllBare s'.gens → kap (.send .none) s')
/-- all(..) with st = false, any(..) with st = true -/
def tGen (P : Addr) (st : Bool) (wi : TI) (g : TG) (te : TE) (vs : List Nat) : TE := fun σ H Q => wi σ H fun J H1 => H1 P = some (TabX P) ∧ ∃ W : Nat → Nat → Hp → Prop, (∃ m, W 0 m H1) ∧ ∀ i m H, W i m H →
  (J.stop i H ∧ Q (.bl (!st)) H) ∨ (J.go i H ∧ ∃ Nx : Hp → Prop, (∀ H', Nx H' → ∃ m', m' < m ∧ W (i + 1) m' H') ∧ ∀ x H', J.yld i H x H' → g x (wipe σ vs) H' fun σ2 H2 => wipe σ2 vs = wipe σ vs ∧ te σ2 H2 fun y H3 => ∃ b, y = .bl b ∧ if b = st then Q (.bl st) H3 else Nx H3)

theorem seg_gx {B : Around} {scope : Scope} {own : List (Str × Nat)} {fp : List Addr} {s4 : Shared} {H4 : Hp} {cenv : Env} {a : Addr} {go : Obj} {gn : Nat} {elt tg iter : Expr} {pos : Pos} {it : Addr} {tn : Nat → Heap → Prop} {J : It} {g : TG} {te : TE} {σ : L2.St} {Q : VK} {st : Bool} {W : Nat → Nat → Hp → Prop}
    (hc : X.calm = true) (hco : cenv.scope.isCoroutine = false) (hgn : ∀ h : Heap, h.get? a = some go → h.IsGen a gn)
    (T : Turn X.prog X.w X.K tg J fp it tn) (pg : PG (gxc X B s4 H4 scope cenv fp [(a, go)]) tg g) (pe : PE (gxc X B s4 H4 scope cenv fp [(a, go)]) elt te) (hfa : ∀ b ∈ fp, b ≠ a)
    (turn : ∀ i m H, W i m H → (J.stop i H ∧ Q (.bl (!st)) H) ∨ (J.go i H ∧ ∃ Nx : Hp → Prop, (∀ H', Nx H' → ∃ m', m' < m ∧ W (i + 1) m' H') ∧ ∀ x H', J.yld i H x H' → g x (wipe σ (own.map (·.2))) H' fun σ2 H2 => wipe σ2 (own.map (·.2)) = wipe σ (own.map (·.2)) ∧ te σ2 H2 fun y H3 => ∃ b, y = .bl b ∧ if b = st then Q (.bl st) H3 else Nx H3)) :
    ∀ (m n : Nat), m < n → ∀ (i : Nat) (s₀ s : Shared) (H : Hp), W i m H → Inv (gxc X B s4 H4 scope cenv fp [(a, go)]) [] (wipe σ (own.map (·.2))) H s → tn i s.heap → (∀ b ∈ fp, H b = none) →
      Seg (model X.prog X.w) B (fun n s₀ r s₁ => r = .ok .next ∧ GDone X.prog X.w (frs X.stack) fp H4 s4 Q st n s₀ s₁) (GYld X.prog X.w (frs X.stack) fp H4 s4 Q st a gn) n s₀
        (.compLoop (.GeneratorExp elt [⟨tg, iter, [], 0⟩] scope pos) 0 (.ref it) .none cenv)
        ((model X.prog X.w).den (.compLoop (.GeneratorExp elt [⟨tg, iter, [], 0⟩] scope pos) 0 (.ref it) .none cenv)) [] s := by
  intro m
  induction m using Nat.strongRecOn with
  | ind m ih =>
    intro n hmn i s₀ s H w I st5 n5
    have stat : ∀ {σ' : L2.St} {H' : Hp} {s' : Shared}, Inv (gxc X B s4 H4 scope cenv fp [(a, go)]) [] σ' H' s' → (∀ b ∈ fp, H' b = none) → ∀ b ∈ fp, FpOk (gxc X B s4 H4 scope cenv fp [(a, go)]) [] H' b := fun {σ' H' s'} I' hn b hb =>
      ⟨hn b hb, (I'.ok.exf b hb).1, I'.ok.exfs b hb, .inl hb, fun x c e => (I'.ok.exf b hb).2 x c e, fun p hp => by
        have hp : p ∈ [(a, go)] ++ [] := hp
        rw [List.append_nil, List.mem_singleton] at hp
        subst hp
        exact fun z => hfa b hb z.symm⟩
    have pinned : ∀ {pins' : List (Addr × Obj)} {σ' : L2.St} {H' : Hp} {s' : Shared}, Inv (gxc X B s4 H4 scope cenv fp [(a, go)]) pins' σ' H' s' → s'.heap.IsGen a gn := fun {pins' σ' H' s'} I' =>
      hgn _ (I'.pin (a, go) (List.mem_append_left _ (List.mem_singleton.mpr rfl))).1
    show Seg _ B _ _ _ s₀ _ ((compTurn (.GeneratorExp elt [⟨tg, iter, [], 0⟩] scope pos) 0 (.ref it) .none cenv).onRaise (leaving cenv)) [] s
    rw [compTurn_gen, Sem.onRaise_eq_wrap]
    refine seg_bind_wrap (wpAny_standAt ?_)
    rcases turn i m H w with ⟨stop, qq⟩ | ⟨goes, Nx, hNx, step⟩
    · refine seg_bind_wrap ?_
      rw [over_gen]
      refine wpAny_mono (T.done (gxc X B s4 H4 scope cenv fp [(a, go)]) rfl rfl rfl hc i [] s _ H (fun _ _ => False) I (stat I n5) st5 stop) (fun r s6 hr => ?_) (fun _ _ z => z.elim)
      obtain ⟨rfl, I6⟩ := hr
      exact seg_end (.ok .next) ⟨rfl, I6.os, I6.bare, H, I6.base, I6.hok, qq⟩
    · refine seg_bind_wrap ?_
      rw [over_gen]
      refine wpAny_mono (T.item (gxc X B s4 H4 scope cenv fp [(a, go)]) rfl rfl rfl hc i [] s _ H (fun _ _ => False) I (stat I n5) st5 goes) (fun r s6 hr => ?_) (fun _ _ z => z.elim)
      obtain ⟨u, rfl, h6⟩ := hr
      refine seg_bind_wrap ?_
      rw [over_gen]
      refine wpAny_mono h6 (fun _ s7 h7 => ?_) (fun _ _ z => z.elim)
      obtain ⟨x, H7, I7, r7, y7, st7, n7⟩ := h7
      have I7' := I7.pinned (stat I7 n7) (T.obj _ _ st7)
      refine seg_bind_wrap ?_
      rw [over_gen]
      refine wpAny_mono (pg.run _ s7 _ H7 x u _ I7' r7 (step x H7 y7)) (fun _ s8 h8 => ?_) (fun _ _ z => z.elim)
      obtain ⟨σ8, H8, I8, hw8, q8⟩ := h8
      refine seg_bind_wrap (wpAny_tests_nil ?_)
      simp only [if_true]
      have hy : ∀ v, yieldOut cenv v = yieldValue v := fun v => by simp only [yieldOut, hco, Bool.false_eq_true, if_false]
      simp only [hy]
      rw [Sem.bind_eq_wrap', Sem.bind_eq_wrap', Sem.wrap_wrap, Sem.wrap_wrap]
      refine seg_wrap ?_
      rw [over_gen]
      refine wpAny_mono (pe.run _ s8 σ8 H8 _ I8 q8) (fun z s9 h9 => ?_) (fun _ _ z => z.elim)
      obtain ⟨y, H9, I9, r9, b, rfl, q9⟩ := h9
      have r9 : z = Value.bool b := r9
      subst r9
      have hlim : s9.heap.NoLimit := I9.nolimit
      by_cases hb : b = st
      · obtain ⟨k, rfl⟩ : ∃ k, n = k + 1 := ⟨n - 1, by omega⟩
        rw [if_pos hb] at q9
        refine seg_at (seg_yield rfl rfl rfl ⟨b, rfl, I9.os, I9.bare, hlim, pinned I9, ?_⟩)
        rw [if_pos hb]
        exact ⟨H9, I9.base, I9.hok, q9⟩
      · rw [if_neg hb] at q9
        obtain ⟨m', hm, w'⟩ := hNx H9 q9
        obtain ⟨k, rfl⟩ : ∃ k, n = k + 1 := ⟨n - 1, by omega⟩
        refine seg_at (seg_yield rfl rfl rfl ⟨b, rfl, I9.os, I9.bare, hlim, pinned I9, ?_⟩)
        rw [if_neg hb]
        intro s' e1 e2 e3
        have pin' : ∀ b ∈ fp, ∀ o, s7.heap.get? b = some o → s9.heap.get? b = some o ∧ H9 b = none := fun b hb o e =>
          let z := I9.pin (b, o) (List.mem_append_right _ (List.mem_append_right _ (mem_pinsAt hb e)))
          ⟨z.1, z.2.1⟩
        have hl : (wipe σ (own.map (·.2))).length = σ8.length := by rw [← hw8, wipe_length]
        have I10 : Inv (gxc X B s4 H4 scope cenv fp [(a, go)]) [] (wipe σ (own.map (·.2))) H9 s9 := (I9.unpinned (pins := [])).weak hl (fun j v e => by
          rw [← hw8] at e
          exact (wipe_some e).1)
        have I11 : Inv (gxc X B s4 H4 scope cenv fp [(a, go)]) [] (wipe σ (own.map (·.2))) H9 s' := by
          refine I10.call' (ch := []) e2 (Un.kept fun b o e => by rw [e1]; exact e) (by rw [e1]; exact I10.hok) e3 fun b z => by simp at z
        refine seg_again rfl (ih m' hm k (by omega) (i + 1) s' s' H9 w' I11 ?_ fun b hb => ?_)
        · rw [e1]
          exact T.keep _ _ _ st7 fun b hb o e => (pin' b hb o e).1
        · obtain ⟨o, e, _⟩ := T.obj _ _ st7 b hb
          exact (pin' b hb o e).2
end
end Ct
namespace Ct
open PySem PySem.Spec PyProof.Rows L2 GenW
section
variable {P : Program} {w : World} {A : Around} {fr fp : List Addr} {H4 : Hp} {s4 : Shared} {Q : VK} {a : Addr} {g : Nat} {R : Result → Shared → Prop}
theorem all_gx (hh : A.handled = none) (hd : A.depth < recursionLimit) (hend : ∀ b (s' : Shared), s'.os = s4.os → AllBare s'.gens → GFin P w fr fp H4 s4.heap Q b s'.heap → R (.ok (.ret (.bool b))) s') :
    ∀ (m : Nat) (s : Shared), s.heap.IsGen a g → s.heap.NoLimit →
      (∃ gs, s.gens[g]? = some gs ∧ gs.Goes (model P w) A.in1.in1 (fun n s₀ r s₁ => r = .ok .next ∧ GDone P w fr fp H4 s4 Q false n s₀ s₁) (GYld P w fr fp H4 s4 Q false a g) m (.send .none) (s.setGen g .running)) →
      codeAny (model P w) A (.builtin "all.loop" ⟨[.ref a], []⟩) R s := by
  intro m
  induction m with
  | zero =>
    intro s hg hl ⟨gs, hgs, hgo⟩
    refine codeAny_builtin F.entry_all_loop ?_
    rw [Around.under_plainId F.plain_all_loop _]
    show wpAny _ A.in1 (pyNext (.ref a) >>= _) _ _ s
    refine wpAny_bind (wpAny_pyNext_genexpQ (A := A.in1) hh hl hd hg hgs hgo (fun v s₁ gs' hbare hv => ?_) (fun s₁ hp h' hk => ?_))
    · obtain ⟨b, rfl, os1, hb1, hl1, hg1, q⟩ := hv
      refine wpAny_bind (wpAny_holding (wpAny_truthy_bool ?_))
      refine wpAny_bind (wpAny_letGo ?_)
      by_cases hb : b = false
      · rw [if_pos hb] at q
        subst hb
        simp only [Bool.false_eq_true, if_false]
        refine wpAny_bind (wpAny_rule (wpAny_pure ?_))
        exact hend false _ os1 (allBare_setGen hb1 hbare) q
      · rw [if_neg hb] at q
        exact False.elim (q s₁ rfl rfl hb1)
    · obtain ⟨os1, hb1, H', un, hok, hQ⟩ := hp
      refine wpAny_bind (wpAny_rule (wpAny_pure ?_))
      exact hend true _ os1 (allBare_setGen hb1 rfl) ⟨H', un.trans (Un.kept hk), hok.kept hk, hQ⟩
  | succ m ih =>
    intro s hg hl ⟨gs, hgs, hgo⟩
    have hgl : g < s.gens.size := (Array.getElem?_eq_some_iff.mp hgs).1
    refine codeAny_builtin F.entry_all_loop ?_
    rw [Around.under_plainId F.plain_all_loop _]
    show wpAny _ A.in1 (pyNext (.ref a) >>= _) _ _ s
    refine wpAny_bind (wpAny_gsz (n := g + 1) hgl (wpAny_pyNext_genexpQ (A := A.in1) hh hl hd hg hgs hgo (fun v s₁ gs' hbare hv => ?_) (fun s₁ hp h' hk => ?_)))
    · intro hsz
      obtain ⟨b, rfl, os1, hb1, hl1, hg1, q⟩ := hv
      refine wpAny_bind (wpAny_holding (wpAny_truthy_bool ?_))
      refine wpAny_bind (wpAny_letGo ?_)
      have hsz1 : g < s₁.gens.size := by
        have q : (s₁.setGen g gs').gens.size = s₁.gens.size := setGen_size _ _ _
        have hsz' : g + 1 ≤ (s₁.setGen g gs').gens.size := hsz
        omega
      by_cases hb : b = false
      · rw [if_pos hb] at q
        subst hb
        simp only [Bool.false_eq_true, if_false]
        refine wpAny_bind (wpAny_rule (wpAny_pure ?_))
        exact hend false _ os1 (allBare_setGen hb1 hbare) q
      · rw [if_neg hb] at q
        have hb2 : b = true := by
          cases b with
          | true => rfl
          | false => exact absurd rfl hb
        subst hb2
        simp only [if_true]
        refine wpAny_pure ⟨plainId_quiet F.plain_all_loop _, ?_⟩
        exact ih (s₁.setGen g gs') hg1 hl1 ⟨gs', setGen_at hsz1, q _ rfl rfl (allBare_setGen (allBare_setGen hb1 hbare) rfl)⟩
    · intro _
      obtain ⟨os1, hb1, H', un, hok, hQ⟩ := hp
      refine wpAny_bind (wpAny_rule (wpAny_pure ?_))
      exact hend true _ os1 (allBare_setGen hb1 rfl) ⟨H', un.trans (Un.kept hk), hok.kept hk, hQ⟩
theorem any_gx (hh : A.handled = none) (hd : A.depth < recursionLimit) (hend : ∀ b (s' : Shared), s'.os = s4.os → AllBare s'.gens → GFin P w fr fp H4 s4.heap Q b s'.heap → R (.ok (.ret (.bool b))) s') :
    ∀ (m : Nat) (s : Shared), s.heap.IsGen a g → s.heap.NoLimit →
      (∃ gs, s.gens[g]? = some gs ∧ gs.Goes (model P w) A.in1.in1 (fun n s₀ r s₁ => r = .ok .next ∧ GDone P w fr fp H4 s4 Q true n s₀ s₁) (GYld P w fr fp H4 s4 Q true a g) m (.send .none) (s.setGen g .running)) →
      codeAny (model P w) A (.builtin "any.loop" ⟨[.ref a], []⟩) R s := by
  intro m
  induction m with
  | zero =>
    intro s hg hl ⟨gs, hgs, hgo⟩
    refine codeAny_builtin F.entry_any_loop ?_
    rw [Around.under_plainId F.plain_any_loop _]
    show wpAny _ A.in1 (pyNext (.ref a) >>= _) _ _ s
    refine wpAny_bind (wpAny_pyNext_genexpQ (A := A.in1) hh hl hd hg hgs hgo (fun v s₁ gs' hbare hv => ?_) (fun s₁ hp h' hk => ?_))
    · obtain ⟨b, rfl, os1, hb1, hl1, hg1, q⟩ := hv
      refine wpAny_bind (wpAny_holding (wpAny_truthy_bool ?_))
      refine wpAny_bind (wpAny_letGo ?_)
      by_cases hb : b = true
      · rw [if_pos hb] at q
        subst hb
        simp only [if_true]
        refine wpAny_bind (wpAny_rule (wpAny_pure ?_))
        exact hend true _ os1 (allBare_setGen hb1 hbare) q
      · rw [if_neg hb] at q
        exact False.elim (q s₁ rfl rfl hb1)
    · obtain ⟨os1, hb1, H', un, hok, hQ⟩ := hp
      refine wpAny_bind (wpAny_rule (wpAny_pure ?_))
      exact hend false _ os1 (allBare_setGen hb1 rfl) ⟨H', un.trans (Un.kept hk), hok.kept hk, hQ⟩
  | succ m ih =>
    intro s hg hl ⟨gs, hgs, hgo⟩
    have hgl : g < s.gens.size := (Array.getElem?_eq_some_iff.mp hgs).1
    refine codeAny_builtin F.entry_any_loop ?_
    rw [Around.under_plainId F.plain_any_loop _]
    show wpAny _ A.in1 (pyNext (.ref a) >>= _) _ _ s
    refine wpAny_bind (wpAny_gsz (n := g + 1) hgl (wpAny_pyNext_genexpQ (A := A.in1) hh hl hd hg hgs hgo (fun v s₁ gs' hbare hv => ?_) (fun s₁ hp h' hk => ?_)))
    · intro hsz
      obtain ⟨b, rfl, os1, hb1, hl1, hg1, q⟩ := hv
      refine wpAny_bind (wpAny_holding (wpAny_truthy_bool ?_))
      refine wpAny_bind (wpAny_letGo ?_)
      have hsz1 : g < s₁.gens.size := by
        have q : (s₁.setGen g gs').gens.size = s₁.gens.size := setGen_size _ _ _
        have hsz' : g + 1 ≤ (s₁.setGen g gs').gens.size := hsz
        omega
      by_cases hb : b = true
      · rw [if_pos hb] at q
        subst hb
        simp only [if_true]
        refine wpAny_bind (wpAny_rule (wpAny_pure ?_))
        exact hend true _ os1 (allBare_setGen hb1 hbare) q
      · rw [if_neg hb] at q
        have hb2 : b = false := by
          cases b with
          | false => rfl
          | true => exact absurd rfl hb
        subst hb2
        simp only [Bool.false_eq_true, if_false]
        refine wpAny_pure ⟨plainId_quiet F.plain_any_loop _, ?_⟩
        exact ih (s₁.setGen g gs') hg1 hl1 ⟨gs', setGen_at hsz1, q _ rfl rfl (allBare_setGen (allBare_setGen hb1 hbare) rfl)⟩
    · intro _
      obtain ⟨os1, hb1, H', un, hok, hQ⟩ := hp
      refine wpAny_bind (wpAny_rule (wpAny_pure ?_))
      exact hend false _ os1 (allBare_setGen hb1 rfl) ⟨H', un.trans (Un.kept hk), hok.kept hk, hQ⟩
end
end Ct
namespace Ct
open PySem PySem.Spec PyProof.Rows L2 GenW
section
variable {X : Cx}
theorem gen_eval {pins : List (Addr × Obj)} {σ : L2.St} {H : Hp} {s : Shared} {Q : VK} {c P : Addr} {elt tg iter : Expr} {scope : Scope} {own : List (Str × Nat)} {pos : Pos} {wi : TI} {g : TG} {te : TE} {st : Bool} {k : Nat} {Q' : Value → Shared → Prop}
    (hr : Room (k + 1) X.A) (hc : X.calm = true) (hN : X.N.Nodup) (TB : GxR.TabB X.base X.mg c P) (hcode : X.env.code = .ref c) (hi : PI X tg iter wi) (ok : BlkOk X.N X.env.scope scope own) (hcell : ∀ y ∈ scope.names, y.2 ≠ .cell) (hco : scope.isCoroutine = false) (hdot : scope.names.lookup (".0" : Str) = some NameKind.local)
    (hg : ∀ (s : Shared) (H : Hp) (C : Addr) (cl : List (Str × Addr)) (cd : Value) (fp : List Addr) (pn : List (Addr × Obj)) (B : Around), PG (gxc X B s H scope (genEnv scope cl C cd builtinsNs X.env) fp pn) tg g)
    (he : ∀ (s : Shared) (H : Hp) (C : Addr) (cl : List (Str × Addr)) (cd : Value) (fp : List Addr) (pn : List (Addr × Obj)) (B : Around), Room k (B.deeper (genEnv scope cl C cd builtinsNs X.env)) → PE (gxc X B s H scope (genEnv scope cl C cd builtinsNs X.env) fp pn) elt te)
    (hs : ∀ x, genFold iter X.env x = pure x) (I : Inv X pins σ H s) (h : tGen P st wi g te (own.map (·.2)) σ H Q)
    (hQ : ∀ (a : Addr) (gn : Nat) (s4 s5 : Shared) (H4 : Hp) (fp : List Addr) (m : Nat) (gs : GenState), Inv X pins σ H4 s4 → (∀ b ∈ fp, FpOk X pins H4 b) → s5.heap.IsGen a gn → s5.heap.NoLimit → s5.gens[gn]? = some gs →
      gs.Goes (model X.prog X.w) X.A.in1.in1 (fun n s₀ r s₁ => r = .ok .next ∧ GDone X.prog X.w (frs X.stack) fp H4 s4 Q st n s₀ s₁) (GYld X.prog X.w (frs X.stack) fp H4 s4 Q st a gn) m (.send .none) (s5.setGen gn .running) → Q' (.ref a) s5) :
    wpAny (model X.prog X.w) X.A (eval (.GeneratorExp elt [⟨tg, iter, [], 0⟩] scope pos) X.env) Q' X.xe s := by
  have hfree : ∀ y ∈ scope.names, y.2 = .free → ∃ c, X.env.cells.lookup y.1 = some c := fun y hy e => by
    rcases ok.free y hy e with k | k
    · exact I.ok.has _ (.inl k)
    · exact I.ok.has _ (.inr k)
  refine wpAny_GeneratorExp_make hco (closure_ok hfree) hcell hdot ok.kind hr.depth (thn (hi.run pins s σ H _ I h) fun xv s1 hx => thn hx fun itv s2 h2 => ?_) hs
  obtain ⟨it, fp, tn, J, H2, rfl, I2, T, st2, f2, hTab, W, ⟨m0, w0⟩, turn⟩ := h2
  obtain ⟨⟨ps, hP2, ht⟩, _, _⟩ := I2.hok P _ hTab
  have hPlt : P < s2.heap.objs.size := Heap.lt_size hP2
  have cd : PySem.W.CodeHd s2.heap c P := TB.code.keeps I2.bk
  have nP : ∀ b, H2 b = none → b ≠ P := fun b e z => by
    rw [z, hTab] at e
    cases e
  have cont : ∀ (code : Value) (h3 : Heap) (tk : Nat) (ps' : Array Value), Heap.ExtBut P s2.heap h3 → s2.heap.objs.size ≤ h3.objs.size → h3.get? P = some { cls := .none, data := .fields ps' } → TriplesOk ps'.toList →
      wpAny (model X.prog X.w) X.A (builtinsFor X.env.globals X.env.builtins) (fun bi s₄ =>
        ∀ h', h'.Ns s₄.heap.objs.size (fun y => if y = ".0" then some (Value.ref it) else none) → Heap.SameBut s₄.heap.objs.size (s₄.heap.push { cls := .type "frame", data := .dict #[] }) h' →
          Q' (.ref h'.objs.size) { s₄ with
            gens := s₄.gens.push (.fresh (.compStart (.GeneratorExp elt [⟨tg, iter, [], 0⟩] scope pos) 0 (.ref it) .none (genEnv scope (cloFrom X.env.cells scope.names []) s₄.heap.objs.size code bi X.env))),
            toks := s₄.toks + 1 + 1 + 1,
            heap := h'.push { cls := .type "generator", data := .fields #[.int s₄.gens.size 0, .str "<genexpr>" (s₄.toks + 1), .str (X.env.qual ++ "<genexpr>") (s₄.toks + 1 + 1)] } }) X.xe { s2 with heap := h3, toks := tk } := by
    intro code h3 tk ps' hx hsz hP3 ht3
    obtain ⟨bm, ob, e1, e2, e3, e4, e5, e6, e7, e8⟩ := TB.bm
    have keep3 : ∀ b u, b ≠ P → s2.heap.get? b = some u → h3.get? b = some u := fun b u hb e => hx b u hb e
    refine wpAny_builtinsFor (m := X.mg) (by rw [I2.ok.glob]; exact (I2.mod.glob.keeps I2.bk).extBut hx TB.gP) e1 e2 (keep3 _ _ e4 (I2.bk _ _ e5)) e6 e7 e8 ?_
    intro h' hn' hs'
    have I4 : Inv X pins σ H2 { s2 with heap := h3, toks := tk } := inv_tabX (g' := s2.gens) (d' := s2.drawn) (t' := tk) I2 hTab keep3 hP3 ht3 I2.bare
    generalize hs4 : ({ s2 with heap := h3, toks := tk } : Shared) = s4 at *
    have h4 : s4.heap = h3 := by rw [← hs4]
    have keep' : ∀ b o, s4.heap.get? b = some o → h'.get? b = some o := fun b o e => hs'.extBut b o (Nat.ne_of_lt (Heap.lt_size e)) (Heap.get?_push_of_some _ e)
    have hsz' : h'.objs.size = s4.heap.objs.size + 1 := by rw [hs'.1, Heap.size_push]
    generalize hgo : ({ cls := .type "generator", data := .fields #[.int s4.gens.size 0, .str "<genexpr>" (s4.toks + 1), .str (X.env.qual ++ "<genexpr>") (s4.toks + 1 + 1)] } : Obj) = go
    have hgn : ∀ h : Heap, h.get? h'.objs.size = some go → h.IsGen h'.objs.size s4.gens.size := fun h e => ⟨go, _, _, e, by rw [← hgo], by rw [← hgo], by rw [← hgo]⟩
    have keep5 : ∀ b o, s4.heap.get? b = some o → (h'.push go).get? b = some o := fun b o e => Heap.get?_push_of_some _ (keep' b o e)
    have hgoat : (h'.push go).get? h'.objs.size = some go := Heap.get?_push_size _ (by rw [← hgo]; rfl)
    have f4 : ∀ b ∈ fp, FpOk X pins H2 b ∧ b < s4.heap.objs.size := fun b hb => by
      obtain ⟨o, e, _⟩ := T.obj _ _ st2 b hb
      refine ⟨f2 b hb, ?_⟩
      rw [h4]
      exact Heap.lt_size (keep3 b o (nP b (f2 b hb).1) e)
    have kfp : ∀ b ∈ fp, ∀ o, s2.heap.get? b = some o → (h'.push go).get? b = some o := fun b hb o e => keep5 b o (by rw [h4]; exact keep3 b o (nP b (f2 b hb).1) e)
    have lim5 : (h'.push go).NoLimit := I4.nolimit.keeps keep5
    refine hQ h'.objs.size s4.gens.size s4 _ H2 fp (m0 + 1) _ I4 f2 (hgn _ hgoat) lim5 (Array.getElem?_push_size ..) ?_
    have hns5 : (h'.push go).Ns s4.heap.objs.size (fun y => if y = ".0" then some (Value.ref it) else none) := hn'.push _
    have hfa : ∀ b ∈ fp, b ≠ h'.objs.size := fun b hb => by
      have := (f4 b hb).2
      intro z
      rw [z, hsz'] at this
      exact absurd (Nat.lt_trans (Nat.lt_succ_self _) this) (Nat.lt_irrefl _)
    have J5 : ∀ (g5 : Array GenState), AllBare g5 → Inv (gxc X X.A.in1.in1 s4 H2 scope (genEnv scope (cloFrom X.env.cells scope.names []) s4.heap.objs.size code builtinsNs X.env) fp [(h'.objs.size, go)]) [] (wipe σ (own.map (·.2))) H2 { s4 with heap := h'.push go, gens := g5, toks := s4.toks + 1 + 1 + 1, drawn := s4.drawn } := fun g5 b5 =>
      gx_start (B := X.A.in1.in1) I4 I4.ok.frames hr.hd ok hN hcell f4 hns5 keep5 (by rw [hsz']; exact Nat.lt_succ_self _) hgoat (fun v z => by rw [← hgo] at z; cases z) b5
    have room : Room k (X.A.in1.in1.deeper (genEnv scope (cloFrom X.env.cells scope.names []) s4.heap.objs.size code builtinsNs X.env)) :=
      ⟨hr.hd, by have := hr.dp; show X.A.depth + 1 + 3 * k + 5 < _; omega, by have := hr.un; show X.A.units + 1 + 1 + 3 + 16 * k + 200 < _; omega⟩
    have b5 : AllBare ((s4.gens.push (.fresh (.compStart (.GeneratorExp elt [⟨tg, iter, [], 0⟩] scope pos) 0 (.ref it) .none (genEnv scope (cloFrom X.env.cells scope.names []) s4.heap.objs.size code builtinsNs X.env)))).setIfInBounds s4.gens.size .running) :=
      allBare_setGen (s := { s4 with gens := s4.gens.push (.fresh (.compStart (.GeneratorExp elt [⟨tg, iter, [], 0⟩] scope pos) 0 (.ref it) .none (genEnv scope (cloFrom X.env.cells scope.names []) s4.heap.objs.size code builtinsNs X.env))) }) (g := s4.gens.size) (AllBare.push I4.bare rfl) rfl
    have loop := seg_gx (iter := iter) (pos := pos) (σ := σ) (own := own) (Q := Q) (st := st) hc hco hgn T (hg s4 H2 _ _ code fp [(h'.objs.size, go)] X.A.in1.in1) (he s4 H2 _ _ code fp [(h'.objs.size, go)] X.A.in1.in1 room) hfa turn m0 (m0 + 1) (Nat.lt_succ_self _) 0
      (Shared.setGen { s4 with heap := h'.push go, gens := s4.gens.push (.fresh (.compStart (.GeneratorExp elt [⟨tg, iter, [], 0⟩] scope pos) 0 (.ref it) .none (genEnv scope (cloFrom X.env.cells scope.names []) s4.heap.objs.size code builtinsNs X.env))), toks := s4.toks + 1 + 1 + 1 } s4.gens.size .running)
      (Shared.setGen { s4 with heap := h'.push go, gens := s4.gens.push (.fresh (.compStart (.GeneratorExp elt [⟨tg, iter, [], 0⟩] scope pos) 0 (.ref it) .none (genEnv scope (cloFrom X.env.cells scope.names []) s4.heap.objs.size code builtinsNs X.env))), toks := s4.toks + 1 + 1 + 1 } s4.gens.size .running)
      H2 w0 (J5 _ b5) (T.keep _ _ _ st2 kfp) (fun b hb => (f2 b hb).1)
    refine ⟨rfl, ?_⟩
    show Seg _ X.A.in1.in1 _ _ _ _ _ ((compStart (.GeneratorExp elt [⟨tg, iter, [], 0⟩] scope pos) 0 (.ref it) .none (genEnv scope (cloFrom X.env.cells scope.names []) s4.heap.objs.size code builtinsNs X.env)).onRaise (leaving (genEnv scope (cloFrom X.env.cells scope.names []) s4.heap.objs.size code builtinsNs X.env))) [] _
    unfold compStart
    rw [Sem.onRaise_eq_wrap]
    show Seg _ X.A.in1.in1 _ _ _ _ _ ((ask >>= _).wrap _ _ _ _) [] _
    refine seg_bind_wrap (wpAny_askSetting ?_)
    split
    · exact seg_again rfl loop
    · first
        | exact seg_bind_wrap (wpAny_rule (seg_bind_wrap (wpAny_standAt (seg_bind_wrap (T.self _ 0 _ _ _ (T.keep _ _ _ st2 kfp) (seg_again rfl loop))))))
        | (refine seg_bind_wrap (wpAny_rule ?_); show Seg _ _ _ _ _ _ _ ((standAt iter.pos >>= _).wrap _ _ _ _) [] _; exact seg_bind_wrap (wpAny_standAt (seg_bind_wrap (T.self _ 0 _ _ _ (T.keep _ _ _ st2 kfp) (seg_again rfl loop)))))
  refine ⟨I2.nolimit, ?_⟩
  cases hf : codeAmong pos ps.toList with
  | none =>
    refine wpAny_genexprCodeX hcode (cd.code hP2 ht) (cd.tab hP2) hf fun c' h' tk hx hge hlt hco' _ htab' _ => ?_
    obtain ⟨o1, vs, f1, tf, fl, tg, inF, tx, tt, op, _, _, _, _, _, _, _, _, _, htr, _⟩ := hco'
    exact cont _ h' tk _ hx (Nat.le_trans hge (Nat.le_of_lt hlt)) htab'.2 htr
  | some cv =>
    refine wpAny_genexprCode_hit hcode (cd.code hP2 ht) hf ?_
    exact cont cv s2.heap s2.toks ps (Heap.ExtBut.refl _ _) (Nat.le_refl _) hP2 ht
end
end Ct
namespace Ct
open PySem PySem.Spec PyProof.Rows L2 GenW
section
variable {X : Cx}
theorem gx_end {pins : List (Addr × Obj)} {σ : L2.St} {H4 : Hp} {s4 s' : Shared} {fp : List Addr} {Q : VK} {b : Bool} (I4 : Inv X pins σ H4 s4) (f4 : ∀ b ∈ fp, FpOk X pins H4 b) (os : s'.os = s4.os) (bare : AllBare s'.gens) (h : GFin X.prog X.w (frs X.stack) fp H4 s4.heap Q b s'.heap) : EP X pins σ Q (.bool b) s' := by
  obtain ⟨H', un, hok, q⟩ := h
  exact ⟨.bl b, H', I4.call' (ch := fp) os un hok bare fun b hb => ⟨(f4 b hb).2.2.2.1, (f4 b hb).2.1, (f4 b hb).2.2.2.2.1, (f4 b hb).2.2.2.2.2⟩, rfl, q⟩
/-- all(elt for tg in iter) -/
theorem pe_allX {c P : Addr} {elt tg iter : Expr} {scope : Scope} {own : List (Str × Nat)} {p pos gpos : Pos} {wi : TI} {g : TG} {te : TE} {k : Nat}
    (hr : Room (k + 1) X.A) (hgl : Gl X "all") (hm : X.mg "all" = none) (hc : X.calm = true) (hN : X.N.Nodup) (TB : GxR.TabB X.base X.mg c P) (hcode : X.env.code = .ref c) (hi : PI X tg iter wi) (ok : BlkOk X.N X.env.scope scope own) (hcell : ∀ y ∈ scope.names, y.2 ≠ .cell) (hco : scope.isCoroutine = false) (hdot : scope.names.lookup (".0" : Str) = some NameKind.local)
    (hg : ∀ (s : Shared) (H : Hp) (C : Addr) (cl : List (Str × Addr)) (cd : Value) (fp : List Addr) (pn : List (Addr × Obj)) (B : Around), PG (gxc X B s H scope (genEnv scope cl C cd builtinsNs X.env) fp pn) tg g)
    (he : ∀ (s : Shared) (H : Hp) (C : Addr) (cl : List (Str × Addr)) (cd : Value) (fp : List Addr) (pn : List (Addr × Obj)) (B : Around), Room k (B.deeper (genEnv scope cl C cd builtinsNs X.env)) → PE (gxc X B s H scope (genEnv scope cl C cd builtinsNs X.env) fp pn) elt te)
    (hs : ∀ x, genFold iter X.env x = pure x := by intro _; rfl) (hb : bootBuiltins "all" = some (.builtin "all") := by decide +kernel)
    (hst : starEach [.GeneratorExp elt [⟨tg, iter, [], 0⟩] scope gpos] X.env = (false, eval (.GeneratorExp elt [⟨tg, iter, [], 0⟩] scope gpos) X.env) :: starEach [] X.env := by rfl) :
    PE X (.Call (.Name "all" p) [.GeneratorExp elt [⟨tg, iter, [], 0⟩] scope gpos] [] pos) (tGen P false wi g te (own.map (·.2))) := by
  refine ⟨fun pins s σ H Q I h => ?_⟩
  refine wpAny_Call_Name_kw (ld_blt I hgl hm hb ?_)
  refine PyProof.Rows.callWith_builtin1 ?_ hst (by rfl)
  rw [hst]
  show wpAny _ _ (spliced ((false, eval (.GeneratorExp elt [⟨tg, iter, [], 0⟩] scope gpos) X.env) :: backTo pos (starEach [] X.env))) _ _ s
  refine Calls.spliced_cons (gen_eval hr hc hN TB hcode hi ok hcell hco hdot hg he hs I h fun a gn s4 s5 H4 fp m gs I4 f4 hgen hlim hgs hgo => ?_)
  refine Calls.spliced_nil ?_
  refine call_function_tree F.kind_all F.plain_all F.entry_all (F.args_all1 _) ?_
  unfold Builtin.«all»
  refine wpAny_bind (m := oneArg "all" _) (wpAny_pure ?_)
  refine wpAny_bind (wpAny_pyIter_gen hgen ?_)
  exact wpAny_pure ⟨plainId_quiet F.plain_all_loop _, all_gx hr.hd hr.depth (fun b s' os bare fin => gx_end I4 f4 os bare fin) m s5 hgen hlim ⟨gs, hgs, hgo⟩⟩
/-- any(elt for tg in iter) -/
theorem pe_anyX {c P : Addr} {elt tg iter : Expr} {scope : Scope} {own : List (Str × Nat)} {p pos gpos : Pos} {wi : TI} {g : TG} {te : TE} {k : Nat}
    (hr : Room (k + 1) X.A) (hgl : Gl X "any") (hm : X.mg "any" = none) (hc : X.calm = true) (hN : X.N.Nodup) (TB : GxR.TabB X.base X.mg c P) (hcode : X.env.code = .ref c) (hi : PI X tg iter wi) (ok : BlkOk X.N X.env.scope scope own) (hcell : ∀ y ∈ scope.names, y.2 ≠ .cell) (hco : scope.isCoroutine = false) (hdot : scope.names.lookup (".0" : Str) = some NameKind.local)
    (hg : ∀ (s : Shared) (H : Hp) (C : Addr) (cl : List (Str × Addr)) (cd : Value) (fp : List Addr) (pn : List (Addr × Obj)) (B : Around), PG (gxc X B s H scope (genEnv scope cl C cd builtinsNs X.env) fp pn) tg g)
    (he : ∀ (s : Shared) (H : Hp) (C : Addr) (cl : List (Str × Addr)) (cd : Value) (fp : List Addr) (pn : List (Addr × Obj)) (B : Around), Room k (B.deeper (genEnv scope cl C cd builtinsNs X.env)) → PE (gxc X B s H scope (genEnv scope cl C cd builtinsNs X.env) fp pn) elt te)
    (hs : ∀ x, genFold iter X.env x = pure x := by intro _; rfl) (hb : bootBuiltins "any" = some (.builtin "any") := by decide +kernel)
    (hst : starEach [.GeneratorExp elt [⟨tg, iter, [], 0⟩] scope gpos] X.env = (false, eval (.GeneratorExp elt [⟨tg, iter, [], 0⟩] scope gpos) X.env) :: starEach [] X.env := by rfl) :
    PE X (.Call (.Name "any" p) [.GeneratorExp elt [⟨tg, iter, [], 0⟩] scope gpos] [] pos) (tGen P true wi g te (own.map (·.2))) := by
  refine ⟨fun pins s σ H Q I h => ?_⟩
  refine wpAny_Call_Name_kw (ld_blt I hgl hm hb ?_)
  refine PyProof.Rows.callWith_builtin1 ?_ hst (by rfl)
  rw [hst]
  show wpAny _ _ (spliced ((false, eval (.GeneratorExp elt [⟨tg, iter, [], 0⟩] scope gpos) X.env) :: backTo pos (starEach [] X.env))) _ _ s
  refine Calls.spliced_cons (gen_eval hr hc hN TB hcode hi ok hcell hco hdot hg he hs I h fun a gn s4 s5 H4 fp m gs I4 f4 hgen hlim hgs hgo => ?_)
  refine Calls.spliced_nil ?_
  refine call_function_tree F.kind_any F.plain_any F.entry_any (F.args_any1 _) ?_
  unfold Builtin.«any»
  refine wpAny_bind (m := oneArg "any" _) (wpAny_pure ?_)
  refine wpAny_bind (wpAny_pyIter_gen hgen ?_)
  exact wpAny_pure ⟨plainId_quiet F.plain_any_loop _, any_gx hr.hd hr.depth (fun b s' os bare fin => gx_end I4 f4 os bare fin) m s5 hgen hlim ⟨gs, hgs, hgo⟩⟩
end
end Ct
namespace Ct
open PySem PySem.Spec PyProof.Rows L2
/-! walking it -/
def GB (P : Addr) (st : Bool) (J : It) (g : TG) (te : TE) (vs : List Nat) (σ : L2.St) (H : Hp) (Q : VK) : Prop := tGen P st (fun _ H R => R J H) g te vs σ H Q
theorem w_gen {P : Addr} {st : Bool} {wi : TI} {g : TG} {te : TE} {vs : List Nat} {σ : L2.St} {H : Hp} {Q : VK} (h : wi σ H fun J H1 => GB P st J g te vs σ H1 Q) : tGen P st wi g te vs σ H Q := h
theorem gb_it {P : Addr} {st : Bool} {J : It} {n : Nat} {G : Hp → Prop} {Y : Nat → Hp → V → Hp → Prop} (w : Walk J n G Y) {g : TG} {te : TE} {vs : List Nat} {σ : L2.St} {H : Hp} {Q : VK} (Pv : Nat → Hp → Prop) (hT : H P = some (TabX P)) (h0 : Pv 0 H) (hG : ∀ i H1, i ≤ n → Pv i H1 → G H1)
    (hs : ∀ i x H1 H2, i < n → Pv i H1 → Y i H1 x H2 → g x (wipe σ vs) H2 fun σ3 H3 => wipe σ3 vs = wipe σ vs ∧ te σ3 H3 fun y H4 => ∃ b, y = .bl b ∧ if b = st then Q (.bl st) H4 else Pv (i + 1) H4) (hd : ∀ H1, Pv n H1 → Q (.bl (!st)) H1) : GB P st J g te vs σ H Q := by
  refine ⟨hT, fun i m H1 => m = n - i ∧ i ≤ n ∧ Pv i H1, ⟨n, by simp, Nat.zero_le _, h0⟩, ?_⟩
  rintro i m H1 ⟨rfl, hi, p⟩
  have q := hG i H1 hi p
  by_cases hlt : i < n
  · exact .inr ⟨w.goes i H1 hlt q, Pv (i + 1), fun H' p' => ⟨n - (i + 1), by omega, rfl, hlt, p'⟩, fun x H' y => hs i x H1 H' hlt p (w.yields i H1 x H' hlt q y)⟩
  · have e : i = n := by omega
    subst e
    exact .inl ⟨w.stops H1 q, hd H1 p⟩
theorem gb_list {K : PySem.W.Frag} {P : Addr} {st : Bool} {a : Addr} (xs : List V) {g : TG} {te : TE} {vs : List Nat} {σ : L2.St} {H : Hp} {Q : VK} (Pv : Nat → Hp → Prop) (hT : H P = some (TabX P)) (h0 : Pv 0 H) (hl : ∀ i H1, i ≤ xs.length → Pv i H1 → SqL K H1 a xs)
    (hs : ∀ i x H1, xs[i]? = some x → Pv i H1 → g x (wipe σ vs) H1 fun σ3 H3 => wipe σ3 vs = wipe σ vs ∧ te σ3 H3 fun y H4 => ∃ b, y = .bl b ∧ if b = st then Q (.bl st) H4 else Pv (i + 1) H4) (hd : ∀ H1, Pv xs.length H1 → Q (.bl (!st)) H1) : GB P st (Itl K a) g te vs σ H Q :=
  gb_it (walk_list (xs := xs)) Pv hT h0 hl (fun i x H1 H2 _ p y => by
    obtain ⟨e, y⟩ := y
    subst e
    exact hs i x _ y p) hd
theorem gb_tup {K : PySem.W.Frag} {P : Addr} {st : Bool} {a : Addr} (xs : List V) {g : TG} {te : TE} {vs : List Nat} {σ : L2.St} {H : Hp} {Q : VK} (Pv : Nat → Hp → Prop) (hT : H P = some (TabX P)) (h0 : Pv 0 H) (hl : ∀ i H1, i ≤ xs.length → Pv i H1 → SqT K H1 a xs)
    (hs : ∀ i x H1, xs[i]? = some x → Pv i H1 → g x (wipe σ vs) H1 fun σ3 H3 => wipe σ3 vs = wipe σ vs ∧ te σ3 H3 fun y H4 => ∃ b, y = .bl b ∧ if b = st then Q (.bl st) H4 else Pv (i + 1) H4) (hd : ∀ H1, Pv xs.length H1 → Q (.bl (!st)) H1) : GB P st (Itt K a) g te vs σ H Q :=
  gb_it (walk_tup (xs := xs)) Pv hT h0 hl (fun i x H1 H2 _ p y => by
    obtain ⟨e, y⟩ := y
    subst e
    exact hs i x _ y p) hd
/-- the tables of the defs that hold generator expressions -/
def Tb (T : List Addr) (H : Hp) : Prop := ∀ P ∈ T, H P = some (TabX P)
theorem Tb.same {T : List Addr} {H H' : Hp} (h : Tb T H) (s : Same H H') : Tb T H' := fun P hP => s _ _ (h P hP)
/-- a def whose own code object is known -/
theorem okC {P : Program} {w : World} {K : PySem.W.Frag} {mg : Str → Option Value} {base : Heap} {x qual : Str} {st : Stmt} {f : Addr} {fd : FuncData} {N ps : List Str} {k : Nat} {sp : Sp} (F : Fun K x qual st f fd) (S : FnScope N ps (defScope st)) (len : ∀ vs H Q E, sp vs H Q E → vs.length = ps.length)
    (hbody : ∀ (A : Around) (outer : List Env) (s : Shared) (H : Hp) (vs : List V) (Q : VK) (E : XK), Room k (A.deeper (envOfC qual (defScope st) s.heap.objs.size f fd.code)) → sp vs H Q E →
      ∃ t, PSs (cxOf CX0 P w K mg base N qual (defScope st) f fd.code A outer s H E).nox (defBody st) t ∧ t { nx := fun _ H' => Q .non H', rt := Q } (start N vs) H) : FnOk P w K mg base CX0 (k + 1) f fd ps sp := by
  obtain ⟨oc, od, kV, doc, pm, an, cdv, ct, osl, rfl, lk, hcd⟩ := F.ex
  refine fn_of lk hcd S len fun A outer s H vs Q E hr hsp => ?_
  obtain ⟨t, h, q⟩ := hbody A outer s H vs Q E hr hsp
  exact ⟨t, h.nox, q⟩
end Ct

/-! the end of a law whose defs hold generator expressions -/
namespace Ct
open PySem PySem.Spec PyProof.Rows L2
def codeOf : Value → Addr
  | .ref c => c
  | _ => 0
/-- where the table of a code object stands -/
def tabOf (K : PySem.W.Frag) (cd : Value) : Addr := match K.lookup (codeOf cd) with
  | some ⟨_, _, .fields vs, _⟩ => (match (vs : Array Value)[11]? with | some (Value.ref P) => P | _ => 0)
  | _ => 0
def tabOkB (K : PySem.W.Frag) (cd : Value) : Bool := match cd with
  | .ref c => (match K.lookup c with
    | some ⟨_, _, .fields vs, _⟩ => (match (vs : Array Value)[11]? with | some (Value.ref P) => (K.lookup P).isNone | _ => false)
    | _ => false)
  | _ => false
theorem tab_inv {K : PySem.W.Frag} {cd : Value} (h : tabOkB K cd = true) : ∃ e dd vs sl, cd = .ref (codeOf cd) ∧ K.lookup (codeOf cd) = some ⟨e, dd, .fields vs, sl⟩ ∧ vs[11]? = some (.ref (tabOf K cd)) ∧ K.lookup (tabOf K cd) = none := by
  unfold tabOkB at h
  cases cd with
  | ref c =>
    cases q : K.lookup c with
    | none =>
      simp only [q] at h
      cases h
    | some o =>
      obtain ⟨e, dd, dt, sl⟩ := o
      cases dt with
      | fields vs =>
        simp only [q] at h
        cases r : vs[11]? with
        | none =>
          simp only [r] at h
          cases h
        | some u =>
          cases u with
          | ref P =>
            simp only [r] at h
            have t : tabOf K (.ref c) = P := by
              unfold tabOf codeOf
              simp only [q, r]
            refine ⟨e, dd, vs, sl, rfl, q, ?_, ?_⟩
            · rw [t]
              exact r
            · rw [t]
              exact Option.isNone_iff_eq_none.mp h
          | _ =>
            simp only [r] at h
            cases h
      | _ =>
        simp only [q] at h
        cases h
  | _ => cases h
/-- a def that is called on the script -/
def RunOk (P : Program) (w : World) (K : PySem.W.Frag) (mg : Str → Option Value) (base : Heap) (fa : Addr) (fd : FuncData) (x : Str) (sp : Sp) : Prop :=
  ∀ (z : Shared) (H : Hp) (ws : List Value) (vs : List V) (Q : VK) (E : XK), Env0 P w K mg base callerA [] z H → BindsTo z fd ⟨ws, []⟩ ([x].zip ws) → Vals vs ws → sp vs H Q E → codeAny (model P w) callerA (.call (.ref fa) ⟨ws, []⟩) (CR CX0 [] P w H z Q E) z
theorem law_callX {P : Program} {w : World} {K : PySem.W.Frag} {mg mb : Str → Option Value} {fa a : Addr} {cs : List (Addr × Addr)} {fd : FuncData} {x : Str} {sp : Sp} {s₁ : Shared} {vs : List Value} {ns : List Int}
    (KX : K.In s₁.heap) (hns : s₁.heap.Ns mainGlobals mg) (hb : s₁.heap.Ns builtinsNs mb) (hbb : ∀ x : Str, x ≠ "__name__" → mb x = bootBuiltins x) (hlim : s₁.heap.NoLimit) (hg : s₁.gens = #[])
    (hT : ∀ p ∈ cs, s₁.heap.get? p.2 = some { cls := .none, data := .fields #[] }) (nT : ∀ p ∈ cs, K.lookup p.2 = none) (C : ∀ p ∈ cs, PySem.W.CodeHd s₁.heap p.1 p.2)
    (hbm : ∃ (bm : Addr) (ob : Obj), mg "__builtins__" = some (.ref bm) ∧ bm ≠ builtinsNs ∧ s₁.heap.get? bm = some ob ∧ ob.cls = .type "module" ∧ ob.dict = some builtinsNs ∧ ob.data = .plain)
    (ha : s₁.heap.get? a = some { cls := .type "list", data := .seq vs.toArray }) (hi : IntsAre vs ns) (hl : ns.length ≤ sizeLine)
    (F : ∀ base : Heap, K.In base → base.Ns mainGlobals mg → (∀ p ∈ cs, GxR.TabB base mg p.1 p.2) → RunOk P w K mg base fa fd x sp) (hbind : ∀ (s : Shared) (u : Value), BindsTo s fd ⟨[u], []⟩ [(x, u)])
    (hsp : ∀ H : Hp, (∀ p ∈ cs, H p.2 = some (TabX p.2)) → SqL K H a (ns.map V.int) → sp [.ref a] H (fun v H' => v = .bl true ∧ Same H H') fun _ _ _ => False) :
    codeAny (model P w) callerA (.call (.ref fa) ⟨[.ref a], []⟩) (fun r s' => r = .ok (.ret (.bool true)) ∧ OldK s₁.heap s'.heap ∧ s'.os = s₁.os ∧ AllBare s'.gens) s₁ := by
  have rv := vals_ints hi
  have lenV := hi.length
  have isT : ∀ b : Addr, b ∈ cs.map (·.2) → s₁.heap.get? b = some { cls := .none, data := .fields #[] } := fun b hb => by
    obtain ⟨p, hp, e⟩ := List.mem_map.mp hb
    rw [← e]
    exact hT p hp
  have aT : a ∉ cs.map (·.2) := fun z => by
    have q := isT a z
    rw [ha] at q
    have z' : Data.seq vs.toArray _ = Data.fields #[] := congrArg Obj.data (Option.some.inj q)
    cases z'
  have memT : ∀ p ∈ cs, p.2 ∈ cs.map (·.2) := fun p hp => List.mem_map.mpr ⟨p, hp, rfl⟩
  have core : ∀ H : Hp, (∀ b, b ∈ cs.map (·.2) → H b = some (TabX b)) → (∀ b, H b = none ∨ b ∈ cs.map (·.2) ∨ ∃ o xs, H b = some (.frz o (.lst xs))) → SqL K H a (ns.map V.int) → HOk P w H s₁.heap → (∀ b, H b ≠ none → b = a ∨ b ∈ cs.map (·.2)) → (H a ≠ none → K.lookup a = none) →
      codeAny (model P w) callerA (.call (.ref fa) ⟨[.ref a], []⟩) (fun r s' => r = .ok (.ret (.bool true)) ∧ OldK s₁.heap s'.heap ∧ s'.os = s₁.os ∧ AllBare s'.gens) s₁ := by
    intro H hH hO hS hok hA hK
    have base_of : ∀ {b : Addr} {o : Obj}, s₁.heap.get? b = some o → H b = none → (hidT s₁.heap H).get? b = some o := fun e n => hidT_get e n
    have noD : ∀ {b : Addr} {o : Obj}, s₁.heap.get? b = some o → (∀ vs n, o.data ≠ .seq vs n) → o.data ≠ .fields #[] → H b = none := fun {b o} e h1 h2 => by
      cases q : H b with
      | none => rfl
      | some u =>
        rcases hA b (by rw [q]; simp) with e' | e'
        · rw [e', ha] at e
          cases e
          exact (h1 _ _ rfl).elim
        · rw [isT b e'] at e
          cases e
          exact (h2 rfl).elim
    have noA : ∀ {b : Addr} {o : Obj} {es : Array DictEntry} {ep : Nat}, s₁.heap.get? b = some o → o.data = .dict es ep → H b = none := fun {b o es ep} e d => by
      refine noD e (fun vs n z => ?_) fun z => ?_
      · rw [d] at z
        cases z
      · rw [d] at z
        cases z
    have nsK : ∀ {b : Addr} {m : Str → Option Value}, s₁.heap.Ns b m → (hidT s₁.heap H).Ns b m := fun {b m} ⟨o, es, ep, e, d, r⟩ => ⟨o, es, ep, base_of e (noA e d), d, r⟩
    have hKb : K.In (hidT s₁.heap H) := fun b o e => base_of (KX b o e) (by
      cases q : H b with
      | none => rfl
      | some u =>
        rcases hA b (by rw [q]; simp) with e' | e'
        · rw [e'] at e q
          rw [hK (by rw [q]; simp)] at e
          cases e
        · obtain ⟨p, hp, ep⟩ := List.mem_map.mp e'
          rw [← ep, nT p hp] at e
          cases e)
    have hM : L2.Mod K mg (hidT s₁.heap H) := ⟨hKb, nsK hns, ⟨mb, nsK hb, hbb⟩, let ⟨mc, h1, h2⟩ := hlim; ⟨mc, nsK h1, h2⟩⟩
    have TB : ∀ p ∈ cs, GxR.TabB (hidT s₁.heap H) mg p.1 p.2 := fun p hp => by
      have hTp := hT p hp
      refine ⟨?_, ?_, fun z => ?_⟩
      · obtain ⟨o, us, file, tf, flags, tg, inF, text, tt, e1, r1, r2, r3, r4, r5, r6, r7, r8, hne⟩ := C p hp
        refine ⟨o, us, file, tf, flags, tg, inF, text, tt, base_of e1 (noD e1 (fun vs n z => ?_) fun z => ?_), r1, r2, r3, r4, r5, r6, r7, r8, hne⟩
        · rw [r2] at z
          cases z
        · rw [r2] at z
          cases z
          simp at r3
      · obtain ⟨bm, ob, b1, b2, b3, b4, b5, b6⟩ := hbm
        have nG : bm ≠ mainGlobals := fun q => by
          obtain ⟨o, es, ep, e, hd, _⟩ := hns
          rw [q, e] at b3
          cases b3
          rw [hd] at b6
          cases b6
        have nP : bm ≠ p.2 := fun q => by
          rw [q, hTp] at b3
          cases b3
          cases b6
        refine ⟨bm, ob, b1, b2, nG, nP, base_of b3 (noD b3 (fun vs n z => ?_) fun z => ?_), b4, b5, b6⟩
        · rw [b6] at z
          cases z
        · rw [b6] at z
          cases z
      · obtain ⟨o, es, ep, e, hd, _⟩ := hns
        rw [z, hTp] at e
        cases e
        cases hd
    have e0 : Env0 P w K mg (hidT s₁.heap H) callerA [] s₁ H := ⟨rfl, hM, fun b o e => of_hidT e, Nat.le_of_eq (hidT_size _ _), trivial, fun b hb => absurd (show b ∈ ([] : List Addr) from hb) (by simp), hok, .of_eq hg⟩
    refine codeAny_mono (F _ hKb (nsK hns) TB s₁ H [.ref a] [.ref a] _ _ e0 (hbind s₁ (.ref a)) (.cons rfl .nil) (hsp H (fun p hp => hH _ (memT p hp)) hS)) fun r s' h => ?_
    cases r with
    | error e => exact (show False from h).elim
    | ok fl =>
      cases fl with
      | next => exact False.elim h
      | brk => exact False.elim h
      | cont => exact False.elim h
      | ret u =>
        obtain ⟨v, H', os, bare, un, hok', r', q, sm⟩ := h
        subst q
        obtain rfl : u = Value.bool true := r'
        have key : ∀ b o, b ∉ cs.map (·.2) → s₁.heap.get? b = some o → s'.heap.get? b = some o := fun b o nb e => by
          cases q : H b with
          | none => exact un.keep b o e q (by intro z; exact absurd (show b ∈ ([] : List Addr) from z) (by simp)) (by simp)
          | some u =>
            rcases hO b with z | z | ⟨ob, xs, z⟩
            · rw [q] at z; cases z
            · exact absurd z nb
            · have z2 := un.frzs b ob _ z
              obtain ⟨e1, _⟩ := hok b _ z
              obtain ⟨e2, _⟩ := hok' b _ z2
              rw [e] at e1; cases e1
              exact e2
        have grown : ∀ p ∈ cs, ∃ more : Array Value, s'.heap.get? p.2 = some { cls := .none, data := .fields more } := fun p hp => by
          obtain ⟨⟨more, z, _⟩, _⟩ := hok' p.2 _ (sm _ _ (hH _ (memT p hp)))
          exact ⟨_, z⟩
        refine ⟨rfl, ⟨fun b o e => ?_, fun b o e => ?_⟩, os, bare⟩
        · by_cases hb : b ∈ cs.map (·.2)
          · obtain ⟨p, hp, ep⟩ := List.mem_map.mp hb
            obtain ⟨more, hm⟩ := grown p hp
            rw [← ep] at e ⊢
            rw [hT p hp] at e
            cases e
            exact .inr (.inl ⟨((C p hp).tab (hT p hp)).isCodeTable, rfl, #[], more, rfl, by rw [Array.empty_append]; exact hm⟩)
          · exact .inl (key b o hb e)
        · by_cases hb : b ∈ cs.map (·.2)
          · obtain ⟨p, hp, ep⟩ := List.mem_map.mp hb
            obtain ⟨more, hm⟩ := grown p hp
            rw [← ep]
            exact ⟨_, hm⟩
          · exact ⟨o, key b o hb e⟩
  cases hk : K.lookup a with
  | some o =>
    have e := KX a o hk
    rw [ha] at e
    cases e
    refine core (fun b => if b ∈ cs.map (·.2) then some (TabX b) else none) (fun b hb => if_pos hb) (fun b => ?_) (.inr ⟨_, vs.toArray, _, hk, rfl, rfl, rfl, by rw [List.size_toArray, lenV]; exact hl, by simpa using rv⟩) (fun b u z => ?_) (fun b z => ?_) fun z => absurd (show (if a ∈ cs.map (·.2) then some (TabX a) else none) = none from if_neg aT) z
    · by_cases hb : b ∈ cs.map (·.2)
      · exact .inr (.inl hb)
      · exact .inl (if_neg hb)
    · by_cases hb : b ∈ cs.map (·.2)
      · have z' := (if_pos hb).symm.trans z
        cases z'
        exact tabx_ok (isT b hb) True.intro
      · have z' := (if_neg hb).symm.trans z
        cases z'
    · by_cases hb : b ∈ cs.map (·.2)
      · exact .inr hb
      · exact absurd (if_neg hb) z
  | none =>
    refine core (fun b => if b = a then some (.frz { cls := .type "list", data := .seq vs.toArray } (.lst (ns.map V.int))) else if b ∈ cs.map (·.2) then some (TabX b) else none) (fun b hb => (if_neg (show ¬ b = a from fun z => aT (by rw [← z]; exact hb))).trans (if_pos hb)) (fun b => ?_)
      (.inl (.inr ⟨{ cls := .type "list", data := .seq vs.toArray }, if_pos rfl⟩)) (fun b u z => ?_) (fun b z => ?_) fun _ => hk
    · by_cases hb : b = a
      · exact .inr (.inr ⟨_, _, if_pos hb⟩)
      · by_cases hb2 : b ∈ cs.map (·.2)
        · exact .inr (.inl hb2)
        · exact .inl ((if_neg hb).trans (if_neg hb2))
    · by_cases hb : b = a
      · have z' := (if_pos hb).symm.trans z
        cases z'
        rw [hb]
        exact ⟨ha, by rw [List.length_map]; exact hl, vs, _, rv, ha⟩
      · have z1 := (if_neg hb).symm.trans z
        by_cases hb2 : b ∈ cs.map (·.2)
        · have z' := (if_pos hb2).symm.trans z1
          cases z'
          exact tabx_ok (isT b hb2) True.intro
        · have z' := (if_neg hb2).symm.trans z1
          cases z'
    · by_cases hb : b = a
      · exact .inl hb
      · by_cases hb2 : b ∈ cs.map (·.2)
        · exact .inr hb2
        · exact absurd ((if_neg hb).trans (if_neg hb2)) z
/-- what is known of the law's promise: cs, the defs that hold generator expressions and their code objects -/
def LawAtX (l : PySem.W.OpenLaw) (w : World) (K : PySem.W.Frag) (n : Nat) (x : Str) (mg : Str → Option Value) (fa : Addr) (defs : List Str) : Prop :=
  ∃ (fd : FuncData) (cs : List (Str × Value)) (sp : Sp), (∀ p ∈ cs, p.1 ∈ defs ∧ ∃ (f : Addr) (oc : Value) (od : Option Addr) (fdx : FuncData) (osl : Array (Option Value)), mg p.1 = some (.ref f) ∧ K.lookup f = some ⟨oc, od, .func fdx, osl⟩ ∧ fdx.code = p.2 ∧ tabOkB K p.2 = true) ∧ (∀ (s : Shared) (u : Value), BindsTo s fd ⟨[u], []⟩ [(x, u)]) ∧
    (∀ (H : Hp) (a : Addr) (ns : List Int), ns.length ≤ n → (∀ p ∈ cs, H (tabOf K p.2) = some (TabX (tabOf K p.2))) → SqL K H a (ns.map V.int) → sp [.ref a] H (fun v H' => v = .bl true ∧ Same H H') fun _ _ _ => False) ∧
    ∀ base : Heap, K.In base → base.Ns mainGlobals mg → (∀ p ∈ cs, GxR.TabB base mg (codeOf p.2) (tabOf K p.2)) → RunOk l.prog w K mg base fa fd x sp
theorem walk_ofX {l : PySem.W.OpenLaw} {n : Nat} {q : Program} {loose : List Str} {XP : (Str → Option Value) → Heap → Prop} {YP : World → Heap → Prop} {d : DefRec} {K : Params → PySem.W.Frag} {x : Str} {defs : List Str}
    (hn : l.most = some n) (hn2 : n ≤ sizeLine) (hdf : d.params.defaults = []) (hrec : (defs.all fun y => (recsOf q).any fun e => e.name == y) = true) (hY : ∀ (w : World) (h : Heap), YP w h → (K w.params).In h)
    (F : ∀ (w : World) (mg : Str → Option Value) (fa : Addr) (h : Heap), (K w.params).In h → h.Ns mainGlobals mg → mg d.name = some (.ref fa) → LawAtX l w (K w.params) n x mg fa defs) :
    PySem.W.WalkO q loose XP YP l.row.toRowW d [] (fun f vs => PySem.call f vs) := by
  refine Att.attach_callB hn hdf fun w s₀ s₁ mg mb fa o pm cd doc a vs ns G Y ho hd hcd hmg hobj hints hlen hbits hg => ?_
  have KX := hY w _ Y
  obtain ⟨fd, cs, sp, hcs, hb, hsp, hF⟩ := F w mg fa _ KX G.T.g hmg
  have facts : ∀ p ∈ cs, s₁.heap.get? (tabOf (K w.params) p.2) = some { cls := .none, data := .fields #[] } ∧ (K w.params).lookup (tabOf (K w.params) p.2) = none ∧ PySem.W.CodeHd s₁.heap (codeOf p.2) (tabOf (K w.params) p.2) := fun p hp => by
    obtain ⟨hm, f, oc, od, fdx, osl, g1, g2, g3, g4⟩ := hcs p hp
    obtain ⟨e, dd, us, sl, t1, t2, t3, t4⟩ := tab_inv g4
    obtain ⟨dL, hdm, hn1⟩ := List.any_eq_true.mp (List.all_eq_true.mp hrec _ hm)
    have hn2 : dL.name = p.1 := beq_iff_eq.mp hn1
    obtain ⟨a', o', fd', c', P', h1, h2, h3, h4, h5, h6⟩ := G.T.tab dL hdm
    rw [hn2, g1] at h1
    cases h1
    rw [KX _ _ g2] at h2
    cases h2
    cases h3
    rw [g3, t1] at h4
    cases h4
    obtain ⟨⟨ob, vc, e1, e2, e3, e4⟩, hP⟩ := id h6
    rw [KX _ _ t2] at e1
    cases e1
    cases e3
    rw [t3] at e4
    cases e4
    exact ⟨hP, t4, .of h5 h6⟩
  refine law_callX (cs := cs.map fun p => (codeOf p.2, tabOf (K w.params) p.2)) KX G.T.g G.T.b G.T.builtins G.T.nolimit hg ?_ ?_ ?_ G.T.bmain hobj hints (Nat.le_trans hlen hn2) (fun base h1 h2 h3 => hF base h1 h2 fun p hp => h3 _ (List.mem_map.mpr ⟨p, hp, rfl⟩)) hb fun H hH hS => hsp H a ns hlen (fun p hp => hH _ (List.mem_map.mpr ⟨p, hp, rfl⟩)) hS
  · intro p hp
    obtain ⟨q, hq, rfl⟩ := List.mem_map.mp hp
    exact (facts q hq).1
  · intro p hp
    obtain ⟨q, hq, rfl⟩ := List.mem_map.mp hp
    exact (facts q hq).2.1
  · intro p hp
    obtain ⟨q, hq, rfl⟩ := List.mem_map.mp hp
    exact (facts q hq).2.2
theorem RunOk.of {P : Program} {w : World} {K : PySem.W.Frag} {mg : Str → Option Value} {base : Heap} {k : Nat} {fa : Addr} {fd : FuncData} {x : Str} {sp : Sp} (hr : Room k callerA) (F : FnOk P w K mg base CX0 k fa fd [x] sp) : RunOk P w K mg base fa fd x sp :=
  fun z H ws vs Q E e b r h => F.run callerA [] z H ⟨ws, []⟩ ws vs Q E hr e b r h
end Ct

/-! set comprehensions, sorted(set) of any number of whole numbers -/
namespace Ct
open PySem PySem.Spec PyProof.Rows L2
/-- the sets that a comprehension may make: what is tracked of one, how it begins, what one member more makes of it -/
structure SetKd (X : Cx) (α : Type) where
  O : Addr → α → HO
  nil : α
  more : Hp → α → V → α → Prop
  laid : ∀ (H : Hp) (h : Heap), ObjOk X.prog X.w H (h.push { cls := .type "set", dict := none, data := .set #[] 0 (.fresh 0 0 (!X.w.params.followText "set-order")) }) h.objs.size (O h.objs.size nil)
  add : ∀ (Y : Cx), Y.prog = X.prog → Y.w = X.w → Y.A = X.A → Y.calm = X.calm → Y.K = X.K → ∀ {pins : List (Addr × Obj)} {σ : L2.St} {H : Hp} {s : Shared} {E : Value → Shared → Prop} {D : Addr} {x x' : α} {y : V} {u : Value} {Q : Value → Shared → Prop}, Inv Y pins σ H s → H D = some (O D x) → RelV y u → more H x y x' →
    (∀ z, Inv Y pins σ (upd H D (O D x')) z → Q .none z) → wpAny (model Y.prog Y.w) Y.A (call (.builtin "set.add") [.ref D, u]) Q E s
section
variable {X : Cx} {α : Type}
/-- {elt for target in iter if ..}; D the new set -/
def tScG (O : Addr → α → HO) (nil : α) (more : Hp → α → V → α → Prop) (wi : TI) (g : TG) (tt : TT) (te : TE) (vs : List Nat) : TE := fun σ H Q => wi σ H fun J H1 => ∀ D, H1 D = none → ∃ W : Nat → Nat → Hp → Prop, (∃ m, W 0 m (upd H1 D (O D nil))) ∧ ∀ i m Hi, W i m Hi →
  (J.stop i Hi ∧ Q (.ref D) Hi) ∨ (J.go i Hi ∧ ∃ Nx : Hp → Prop, (∀ H', Nx H' → ∃ m', m' < m ∧ W (i + 1) m' H') ∧ ∀ x H', J.yld i Hi x H' → g x (wipe σ vs) H' fun σ2 H2 => wipe σ2 vs = wipe σ vs ∧ tt σ2 H2 fun yes H3 =>
    if yes = true then te σ2 H3 fun y H4 => ∃ x x' : α, H4 D = some (O D x) ∧ more H4 x y x' ∧ Nx (upd H4 D (O D x')) else Nx H3)
theorem scG_core (kd : SetKd X α) {pins : List (Addr × Obj)} {s : Shared} {σ : L2.St} {H : Hp} {Q : VK} {use : Option (Value → Sem Unit)} {Qf : Value → Shared → Prop} {ex tg iter : Expr} {ifs : List Expr} {scope : Scope} {own : List (Str × Nat)} {pos pos' : Pos} {wi : TI} {g : TG} {tt : TT} {te : TE} (calm : X.calm = true) (nd : X.N.Nodup) (src : PI X tg iter wi) (blk : BlkOk X.N X.env.scope scope own)
    (pG : ∀ (z : Shared) (G : Hp) (C : Addr) (cl : List (Str × Addr)) (fp : List Addr), PG (X.blk z G scope (compEnvC scope cl C X.env) fp) tg g) (pT : ∀ (z : Shared) (G : Hp) (C : Addr) (cl : List (Str × Addr)) (fp : List Addr), PTs (X.blk z G scope (compEnvC scope cl C X.env) fp) ifs tt)
    (pE : ∀ (z : Shared) (G : Hp) (C : Addr) (cl : List (Str × Addr)) (fp : List Addr), PE (X.blk z G scope (compEnvC scope cl C X.env) fp) ex te) (plain : ∀ x, foldedSetIterable iter X.env x = pure x)
    (inv : Inv X pins σ H s) (wish : tScG kd.O kd.nil kd.more wi g tt te (own.map (·.2)) σ H Q)
    (post : ∀ D C z m G, Inv X pins σ G z → Q (.ref D) G → z.heap.Ns C m → FpOk X pins G C → compPost (model X.prog X.w) X.A X.xe use Qf (.ref D) C (.ok .next) z) :
    wpAny (model X.prog X.w) X.A (comprehension (.SetComp ex [⟨tg, iter, ifs, 0⟩] scope pos) scope X.env pos' (newSet (.type "set")) false (eval iter X.env) use) Qf X.xe s := by
  have cells : ∀ y ∈ scope.names, y.2 = .free → ∃ c, X.env.cells.lookup y.1 = some c := fun y hy e => (blk.free y hy e).elim (fun k => inv.ok.has _ (.inl k)) fun k => inv.ok.has _ (.inr k)
  refine wpAny_comprehension_free (use := use) rfl plain (closure_ok cells) blk.kind (fun y hy e => by rw [blk.uniq y hy, e]) ?_
  refine thn (src.run pins s σ H _ inv wish) fun _ sA hA => thn hA fun _ sB hB => ?_
  obtain ⟨it, fp, at_, walk, HB, rfl, invB, T, stB, fpB, told⟩ := hB
  refine PpSet.newSet_ok (newEnv_comp ?_)
  have free : HB sB.heap.objs.size = none := invB.hok.fresh (Nat.le_refl _)
  obtain ⟨W, ⟨m0, w0⟩, turn⟩ := told sB.heap.objs.size free
  have below : ∀ b ∈ fp, b < sB.heap.objs.size := fun b hb => let ⟨_, e, _⟩ := T.obj _ _ stB b hb; Heap.lt_size e
  generalize hD : sB.heap.objs.size = D at *
  generalize hC : ({ sB with heap := sB.heap.push { cls := .type "set", dict := none, data := .set #[] 0 (.fresh 0 0 (!X.w.params.followText "set-order")) } } : Shared) = sC
  have heapC : sC.heap = sB.heap.push { cls := .type "set", dict := none, data := .set #[] 0 (.fresh 0 0 (!X.w.params.followText "set-order")) } := by rw [← hC]
  have invC : Inv X pins σ (upd HB D (kd.O D kd.nil)) sC := by
    subst hC
    refine invB.laid (t' := sB.toks) (fun b o e => Heap.get?_push_of_some _ e) (Nat.le_of_eq hD) ?_
    subst hD
    exact kd.laid _ _
  have oldC : ∀ b o, sB.heap.get? b = some o → sC.heap.get? b = some o := fun b o e => by rw [heapC]; exact Heap.get?_push_of_some _ e
  have fpC : ∀ b ∈ fp, FpOk X pins (upd HB D (kd.O D kd.nil)) b ∧ b < sC.heap.objs.size := fun b hb => by
    have lt := below b hb
    have l2 : b < sC.heap.objs.size := by
      rw [heapC, Heap.size_push, hD]
      exact Nat.lt_succ_of_lt lt
    exact ⟨⟨by rw [upd_ne (Nat.ne_of_lt lt)]; exact (fpB b hb).1, (fpB b hb).2⟩, l2⟩
  have invD := block_start invC blk nd fpC
  generalize hcl : cellsFrom (sC.heap.objs.size + 1) scope.names (cloFrom X.env.cells scope.names []) = cl at *
  show codeAny _ _ (.compStart (.SetComp ex [⟨tg, iter, ifs, 0⟩] scope pos) 0 (.ref it) (.ref D) (compEnvC scope cl sC.heap.objs.size X.env)) (compPost (model X.prog X.w) X.A X.xe use Qf (.ref D) sC.heap.objs.size) { sC with heap := pushCells (sC.heap.push { cls := .type "dict", data := .dict #[] }) scope.names }
  have loc : (compEnvC scope cl sC.heap.objs.size X.env).locals = sC.heap.objs.size := rfl
  have qG := pG sC (upd HB D (kd.O D kd.nil)) sC.heap.objs.size cl fp
  have qT := pT sC (upd HB D (kd.O D kd.nil)) sC.heap.objs.size cl fp
  have qE := pE sC (upd HB D (kd.O D kd.nil)) sC.heap.objs.size cl fp
  have noneC : ∀ b ∈ fp, (upd HB D (kd.O D kd.nil)) b = none := fun b hb => (fpC b hb).1.1
  generalize hE : compEnvC scope cl sC.heap.objs.size X.env = ce at invD qG qT qE loc ⊢
  generalize hG : upd HB D (kd.O D kd.nil) = HC at invC invD qG qT qE w0 noneC fpC
  generalize hZ : ({ sC with heap := pushCells (sC.heap.push { cls := .type "dict", data := .dict #[] }) scope.names } : Shared) = sD at invD ⊢
  have stD : at_ 0 sD.heap := T.keep _ _ _ stB fun b _ o e => by rw [← hZ]; exact pushCells_keeps _ _ _ _ (Heap.get?_push_of_some _ (oldC b o e))
  have calmly : ∀ {τ : L2.St} {G : Hp} {z : Shared}, Inv (X.blk sC HC scope ce fp) [] τ G z → (∀ b ∈ fp, G b = none) → ∀ b ∈ fp, FpOk (X.blk sC HC scope ce fp) [] G b := fun {τ G z} i n b hb =>
    ⟨n b hb, (i.ok.exf b hb).1, i.ok.exfs b hb, .inl hb, fun x c e => (i.ok.exf b hb).2 x c e, fun p hp => absurd (show p ∈ ([] : List (Addr × Obj)) ++ [] from hp) (by simp)⟩
  refine (fun loop => PpSet.codeAny_compStart_set loop (T.self X.A 0 _ _ _ stD loop)) ?_
  refine PpSet.compLoopS_any (fun n z => ∃ i G, Inv (X.blk sC HC scope ce fp) [] (wipe σ (own.map (·.2))) G z ∧ at_ i z.heap ∧ (∀ b ∈ fp, G b = none) ∧ W i n G) ?_ m0 ⟨0, HC, invD, stD, noneC, w0⟩
  rintro n z5 ⟨i, G5, inv5, st5, n5, w5⟩
  rcases turn i n G5 w5 with ⟨stop, fin⟩ | ⟨go, Nx, less, step⟩
  · refine thnF (T.done (X.blk sC HC scope ce fp) rfl rfl rfl calm i [] z5 _ G5 (fun _ _ => False) inv5 (calmly inv5 n5) st5 stop) ?_
    rintro r z6 ⟨rfl, inv6⟩
    have back : Inv X pins σ G5 z6 := invC.call' (ch := fp) inv6.os inv6.base inv6.hok inv6.bare fun b hb => ⟨(fpC b hb).1.2.2.2.1, (fpC b hb).1.2.1, (fpC b hb).1.2.2.2.2.1, (fpC b hb).1.2.2.2.2.2⟩
    have nL : G5 sC.heap.objs.size = none := by
      rw [← loc]
      exact inv6.free
    obtain ⟨m, names, _⟩ := inv6.loc
    have names' : z6.heap.Ns sC.heap.objs.size m := by
      rw [← loc]
      exact names
    exact post D sC.heap.objs.size z6 m G5 back fin names' (invC.fpOk (Nat.le_refl _) nL)
  · refine thnF (T.item (X.blk sC HC scope ce fp) rfl rfl rfl calm i [] z5 _ G5 (fun _ _ => False) inv5 (calmly inv5 n5) st5 go) ?_
    rintro r z6 ⟨u, rfl, h6⟩
    refine thnF h6 ?_
    rintro _ z7 ⟨x, G7, inv7, r7, y7, st7, n7⟩
    refine thnF (qG.run _ z7 _ G7 x u _ (inv7.pinned (calmly inv7 n7) (T.obj _ _ st7)) r7 (step x G7 y7)) ?_
    rintro _ z8 ⟨σ8, G8, inv8, same8, q8⟩
    refine thnF (qT.run _ z8 σ8 G8 _ inv8 q8) ?_
    rintro yes z9 ⟨G9, inv9, q9⟩
    have next : ∀ {z : Shared} {G : Hp}, Inv (X.blk sC HC scope ce fp) ([] ++ pinsAt fp z7.heap) σ8 G z → Nx G → ∃ m, m < n ∧ ∃ i G, Inv (X.blk sC HC scope ce fp) [] (wipe σ (own.map (·.2))) G z ∧ at_ i z.heap ∧ (∀ b ∈ fp, G b = none) ∧ W i m G := fun {z G} i' nx => by
      obtain ⟨m', lt, w'⟩ := less G nx
      have pinned : ∀ b ∈ fp, ∀ o, z7.heap.get? b = some o → z.heap.get? b = some o ∧ G b = none := fun b hb o e =>
        let p := i'.pin (b, o) (List.mem_append_right _ (List.mem_append_right _ (mem_pinsAt hb e)))
        ⟨p.1, p.2.1⟩
      refine ⟨m', lt, i + 1, G, (i'.unpinned (pins := [])).weak (by rw [← same8, wipe_length]) (fun j v e => ?_), T.keep _ _ _ st7 fun b hb o e => (pinned b hb o e).1, fun b hb => ?_, w'⟩
      · rw [← same8] at e
        exact (wipe_some e).1
      · obtain ⟨o, e, _⟩ := T.obj _ _ st7 b hb
        exact (pinned b hb o e).2
    cases yes with
    | false =>
      simp only [Bool.false_eq_true, if_false] at q9 ⊢
      exact next inv9 q9
    | true =>
      simp only [if_true] at q9 ⊢
      refine thnF (qE.run _ z9 σ8 G9 _ inv9 q9) ?_
      rintro eu z10 ⟨ye, G10, inv10, r10, x0, x1, hD10, mo, nx⟩
      exact kd.add (X.blk sC HC scope ce fp) rfl rfl rfl rfl rfl inv10 hD10 r10 mo fun z12 inv12 => next inv12 nx
theorem pe_scG (kd : SetKd X α) {ex tg iter : Expr} {ifs : List Expr} {scope : Scope} {own : List (Str × Nat)} {pos : Pos} {wi : TI} {g : TG} {tt : TT} {te : TE} (calm : X.calm = true) (nd : X.N.Nodup) (src : PI X tg iter wi) (blk : BlkOk X.N X.env.scope scope own)
    (pG : ∀ (z : Shared) (G : Hp) (C : Addr) (cl : List (Str × Addr)) (fp : List Addr), PG (X.blk z G scope (compEnvC scope cl C X.env) fp) tg g) (pT : ∀ (z : Shared) (G : Hp) (C : Addr) (cl : List (Str × Addr)) (fp : List Addr), PTs (X.blk z G scope (compEnvC scope cl C X.env) fp) ifs tt)
    (pE : ∀ (z : Shared) (G : Hp) (C : Addr) (cl : List (Str × Addr)) (fp : List Addr), PE (X.blk z G scope (compEnvC scope cl C X.env) fp) ex te) (plain : ∀ x, foldedSetIterable iter X.env x = pure x := by intro _; rfl) :
    PE X (.SetComp ex [⟨tg, iter, ifs, 0⟩] scope pos) (tScG kd.O kd.nil kd.more wi g tt te (own.map (·.2))) := by
  constructor
  intro pins s σ H Q inv wish
  rw [PpSet.eval_SetComp]
  refine scG_core kd calm nd src blk pG pT pE plain inv wish ?_
  intro D C z m G back fin names ⟨f0, f1, f2, f3, f4, f5⟩
  exact ⟨m, names, fun h'' sb => ⟨.ref D, G, back.turned (t' := z.toks) (fun b o hb e => (sb.2 b hb).trans e) f0 f1 f3 f4 f5, rfl, fin⟩⟩
theorem pe_scW (kd : SetKd X α) {O : Addr → α → HO} {nil : α} {more : Hp → α → V → α → Prop} (eO : kd.O = O) (en : kd.nil = nil) (em : kd.more = more) {ex tg iter : Expr} {ifs : List Expr} {scope : Scope} {own : List (Str × Nat)} {pos : Pos} {wi : TI} {g : TG} {tt : TT} {te : TE} (calm : X.calm = true) (nd : X.N.Nodup) (src : PI X tg iter wi) (blk : BlkOk X.N X.env.scope scope own)
    (pG : ∀ (z : Shared) (G : Hp) (C : Addr) (cl : List (Str × Addr)) (fp : List Addr), PG (X.blk z G scope (compEnvC scope cl C X.env) fp) tg g) (pT : ∀ (z : Shared) (G : Hp) (C : Addr) (cl : List (Str × Addr)) (fp : List Addr), PTs (X.blk z G scope (compEnvC scope cl C X.env) fp) ifs tt)
    (pE : ∀ (z : Shared) (G : Hp) (C : Addr) (cl : List (Str × Addr)) (fp : List Addr), PE (X.blk z G scope (compEnvC scope cl C X.env) fp) ex te) (plain : ∀ x, foldedSetIterable iter X.env x = pure x := by intro _; rfl) :
    PE X (.SetComp ex [⟨tg, iter, ifs, 0⟩] scope pos) (tScG O nil more wi g tt te (own.map (·.2))) := by
  subst eO en em
  exact pe_scG kd calm nd src blk pG pT pE plain
/-- sets of whole numbers: the members told by S, n of them -/
def IntSet (w : World) (a : Addr) (x : (Int → Bool) × Nat) : HO := SetO w a x.1 x.2
def moreI (_ : Hp) (x : (Int → Bool) × Nat) (y : V) (x' : (Int → Bool) × Nat) : Prop := ∃ k : Int, y = .int k ∧ x.2 + 1 < scanBound ∧ x' = (fun j => x.1 j || decide (j = k), if x.1 k = true then x.2 else x.2 + 1)
theorem add_int {Y : Cx} {pins : List (Addr × Obj)} {σ : L2.St} {H : Hp} {s : Shared} {E : Value → Shared → Prop} {D : Addr} {x x' : (Int → Bool) × Nat} {y : V} {u : Value} {Q : Value → Shared → Prop} (J : Inv Y pins σ H s) (hD : H D = some (IntSet Y.w D x)) (r : RelV y u) (mo : moreI H x y x')
    (q : ∀ z, Inv Y pins σ (upd H D (IntSet Y.w D x')) z → Q .none z) : wpAny (model Y.prog Y.w) Y.A (call (.builtin "set.add") [.ref D, u]) Q E s := by
  obtain ⟨k, rfl, room, rfl⟩ := mo
  obtain ⟨tk, rfl⟩ := r
  refine setR_add (setO_get J hD) room fun h' sb made => ?_
  obtain ⟨o, _, _, _, ho, _⟩ := id made
  refine q _ (J.write (e := D) (t' := s.toks + 1) ?_ (.inl rfl) (fun b u hb hu => (sb.2 b hb).trans hu) ⟨o, ho⟩ (setO_new made))
  rw [hD]
  exact True.intro
def kdI (X : Cx) : SetKd X ((Int → Bool) × Nat) where
  O := IntSet X.w
  nil := (fun _ => false, 0)
  more := moreI
  laid := fun _ _ => setO_new (setR_fresh X.w)
  add := fun Y e1 e2 _ _ _ {_ _ _ _ _ _ _ _ _ _ _} J hD r mo q => by
    rw [← e2] at hD q
    exact add_int J hD r mo q
theorem pe_scI {w0 : World} (hw : X.w = w0) {ex tg iter : Expr} {ifs : List Expr} {scope : Scope} {own : List (Str × Nat)} {pos : Pos} {wi : TI} {g : TG} {tt : TT} {te : TE} (calm : X.calm = true) (nd : X.N.Nodup) (src : PI X tg iter wi) (blk : BlkOk X.N X.env.scope scope own)
    (pG : ∀ (z : Shared) (G : Hp) (C : Addr) (cl : List (Str × Addr)) (fp : List Addr), PG (X.blk z G scope (compEnvC scope cl C X.env) fp) tg g) (pT : ∀ (z : Shared) (G : Hp) (C : Addr) (cl : List (Str × Addr)) (fp : List Addr), PTs (X.blk z G scope (compEnvC scope cl C X.env) fp) ifs tt)
    (pE : ∀ (z : Shared) (G : Hp) (C : Addr) (cl : List (Str × Addr)) (fp : List Addr), PE (X.blk z G scope (compEnvC scope cl C X.env) fp) ex te) (plain : ∀ x, foldedSetIterable iter X.env x = pure x := by intro _; rfl) :
    PE X (.SetComp ex [⟨tg, iter, ifs, 0⟩] scope pos) (tScG (IntSet w0) (fun _ => false, 0) moreI wi g tt te (own.map (·.2))) := by
  subst hw
  exact pe_scW (kdI X) rfl rfl rfl calm nd src blk pG pT pE plain
theorem lt_of_le_nd : ∀ {l : List Int}, l.Pairwise (· ≤ ·) → l.Nodup → l.Pairwise (· < ·) := fun {l} h d => lt_of_le_nodup l h d
/-- sorted(found), any number of them -/
theorem sorted_setI {P : Program} {w : World} {A : Around} {E : Value → Shared → Prop} {s : Shared} {a : Addr} {S : Int → Bool} {n : Nat} {Q : Value → Shared → Prop} (R : SetR w s.heap a S n) (calm : A.handled = none)
    (q : ∀ (z : Shared) (p : Addr) (out : List Value) (c : Nat) (ns : List Int), (∀ b o, s.heap.get? b = some o → z.heap.get? b = some o) → z.gens = s.gens → z.os = s.os → s.heap.objs.size ≤ p → z.heap.get? p = some (seqObj "list" out.toArray c) → IntsAre out ns → ns.Pairwise (· < ·) → (∀ k, k ∈ ns ↔ S k = true) → ns.length = n → Q (.ref p) z) :
    wpAny (model P w) A (call (.builtin "sorted") [.ref a]) Q E s := by
  obtain ⟨o, es, ep, tb, at_, exact_, data, good, apart, mem, few, fits, size, rises, order⟩ := R
  refine Calls.call_function_entry kind_sorted plain_sorted entry_sorted (args_sorted1 _) ?_
  unfold Builtin.«sorted»; refine wpAny_bind (m := checkCount "sorted" 1 1 _) (wpAny_pure ?_)
  refine wpAny_bind (collect_set (A := A.in1) calm ⟨o, at_, exact_.1, data⟩ fits few rises order ?_)
  intro z vs keep big gens os perm
  have vl : vs.length = n := by
    rw [perm.length_eq, List.length_map, Array.length_toList]
    exact size
  have small : vs.length ≤ sizeLine := by
    rw [vl, ← size]
    exact fits_of_scanBound few
  have nums : IntsAre vs (vs.map Builtin.Re.reRawOf) := ints_of vs fun v hv => by
    obtain ⟨e, he, rfl⟩ := List.mem_map.mp (perm.mem_iff.mp hv)
    obtain ⟨k, tk, h1, _⟩ := good e he
    exact ⟨k, tk, h1⟩
  have keys : (vs.map Builtin.Re.reRawOf).Perm (es.toList.map keyOf) := by
    have := perm.map Builtin.Re.reRawOf
    rw [List.map_map] at this
    exact this
  refine wpAny_bind (wpAny_newList ?_ small)
  have list : (z.heap.push (seqObj "list" vs.toArray 0)).get? z.heap.objs.size = some (seqObj "list" vs.toArray 0) := Heap.get?_push_size _ rfl
  refine wpAny_bind (wpAny_holding (wpAny_call_entry slot_list_sort ⟨_, list, rfl⟩ entry_list_sort ?_ (args_list_sort _)))
  refine SrtO.list_sort_ord SrtO.swo_int list small (fun two => SrtO.ints_sortable nums two) fun out sorted stable => ⟨_, rfl, ?_⟩
  obtain ⟨i1, i2, i3⟩ := SrtO.ints_out nums sorted stable
  obtain ⟨c, made⟩ := sortedHeap_at (vs := vs) (out := out.toArray) list
  have all : (out.map SrtO.iv).Perm (es.toList.map keyOf) := i2.trans keys
  refine wpAny_pure ⟨_, rfl, q _ z.heap.objs.size out c (out.map SrtO.iv) (fun b u e => ?_) gens os big made i1 (lt_of_le_nd i3 (all.nodup_iff.mpr apart)) (fun k => by rw [all.mem_iff, ← mem k]) ?_⟩
  · have old := keep b u e
    have lt := Heap.lt_size old
    show (sortedHeap (z.heap.push (seqObj "list" vs.toArray 0)) z.heap.objs.size vs out.toArray).get? b = some u
    rw [sortedHeap_old (Nat.ne_of_lt lt) (by rw [size_push']; exact Nat.lt_succ_of_lt lt)]
    exact Heap.get?_push_of_some _ old
  · rw [all.length_eq, List.length_map, Array.length_toList]
    exact size
def rSrtI (w : World) : List V → Hp → VK → Prop := fun vs H Q => ∃ (a : Addr) (x : (Int → Bool) × Nat), vs = [V.ref a] ∧ H a = some (IntSet w a x) ∧
  ∀ (ns : List Int) (p : Addr), ns.Pairwise (· < ·) → (∀ k : Int, k ∈ ns ↔ x.1 k = true) → ns.length = x.2 → H p = none → Q (.ref p) (upd H p (.lst (ns.map V.int)))
theorem cr_srtI (calm : X.calm = true) : CallR X (.builtin "sorted") (rSrtI X.w) := by
  rintro pins s σ H vs us Q J r ⟨a, x, rfl, ha, q⟩
  have R := setO_get J ha
  have few : x.2 ≤ sizeLine := by
    obtain ⟨_, es, _, _, _, _, _, _, _, _, lt, _, n, _⟩ := id R
    rw [← n]
    exact fits_of_scanBound lt
  rw [Vals.ref1 r]
  refine sorted_setI R (J.ok.hd calm) ?_
  intro z p out c ns keep gens os big made nums up mem len
  have free : H p = none := J.hok.fresh big
  have K' : Inv X pins σ (upd H p (.lst (ns.map V.int))) { s with heap := z.heap, gens := z.gens, drawn := z.drawn, toks := z.toks } :=
    J.call (ch := []) (Un.laid keep big free) (J.hok.laid keep big ⟨by rw [List.length_map, len]; exact few, out, c, vals_of_ints nums, made⟩) (by rw [gens]; exact J.bare) (fun _ y => nomatch y)
  have same : z = { s with heap := z.heap, gens := z.gens, drawn := z.drawn, toks := z.toks } := by
    cases z; cases s
    cases os
    rfl
  rw [same]
  exact ⟨.ref p, _, K', rfl, q ns p up mem len free⟩
end
section
variable {α : Type} {K : PySem.W.Frag} {H : Hp} {σ : L2.St} {Q : VK} {O : Addr → α → HO} {nil : α} {more : Hp → α → V → α → Prop}
def SB (O : Addr → α → HO) (nil : α) (more : Hp → α → V → α → Prop) (J : It) (g : TG) (tt : TT) (te : TE) (vs : List Nat) (σ : L2.St) (H : Hp) (Q : VK) : Prop := tScG O nil more (fun _ H R => R J H) g tt te vs σ H Q
theorem w_scG {wi : TI} {g : TG} {tt : TT} {te : TE} {vs : List Nat} (h : wi σ H fun J H1 => SB O nil more J g tt te vs σ H1 Q) : tScG O nil more wi g tt te vs σ H Q := h
theorem sb_list {a : Addr} (xs : List V) {g : TG} {tt : TT} {te : TE} {vs : List Nat} (Pv : Addr → Nat → Hp → Prop) (h0 : ∀ D, H D = none → Pv D 0 (upd H D (O D nil))) (hl : ∀ D, H D = none → ∀ i H1, i ≤ xs.length → Pv D i H1 → SqL K H1 a xs)
    (hs : ∀ D, H D = none → ∀ i x H1, xs[i]? = some x → Pv D i H1 → g x (wipe σ vs) H1 fun σ2 H2 => wipe σ2 vs = wipe σ vs ∧ tt σ2 H2 fun yes H3 =>
      if yes = true then te σ2 H3 fun y H4 => ∃ x x' : α, H4 D = some (O D x) ∧ more H4 x y x' ∧ Pv D (i + 1) (upd H4 D (O D x')) else Pv D (i + 1) H3) (hd : ∀ D, H D = none → ∀ H1, Pv D xs.length H1 → Q (.ref D) H1) : SB O nil more (Itl K a) g tt te vs σ H Q := by
  intro D hD
  refine ⟨fun i m G => m = xs.length - i ∧ i ≤ xs.length ∧ Pv D i G, ⟨_, rfl, Nat.zero_le _, h0 D hD⟩, ?_⟩
  rintro i m G ⟨rfl, le, p⟩
  have seq := hl D hD i G le p
  rcases Nat.lt_or_ge i xs.length with lt | ge
  · refine .inr ⟨⟨xs, xs[i], seq, by simp [lt]⟩, Pv D (i + 1), fun G' p' => ⟨xs.length - (i + 1), by omega, rfl, lt, p'⟩, ?_⟩
    rintro x G' ⟨rfl, is⟩
    exact hs D hD i x _ (is xs seq) p
  · have e : i = xs.length := by omega
    subst e
    exact .inl ⟨⟨xs, seq, Nat.le_refl _⟩, hd D hD G p⟩
end
end Ct

/-! zip of three lists -/
namespace Ct
open PySem PySem.Spec PyProof.Rows L2
def Itz3 (K : PySem.W.Frag) (a b d : Addr) : It where
  go := fun i H => ∃ (xs ys zs : List V) (x y z : V), SqL K H a xs ∧ SqL K H b ys ∧ SqL K H d zs ∧ xs[i]? = some x ∧ ys[i]? = some y ∧ zs[i]? = some z
  yld := fun i H v H' => ∃ T x y z, v = .ref T ∧ H T = none ∧ H' = upd H T (.tup [x, y, z]) ∧ (∀ xs, SqL K H a xs → xs[i]? = some x) ∧ (∀ ys, SqL K H b ys → ys[i]? = some y) ∧ ∀ zs, SqL K H d zs → zs[i]? = some z
  stop := fun i H => ∃ xs ys zs : List V, SqL K H a xs ∧ SqL K H b ys ∧ SqL K H d zs ∧ min (min xs.length ys.length) zs.length = i
abbrev ZSt3 (a b d z TI TO i1 i2 i3 : Addr) (i : Nat) (h : Heap) : Prop :=
  IsZip h z TI TO .none ∧ IsTupOf3 h TI (.ref i1) (.ref i2) (.ref i3) ∧ (∃ a1 a2 a3, IsTupOf3 h TO a1 a2 a3) ∧ h.IsListIter i1 a i ∧ h.IsListIter i2 b i ∧ h.IsListIter i3 d i
theorem turnZ3 {P : Program} {w : World} {K : PySem.W.Frag} {es : List Expr} {kk : Nat} {tp : Pos} {a b d N : Nat} (ha : a < N) (hb : b < N) (hd : d < N) :
    Turn P w K (.Tuple es kk tp) (Itz3 K a b d) [N + 5, N + 3, N + 4, N, N + 1, N + 2] (N + 5) (ZSt3 a b d (N + 5) (N + 3) (N + 4) N (N + 1) (N + 2)) := by
  have sep : ZipSep3 (N + 5) (N + 3) (N + 4) N (N + 1) (N + 2) [N, a] [N + 1, b] [N + 2, d] := zip_sep3 (fun c hc => by rw [List.mem_singleton] at hc; rw [hc]; exact ha) (fun c hc => by rw [List.mem_singleton] at hc; rw [hc]; exact hb) fun c hc => by rw [List.mem_singleton] at hc; rw [hc]; exact hd
  have wrfp : ∀ {c : Nat}, c ∉ [N + 5, N + 3, N + 4, N, N + 1, N + 2] → c ∉ [N + 5, N + 4, N, N + 1, N + 2] := fun {c} hc hm => hc (by
    simp only [List.mem_cons, List.not_mem_nil, or_false] at hm ⊢
    omega)
  refine ⟨List.mem_cons_self, fun i h st c hc => ?_, fun i h h' st k => ?_, ?_, ?_, fun A i s Q E st h => wpAny_pyIter_zip st.1 h⟩
  · obtain ⟨s1, s2, ⟨u, v, y, s3⟩, ⟨o1, g1, _, d1⟩, ⟨o2, g2, _, d2⟩, ⟨o3, g3, _, d3⟩⟩ := st
    simp only [List.mem_cons, List.not_mem_nil, or_false] at hc
    rcases hc with e | e | e | e | e | e <;> subst e
    · exact ⟨_, s1, fun v q => nomatch q⟩
    · exact ⟨_, s2, fun v q => nomatch q⟩
    · exact ⟨_, s3, fun v q => nomatch q⟩
    · exact ⟨o1, g1, fun v q => by rw [d1] at q; cases q⟩
    · exact ⟨o2, g2, fun v q => by rw [d2] at q; cases q⟩
    · exact ⟨o3, g3, fun v q => by rw [d3] at q; cases q⟩
  · obtain ⟨s1, s2, ⟨u, v, y, s3⟩, s4, s5, s6⟩ := st
    exact ⟨k _ (by simp) _ s1, k _ (by simp) _ s2, ⟨u, v, y, k _ (by simp) _ s3⟩, s4.at fun o q => k N (by simp) o q, s5.at fun o q => k (N + 1) (by simp) o q, s6.at fun o q => k (N + 2) (by simp) o q⟩
  · intro X eP ew eK calm i pins s σ H E I hf st hg
    subst eP ew eK
    obtain ⟨xs, ys, zs, x, y, z, lx, ly, lz, gx, gy, gz⟩ := hg
    obtain ⟨us, rx, px, _⟩ := I.list lx
    obtain ⟨vs, ry, py, _⟩ := I.list ly
    obtain ⟨ts, rz, pz, _⟩ := I.list lz
    obtain ⟨s1, s2, s3, s4, s5, s6⟩ := st
    have hh : X.A.in1.handled = none := I.ok.hd calm
    have G := GoesN.zip3 (elts := es) (x1 := kk) (pos := tp) sep (Draws.list (prog := X.prog) (w := X.w) hh N a (Nat.ne_of_lt ha) us.toArray) (Draws.list (prog := X.prog) (w := X.w) hh (N + 1) b (Nat.ne_of_lt (Nat.lt_succ_of_lt hb)) vs.toArray) (Draws.list (prog := X.prog) (w := X.w) hh (N + 2) d (Nat.ne_of_lt (Nat.lt_succ_of_lt (Nat.lt_succ_of_lt hd))) ts.toArray)
    have lu := rx.length; have lv := ry.length; have lt := rz.length
    have ix : i < xs.length := (List.getElem?_eq_some_iff.mp gx).1
    have iy : i < ys.length := (List.getElem?_eq_some_iff.mp gy).1
    have iz : i < zs.length := (List.getElem?_eq_some_iff.mp gz).1
    refine G.goes i s _ E (by rw [List.size_toArray, List.size_toArray, List.size_toArray]; omega) ⟨s1, s2, s3, ⟨s4, px.isList⟩, ⟨s5, py.isList⟩, ⟨s6, pz.isList⟩⟩ fun v h' tk hY st' hk _ => ?_
    obtain ⟨T, u1, u2, u3, rfl, hT, q1, q2, q3, hTu⟩ := hY
    obtain ⟨w1, e1, r1⟩ := rx.get gx
    obtain ⟨w2, e2, r2⟩ := ry.get gy
    obtain ⟨w3, e3, r3⟩ := rz.get gz
    have f1 : w1 = u1 := Option.some.inj (e1.symm.trans (by simpa using q1))
    have f2 : w2 = u2 := Option.some.inj (e2.symm.trans (by simpa using q2))
    have f3 : w3 = u3 := Option.some.inj (e3.symm.trans (by simpa using q3))
    subst f1 f2 f3
    have new : ObjOk X.prog X.w (upd H T (.tup [x, y, z])) h' T (.tup [x, y, z]) := ⟨len2 rfl, [w1, w2, w3], .cons r1 (.cons r2 (.cons r3 .nil)), hTu⟩
    refine ⟨.ref T, _, I.turnedNew (t' := tk) (fun c o hc e => hk c o (wrfp hc) e) hf hT new, rfl, ⟨T, x, y, z, rfl, I.hok.fresh hT, rfl, fun l hl => by rw [I.list_inj hl lx]; exact gx, fun l hl => by rw [I.list_inj hl ly]; exact gy, fun l hl => by rw [I.list_inj hl lz]; exact gz⟩, ⟨st'.1, st'.2.1, st'.2.2.1, st'.2.2.2.1.1, st'.2.2.2.2.1.1, st'.2.2.2.2.2.1⟩, fun c hc => ?_⟩
    obtain ⟨o, g, _⟩ : ∃ o, s.heap.get? c = some o ∧ True := by
      obtain ⟨u, v, t, s3⟩ := s3
      obtain ⟨o1, g1, _⟩ := s4
      obtain ⟨o2, g2, _⟩ := s5
      obtain ⟨o3, g3, _⟩ := s6
      simp only [List.mem_cons, List.not_mem_nil, or_false] at hc
      rcases hc with e | e | e | e | e | e <;> subst e
      · exact ⟨_, s1, trivial⟩
      · exact ⟨_, s2, trivial⟩
      · exact ⟨_, s3, trivial⟩
      · exact ⟨_, g1, trivial⟩
      · exact ⟨_, g2, trivial⟩
      · exact ⟨_, g3, trivial⟩
    rw [upd_ne (Nat.ne_of_lt (Nat.lt_of_lt_of_le (Heap.lt_size g) hT))]
    exact (hf c hc).1
  · intro X eP ew eK calm i pins s σ H E I hf st hg
    subst eP ew eK
    obtain ⟨xs, ys, zs, lx, ly, lz, hm⟩ := hg
    obtain ⟨us, rx, px, _⟩ := I.list lx
    obtain ⟨vs, ry, py, _⟩ := I.list ly
    obtain ⟨ts, rz, pz, _⟩ := I.list lz
    obtain ⟨s1, s2, s3, s4, s5, s6⟩ := st
    have hh : X.A.in1.handled = none := I.ok.hd calm
    have G := GoesN.zip3 (elts := es) (x1 := kk) (pos := tp) sep (Draws.list (prog := X.prog) (w := X.w) hh N a (Nat.ne_of_lt ha) us.toArray) (Draws.list (prog := X.prog) (w := X.w) hh (N + 1) b (Nat.ne_of_lt (Nat.lt_succ_of_lt hb)) vs.toArray) (Draws.list (prog := X.prog) (w := X.w) hh (N + 2) d (Nat.ne_of_lt (Nat.lt_succ_of_lt (Nat.lt_succ_of_lt hd))) ts.toArray)
    have lu := rx.length; have lv := ry.length; have lt := rz.length
    have hn : min (min us.toArray.size vs.toArray.size) ts.toArray.size = i := by rw [List.size_toArray, List.size_toArray, List.size_toArray]; omega
    rw [hn] at G
    exact G.stops s _ E ⟨s1, s2, s3, ⟨s4, px.isList⟩, ⟨s5, py.isList⟩, ⟨s6, pz.isList⟩⟩ fun h' tk hk _ => I.turnedL (t' := tk) (fun c o hc e => hk c o (wrfp hc) e) hf
def iZ3 (K : PySem.W.Frag) (ta : TA) : TI := fun σ H R => ta σ H fun vs H1 => ∃ a b d xs ys zs, vs = [.ref a, .ref b, .ref d] ∧ SqL K H1 a xs ∧ SqL K H1 b ys ∧ SqL K H1 d zs ∧ R (Itz3 K a b d) H1
theorem pi_zip3 {X : Cx} {e e2 e3 : Expr} {ta : TA} {p pos tp : Pos} {es : List Expr} {kk : Nat} (gl : Gl X "zip") (mz : X.mg "zip" = none) (pa : PA X [e, e2, e3] ta)
    (se : starEach [e, e2, e3] X.env = (false, eval e X.env) :: starEach [e2, e3] X.env := by rfl) (bk : (backTo pos (starEach [e2, e3] X.env)).any (·.1) = false := by rfl) : PI X (.Tuple es kk tp) (.Call (.Name "zip" p) [e, e2, e3] [] pos) (iZ3 X.K ta) := by
  refine ⟨fun pins s σ H R I h => Call_ (ld_blt I gl mz boot_zip (callWith_type1 (thn (pa.run pos pins s σ H _ I h) fun us s1 ⟨vs, H1, I1, r1, q1⟩ => ?_) se bk))⟩
  obtain ⟨a, b, d, xs, ys, zs, rfl, lx, ly, lz, q⟩ := q1
  cases r1 with
  | cons ra rr => cases rr with
    | cons rb rs => cases rs with
      | cons rc rn =>
        cases rn
        cases ra
        cases rb
        cases rc
        obtain ⟨us, rx, px, _⟩ := I1.list lx
        obtain ⟨vs, ry, py, _⟩ := I1.list ly
        obtain ⟨ts, rz, pz, _⟩ := I1.list lz
        refine zip_begins3 (begins_list a us.toArray) (begins_list b vs.toArray) (begins_list d ts.toArray) px.isList py.isList pz.isList fun h' z1 z2 z3 g1 g2 g3 _ hk => wpAny_pyIter_zip z1 ?_
        have I2 : Inv X pins σ H1 { s1 with heap := h' } := I1.kept (t' := s1.toks) hk
        refine ⟨_, _, _, _, H1, rfl, I2, turnZ3 px.lt py.lt pz.lt, ⟨z1, z2, ⟨_, _, _, z3⟩, ⟨_, g1, rfl, rfl⟩, ⟨_, g2, rfl, rfl⟩, ⟨_, g3, rfl, rfl⟩⟩, fun c hc => ?_, q⟩
        have hle : s1.heap.objs.size ≤ c := by
          simp only [List.mem_cons, List.not_mem_nil, or_false] at hc
          rcases hc with e | e | e | e | e | e <;> subst e <;> first | exact Nat.le_add_right _ _ | exact Nat.le_refl _
        exact I1.fpOk hle (I1.hok.fresh hle)
section
variable {K : PySem.W.Frag} {H : Hp} {σ : L2.St} {D : Ends} {R : It → Hp → Prop}
def IZ3 (K : PySem.W.Frag) (vs : List V) (H : Hp) (R : It → Hp → Prop) : Prop := iZ3 K (fun _ H Q => Q vs H) [] H R
theorem w_iz3 {ta : TA} (h : ta σ H fun vs H1 => IZ3 K vs H1 R) : iZ3 K ta σ H R := h
theorem w_IZ3 {a b d : Addr} {xs ys zs : List V} (h1 : SqL K H a xs) (h2 : SqL K H b ys) (h3 : SqL K H d zs) (q : R (Itz3 K a b d) H) : IZ3 K [.ref a, .ref b, .ref d] H R := ⟨a, b, d, xs, ys, zs, rfl, h1, h2, h3, q⟩
theorem fb_zip3 {a b d : Addr} (xs ys zs : List V) (hl : xs.length = ys.length) (hl2 : xs.length = zs.length) {g : TG} {tb : TS} (Pv : Nat → L2.St → Hp → Prop) (h0 : Pv 0 σ H) (hq : ∀ i σ H, i ≤ xs.length → Pv i σ H → SqL K H a xs ∧ SqL K H b ys ∧ SqL K H d zs)
    (hs : ∀ i x y z T σ H, xs[i]? = some x → ys[i]? = some y → zs[i]? = some z → Pv i σ H → H T = none → g (.ref T) σ (upd H T (.tup [x, y, z])) fun σ2 H2 => tb { D with nx := Pv (i + 1), ct := Pv (i + 1), bk := D.nx } σ2 H2) (hd : ∀ σ H, Pv xs.length σ H → D.nx σ H) : FB (Itz3 K a b d) g tb D σ H := by
  refine ⟨fun i m σ H => m = xs.length - i ∧ i ≤ xs.length ∧ Pv i σ H, ⟨xs.length, rfl, Nat.zero_le _, h0⟩, ?_⟩
  rintro i m σ H ⟨rfl, hi, p⟩
  obtain ⟨q1, q2, q3⟩ := hq i σ H hi p
  by_cases hlt : i < xs.length
  · refine .inr ⟨⟨xs, ys, zs, _, _, _, q1, q2, q3, List.getElem?_eq_getElem hlt, List.getElem?_eq_getElem (hl ▸ hlt), List.getElem?_eq_getElem (hl2 ▸ hlt)⟩, Pv (i + 1), fun σ' H' p' => ⟨xs.length - (i + 1), by omega, rfl, hlt, p'⟩, fun v H' y => ?_⟩
    obtain ⟨T, x1, x2, x3, rfl, hT, rfl, f1, f2, f3⟩ := y
    exact hs i x1 x2 x3 T σ H (f1 _ q1) (f2 _ q2) (f3 _ q3) p hT
  · exact .inl ⟨⟨xs, ys, zs, q1, q2, q3, by omega⟩, hd σ H (by rw [show xs.length = i by omega]; exact p)⟩
end
end Ct

/-! zip of a tuple and two lists -/
namespace Ct
open PySem PySem.Spec PyProof.Rows L2
def Itt3 (K : PySem.W.Frag) (a b d : Addr) : It where
  go := fun i H => ∃ (xs ys zs : List V) (x y z : V), SqT K H a xs ∧ SqL K H b ys ∧ SqL K H d zs ∧ xs[i]? = some x ∧ ys[i]? = some y ∧ zs[i]? = some z
  yld := fun i H v H' => ∃ T x y z, v = .ref T ∧ H T = none ∧ H' = upd H T (.tup [x, y, z]) ∧ (∀ xs, SqT K H a xs → xs[i]? = some x) ∧ (∀ ys, SqL K H b ys → ys[i]? = some y) ∧ ∀ zs, SqL K H d zs → zs[i]? = some z
  stop := fun i H => ∃ xs ys zs : List V, SqT K H a xs ∧ SqL K H b ys ∧ SqL K H d zs ∧ min (min xs.length ys.length) zs.length = i
abbrev ZSw3 (a b d z TI TO i1 i2 i3 : Addr) (i : Nat) (h : Heap) : Prop :=
  IsZip h z TI TO .none ∧ IsTupOf3 h TI (.ref i1) (.ref i2) (.ref i3) ∧ (∃ a1 a2 a3, IsTupOf3 h TO a1 a2 a3) ∧ h.IsTupleIter i1 a i ∧ h.IsListIter i2 b i ∧ h.IsListIter i3 d i
theorem turnT3 {P : Program} {w : World} {K : PySem.W.Frag} {es : List Expr} {kk : Nat} {tp : Pos} {a b d N : Nat} (ha : a < N) (hb : b < N) (hd : d < N) :
    Turn P w K (.Tuple es kk tp) (Itt3 K a b d) [N + 5, N + 3, N + 4, N, N + 1, N + 2] (N + 5) (ZSw3 a b d (N + 5) (N + 3) (N + 4) N (N + 1) (N + 2)) := by
  have sep : ZipSep3 (N + 5) (N + 3) (N + 4) N (N + 1) (N + 2) [N, a] [N + 1, b] [N + 2, d] := zip_sep3 (fun c hc => by rw [List.mem_singleton] at hc; rw [hc]; exact ha) (fun c hc => by rw [List.mem_singleton] at hc; rw [hc]; exact hb) fun c hc => by rw [List.mem_singleton] at hc; rw [hc]; exact hd
  have wrfp : ∀ {c : Nat}, c ∉ [N + 5, N + 3, N + 4, N, N + 1, N + 2] → c ∉ [N + 5, N + 4, N, N + 1, N + 2] := fun {c} hc hm => hc (by
    simp only [List.mem_cons, List.not_mem_nil, or_false] at hm ⊢
    omega)
  refine ⟨List.mem_cons_self, fun i h st c hc => ?_, fun i h h' st k => ?_, ?_, ?_, fun A i s Q E st h => wpAny_pyIter_zip st.1 h⟩
  · obtain ⟨s1, s2, ⟨u, v, y, s3⟩, ⟨o1, g1, _, d1⟩, ⟨o2, g2, _, d2⟩, ⟨o3, g3, _, d3⟩⟩ := st
    simp only [List.mem_cons, List.not_mem_nil, or_false] at hc
    rcases hc with e | e | e | e | e | e <;> subst e
    · exact ⟨_, s1, fun v q => nomatch q⟩
    · exact ⟨_, s2, fun v q => nomatch q⟩
    · exact ⟨_, s3, fun v q => nomatch q⟩
    · exact ⟨o1, g1, fun v q => by rw [d1] at q; cases q⟩
    · exact ⟨o2, g2, fun v q => by rw [d2] at q; cases q⟩
    · exact ⟨o3, g3, fun v q => by rw [d3] at q; cases q⟩
  · obtain ⟨s1, s2, ⟨u, v, y, s3⟩, s4, s5, s6⟩ := st
    exact ⟨k _ (by simp) _ s1, k _ (by simp) _ s2, ⟨u, v, y, k _ (by simp) _ s3⟩, s4.at fun o q => k N (by simp) o q, s5.at fun o q => k (N + 1) (by simp) o q, s6.at fun o q => k (N + 2) (by simp) o q⟩
  · intro X eP ew eK calm i pins s σ H E I hf st hg
    subst eP ew eK
    obtain ⟨xs, ys, zs, x, y, z, lx, ly, lz, gx, gy, gz⟩ := hg
    obtain ⟨us, rx, px, _⟩ := I.tuple lx
    obtain ⟨vs, ry, py, _⟩ := I.list ly
    obtain ⟨ts, rz, pz, _⟩ := I.list lz
    obtain ⟨s1, s2, s3, s4, s5, s6⟩ := st
    have hh : X.A.in1.handled = none := I.ok.hd calm
    have G := GoesN.zip3 (elts := es) (x1 := kk) (pos := tp) sep (Draws.tuple (prog := X.prog) (w := X.w) hh N a (Nat.ne_of_lt ha) us.toArray) (Draws.list (prog := X.prog) (w := X.w) hh (N + 1) b (Nat.ne_of_lt (Nat.lt_succ_of_lt hb)) vs.toArray) (Draws.list (prog := X.prog) (w := X.w) hh (N + 2) d (Nat.ne_of_lt (Nat.lt_succ_of_lt (Nat.lt_succ_of_lt hd))) ts.toArray)
    have lu := rx.length; have lv := ry.length; have lt := rz.length
    have ix : i < xs.length := (List.getElem?_eq_some_iff.mp gx).1
    have iy : i < ys.length := (List.getElem?_eq_some_iff.mp gy).1
    have iz : i < zs.length := (List.getElem?_eq_some_iff.mp gz).1
    refine G.goes i s _ E (by rw [List.size_toArray, List.size_toArray, List.size_toArray]; omega) ⟨s1, s2, s3, ⟨s4, px⟩, ⟨s5, py.isList⟩, ⟨s6, pz.isList⟩⟩ fun v h' tk hY st' hk _ => ?_
    obtain ⟨T, u1, u2, u3, rfl, hT, q1, q2, q3, hTu⟩ := hY
    obtain ⟨w1, e1, r1⟩ := rx.get gx
    obtain ⟨w2, e2, r2⟩ := ry.get gy
    obtain ⟨w3, e3, r3⟩ := rz.get gz
    have f1 : w1 = u1 := Option.some.inj (e1.symm.trans (by simpa using q1))
    have f2 : w2 = u2 := Option.some.inj (e2.symm.trans (by simpa using q2))
    have f3 : w3 = u3 := Option.some.inj (e3.symm.trans (by simpa using q3))
    subst f1 f2 f3
    have new : ObjOk X.prog X.w (upd H T (.tup [x, y, z])) h' T (.tup [x, y, z]) := ⟨len2 rfl, [w1, w2, w3], .cons r1 (.cons r2 (.cons r3 .nil)), hTu⟩
    refine ⟨.ref T, _, I.turnedNew (t' := tk) (fun c o hc e => hk c o (wrfp hc) e) hf hT new, rfl, ⟨T, x, y, z, rfl, I.hok.fresh hT, rfl, fun l hl => by rw [I.tuple_inj hl lx]; exact gx, fun l hl => by rw [I.list_inj hl ly]; exact gy, fun l hl => by rw [I.list_inj hl lz]; exact gz⟩, ⟨st'.1, st'.2.1, st'.2.2.1, st'.2.2.2.1.1, st'.2.2.2.2.1.1, st'.2.2.2.2.2.1⟩, fun c hc => ?_⟩
    obtain ⟨o, g, _⟩ : ∃ o, s.heap.get? c = some o ∧ True := by
      obtain ⟨u, v, t, s3⟩ := s3
      obtain ⟨o1, g1, _⟩ := s4
      obtain ⟨o2, g2, _⟩ := s5
      obtain ⟨o3, g3, _⟩ := s6
      simp only [List.mem_cons, List.not_mem_nil, or_false] at hc
      rcases hc with e | e | e | e | e | e <;> subst e
      · exact ⟨_, s1, trivial⟩
      · exact ⟨_, s2, trivial⟩
      · exact ⟨_, s3, trivial⟩
      · exact ⟨_, g1, trivial⟩
      · exact ⟨_, g2, trivial⟩
      · exact ⟨_, g3, trivial⟩
    rw [upd_ne (Nat.ne_of_lt (Nat.lt_of_lt_of_le (Heap.lt_size g) hT))]
    exact (hf c hc).1
  · intro X eP ew eK calm i pins s σ H E I hf st hg
    subst eP ew eK
    obtain ⟨xs, ys, zs, lx, ly, lz, hm⟩ := hg
    obtain ⟨us, rx, px, _⟩ := I.tuple lx
    obtain ⟨vs, ry, py, _⟩ := I.list ly
    obtain ⟨ts, rz, pz, _⟩ := I.list lz
    obtain ⟨s1, s2, s3, s4, s5, s6⟩ := st
    have hh : X.A.in1.handled = none := I.ok.hd calm
    have G := GoesN.zip3 (elts := es) (x1 := kk) (pos := tp) sep (Draws.tuple (prog := X.prog) (w := X.w) hh N a (Nat.ne_of_lt ha) us.toArray) (Draws.list (prog := X.prog) (w := X.w) hh (N + 1) b (Nat.ne_of_lt (Nat.lt_succ_of_lt hb)) vs.toArray) (Draws.list (prog := X.prog) (w := X.w) hh (N + 2) d (Nat.ne_of_lt (Nat.lt_succ_of_lt (Nat.lt_succ_of_lt hd))) ts.toArray)
    have lu := rx.length; have lv := ry.length; have lt := rz.length
    have hn : min (min us.toArray.size vs.toArray.size) ts.toArray.size = i := by rw [List.size_toArray, List.size_toArray, List.size_toArray]; omega
    rw [hn] at G
    exact G.stops s _ E ⟨s1, s2, s3, ⟨s4, px⟩, ⟨s5, py.isList⟩, ⟨s6, pz.isList⟩⟩ fun h' tk hk _ => I.turnedL (t' := tk) (fun c o hc e => hk c o (wrfp hc) e) hf
def iT3 (K : PySem.W.Frag) (ta : TA) : TI := fun σ H R => ta σ H fun vs H1 => ∃ a b d xs ys zs, vs = [.ref a, .ref b, .ref d] ∧ SqT K H1 a xs ∧ SqL K H1 b ys ∧ SqL K H1 d zs ∧ R (Itt3 K a b d) H1
theorem pi_zipT3 {X : Cx} {e e2 e3 : Expr} {ta : TA} {p pos tp : Pos} {es : List Expr} {kk : Nat} (gl : Gl X "zip") (mz : X.mg "zip" = none) (pa : PA X [e, e2, e3] ta)
    (se : starEach [e, e2, e3] X.env = (false, eval e X.env) :: starEach [e2, e3] X.env := by rfl) (bk : (backTo pos (starEach [e2, e3] X.env)).any (·.1) = false := by rfl) : PI X (.Tuple es kk tp) (.Call (.Name "zip" p) [e, e2, e3] [] pos) (iT3 X.K ta) := by
  refine ⟨fun pins s σ H R I h => Call_ (ld_blt I gl mz boot_zip (callWith_type1 (thn (pa.run pos pins s σ H _ I h) fun us s1 ⟨vs, H1, I1, r1, q1⟩ => ?_) se bk))⟩
  obtain ⟨a, b, d, xs, ys, zs, rfl, lx, ly, lz, q⟩ := q1
  cases r1 with
  | cons ra rr => cases rr with
    | cons rb rs => cases rs with
      | cons rc rn =>
        cases rn
        cases ra
        cases rb
        cases rc
        obtain ⟨us, rx, px, _⟩ := I1.tuple lx
        obtain ⟨vs, ry, py, _⟩ := I1.list ly
        obtain ⟨ts, rz, pz, _⟩ := I1.list lz
        obtain ⟨ob, gb, _⟩ := id px
        refine zip_begins3 (begins_tuple a us.toArray) (begins_list b vs.toArray) (begins_list d ts.toArray) px py.isList pz.isList fun h' z1 z2 z3 g1 g2 g3 _ hk => wpAny_pyIter_zip z1 ?_
        have I2 : Inv X pins σ H1 { s1 with heap := h' } := I1.kept (t' := s1.toks) hk
        refine ⟨_, _, _, _, H1, rfl, I2, turnT3 (Heap.lt_size gb) py.lt pz.lt, ⟨z1, z2, ⟨_, _, _, z3⟩, ⟨_, g1, rfl, rfl⟩, ⟨_, g2, rfl, rfl⟩, ⟨_, g3, rfl, rfl⟩⟩, fun c hc => ?_, q⟩
        have hle : s1.heap.objs.size ≤ c := by
          simp only [List.mem_cons, List.not_mem_nil, or_false] at hc
          rcases hc with e | e | e | e | e | e <;> subst e <;> first | exact Nat.le_add_right _ _ | exact Nat.le_refl _
        exact I1.fpOk hle (I1.hok.fresh hle)
section
variable {K : PySem.W.Frag} {H : Hp} {σ : L2.St} {D : Ends} {R : It → Hp → Prop}
def IT3 (K : PySem.W.Frag) (vs : List V) (H : Hp) (R : It → Hp → Prop) : Prop := iT3 K (fun _ H Q => Q vs H) [] H R
theorem w_it3 {ta : TA} (h : ta σ H fun vs H1 => IT3 K vs H1 R) : iT3 K ta σ H R := h
theorem w_IT3 {a b d : Addr} {xs ys zs : List V} (h1 : SqT K H a xs) (h2 : SqL K H b ys) (h3 : SqL K H d zs) (q : R (Itt3 K a b d) H) : IT3 K [.ref a, .ref b, .ref d] H R := ⟨a, b, d, xs, ys, zs, rfl, h1, h2, h3, q⟩
theorem fb_zipT3 {a b d : Addr} (xs ys zs : List V) (hl : xs.length ≤ ys.length) (hl2 : xs.length ≤ zs.length) {g : TG} {tb : TS} (Pv : Nat → L2.St → Hp → Prop) (h0 : Pv 0 σ H) (hq : ∀ i σ H, i ≤ xs.length → Pv i σ H → SqT K H a xs ∧ SqL K H b ys ∧ SqL K H d zs)
    (hs : ∀ i x y z T σ H, xs[i]? = some x → ys[i]? = some y → zs[i]? = some z → Pv i σ H → H T = none → g (.ref T) σ (upd H T (.tup [x, y, z])) fun σ2 H2 => tb { D with nx := Pv (i + 1), ct := Pv (i + 1), bk := D.nx } σ2 H2) (hd : ∀ σ H, Pv xs.length σ H → D.nx σ H) : FB (Itt3 K a b d) g tb D σ H := by
  refine ⟨fun i m σ H => m = xs.length - i ∧ i ≤ xs.length ∧ Pv i σ H, ⟨xs.length, rfl, Nat.zero_le _, h0⟩, ?_⟩
  rintro i m σ H ⟨rfl, hi, p⟩
  obtain ⟨q1, q2, q3⟩ := hq i σ H hi p
  by_cases hlt : i < xs.length
  · refine .inr ⟨⟨xs, ys, zs, _, _, _, q1, q2, q3, List.getElem?_eq_getElem hlt, List.getElem?_eq_getElem (Nat.lt_of_lt_of_le hlt hl), List.getElem?_eq_getElem (Nat.lt_of_lt_of_le hlt hl2)⟩, Pv (i + 1), fun σ' H' p' => ⟨xs.length - (i + 1), by omega, rfl, hlt, p'⟩, fun v H' y => ?_⟩
    obtain ⟨T, x1, x2, x3, rfl, hT, rfl, f1, f2, f3⟩ := y
    exact hs i x1 x2 x3 T σ H (f1 _ q1) (f2 _ q2) (f3 _ q3) p hT
  · exact .inl ⟨⟨xs, ys, zs, q1, q2, q3, by omega⟩, hd σ H (by rw [show xs.length = i by omega]; exact p)⟩
end
end Ct

/-! dicts whose keys are tuples in tuples -/
namespace Ct
open PySem PySem.Spec PyProof.Rows L2
mutual
def nkD : NestedKey → PyData
  | .none => .none
  | .num i => .int i
  | .text x => .str x
  | .tup ks => .tuple (nkAll ks)
def nkAll : List NestedKey → List PyData
  | [] => []
  | k :: ks => nkD k :: nkAll ks
end
section
variable {X : Cx} {pins : List (Addr × Obj)} {σ : L2.St} {H : Hp} {s : Shared}
mutual
theorem nested_is (J : Inv X pins σ H s) : ∀ (k : NestedKey) {v : V} {u : Value}, Dp X.K H v (nkD k) → RelV v u → NestedIs s.heap k u
  | .none, v, u, h, r => by
    rw [nkD] at h
    cases h
    cases (show u = Value.none from r)
    exact .none
  | .num i, v, u, h, r => by
    rw [nkD] at h
    cases h
    obtain ⟨t, rfl⟩ := (show ∃ t, u = Value.int i t from r)
    exact .int i t
  | .text x, v, u, h, r => by
    rw [nkD] at h
    cases h
    obtain ⟨t, rfl⟩ := (show ∃ t, u = Value.str x t from r)
    exact .text x t
  | .tup ks, v, u, h, r => by
    rw [nkD] at h
    obtain ⟨a, vs, rfl, hs, ht⟩ := tup_inv h
    cases (show u = Value.ref a from r)
    obtain ⟨its, rv, ⟨o, h1, h2, n, h3⟩, _⟩ := J.tuple hs
    exact .tup h1 h2 h3 (by simpa using nested_all J ks ht rv)
theorem nested_all (J : Inv X pins σ H s) : ∀ (ks : List NestedKey) {vs : List V} {us : List Value}, DpAll X.K H vs (nkAll ks) → Vals vs us → NestedAll s.heap ks us
  | [], vs, us, h, r => by
    rw [nkAll] at h
    cases h
    cases r
    exact .nil
  | k :: ks, vs, us, h, r => by
    rw [nkAll] at h
    cases h with
    | cons h1 h2 => cases r with
      | cons r1 r2 => exact .cons (nested_is J k h1 r1) (nested_all J ks h2 r2)
end
end
/-- the dict's own object -/
def NdO (w : World) (a : Addr) (xs : List (NestedKey × Addr × Value)) : HO := .ext fun h => ∃ (o : Obj) (es : Array DictEntry) (ep : Nat), h.get? a = some o ∧ o.ExactDict ∧ o.data = .dict es ep ∧ es.toList = xs.map fun x => ⟨x.1.hash w, .ref x.2.1, x.2.2⟩
abbrev NdP (K : PySem.W.Frag) (H : Hp) : List (NestedKey × V) → List (NestedKey × Addr × Value) → Prop := Paired fun p q => p.1 = q.1 ∧ p.1.depth ≤ 8 ∧ Dp K H (.ref q.2.1) (nkD p.1) ∧ RelV p.2 q.2.2
/-- a dict with such keys: its pairs -/
def NdAt (w : World) (K : PySem.W.Frag) (H : Hp) (a : Addr) (kvs : List (NestedKey × V)) : Prop := (a == sysModules) = false ∧ kvs.length ≤ sizeLine ∧ (kvs.map (·.1)).Nodup ∧ ∃ xs, H a = some (NdO w a xs) ∧ NdP K H kvs xs
theorem ndP_keys {K : PySem.W.Frag} {H : Hp} : ∀ {kvs : List (NestedKey × V)} {xs : List (NestedKey × Addr × Value)}, NdP K H kvs xs → kvs.map (·.1) = xs.map (·.1)
  | _, _, .nil => rfl
  | _, _, .cons h t => by rw [List.map_cons, List.map_cons, h.1, ndP_keys t]
theorem ndP_same {K : PySem.W.Frag} {H H' : Hp} (d : ∀ b k, Dp K H (.ref b) (nkD k) → Dp K H' (.ref b) (nkD k)) : ∀ {kvs : List (NestedKey × V)} {xs : List (NestedKey × Addr × Value)}, NdP K H kvs xs → NdP K H' kvs xs
  | _, _, .nil => .nil
  | _, _, .cons h t => .cons ⟨h.1, h.2.1, d _ _ h.2.2.1, h.2.2.2⟩ (ndP_same d t)
theorem NdAt.same {w : World} {K : PySem.W.Frag} {H H' : Hp} {a : Addr} {kvs : List (NestedKey × V)} (s : Same H H') (h : NdAt w K H a kvs) : NdAt w K H' a kvs := by
  obtain ⟨h1, h2, h3, xs, h4, h5⟩ := h
  exact ⟨h1, h2, h3, xs, s _ _ h4, ndP_same (fun _ _ d => dp_same s d) h5⟩
section
variable {X : Cx} {pins : List (Addr × Obj)} {σ : L2.St} {H : Hp} {s : Shared} {a b : Addr} {kvs : List (NestedKey × V)} {k : NestedKey}
theorem nd_is (J : Inv X pins σ H s) : ∀ {kvs : List (NestedKey × V)} {xs : List (NestedKey × Addr × Value)}, NdP X.K H kvs xs → ∀ x ∈ xs, (nestedKind X.prog X.w).is s.heap x.1 x.2.1
  | _, _, .cons (a := p) (b := q) h t, x, hx => by
    rcases List.mem_cons.mp hx with rfl | hx
    · exact ⟨nested_is J _ (v := .ref x.2.1) (by rw [← h.1]; exact h.2.2.1) rfl, by rw [← h.1]; exact h.2.1⟩
    · exact nd_is J t x hx
theorem nd_heap (J : Inv X pins σ H s) {xs : List (NestedKey × Addr × Value)} (hx : H a = some (NdO X.w a xs)) (hp : NdP X.K H kvs xs) (nd : (kvs.map (·.1)).Nodup) : s.heap.DictOfH (nestedKind X.prog X.w) a xs := by
  obtain ⟨⟨o, es, ep, h1, h2, h3, h4⟩, _, _⟩ := (show ObjOk X.prog X.w H s.heap a (NdO X.w a xs) from J.hok a _ hx)
  exact ⟨o, es, ep, h1, h2, h3, h4, nd_is J hp, by rw [← ndP_keys hp]; exact nd⟩
theorem nd_val : ∀ {kvs : List (NestedKey × V)} {xs : List (NestedKey × Addr × Value)}, NdP X.K H kvs xs → RelO (valV kvs k) ((atKey xs k).map (·.2))
  | _, _, .nil => True.intro
  | _, _, .cons (a := p) (b := q) h t => by
    obtain ⟨h1, _, _, h2⟩ := h
    by_cases e : p.1 = k
    · have e2 : q.1 = k := h1.symm.trans e
      have z : ∀ l, atKey (q :: l) k = some q.2 := fun l => by simp [atKey, List.find?_cons, e2]
      rw [valV_pos e, z]
      exact h2
    · have e2 : ¬ q.1 = k := fun z => e (h1.trans z)
      have z : ∀ l, atKey (q :: l) k = atKey l k := fun l => by simp [atKey, List.find?_cons, e2]
      rw [valV_neg e, z]
      exact nd_val t
theorem ndO_ok {xs : List (NestedKey × Addr × Value)} {P : Program} {w : World} {h : Heap} (z : h.DictOfH (nestedKind P w) a xs) : ObjOk P w H h a (NdO w a xs) := by
  obtain ⟨o, es, ep, h1, h2, h3, h4, _, _⟩ := z
  exact ⟨⟨o, es, ep, h1, h2, h3, h4⟩, ⟨o, h1⟩, fun _ _ ⟨o, es, ep, g1, g2, g3, g4⟩ keep => ⟨o, es, ep, keep o g1, g2, g3, g4⟩⟩
end
/-- what is asked of such a dict at the key at b -/
def NdGet (w : World) (K : PySem.W.Frag) (H : Hp) (a : Addr) (y : V) (r : Option V) : Prop := ∃ kvs k b, y = .ref b ∧ NdAt w K H a kvs ∧ k.depth ≤ 8 ∧ Dp K H (.ref b) (nkD k) ∧ r = valV kvs k
def tNdNotIn (w : World) (K : PySem.W.Frag) (ty td : TE) : TE := fun σ H Q => ty σ H fun y H1 => td σ H1 fun x H2 => ∃ a o, x = .ref a ∧ NdGet w K H2 a y o ∧ Q (.bl (!o.isSome)) H2
def tNdGet (w : World) (K : PySem.W.Frag) (td ty : TE) : TE := fun σ H Q => td σ H fun x H1 => ty σ H1 fun y H2 => ∃ a v, x = .ref a ∧ NdGet w K H2 a y (some v) ∧ Q v H2
/-- a new key is put in: the dict's pairs grow; what else was tracked stays -/
def sNdPut (w : World) (K : PySem.W.Frag) (td ty tv : TE) : TS := fun D σ H => tv σ H fun v H1 => td σ H1 fun x H2 => ty σ H2 fun y H3 => ∃ a b kvs k, x = .ref a ∧ y = .ref b ∧ NdAt w K H3 a kvs ∧ k.depth ≤ 8 ∧ Dp K H3 (.ref b) (nkD k) ∧ valV kvs k = none ∧ kvs.length < sizeLine ∧
  ∀ o, NdAt w K (upd H3 a o) a (kvs ++ [(k, v)]) → D.nx σ (upd H3 a o)
def tNdNew (w : World) (K : PySem.W.Frag) : TE := fun _ H Q => ∀ p, H p = none → ∀ o, NdAt w K (upd H p o) p [] → Q (.ref p) (upd H p o)
section
variable {X : Cx} {o i value : Expr} {ty td tv : TE} {pos pos' : Pos}
theorem room_nd (room : X.A.units + 64 < cLine) : (nestedKind X.prog X.w).room X.A.in1 := by
  show X.A.in1.units + 8 < cLine
  have : X.A.in1.units = X.A.units + 1 := rfl
  omega
theorem pc_ndnotin (room : X.A.units + 64 < cLine) (hi : PE X i ty) (ho : PE X o td) : PC X .NotIn i o (tNdNotIn X.w X.K ty td) := by
  constructor
  intro pins s σ H Q J h
  refine thn (hi.run pins s σ H _ J h) ?_
  rintro iv s1 ⟨y, H1, J1, ry, q1⟩
  refine thn (ho.run pins s1 σ H1 _ J1 q1) ?_
  rintro u s2 ⟨x, H2, J2, rx, a, ov, rfl, ⟨kvs, k, b, rfl, ⟨sys, _, nd, xs, hx, hp⟩, dk, db, rfl⟩, q2⟩
  cases (show u = Value.ref a from rx)
  cases (show iv = Value.ref b from ry)
  refine wpAny_notIn_heap (room_nd room) ⟨nested_is J2 k db rfl, dk⟩ sys (nd_heap J2 hx hp nd) ?_
  have e := (nd_val (X := X) (k := k) hp).isSome_eq
  rw [Option.isSome_map] at e
  rw [← e]
  exact ⟨.bl _, H2, J2.tok _, rfl, q2⟩
theorem pe_ndget (room : X.A.units + 64 < cLine) (ho : PE X o td) (hi : PE X i ty) (ns : NoSl i) : PE X (.Subscript o i pos) (tNdGet X.w X.K td ty) := by
  constructor
  intro pins s σ H Q J h
  refine subD_of PySem.F.slot_dict_getitem.lookup ns (thn (ho.run pins s σ H _ J h) ?_)
  rintro u s1 ⟨x, H1, J1, rx, q1⟩
  refine thn (hi.run pins s1 σ H1 _ J1 q1) ?_
  rintro iv s2 ⟨y, H2, J2, ry, a, v, rfl, ⟨kvs, k, b, rfl, ⟨sys, _, nd, xs, hx, hp⟩, dk, db, l⟩, q2⟩
  cases (show u = Value.ref a from rx)
  cases (show iv = Value.ref b from ry)
  have dd := nd_heap J2 hx hp nd
  obtain ⟨w', hw, rw'⟩ := RelO.some_of (v := v) (o := (atKey xs k).map (·.2)) (by rw [l]; exact nd_val (X := X) hp)
  obtain ⟨p, hp1, hp2⟩ := Option.map_eq_some_iff.mp hw
  refine ⟨dd.typeIs, wpAny_getItem_heap (room_nd room) ⟨nested_is J2 k db rfl, dk⟩ dd hp1 ?_⟩
  rw [hp2]
  exact ⟨v, H2, J2.tok _, rw', q2⟩
mutual
/-- tuples stand aside when the dict is changed -/
theorem dp_aside {K : PySem.W.Frag} {H : Hp} {a : Addr} {w : World} {xs : List (NestedKey × Addr × Value)} {u : HO} (ha : H a = some (NdO w a xs)) : ∀ (k : NestedKey) {v : V}, Dp K H v (nkD k) → Dp K (upd H a u) v (nkD k)
  | .none, _, h => by rw [nkD] at h ⊢; cases h; exact .non
  | .num _, _, h => by rw [nkD] at h ⊢; cases h; exact .int _
  | .text _, _, h => by rw [nkD] at h ⊢; cases h; exact .str _
  | .tup ks, _, h => by
    rw [nkD] at h ⊢
    obtain ⟨c, vs, rfl, hs, ht⟩ := tup_inv h
    refine .tup ?_ (dpAll_aside ha ks ht)
    rcases hs with (z | ⟨o, z⟩) | z
    · exact .inl (.inl (by rw [upd_ne (ne_of z ha (fun q => nomatch q))]; exact z))
    · exact .inl (.inr ⟨o, by rw [upd_ne (ne_of z ha (fun q => nomatch q))]; exact z⟩)
    · exact .inr z
theorem dpAll_aside {K : PySem.W.Frag} {H : Hp} {a : Addr} {w : World} {xs : List (NestedKey × Addr × Value)} {u : HO} (ha : H a = some (NdO w a xs)) : ∀ (ks : List NestedKey) {vs : List V}, DpAll K H vs (nkAll ks) → DpAll K (upd H a u) vs (nkAll ks)
  | [], _, h => by rw [nkAll] at h ⊢; cases h; exact .nil
  | k :: ks, _, h => by
    rw [nkAll] at h ⊢
    cases h with
    | cons h1 h2 => exact .cons (dp_aside ha k h1) (dpAll_aside ha ks h2)
end
theorem ps_ndput (room : X.A.units + 64 < cLine) (ho : PE X o td) (hi : PE X i ty) (hv : PE X value tv) (ns : swapsWith value (some (.Subscript o i pos')) pos.line X.env = pure false) :
    PS X (.Assign [.Subscript o i pos'] value pos) (sNdPut X.w X.K td ty tv) := by
  constructor
  intro pins s σ H D J h
  refine wpAny_Assign_Subscript (thn (hv.run pins s σ H _ J h) ?_) ns
  rintro r s1 ⟨v, H1, J1, rv, q1⟩
  refine thn (ho.run pins s1 σ H1 _ J1 q1) ?_
  rintro u s2 ⟨x, H2, J2, rx, q2⟩
  refine thn (hi.run pins s2 σ H2 _ J2 q2) ?_
  rintro iv s3 ⟨y, H3, J3, ry, a, b, kvs, k, rfl, rfl, ⟨sys, small, nd, xs, hx, hp⟩, dk, db, new, few, q3⟩
  cases (show u = Value.ref a from rx)
  cases (show iv = Value.ref b from ry)
  have dd := nd_heap J3 hx hp nd
  have xl : xs.length ≤ sizeLine := by rw [← Paired.length hp]; exact small
  have none_ : (atKey xs k).isSome = false := by
    have e := (nd_val (X := X) (k := k) hp).isSome_eq
    rw [Option.isSome_map, new] at e
    exact e.symm
  have st : storedH xs k b r = xs ++ [(k, b, r)] := by
    unfold storedH
    rw [none_]
    rfl
  refine wpAny_setItem_heap (hsz := xl) (room_nd room) ⟨nested_is J3 k db rfl, dk⟩ dd ?_
  intro h' dd' same
  rw [st] at dd'
  have at_ : ∃ q, h'.get? a = some q := let ⟨q, _, _, hq, _⟩ := dd'; ⟨q, hq⟩
  have nin : k ∉ kvs.map (·.1) := valV_not new
  refine ⟨σ, _, d_write J3 (by rw [hx]; exact True.intro) same at_ (ndO_ok dd'), q3 _ ⟨sys, by rw [List.length_append]; show kvs.length + 1 ≤ sizeLine; omega, ?_, _, upd_same, ?_⟩⟩
  · rw [List.map_append]
    exact List.nodup_append.mpr ⟨nd, List.nodup_cons.mpr ⟨List.not_mem_nil, List.nodup_nil⟩, fun p hp q hq z => nin (by rw [List.map_singleton, List.mem_singleton] at hq; rw [← show q = k from hq, ← z]; exact hp)⟩
  · exact Paired.snoc (ndP_same (fun _ k d => dp_aside hx k d) hp) ⟨rfl, dk, dp_aside hx k db, rv⟩
theorem pe_dnewN : PE X (.Dict [] [] pos) (tNdNew X.w X.K) := by
  constructor
  intro pins s σ H Q J h
  have big := J.big
  refine wpAny_Dict_empty ⟨.ref s.heap.objs.size, _, J.laid (a := s.heap.objs.size) (o := NdO X.w s.heap.objs.size []) (t' := s.toks) (fun _ _ q => Heap.get?_push_of_some _ q) (Nat.le_refl _) (ndO_ok (Heap.DictOfH.new s.heap)), rfl, h _ (J.hok.fresh (Nat.le_refl _)) _ ⟨beq_eq_false_iff_ne.mpr (Ne.symm (Nat.ne_of_lt big)), Nat.zero_le _, List.nodup_nil, [], upd_same, .nil⟩⟩
end
section
variable {w : World} {K : PySem.W.Frag} {H : Hp} {σ : L2.St} {D : Ends} {Q : VK}
theorem w_ndnotin {ty td : TE} (h : ty σ H fun y H1 => td σ H1 fun x H2 => ∃ a o, x = .ref a ∧ NdGet w K H2 a y o ∧ Q (.bl (!o.isSome)) H2) : tNdNotIn w K ty td σ H Q := h
theorem w_ndget {td ty : TE} (h : td σ H fun x H1 => ty σ H1 fun y H2 => ∃ a v, x = .ref a ∧ NdGet w K H2 a y (some v) ∧ Q v H2) : tNdGet w K td ty σ H Q := h
theorem w_ndput {td ty tv : TE} (h : tv σ H fun v H1 => td σ H1 fun x H2 => ty σ H2 fun y H3 => ∃ a b kvs k, x = .ref a ∧ y = .ref b ∧ NdAt w K H3 a kvs ∧ k.depth ≤ 8 ∧ Dp K H3 (.ref b) (nkD k) ∧ valV kvs k = none ∧ kvs.length < sizeLine ∧ ∀ o, NdAt w K (upd H3 a o) a (kvs ++ [(k, v)]) → D.nx σ (upd H3 a o)) : sNdPut w K td ty tv D σ H := h
theorem w_ndnew (h : ∀ p, H p = none → ∀ o, NdAt w K (upd H p o) p [] → Q (.ref p) (upd H p o)) : tNdNew w K σ H Q := h
end
end Ct

/-! sorted(..) of a list of any data of one shape -/
namespace Ct
open PySem PySem.Spec PyProof.Rows L2
section
variable {X : Cx} {pins : List (Addr × Obj)} {σ : L2.St} {H : Hp} {s : Shared}
theorem so_each (I : Inv X pins σ H s) : ∀ {xs : List V} {us : List Value} {ds : List PyData}, Vals xs us → DpAll X.K H xs ds →
    PySem.W.EachIs (fun u (b : V × PyData) => RelV b.1 u) us (xs.zip ds) ∧ PySem.W.EachIs (fun u (b : V × PyData) => ∃ as, Reads s.heap u b.2 as) us (xs.zip ds)
  | _, _, _, .nil, .nil => ⟨.nil, .nil⟩
  | _, _, _, .cons r t, .cons d e => ⟨.cons r (so_each I t e).1, .cons (Dp.reads I _ _ _ d r) (so_each I t e).2⟩
theorem so_vals : ∀ {us : List Value} {bs : List (V × PyData)}, PySem.W.EachIs (fun u (b : V × PyData) => RelV b.1 u) us bs → Vals (bs.map Prod.fst) us
  | _, _, .nil => .nil
  | _, _, .cons r t => .cons r (so_vals t)
theorem so_snd {K : PySem.W.Frag} : ∀ {xs : List V} {ds : List PyData}, DpAll K H xs ds → (xs.zip ds).map Prod.snd = ds
  | _, _, .nil => rfl
  | _, _, .cons _ t => by rw [List.zip_cons_cons, List.map_cons, so_snd t]
theorem so_dp {K : PySem.W.Frag} : ∀ {xs : List V} {ds : List PyData}, DpAll K H xs ds → ∀ b ∈ xs.zip ds, Dp K H b.1 b.2
  | _, _, .nil, b, hb => nomatch hb
  | _, _, .cons d t, b, hb => by
    rw [List.zip_cons_cons] at hb
    rcases List.mem_cons.mp hb with rfl | hb
    · exact d
    · exact so_dp t b hb
theorem so_all {K : PySem.W.Frag} : ∀ {bs : List (V × PyData)}, (∀ b ∈ bs, Dp K H b.1 b.2) → DpAll K H (bs.map Prod.fst) (bs.map Prod.snd)
  | [], _ => .nil
  | b :: bs, h => .cons (h b List.mem_cons_self) (so_all fun c hc => h c (List.mem_cons_of_mem _ hc))
def rSortAny (K : PySem.W.Frag) : List V → Hp → VK → Prop := fun vs H Q => ∃ (a : Addr) (xs : List V) (ds : List PyData), vs = [V.ref a] ∧ SqL K H a xs ∧ DpAll K H xs ds ∧ PySem.W.AllAlike ds ∧ PySem.W.Sortable ds ∧ (∀ d ∈ ds, d.depth ≤ 60) ∧
  ∀ (ys : List V) (es : List PyData) (p : Addr), es.Perm ds → ys.length = xs.length → DpAll K H ys es → H p = none → Q (.ref p) (upd H p (.lst ys))
theorem cr_sortAny (hu : X.A.units + 65 < cLine) : CallR X (.builtin "sorted") (rSortAny X.K) := by
  intro pins s σ H vs us Q I r h
  obtain ⟨a, xs, ds, rfl, hs, hd, al, so, dp, q⟩ := h
  obtain ⟨its, rv, hl, hz⟩ := I.list hs
  rw [Vals.ref1 r]
  obtain ⟨e1, e2⟩ := so_each I rv hd
  have zl : (xs.zip ds).length = xs.length := by rw [List.length_zip, ← dpAll_len hd, Nat.min_self]
  have zs := so_snd hd
  refine PySem.W.sorted_data (enc := Prod.snd) hl.isList e1 e2 (by rw [zs]; exact al) (by rw [zs]; exact so) (by rw [zl]; exact hz) (fun b hb => ?_) fun out ol oe => ?_
  · have := dp b.2 (by rw [← zs]; exact List.mem_map_of_mem hb)
    omega
  have pm := List.mergeSort_perm (xs.zip ds) (PySem.W.dataLe false Prod.snd)
  have pl : ((xs.zip ds).mergeSort (PySem.W.dataLe false Prod.snd)).length = xs.length := pm.length_eq.trans zl
  obtain ⟨ep, he'⟩ := PyProof.Rows.sortedAll_at s.heap its out.toArray
  refine ⟨.ref _, upd H (s.heap.objs.size + 1) (.lst (((xs.zip ds).mergeSort (PySem.W.dataLe false Prod.snd)).map Prod.fst)), I.laid (t' := s.toks) (fun _ _ => PyProof.Rows.sortedAll_old) (Nat.le_succ _) ⟨by rw [List.length_map, pl]; exact hz, out, ep, so_vals oe, he'⟩, rfl, q _ (((xs.zip ds).mergeSort (PySem.W.dataLe false Prod.snd)).map Prod.snd) _ ?_ (by rw [List.length_map, pl]) (so_all fun b hb => so_dp hd b (pm.mem_iff.mp hb)) (I.hok.fresh (Nat.le_succ _))⟩
  have := pm.map Prod.snd
  rw [zs] at this
  exact this
end
end Ct

/-! instances, and dicts with nested keys that a display makes -/
namespace Ct
open PySem PySem.Spec PyProof.Rows L2
/-- all but what stands at S stays -/
def Keep (S : List Addr) (H H' : Hp) : Prop := ∀ a u, a ∉ S → H a = some u → H' a = some u
theorem Keep.refl {S : List Addr} {H : Hp} : Keep S H H := fun _ _ _ h => h
theorem Keep.trans {S : List Addr} {H H' H2 : Hp} (h : Keep S H H') (g : Keep S H' H2) : Keep S H H2 := fun a u n e => g a u n (h a u n e)
theorem keep_same {S : List Addr} {H H' : Hp} (s : Same H H') : Keep S H H' := fun a u _ e => s a u e
theorem keep_upd {S : List Addr} {H : Hp} {a : Addr} {o : HO} (h : a ∈ S) : Keep S H (upd H a o) := fun b u n e => by
  rw [upd_ne (fun z => n (by rw [z]; exact h))]
  exact e
theorem Keep.same {S : List Addr} {H0 H H' : Hp} (h : Keep S H H') (s : Same H0 H) (n : ∀ a ∈ S, H0 a = none) : Same H0 H' := fun a u e => h a u (fun z => by rw [n a z] at e; cases e) (s a u e)
theorem Keep.mono {S T : List Addr} {H H' : Hp} (h : Keep S H H') (m : ∀ a ∈ S, a ∈ T) : Keep T H H' := fun a u n e => h a u (fun z => n (m a z)) e
/-- tuples stay where they are -/
def TupK (H H' : Hp) : Prop := ∀ a xs, Rd H a (.tup xs) → Rd H' a (.tup xs)
theorem TupK.refl {H : Hp} : TupK H H := fun _ _ h => h
theorem TupK.trans {H H' H2 : Hp} (h : TupK H H') (g : TupK H' H2) : TupK H H2 := fun a xs e => g a xs (h a xs e)
theorem rd_same {H H' : Hp} (s : Same H H') {a : Addr} {o : HO} (h : Rd H a o) : Rd H' a o := by
  rcases h with z | ⟨u, z⟩
  · exact .inl (s _ _ z)
  · exact .inr ⟨u, s _ _ z⟩
theorem tupK_same {H H' : Hp} (s : Same H H') : TupK H H' := fun _ _ e => rd_same s e
def notTup : HO → Bool
  | .tup _ => false
  | .frz _ _ => false
  | _ => true
theorem not_rd {H : Hp} {a : Addr} {o : HO} (h : H a = some o) (n : notTup o = true) (xs : List V) : ¬ Rd H a (.tup xs) := fun r => by
  rcases r with z | ⟨u, z⟩
  · rw [h] at z
    cases z
    cases n
  · rw [h] at z
    cases z
    cases n
theorem rd_upd {H : Hp} {a b : Addr} {o o' : HO} (ne : b ≠ a) (h : Rd H b o) : Rd (upd H a o') b o := by
  rcases h with z | ⟨u, z⟩
  · exact .inl (by rw [upd_ne ne]; exact z)
  · exact .inr ⟨u, by rw [upd_ne ne]; exact z⟩
theorem tupK_upd {H : Hp} {a : Addr} {o o' : HO} (h : H a = some o) (n : notTup o = true) : TupK H (upd H a o') := fun b xs e =>
  rd_upd (fun z => not_rd h n xs (by rw [← z]; exact e)) e
theorem Keep.tupK {S : List Addr} {H H' : Hp} (h : Keep S H H') (n : ∀ a ∈ S, ∀ xs, ¬ Rd H a (.tup xs)) : TupK H H' := fun a xs e => by
  have na : a ∉ S := fun z => n a z xs e
  rcases e with z | ⟨u, z⟩
  · exact .inl (h _ _ na z)
  · exact .inr ⟨u, h _ _ na z⟩
mutual
/-- data of tuples alone -/
inductive TD : PyData → Prop
  | non : TD .none
  | int (i : Int) : TD (.int i)
  | str (x : Str) : TD (.str x)
  | tup {ds : List PyData} : TDs ds → TD (.tuple ds)
inductive TDs : List PyData → Prop
  | nil : TDs []
  | cons {d : PyData} {ds : List PyData} : TD d → TDs ds → TDs (d :: ds)
end
theorem td_ints : ∀ xs : List Int, TDs (xs.map PyData.int)
  | [] => .nil
  | x :: xs => .cons (.int x) (td_ints xs)
theorem td_tupD (xs : List Int) : TD (tupD xs) := .tup (td_ints xs)
mutual
theorem td_nk : ∀ k : NestedKey, TD (nkD k)
  | .none => .non
  | .num i => .int i
  | .text x => .str x
  | .tup ks => by rw [nkD]; exact .tup (td_nks ks)
theorem td_nks : ∀ ks : List NestedKey, TDs (nkAll ks)
  | [] => by rw [nkAll]; exact .nil
  | k :: ks => by rw [nkAll]; exact .cons (td_nk k) (td_nks ks)
end
mutual
theorem dp_td {K : PySem.W.Frag} {H H' : Hp} (t : TupK H H') : ∀ {d : PyData}, TD d → ∀ {v : V}, Dp K H v d → Dp K H' v d
  | _, .non, _, h => by cases h; exact .non
  | _, .int _, _, h => by cases h; exact .int _
  | _, .str _, _, h => by cases h; exact .str _
  | _, .tup ts, _, h => by
    obtain ⟨c, vs, rfl, hs, ha⟩ := tup_inv h
    refine .tup ?_ (dpAll_td t ts ha)
    rcases hs with z | z
    · exact .inl (t _ _ z)
    · exact .inr z
theorem dpAll_td {K : PySem.W.Frag} {H H' : Hp} (t : TupK H H') : ∀ {ds : List PyData}, TDs ds → ∀ {vs : List V}, DpAll K H vs ds → DpAll K H' vs ds
  | _, .nil, _, h => by cases h; exact .nil
  | _, .cons d ds, _, h => by
    cases h with
    | cons h1 h2 => exact .cons (dp_td t d h1) (dpAll_td t ds h2)
end
/-! a display of one pair whose key is a tuple -/
section
variable {X : Cx} {pos : Pos} {ke ve : Expr} {tk tv : TE}
def tNdOne (w : World) (K : PySem.W.Frag) (tk tv : TE) : TE := fun σ H Q => ∀ p, H p = none → tk σ (upd H p (NdO w p [])) fun y H1 => tv σ H1 fun v H2 => ∃ b k, y = .ref b ∧ H2 p = some (NdO w p []) ∧ k.depth ≤ 8 ∧ Dp K H2 (.ref b) (nkD k) ∧
  ∀ o, NdAt w K (upd H2 p o) p [(k, v)] → Q (.ref p) (upd H2 p o)
theorem pe_ndone (room : X.A.units + 64 < cLine) (hk : PE X ke tk) (hv : PE X ve tv) : PE X (.Dict [some ke] [ve] pos) (tNdOne X.w X.K tk tv) := by
  refine ⟨fun pins s σ H Q J q => ?_⟩
  have hn := J.hok.fresh (Nat.le_refl s.heap.objs.size)
  have sys : (s.heap.objs.size == sysModules) = false := beq_eq_false_iff_ne.mpr (Ne.symm (Nat.ne_of_lt J.big))
  have I1 := J.laid (a := s.heap.objs.size) (o := NdO X.w s.heap.objs.size []) (h' := s.heap.push { cls := .type "dict", data := .dict #[] }) (t' := s.toks) (fun _ _ q => Heap.get?_push_of_some _ q) (Nat.le_refl _) (ndO_ok (Heap.DictOfH.new (knd := nestedKind X.prog X.w) s.heap))
  have lp : (pairTrees [some ke] [ve] X.env pos).length = 1 := pairTrees_length [some ke] [ve] X.env pos rfl rfl
  rw [arm_eval_Dict, zip_pairTrees [some ke] [ve] X.env pos rfl rfl, dictDisplay_pairs (pairTrees [some ke] [ve] X.env pos) (fun z => by rw [z] at lp; cases lp) (by rw [lp]; decide)]
  have rm : (nestedKind X.prog X.w).room X.A := by
    show X.A.units + 8 < cLine
    omega
  refine wpAny_bind (wpAny_standAt (wpAny_bind (wpAny_subDictH (knd := nestedKind X.prog X.w) (Q := fun d s' => wpAny (model X.prog X.w) X.A (pure (Value.ref d)) _ X.xe s') rm (by rw [lp]; decide) ?_)))
  refine pairTrees_cons_walk (thn (hk.run pins _ σ _ _ I1 (q _ hn)) ?_)
  rintro u s1 ⟨y, H1, J1, ry, q1⟩
  refine thn (hv.run pins s1 σ H1 _ J1 q1) ?_
  rintro r s2 ⟨v, H2, J2, rv, b, k, rfl, hp, dk, db, q2⟩
  refine pairTrees_nil_walk ?_
  cases (show u = Value.ref b from ry)
  have d0 : s2.heap.DictOfH (nestedKind X.prog X.w) s.heap.objs.size [] := nd_heap (kvs := []) J2 hp .nil List.nodup_nil
  refine ⟨[(k, b, r)], ⟨rfl, rfl, ⟨nested_is J2 k db rfl, dk⟩, trivial⟩, d0, fun h' tk dd same => ?_⟩
  have st : storedAllH ([] : List (NestedKey × Addr × Value)) [(k, b, r)] = [(k, b, r)] := rfl
  rw [st] at dd
  have at_ : ∃ q, h'.get? s.heap.objs.size = some q := let ⟨q, _, _, hq, _⟩ := dd; ⟨q, hq⟩
  refine wpAny_pure ⟨.ref s.heap.objs.size, _, d_write (t' := tk) J2 (by rw [hp]; exact True.intro) same at_ (ndO_ok dd), rfl, q2 _ ⟨sys, (by decide : (1 : Nat) ≤ sizeLine), List.nodup_cons.mpr ⟨List.not_mem_nil, List.nodup_nil⟩, _, upd_same, .cons ⟨rfl, dk, dp_aside hp k db, rv⟩ .nil⟩⟩
theorem w_ndone {w : World} {K : PySem.W.Frag} {tk tv : TE} {σ : L2.St} {H : Hp} {Q : VK} (h : ∀ p, H p = none → tk σ (upd H p (NdO w p [])) fun y H1 => tv σ H1 fun v H2 => ∃ b k, y = .ref b ∧ H2 p = some (NdO w p []) ∧ k.depth ≤ 8 ∧ Dp K H2 (.ref b) (nkD k) ∧ ∀ o, NdAt w K (upd H2 p o) p [(k, v)] → Q (.ref p) (upd H2 p o)) : tNdOne w K tk tv σ H Q := h
end
end Ct
/-! reading fields, methods, making -/
namespace Ct
open PySem PySem.Spec PyProof.Rows L2
section
variable {K : PySem.W.Frag} {H : Hp} {σ : L2.St} {Q : VK} {D : Ends}
theorem pe_fldK {X : Cx} {K : PySem.W.Frag} {e : Expr} {f : Str} {pos : Pos} {ta : TE} (hK : X.K = K) (he : PE X e ta) (hb : attributeBase e f X.env (eval e X.env) = eval e X.env) : PE X (.Attribute e f pos) (tFld K ta f) := by
  subst hK
  exact pe_fld he hb
theorem w_sfld {ta tv : TE} {f : Str} (h : tv σ H fun y H1 => ta σ H1 fun x H2 => ∃ a C dx fs, x = .ref a ∧ H2 a = some (.ins C dx fs) ∧ Cls K C ∧ NoAttr K C f ∧ fs.length < 1000 ∧ D.nx σ (upd H2 a (.ins C dx (putF f y fs)))) : sFld K ta tv f D σ H := h
theorem w_fset {a C dx : Addr} {fs : List (Str × V)} {f : Str} {y : V} {N : Hp → Prop} (h : H a = some (.ins C dx fs)) (c : Cls K C) (n : NoAttr K C f) (l : fs.length < 1000) (q : N (upd H a (.ins C dx (putF f y fs)))) :
    ∃ b C dx fs, V.ref a = .ref b ∧ H b = some (.ins C dx fs) ∧ Cls K C ∧ NoAttr K C f ∧ fs.length < 1000 ∧ N (upd H b (.ins C dx (putF f y fs))) := ⟨a, C, dx, fs, rfl, h, c, n, l, q⟩
theorem w_fld {ta : TE} {f : Str} (h : ta σ H fun x H1 => ∃ a C dx fs v, x = .ref a ∧ H1 a = some (.ins C dx fs) ∧ Cls K C ∧ NoAttr K C f ∧ fs.lookup f = some v ∧ Q v H1) : tFld K ta f σ H Q := h
theorem w_fget {a C dx : Addr} {fs : List (Str × V)} {f : Str} {v : V} (h : H a = some (.ins C dx fs)) (c : Cls K C) (n : NoAttr K C f) (l : fs.lookup f = some v) (q : Q v H) :
    ∃ b C dx fs v, V.ref a = .ref b ∧ H b = some (.ins C dx fs) ∧ Cls K C ∧ NoAttr K C f ∧ fs.lookup f = some v ∧ Q v H := ⟨a, C, dx, fs, v, rfl, h, c, n, l, q⟩
theorem w_meth {C : Addr} {m : Str} {sp : Sp} {dvs : List V} {E : XK} {ta : TE} {t : TA} (h : ta σ H fun x H1 => ∃ a dx fs, x = .ref a ∧ H1 a = some (.ins C dx fs) ∧ fs.lookup m = none ∧ t σ H1 fun vs H2 => sp (x :: (vs ++ dvs)) H2 Q E) : tMeth C m sp dvs E ta t σ H Q := h
theorem w_make {C : Addr} {sp : Sp} {dvs : List V} {E : XK} {t : TA} (h : t σ H fun vs H1 => ∀ x dx, H1 x = none → H1 dx = none → dx ≠ x → sp (.ref x :: (vs ++ dvs)) (upd (upd H1 dx (.own x)) x (.ins C dx [])) (fun v H2 => v = .non ∧ Q (.ref x) H2) E) : tMake C sp dvs E t σ H Q := h
end
end Ct

/-! what moves lead to: a Search, its records in the order of meeting -/
namespace Ct
open PySem PySem.Spec PyProof.Rows L2
/-- what was met, its number, from where and by which move -/
abbrev Rec := NestedKey × Nat × Option (NestedKey × PyData)
def cameD : Option (NestedKey × PyData) → PyData
  | none => .none
  | some (y, d) => .tuple [nkD y, d]
def keysR (rs : List Rec) : List NestedKey := rs.map (·.1)
def findR (rs : List Rec) (k : NestedKey) : Option Rec := rs.find? fun r => decide (r.1 = k)
def numR (rs : List Rec) (k : NestedKey) : Nat := match findR rs k with
  | some r => r.2.1
  | none => 0
def meetR (rs : List Rec) (here : NestedKey) (d : PyData) (k : NestedKey) : List Rec := if k ∈ keysR rs then rs else rs ++ [(k, numR rs here + 1, some (here, d))]
/-- each came from one ahead of it -/
def GoodR : List Rec → Prop
  | [] => True
  | r :: rs => r.1 ∉ keysR rs ∧ (∀ y d, r.2.2 = some (y, d) → y ∈ keysR rs) ∧ GoodR rs
def pathR : List Rec → NestedKey → List PyData
  | [], _ => []
  | (x, _, o) :: rs, g => if g = x then (match o with
      | none => []
      | some (y, d) => pathR rs y ++ [d]) else pathR rs g
theorem keysR_app (a b : List Rec) : keysR (a ++ b) = keysR a ++ keysR b := List.map_append
theorem goodR_one (k : NestedKey) : GoodR [(k, 0, none)] := by
  have h1 : k ∉ keysR [] := List.not_mem_nil
  have h2 : ∀ y d, (none : Option (NestedKey × PyData)) = some (y, d) → y ∈ keysR [] := fun _ _ z => nomatch z
  exact ⟨h1, h2, trivial⟩
theorem findR_mem {rs : List Rec} {k : NestedKey} (h : k ∈ keysR rs) : ∃ r, findR rs k = some r ∧ r ∈ rs ∧ r.1 = k := by
  obtain ⟨r, hr, rfl⟩ := List.mem_map.mp h
  cases e : findR rs r.1 with
  | none =>
    have := List.find?_eq_none.mp e r hr
    exact absurd (decide_eq_true rfl) this
  | some q =>
    have h1 := List.find?_some e
    exact ⟨q, rfl, List.mem_of_find?_eq_some e, of_decide_eq_true h1⟩
theorem pathR_skip : ∀ {pre rs : List Rec} {g : NestedKey}, g ∉ keysR pre → pathR (pre ++ rs) g = pathR rs g
  | [], _, _, _ => rfl
  | (x, n, o) :: pre, rs, g, h => by
    have h1 : ¬ g = x := fun z => h (by rw [z]; exact List.mem_cons_self)
    show (if g = x then _ else pathR (pre ++ rs) g) = _
    rw [if_neg h1]
    exact pathR_skip fun z => h (List.mem_cons_of_mem _ z)
theorem goodR_tail : ∀ {pre rs : List Rec}, GoodR (pre ++ rs) → GoodR rs
  | [], _, h => h
  | _ :: _, _, h => goodR_tail h.2.2
theorem goodR_pre : ∀ {pre rs : List Rec} {k : NestedKey}, GoodR (pre ++ rs) → k ∈ keysR rs → k ∉ keysR pre
  | [], _, _, _, _ => fun h => nomatch h
  | r :: pre, rs, k, h, hk => fun z => by
    rcases List.mem_cons.mp z with e | z
    · have h1 : r.1 ∉ keysR (pre ++ rs) := h.1
      rw [keysR_app] at h1
      have e1 : k = r.1 := e
      exact h1 (List.mem_append_right _ (by rw [← e1]; exact hk))
    · exact goodR_pre h.2.2 hk z
theorem keysR_rev (a : List Rec) : keysR a.reverse = (keysR a).reverse := List.map_reverse
theorem goodR_meet {rs : List Rec} {here k : NestedKey} {d : PyData} (h : GoodR rs.reverse) (hh : here ∈ keysR rs) : GoodR (meetR rs here d k).reverse := by
  unfold meetR
  by_cases c : k ∈ keysR rs
  · rw [if_pos c]
    exact h
  · rw [if_neg c, List.reverse_append]
    have h1 : k ∉ keysR rs.reverse := by rw [keysR_rev, List.mem_reverse]; exact c
    have h2 : here ∈ keysR rs.reverse := by rw [keysR_rev, List.mem_reverse]; exact hh
    refine ⟨h1, fun y e z => ?_, h⟩
    cases z
    exact h2
theorem meetR_keys {rs : List Rec} {here k : NestedKey} {d : PyData} {x : NestedKey} (h : x ∈ keysR rs) : x ∈ keysR (meetR rs here d k) := by
  unfold meetR
  by_cases c : k ∈ keysR rs
  · rw [if_pos c]; exact h
  · rw [if_neg c, keysR_app]; exact List.mem_append_left _ h
theorem meetR_in {rs : List Rec} {here k : NestedKey} {d : PyData} : k ∈ keysR (meetR rs here d k) := by
  unfold meetR
  by_cases c : k ∈ keysR rs
  · rw [if_pos c]; exact c
  · rw [if_neg c, keysR_app]; exact List.mem_append_right _ (List.mem_singleton.mpr rfl)
theorem meetR_len {rs : List Rec} {here k : NestedKey} {d : PyData} : (meetR rs here d k).length ≤ rs.length + 1 := by
  unfold meetR
  by_cases c : k ∈ keysR rs
  · rw [if_pos c]; omega
  · rw [if_neg c, List.length_append]; exact Nat.le_refl _
theorem meetR_pre {rs : List Rec} {here k : NestedKey} {d : PyData} : ∃ t, meetR rs here d k = rs ++ t := by
  unfold meetR
  by_cases c : k ∈ keysR rs
  · rw [if_pos c]; exact ⟨[], (List.append_nil _).symm⟩
  · rw [if_neg c]; exact ⟨_, rfl⟩
theorem keysR_nodup {rs : List Rec} : GoodR rs → (keysR rs).Nodup := by
  induction rs with
  | nil => intro _; exact List.nodup_nil
  | cons r rs ih => intro h; exact List.nodup_cons.mpr ⟨h.1, ih h.2.2⟩
theorem findR_uniq : ∀ {rs : List Rec} {r : Rec} {k : NestedKey}, (keysR rs.reverse).Nodup → r ∈ rs → r.1 = k → findR rs k = some r := fun {rs r k} nd hr e => by
  have nd2 : (keysR rs).Nodup := by
    rw [keysR_rev] at nd
    exact (List.reverse_perm _).nodup_iff.mp nd
  clear nd
  induction rs with
  | nil => exact nomatch hr
  | cons q rs ih =>
    obtain ⟨n1, n2⟩ := List.nodup_cons.mp nd2
    unfold findR
    rw [List.find?_cons]
    rcases List.mem_cons.mp hr with rfl | hr
    · rw [decide_eq_true e]
    · have ne : ¬ q.1 = k := fun z => n1 (by rw [show (fun x : Rec => x.1) q = r.1 from z.trans e.symm]; exact List.mem_map.mpr ⟨r, hr, rfl⟩)
      rw [decide_eq_false ne]
      exact ih hr n2
/-! the instance -/
theorem sr1 : ¬ (("met" : Str) = "numbers") := by decide +kernel
theorem sr2 : ¬ (("met" : Str) = "came") := by decide +kernel
theorem sr3 : ¬ (("numbers" : Str) = "came") := by decide +kernel
def fldsS (m n c : Addr) : List (Str × V) := putF "came" (.ref c) (putF "numbers" (.ref n) (putF "met" (.ref m) []))
theorem fldsS_met (m n c : Addr) : (fldsS m n c).lookup ("met" : Str) = some (.ref m) := by
  unfold fldsS
  rw [lookup_putF, if_neg sr2, lookup_putF, if_neg sr1, lookup_putF, if_pos rfl]
theorem fldsS_numbers (m n c : Addr) : (fldsS m n c).lookup ("numbers" : Str) = some (.ref n) := by
  unfold fldsS
  rw [lookup_putF, if_neg sr3, lookup_putF, if_pos rfl]
theorem fldsS_came (m n c : Addr) : (fldsS m n c).lookup ("came" : Str) = some (.ref c) := by
  unfold fldsS
  rw [lookup_putF, if_pos rfl]
theorem fldsS_no (m n c : Addr) {f : Str} (h1 : ¬ f = "came") (h2 : ¬ f = "numbers") (h3 : ¬ f = "met") : (fldsS m n c).lookup f = none := by
  unfold fldsS
  rw [lookup_putF, if_neg h1, lookup_putF, if_neg h2, lookup_putF, if_neg h3]
  all_goals rfl
theorem flds_two (a b : V) : (putF "numbers" a (putF "met" b [])).length < 1000 := by
  show (if ("met" : Str) = "numbers" then _ else _ : List (Str × V)).length < 1000
  rw [if_neg sr1]
  show 2 < 1000
  decide
structure SearchAt (w : World) (K : PySem.W.Frag) (C : Addr) (H : Hp) (p m n c : Addr) (rs : List Rec) : Prop where
  ob : ∃ dx, H p = some (.ins C dx (fldsS m n c))
  met : ∃ vs, H m = some (.lst vs) ∧ DpAll K H vs ((keysR rs).map nkD)
  num : NdAt w K H n (rs.map fun r => (r.1, V.int (r.2.1 : Int)))
  came : ∃ cv, NdAt w K H c ((keysR rs).zip cv) ∧ DpAll K H cv (rs.map fun r => cameD r.2.2)
  ne : n ≠ c
  good : GoodR rs.reverse
  td : ∀ r ∈ rs, TD (cameD r.2.2)
  dep : ∀ k ∈ keysR rs, k.depth ≤ 8
theorem SearchAt.same {w : World} {K : PySem.W.Frag} {C : Addr} {H H' : Hp} {p m n c : Addr} {rs : List Rec} (h : SearchAt w K C H p m n c rs) (s : Same H H') : SearchAt w K C H' p m n c rs := by
  obtain ⟨⟨dx, h1⟩, ⟨vs, h2, h3⟩, h4, ⟨cv, h5, h6⟩, h7, h8, h9, h10⟩ := h
  exact ⟨⟨dx, s _ _ h1⟩, ⟨vs, s _ _ h2, dpAll_same s h3⟩, h4.same s, ⟨cv, h5.same s, dpAll_same s h6⟩, h7, h8, h9, h10⟩
theorem tds_keys : ∀ ks : List NestedKey, TDs (ks.map nkD)
  | [] => .nil
  | k :: ks => .cons (td_nk k) (tds_keys ks)
theorem tds_all {α : Type} {f : α → PyData} : ∀ {l : List α}, (∀ a ∈ l, TD (f a)) → TDs (l.map f)
  | [], _ => .nil
  | a :: l, h => .cons (h a List.mem_cons_self) (tds_all fun b hb => h b (List.mem_cons_of_mem _ hb))
/-- the pairs of such a dict, where tuples stay -/
theorem ndP_tup {K : PySem.W.Frag} {H H' : Hp} (t : TupK H H') {kvs : List (NestedKey × V)} {xs : List (NestedKey × Addr × Value)} (h : NdP K H kvs xs) : NdP K H' kvs xs := ndP_same (fun _ k d => dp_td t (td_nk k) d) h
theorem NdAt.tup {w : World} {K : PySem.W.Frag} {H H' : Hp} {a : Addr} {kvs : List (NestedKey × V)} (t : TupK H H') (e : H' a = H a) (h : NdAt w K H a kvs) : NdAt w K H' a kvs := by
  obtain ⟨h1, h2, h3, xs, h4, h5⟩ := h
  exact ⟨h1, h2, h3, xs, by rw [e]; exact h4, ndP_tup t h5⟩
theorem NdAt.ext {w : World} {K : PySem.W.Frag} {H : Hp} {a : Addr} {kvs : List (NestedKey × V)} (h : NdAt w K H a kvs) : ∃ xs, H a = some (NdO w a xs) := by
  obtain ⟨_, _, _, xs, h4, _⟩ := h
  exact ⟨xs, h4⟩
/-- what stays of a Search when another thing is written -/
theorem SearchAt.keep {w : World} {K : PySem.W.Frag} {C : Addr} {H H' : Hp} {S : List Addr} {p m n c : Addr} {rs : List Rec} (h : SearchAt w K C H p m n c rs) (k : Keep S H H') (t : TupK H H') (hp : p ∉ S) (hm : m ∉ S) (hn : n ∉ S) (hc : c ∉ S) : SearchAt w K C H' p m n c rs := by
  obtain ⟨⟨dx, h1⟩, ⟨vs, h2, h3⟩, h4, ⟨cv, h5, h6⟩, h7, h8, h9, h10⟩ := h
  obtain ⟨x4, e4⟩ := h4.ext
  obtain ⟨x5, e5⟩ := h5.ext
  exact ⟨⟨dx, k _ _ hp h1⟩, ⟨vs, k _ _ hm h2, dpAll_td t (tds_keys _) h3⟩, h4.tup t (by rw [k _ _ hn e4, e4]), ⟨cv, h5.tup t (by rw [k _ _ hc e5, e5]), dpAll_td t (tds_all h9) h6⟩, h7, h8, h9, h10⟩
theorem SearchAt.tupK {w : World} {K : PySem.W.Frag} {C : Addr} {H H' : Hp} {p m n c : Addr} {rs : List Rec} (h : SearchAt w K C H p m n c rs) (k : Keep [m, n, c] H H') : TupK H H' := by
  obtain ⟨_, ⟨vs, h2, _⟩, h4, ⟨cv, h5, _⟩, _⟩ := h
  obtain ⟨x4, e4⟩ := h4.ext
  obtain ⟨x5, e5⟩ := h5.ext
  refine k.tupK fun a ha xs => ?_
  simp only [List.mem_cons, List.not_mem_nil, or_false] at ha
  rcases ha with rfl | rfl | rfl
  · exact not_rd h2 rfl xs
  · exact not_rd e4 rfl xs
  · exact not_rd e5 rfl xs
theorem valV_zip {k : NestedKey} {d : PyData} {K : PySem.W.Frag} {H : Hp} : ∀ {rs : List Rec} {cv : List V} {r : Rec}, DpAll K H cv (rs.map fun r => cameD r.2.2) → findR rs k = some r → ∃ v, valV ((keysR rs).zip cv) k = some v ∧ Dp K H v (cameD r.2.2)
  | q :: rs, v :: cv, r, .cons h t, e => by
    by_cases c : q.1 = k
    · have e1 : findR (q :: rs) k = some q := by unfold findR; rw [List.find?_cons, decide_eq_true c]
      rw [e1] at e
      cases e
      exact ⟨v, valV_pos c, h⟩
    · have e1 : findR (q :: rs) k = findR rs k := by unfold findR; rw [List.find?_cons, decide_eq_false c]
      rw [e1] at e
      obtain ⟨u, h1, h2⟩ := valV_zip (d := d) t e
      exact ⟨u, (valV_neg c).trans h1, h2⟩
theorem valV_num {k : NestedKey} : ∀ {rs : List Rec}, valV (rs.map fun r => (r.1, V.int (r.2.1 : Int))) k = (findR rs k).map fun r => V.int (r.2.1 : Int)
  | [] => rfl
  | q :: rs => by
    by_cases c : q.1 = k
    · have e1 : findR (q :: rs) k = some q := by unfold findR; rw [List.find?_cons, decide_eq_true c]
      rw [e1]
      exact valV_pos (p := (q.1, V.int (q.2.1 : Int))) c
    · have e1 : findR (q :: rs) k = findR rs k := by unfold findR; rw [List.find?_cons, decide_eq_false c]
      rw [e1]
      exact (valV_neg (p := (q.1, V.int (q.2.1 : Int))) c).trans valV_num
theorem findR_none {rs : List Rec} {k : NestedKey} : findR rs k = none ↔ k ∉ keysR rs := by
  constructor
  · intro h z
    obtain ⟨r, e, _⟩ := findR_mem z
    rw [h] at e
    cases e
  · intro h
    cases e : findR rs k with
    | none => rfl
    | some r =>
      have h1 : r.1 = k := of_decide_eq_true (List.find?_some (p := fun r : Rec => decide (r.1 = k)) e)
      exact absurd (List.mem_map.mpr ⟨r, List.mem_of_find?_eq_some e, h1⟩) h
theorem zip_snoc {α β : Type} : ∀ {xs : List α} {ys : List β} {x : α} {y : β}, xs.length = ys.length → (xs ++ [x]).zip (ys ++ [y]) = xs.zip ys ++ [(x, y)]
  | [], [], _, _, _ => rfl
  | a :: xs, b :: ys, x, y, h => by
    show (a, b) :: (xs ++ [x]).zip (ys ++ [y]) = (a, b) :: (xs.zip ys ++ [(x, y)])
    rw [zip_snoc (Nat.succ.inj h)]
theorem valV_nin {κ : Type} [DecidableEq κ] {kvs : List (κ × V)} {k : κ} (h : k ∉ kvs.map (·.1)) : valV kvs k = none := by
  cases e : valV kvs k with
  | none => rfl
  | some v => exact absurd (valV_in e) h
theorem zip_keys {rs : List Rec} {cv : List V} (l : cv.length = rs.length) : ((keysR rs).zip cv).map (·.1) = keysR rs := List.map_fst_zip (Nat.le_of_eq (by rw [show (keysR rs).length = rs.length from List.length_map _, l]))
theorem valV_numR {rs : List Rec} {k : NestedKey} (h : k ∈ keysR rs) : valV (rs.map fun r => (r.1, V.int (r.2.1 : Int))) k = some (V.int (numR rs k : Int)) := by
  obtain ⟨r, e, _, _⟩ := findR_mem h
  rw [valV_num, e]
  unfold numR
  rw [e]
  rfl
theorem tds_app : ∀ {as bs : List PyData}, TDs as → TDs bs → TDs (as ++ bs)
  | _, _, .nil, h => h
  | _, _, .cons a t, h => .cons a (tds_app t h)
theorem tds_mem : ∀ {ds : List PyData}, (∀ d ∈ ds, TD d) → TDs ds
  | [], _ => .nil
  | d :: ds, h => .cons (h d List.mem_cons_self) (tds_mem fun e he => h e (List.mem_cons_of_mem _ he))
theorem nk_tup {K : PySem.W.Frag} {H : Hp} {a : Addr} : ∀ {k : NestedKey}, Dp K H (.ref a) (nkD k) → ∃ ks, k = .tup ks
  | .none, h => by rw [nkD] at h; cases h
  | .num _, h => by rw [nkD] at h; cases h
  | .text _, h => by rw [nkD] at h; cases h
  | .tup ks, _ => ⟨ks, rfl⟩
theorem ndP_ref {K : PySem.W.Frag} {H : Hp} : ∀ {kvs : List (NestedKey × V)} {xs : List (NestedKey × Addr × Value)}, NdP K H kvs xs → ∀ k ∈ kvs.map (·.1), ∃ ks, k = .tup ks
  | _, _, .cons h t, k, hk => by
    rw [List.map_cons] at hk
    rcases List.mem_cons.mp hk with rfl | hk
    · exact nk_tup h.2.2.1
    · exact ndP_ref t k hk
theorem NdAt.ref {w : World} {K : PySem.W.Frag} {H : Hp} {a : Addr} {kvs : List (NestedKey × V)} (h : NdAt w K H a kvs) {k : NestedKey} (hk : k ∈ kvs.map (·.1)) : ∃ ks, k = .tup ks := by
  obtain ⟨_, _, _, xs, _, h5⟩ := h
  exact ndP_ref h5 k hk
theorem SearchAt.ref {w : World} {K : PySem.W.Frag} {C : Addr} {H : Hp} {p m n c : Addr} {rs : List Rec} (h : SearchAt w K C H p m n c rs) {k : NestedKey} (hk : k ∈ keysR rs) {G : Hp} {v : V} (hv : Dp K G v (nkD k)) : ∃ b, v = .ref b := by
  obtain ⟨ks, rfl⟩ := h.num.ref (k := k) (by rw [List.map_map]; exact hk)
  rw [nkD] at hv
  obtain ⟨b, _, rfl, _⟩ := tup_inv hv
  exact ⟨b, rfl⟩
end Ct
/-! a Mover: a train with its pushes, and what was asked of it -/
namespace Ct
open PySem PySem.Spec PyProof.Rows L2
def nums : List Int → List NestedKey
  | [] => []
  | x :: xs => .num x :: nums xs
def skey (xs : List Int) : NestedKey := .tup (nums xs)
theorem nums_D : ∀ xs : List Int, nkAll (nums xs) = xs.map PyData.int
  | [] => by rw [nums, nkAll]; rfl
  | x :: xs => by rw [nums, nkAll, nkD, nums_D xs]; rfl
theorem skey_D (xs : List Int) : nkD (skey xs) = tupD xs := by
  unfold skey
  rw [nkD, nums_D]
  rfl
theorem nums_inj : ∀ {xs ys : List Int}, nums xs = nums ys → xs = ys
  | [], [], _ => rfl
  | [], _ :: _, h => by rw [nums, nums] at h; cases h
  | _ :: _, [], h => by rw [nums, nums] at h; cases h
  | x :: xs, y :: ys, h => by
    rw [nums, nums] at h
    injection h with h1 h2
    injection h1 with h3
    rw [h3, nums_inj h2]
theorem skey_inj {xs ys : List Int} (h : skey xs = skey ys) : xs = ys := by
  unfold skey at h
  injection h with h
  exact nums_inj h
theorem nums_depth : ∀ xs : List Int, NestedKey.depthAll (nums xs) = 0
  | [] => by rw [nums, NestedKey.depthAll]
  | x :: xs => by rw [nums, NestedKey.depthAll, NestedKey.depth, nums_depth xs]; rfl
theorem skey_depth (xs : List Int) : (skey xs).depth ≤ 8 := by
  unfold skey
  rw [NestedKey.depth, nums_depth]
  decide
theorem mv1 : ¬ (("train" : Str) = "pushes") := by decide +kernel
theorem mv2 : ¬ (("train" : Str) = "known") := by decide +kernel
theorem mv3 : ¬ (("pushes" : Str) = "known") := by decide +kernel
def fldsM (t u : V) (kn : Addr) : List (Str × V) := putF "known" (.ref kn) (putF "pushes" u (putF "train" t []))
theorem fldsM_train (t u : V) (kn : Addr) : (fldsM t u kn).lookup ("train" : Str) = some t := by
  unfold fldsM
  rw [lookup_putF, if_neg mv2, lookup_putF, if_neg mv1, lookup_putF, if_pos rfl]
theorem fldsM_pushes (t u : V) (kn : Addr) : (fldsM t u kn).lookup ("pushes" : Str) = some u := by
  unfold fldsM
  rw [lookup_putF, if_neg mv3, lookup_putF, if_pos rfl]
theorem fldsM_known (t u : V) (kn : Addr) : (fldsM t u kn).lookup ("known" : Str) = some (.ref kn) := by
  unfold fldsM
  rw [lookup_putF, if_pos rfl]
theorem fldsM_no (t u : V) (kn : Addr) {f : Str} (h1 : ¬ f = "known") (h2 : ¬ f = "pushes") (h3 : ¬ f = "train") : (fldsM t u kn).lookup f = none := by
  unfold fldsM
  rw [lookup_putF, if_neg h1, lookup_putF, if_neg h2, lookup_putF, if_neg h3]
  all_goals rfl
theorem fldsM_two (a b : V) : (putF "pushes" a (putF "train" b [])).length < 1000 := by
  show (if ("train" : Str) = "pushes" then _ else _ : List (Str × V)).length < 1000
  rw [if_neg mv1]
  show 2 < 1000
  decide
def psD (q : Nat × Int) : PyData := .tuple [.int q.1, .int q.2]
def mvD (m : List Int × Int) : PyData := .tuple [tupD m.1, .int m.2]
def movesOf (ps : List Part) (pus : List (Nat × Int)) (xs : List Int) : List (List Int × Int) := pus.map fun q => Ct.run ps xs q.1 q.2
theorem td_mvD (m : List Int × Int) : TD (mvD m) := .tup (.cons (td_tupD _) (.cons (.int _) .nil))
/-- what is kept is what the pushes leave -/
def KnownM (K : PySem.W.Frag) (H : Hp) (ps : List Part) (pus : List (Nat × Int)) (kvs : List (NestedKey × V)) (av : List Addr) : Prop := ∀ k v, (k, v) ∈ kvs → ∃ xs l ws, k = skey xs ∧ StandL ps xs ∧ v = .ref l ∧ l ∉ av ∧ H l = some (.lst ws) ∧ DpAll K H ws ((movesOf ps pus xs).map mvD)
structure MoverAt (w : World) (K : PySem.W.Frag) (C : Addr) (H : Hp) (p kn : Addr) (ps : List Part) (pus : List (Nat × Int)) (kvs : List (NestedKey × V)) (av : List Addr) : Prop where
  ob : ∃ dx tr u, H p = some (.ins C dx (fldsM (.ref tr) (.ref u) kn)) ∧ TrainAt K H tr ps ∧ Dp K H (.ref u) (.tuple (pus.map psD))
  kn : NdAt w K H kn kvs
  right : KnownM K H ps pus kvs av
theorem td_psD (q : Nat × Int) : TD (psD q) := .tup (.cons (.int _) (.cons (.int _) .nil))
theorem KnownM.keep {K : PySem.W.Frag} {H H' : Hp} {ps : List Part} {pus : List (Nat × Int)} {kvs : List (NestedKey × V)} {S av : List Addr} (h : KnownM K H ps pus kvs av) (k : Keep S H H') (t : TupK H H') (n : ∀ a ∈ S, a ∈ av ∨ ∀ ws, H a ≠ some (.lst ws)) : KnownM K H' ps pus kvs av := fun x v hx => by
  obtain ⟨xs, l, ws, h1, h2, h3, hav, h4, h5⟩ := h x v hx
  exact ⟨xs, l, ws, h1, h2, h3, hav, k l _ (fun z => (n l z).elim hav (fun e => e ws h4)) h4, dpAll_td t (tds_all fun a _ => td_mvD a) h5⟩
theorem KnownM.same {K : PySem.W.Frag} {H H' : Hp} {ps : List Part} {pus : List (Nat × Int)} {kvs : List (NestedKey × V)} {av : List Addr} (h : KnownM K H ps pus kvs av) (s : Same H H') : KnownM K H' ps pus kvs av := fun x v hx => by
  obtain ⟨xs, l, ws, h1, h2, h3, hav, h4, h5⟩ := h x v hx
  exact ⟨xs, l, ws, h1, h2, h3, hav, s _ _ h4, dpAll_same s h5⟩
theorem MoverAt.same {w : World} {K : PySem.W.Frag} {C : Addr} {H H' : Hp} {p kn : Addr} {ps : List Part} {pus : List (Nat × Int)} {kvs : List (NestedKey × V)} {av : List Addr} (h : MoverAt w K C H p kn ps pus kvs av) (s : Same H H') : MoverAt w K C H' p kn ps pus kvs av := by
  obtain ⟨⟨dx, tr, u, h1, h2, h3⟩, h4, h5⟩ := h
  exact ⟨⟨dx, tr, u, s _ _ h1, h2.same s, dp_same s h3⟩, h4.same s, h5.same s⟩
theorem td_part (p : Part) : TD p.data := by
  cases p with
  | wheel z ms => exact .tup (.cons (.str _) (.cons (.int _) (.cons (.tup (td_ints ms)) .nil)))
  | click => exact .tup (.cons (.str _) .nil)
  | rocker => exact .tup (.cons (.str _) .nil)
  | spring k => exact .tup (.cons (.str _) (.cons (.int _) .nil))
def notLst : HO → Bool
  | .lst _ => false
  | .frz _ _ => false
  | _ => true
theorem not_rdL {H : Hp} {a : Addr} {o : HO} (h : H a = some o) (n : notLst o = true) (xs : List V) : ¬ Rd H a (.lst xs) := fun r => by
  rcases r with z | ⟨u, z⟩
  · rw [h] at z
    cases z
    cases n
  · rw [h] at z
    cases z
    cases n
theorem sqL_keep {K : PySem.W.Frag} {S : List Addr} {H H' : Hp} {a : Addr} {xs : List V} (k : Keep S H H') (n : ∀ b ∈ S, ∀ ys, ¬ Rd H b (.lst ys)) (h : SqL K H a xs) : SqL K H' a xs := by
  rcases h with h | h
  · have na : a ∉ S := fun z => n a z xs h
    rcases h with z | ⟨u, z⟩
    · exact .inl (.inl (k _ _ na z))
    · exact .inl (.inr ⟨u, k _ _ na z⟩)
  · exact .inr h
theorem sqT_tup {K : PySem.W.Frag} {H H' : Hp} {a : Addr} {xs : List V} (t : TupK H H') (h : SqT K H a xs) : SqT K H' a xs := by
  rcases h with h | h
  · exact .inl (t _ _ h)
  · exact .inr h
theorem trainAt_keep {K : PySem.W.Frag} {S : List Addr} {H H' : Hp} {a : Addr} {ps : List Part} (k : Keep S H H') (t : TupK H H') (n : ∀ b ∈ S, ∀ ys, ¬ Rd H b (.lst ys)) (h : TrainAt K H a ps) : TrainAt K H' a ps := by
  obtain ⟨vs, h1, h2⟩ := h
  exact ⟨vs, sqL_keep k n h1, dpAll_td t (tds_all fun p _ => td_part p) h2⟩
theorem td_pus (pus : List (Nat × Int)) : TD (.tuple (pus.map psD)) := .tup (tds_all fun q _ => td_psD q)
theorem valV_mem {κ : Type} [DecidableEq κ] : ∀ {kvs : List (κ × V)} {k : κ} {v : V}, valV kvs k = some v → (k, v) ∈ kvs
  | [], _, _, h => nomatch h
  | p :: r, k, v, h => by
    by_cases e : p.1 = k
    · rw [valV_pos e] at h
      cases h
      rw [← e]
      exact List.mem_cons_self
    · rw [valV_neg e] at h
      exact List.mem_cons_of_mem _ (valV_mem h)
theorem ps_inv {K : PySem.W.Frag} {H : Hp} {v : V} {q : Nat × Int} (h : Dp K H v (psD q)) : ∃ a, v = .ref a ∧ SqT K H a [.int q.1, .int q.2] := by
  obtain ⟨a, vs, rfl, h1, h2⟩ := tup_inv h
  cases dpAll_ints_inv [(q.1 : Int), q.2] h2
  exact ⟨a, rfl, h1⟩
theorem MoverAt.av {w : World} {K : PySem.W.Frag} {C : Addr} {H : Hp} {p kn : Addr} {ps : List Part} {pus : List (Nat × Int)} {av : List Addr} (h : MoverAt w K C H p kn ps pus [] av) (bv : List Addr) : MoverAt w K C H p kn ps pus [] bv := ⟨h.ob, h.kn, fun _ _ z => nomatch z⟩
/-- what stays of a Mover when another thing is written -/
theorem MoverAt.keep {w : World} {K : PySem.W.Frag} {C : Addr} {H H' : Hp} {p kn : Addr} {ps : List Part} {pus : List (Nat × Int)} {kvs : List (NestedKey × V)} {S av : List Addr} (h : MoverAt w K C H p kn ps pus kvs av) (k : Keep S H H') (t : TupK H H') (hp : p ∉ S) (hk : kn ∉ S) (n : ∀ a ∈ S, a ∈ av ∨ ∀ ws, H a ≠ some (.lst ws)) (m : ∀ dx tr u, H p = some (.ins C dx (fldsM (.ref tr) (.ref u) kn)) → TrainAt K H tr ps → TrainAt K H' tr ps) : MoverAt w K C H' p kn ps pus kvs av := by
  obtain ⟨⟨dx, tr, u, h1, h2, h3⟩, h4, h5⟩ := h
  obtain ⟨x4, e4⟩ := h4.ext
  exact ⟨⟨dx, tr, u, k _ _ hp h1, m dx tr u h1 h2, dp_td t (td_pus pus) h3⟩, h4.tup t (by rw [k _ _ hk e4, e4]), h5.keep k t n⟩
end Ct

/-! two trains held against each other, pair by pair -/
namespace Ct
open PySem PySem.Spec PyProof.Rows L2
theorem Keep.then {S T : List Addr} {H G G' : Hp} (h : Keep S H G) (g : Keep T G G') (n : ∀ a ∈ T, a ∈ S ∨ H a = none) : Keep S H G' := fun a u na e => g a u (fun z => (n a z).elim na (fun w => by rw [w] at e; cases e)) (h a u na e)
theorem dp2_inv {K : PySem.W.Frag} {H : Hp} {v : V} {d e : PyData} (h : Dp K H v (.tuple [d, e])) : ∃ a x y, v = .ref a ∧ SqT K H a [x, y] ∧ Dp K H x d ∧ Dp K H y e := by
  obtain ⟨a, vs, rfl, h1, h2⟩ := tup_inv h
  cases h2 with
  | cons hx h2 =>
    cases h2 with
    | cons hy h2 =>
      cases h2
      exact ⟨a, _, _, rfl, h1, hx, hy⟩
theorem mv_inv {K : PySem.W.Frag} {H : Hp} {v : V} {m : List Int × Int} (h : Dp K H v (mvD m)) : ∃ a b, v = .ref a ∧ SqT K H a [.ref b, .int m.2] ∧ SqT K H b (m.1.map V.int) := by
  obtain ⟨a, x, y, rfl, h1, h2, h3⟩ := dp2_inv h
  obtain ⟨b, rfl, hb⟩ := tupD_inv h2
  cases h3
  exact ⟨a, b, rfl, h1, hb⟩
def pkey (xs ys : List Int) : NestedKey := .tup [skey xs, skey ys]
theorem pkey_D (xs ys : List Int) : nkD (pkey xs ys) = .tuple [tupD xs, tupD ys] := by
  unfold pkey
  rw [nkD, nkAll, nkAll, nkAll, skey_D, skey_D]
theorem pkey_inj {xs ys us vs : List Int} (h : pkey xs ys = pkey us vs) : xs = us ∧ ys = vs := by
  unfold pkey at h
  injection h with h
  injection h with h1 h2
  injection h2 with h2 _
  exact ⟨skey_inj h1, skey_inj h2⟩
theorem pkey_depth (xs ys : List Int) : (pkey xs ys).depth ≤ 8 := by
  unfold pkey skey
  rw [NestedKey.depth, NestedKey.depthAll, NestedKey.depthAll, NestedKey.depthAll, NestedKey.depth, NestedKey.depth, nums_depth, nums_depth]
  decide
/-- the pushes at one pair, from the first on: apart by this path, or what was met by now -/
def visitP (ps qs : List Part) (xs ys : List Int) : List (Nat × Int) → List Rec → Except (List PyData) (List Rec)
  | [], rs => .ok rs
  | q :: r, rs => if (Ct.run ps xs q.1 q.2).2 ≠ (Ct.run qs ys q.1 q.2).2 then .error (pathR rs.reverse (pkey xs ys) ++ [psD q]) else visitP ps qs xs ys r (meetR rs (pkey xs ys) (psD q) (pkey (Ct.run ps xs q.1 q.2).1 (Ct.run qs ys q.1 q.2).1))
inductive BfsR (ps qs : List Part) (pus : List (Nat × Int)) : Nat → List Rec → Except (List PyData) (List Rec) → Prop
  | done {at_ : Nat} {rs : List Rec} : rs.length ≤ at_ → BfsR ps qs pus at_ rs (.ok rs)
  | stop {at_ : Nat} {rs : List Rec} {r : Rec} {xs ys : List Int} {p : List PyData} : rs[at_]? = some r → r.1 = pkey xs ys → visitP ps qs xs ys pus rs = .error p → BfsR ps qs pus at_ rs (.error p)
  | step {at_ : Nat} {rs rs' : List Rec} {r : Rec} {xs ys : List Int} {x : Except (List PyData) (List Rec)} : rs[at_]? = some r → r.1 = pkey xs ys → visitP ps qs xs ys pus rs = .ok rs' → BfsR ps qs pus (at_ + 1) rs' x → BfsR ps qs pus at_ rs x
variable {ps qs : List Part} {pus : List (Nat × Int)}
theorem bfs_fun {at_ : Nat} {rs : List Rec} {x y : Except (List PyData) (List Rec)} (h : BfsR ps qs pus at_ rs x) (g : BfsR ps qs pus at_ rs y) : x = y := by
  induction h generalizing y with
  | done hl =>
    cases g with
    | done _ => rfl
    | stop h1 _ _ => have := (List.getElem?_eq_some_iff.mp h1).1; omega
    | step h1 _ _ _ => have := (List.getElem?_eq_some_iff.mp h1).1; omega
  | stop h1 h2 h3 =>
    cases g with
    | done hl => have := (List.getElem?_eq_some_iff.mp h1).1; omega
    | stop g1 g2 g3 =>
      cases Option.some.inj (h1.symm.trans g1)
      obtain ⟨rfl, rfl⟩ := pkey_inj (h2.symm.trans g2)
      rw [h3] at g3
      cases g3
      rfl
    | step g1 g2 g3 _ =>
      cases Option.some.inj (h1.symm.trans g1)
      obtain ⟨rfl, rfl⟩ := pkey_inj (h2.symm.trans g2)
      rw [h3] at g3
      cases g3
  | step h1 h2 h3 _ ih =>
    cases g with
    | done hl => have := (List.getElem?_eq_some_iff.mp h1).1; omega
    | stop g1 g2 g3 =>
      cases Option.some.inj (h1.symm.trans g1)
      obtain ⟨rfl, rfl⟩ := pkey_inj (h2.symm.trans g2)
      rw [h3] at g3
      cases g3
    | step g1 g2 g3 g4 =>
      cases Option.some.inj (h1.symm.trans g1)
      obtain ⟨rfl, rfl⟩ := pkey_inj (h2.symm.trans g2)
      rw [h3] at g3
      cases g3
      exact ih g4
/-- each is a pair of stands -/
def NodesOk (ps qs : List Part) (rs : List Rec) : Prop := ∀ k ∈ keysR rs, ∃ xs ys, k = pkey xs ys ∧ StandL ps xs ∧ StandL qs ys
theorem nodes_meet {rs : List Rec} {here : NestedKey} {d : PyData} {xs ys : List Int} (h : NodesOk ps qs rs) (hx : StandL ps xs) (hy : StandL qs ys) : NodesOk ps qs (meetR rs here d (pkey xs ys)) := by
  unfold meetR
  by_cases c : pkey xs ys ∈ keysR rs
  · rw [if_pos c]; exact h
  · rw [if_neg c]
    intro k hk
    rw [keysR_app] at hk
    rcases List.mem_append.mp hk with hk | hk
    · exact h k hk
    · rw [List.mem_singleton.mp hk]
      exact ⟨xs, ys, rfl, hx, hy⟩
theorem nodes_few {rs : List Rec} (h : NodesOk ps qs rs) (nd : (keysR rs).Nodup) : rs.length ≤ (stands ps).toNat * (stands qs).toNat := by
  have main : ∀ l : List NestedKey, l.Nodup → (∀ k ∈ l, ∃ xs ys, k = pkey xs ys ∧ StandL ps xs ∧ StandL qs ys) → ∃ cs : List Nat, cs.length = l.length ∧ cs.Nodup ∧ (∀ c ∈ cs, c < (stands ps).toNat * (stands qs).toNat) ∧ ∀ c ∈ cs, ∃ xs ys, pkey xs ys ∈ l ∧ StandL ps xs ∧ StandL qs ys ∧ c = code ps xs * (stands qs).toNat + code qs ys := fun l => by
    induction l with
    | nil => intro _ _; exact ⟨[], rfl, List.nodup_nil, (fun _ z => nomatch z), fun _ z => nomatch z⟩
    | cons k l ih =>
      intro nd hk
      obtain ⟨n1, n2⟩ := List.nodup_cons.mp nd
      obtain ⟨cs, h1, h2, h3, h4⟩ := ih n2 fun x hx => hk x (List.mem_cons_of_mem _ hx)
      obtain ⟨xs, ys, rfl, sx, sy⟩ := hk k List.mem_cons_self
      have cx := code_lt sx
      have cy := code_lt sy
      refine ⟨(code ps xs * (stands qs).toNat + code qs ys) :: cs, by rw [List.length_cons, List.length_cons, h1], List.nodup_cons.mpr ⟨fun z => ?_, h2⟩, fun c hc => ?_, fun c hc => ?_⟩
      · obtain ⟨us, vs, m, su, sv, e⟩ := h4 _ z
        have cu := code_lt su
        have cv := code_lt sv
        have e1 : code ps xs = code ps us := by
          have : (code ps xs * (stands qs).toNat + code qs ys) / (stands qs).toNat = (code ps us * (stands qs).toNat + code qs vs) / (stands qs).toNat := by rw [e]
          rw [Nat.mul_comm, Nat.mul_add_div (by omega), Nat.div_eq_of_lt cy, Nat.mul_comm (code ps us), Nat.mul_add_div (by omega), Nat.div_eq_of_lt cv] at this
          omega
        have e2 : code qs ys = code qs vs := by rw [e1] at e; omega
        rw [code_inj sx su e1, code_inj sy sv e2] at n1
        exact n1 m
      · rcases List.mem_cons.mp hc with rfl | hc
        · have := Nat.mul_le_mul_right (stands qs).toNat (show code ps xs + 1 ≤ (stands ps).toNat by omega)
          rw [Nat.add_mul, Nat.one_mul] at this
          omega
        · exact h3 c hc
      · rcases List.mem_cons.mp hc with rfl | hc
        · exact ⟨xs, ys, List.mem_cons_self, sx, sy, rfl⟩
        · obtain ⟨us, vs, m, r⟩ := h4 c hc
          exact ⟨us, vs, List.mem_cons_of_mem _ m, r⟩
  obtain ⟨cs, h1, h2, h3, _⟩ := main (keysR rs) nd h
  have := holes _ cs h2 h3
  rw [h1, show (keysR rs).length = rs.length from List.length_map _] at this
  exact this
theorem pathR_len : ∀ (rs : List Rec) (g : NestedKey), (pathR rs g).length ≤ rs.length
  | [], _ => Nat.le_refl _
  | (x, n, o) :: rs, g => by
    unfold pathR
    by_cases c : g = x
    · rw [if_pos c]
      cases o with
      | none => exact Nat.zero_le _
      | some yd =>
        have := pathR_len rs yd.1
        show (pathR rs yd.1 ++ [yd.2]).length ≤ rs.length + 1
        rw [List.length_append]
        exact Nat.succ_le_succ this
    · rw [if_neg c]
      exact Nat.le_succ_of_le (pathR_len rs g)
def startR (xs ys : List Int) : List Rec := [(pkey xs ys, 0, none)]
theorem nodes_start {xs ys : List Int} (hx : StandL ps xs) (hy : StandL qs ys) : NodesOk ps qs (startR xs ys) := fun k hk => by
  rw [List.mem_singleton.mp hk]
  exact ⟨xs, ys, rfl, hx, hy⟩
/-- what is told: the word, and what the list behind it holds -/
def heldW : Except (List PyData) (List Rec) → Str
  | .error _ => "apart"
  | .ok _ => "alike"
def sortD (ds : List PyData) : List PyData := ds.mergeSort (PySem.W.dataLe false id)
def heldL : Except (List PyData) (List Rec) → List PyData
  | .error p => p
  | .ok rs => sortD ((keysR rs).map nkD)
/-- sorted(..), told what comes first -/
def rSortD (K : PySem.W.Frag) : List V → Hp → VK → Prop := fun vs H Q => ∃ (a : Addr) (xs : List V) (ds : List PyData), vs = [V.ref a] ∧ SqL K H a xs ∧ DpAll K H xs ds ∧ PySem.W.AllAlike ds ∧ PySem.W.Sortable ds ∧ (∀ d ∈ ds, d.depth ≤ 60) ∧
  ∀ (ys : List V) (p : Addr), ys.length = xs.length → DpAll K H ys (sortD ds) → H p = none → Q (.ref p) (upd H p (.lst ys))
theorem cr_sortD {X : Cx} (hu : X.A.units + 65 < cLine) : CallR X (.builtin "sorted") (rSortD X.K) := by
  intro pins s σ H vs us Q I r h
  obtain ⟨a, xs, ds, rfl, hs, hd, al, so, dp, q⟩ := h
  obtain ⟨its, rv, hl, hz⟩ := I.list hs
  rw [Vals.ref1 r]
  obtain ⟨e1, e2⟩ := so_each I rv hd
  have zl : (xs.zip ds).length = xs.length := by rw [List.length_zip, ← dpAll_len hd, Nat.min_self]
  have zs := so_snd hd
  refine PySem.W.sorted_data (enc := Prod.snd) hl.isList e1 e2 (by rw [zs]; exact al) (by rw [zs]; exact so) (by rw [zl]; exact hz) (fun b hb => ?_) fun out ol oe => ?_
  · have := dp b.2 (by rw [← zs]; exact List.mem_map_of_mem hb)
    omega
  have pm := List.mergeSort_perm (xs.zip ds) (PySem.W.dataLe false Prod.snd)
  have pl : ((xs.zip ds).mergeSort (PySem.W.dataLe false Prod.snd)).length = xs.length := pm.length_eq.trans zl
  obtain ⟨ep, he'⟩ := PyProof.Rows.sortedAll_at s.heap its out.toArray
  have ms : ((xs.zip ds).mergeSort (PySem.W.dataLe false Prod.snd)).map Prod.snd = sortD ds := by
    unfold sortD
    rw [List.map_mergeSort (s := PySem.W.dataLe false id) (fun a _ b _ => by rw [PySem.W.dataLe_eq, PySem.W.dataLe_eq]; rfl), zs]
  refine ⟨.ref _, upd H (s.heap.objs.size + 1) (.lst (((xs.zip ds).mergeSort (PySem.W.dataLe false Prod.snd)).map Prod.fst)), I.laid (t' := s.toks) (fun _ _ => PyProof.Rows.sortedAll_old) (Nat.le_succ _) ⟨by rw [List.length_map, pl]; exact hz, out, ep, so_vals oe, he'⟩, rfl, q _ _ (by rw [List.length_map, pl]) ?_ (I.hok.fresh (Nat.le_succ _))⟩
  rw [← ms]
  exact so_all fun b hb => so_dp hd b (pm.mem_iff.mp hb)
theorem alike_pk (xs ys us vs : List Int) : PySem.W.alike (nkD (pkey xs ys)) (nkD (pkey us vs)) = true := by
  rw [pkey_D, pkey_D]
  unfold tupD
  rw [PySem.W.alike, PySem.W.alikeAll, PySem.W.alikeAll, PySem.W.alikeAll, PySem.W.alike, PySem.W.alike, PySem.W.alike_ints, PySem.W.alike_ints]
  rfl
theorem alike_nodes {rs : List Rec} (h : NodesOk ps qs rs) : PySem.W.AllAlike ((keysR rs).map nkD) := by
  intro d hd e he
  obtain ⟨k, hk, rfl⟩ := List.mem_map.mp hd
  obtain ⟨j, hj, rfl⟩ := List.mem_map.mp he
  obtain ⟨xs, ys, rfl, _⟩ := h k hk
  obtain ⟨us, vs, rfl, _⟩ := h j hj
  exact alike_pk xs ys us vs
theorem sort_nodes {rs : List Rec} (h : NodesOk ps qs rs) : PySem.W.Sortable ((keysR rs).map nkD) := .inl fun d hd => by
  obtain ⟨k, hk, rfl⟩ := List.mem_map.mp hd
  obtain ⟨xs, ys, rfl, _⟩ := h k hk
  rw [pkey_D]
  exact ⟨_, _, rfl⟩
theorem depth_nodes {rs : List Rec} (h : NodesOk ps qs rs) : ∀ d ∈ (keysR rs).map nkD, d.depth ≤ 60 := fun d hd => by
  obtain ⟨k, hk, rfl⟩ := List.mem_map.mp hd
  obtain ⟨xs, ys, rfl, _⟩ := h k hk
  rw [pkey_D]
  have := (lay_tup (ds := [tupD xs, tupD ys]) (n := 1) fun d hd => by
    rcases List.mem_cons.mp hd with rfl | hd
    · exact lay_tup (lay_ints xs 0)
    · rw [List.mem_singleton.mp hd]
      exact lay_tup (lay_ints ys 0)).2
  omega
/-- what holds while the pairs are gone through: H stood ahead, G stands -/
structure HeldI (w : World) (K : PySem.W.Frag) (C : Addr) (H G : Hp) (sp m n c k1 k2 : Addr) (ps qs : List Part) (pus : List (Nat × Int)) (rs : List Rec) (kv1 kv2 : List (NestedKey × V)) (av1 : List Addr) : Prop where
  S : SearchAt w K C G sp m n c rs
  keep : Keep [k1, k2] H G
  tup : TupK H G
  n1 : NdAt w K G k1 kv1
  r1 : KnownM K G ps pus kv1 (m :: av1)
  n2 : NdAt w K G k2 kv2
  r2 : KnownM K G qs pus kv2 [m]
  nodes : NodesOk ps qs rs
theorem mem_two {a b c : Addr} (h : a ∈ [b, c]) : a = b ∨ a = c := by
  rcases List.mem_cons.mp h with h | h
  · exact .inl h
  · exact .inr (List.mem_singleton.mp h)
theorem mem_three {a b c d : Addr} (h : a ∈ [b, c, d]) : a = b ∨ a = c ∨ a = d := by
  rcases List.mem_cons.mp h with h | h
  · exact .inl h
  · exact .inr (mem_two h)
section
variable {w : World} {K : PySem.W.Frag} {C : Addr} {H G G' : Hp} {sp m n c k1 k2 : Addr} {ps qs : List Part} {pus : List (Nat × Int)} {rs rs' : List Rec} {kv1 kv2 kv1' kv2' : List (NestedKey × V)} {av1 : List Addr}
theorem HeldI.train {tr : Addr} {ts : List Part} (I : HeldI w K C H G sp m n c k1 k2 ps qs pus rs kv1 kv2 av1) (e1 : ∃ xs, H k1 = some (NdO w k1 xs)) (e2 : ∃ xs, H k2 = some (NdO w k2 xs)) (h : TrainAt K H tr ts) : TrainAt K G tr ts := by
  obtain ⟨x1, e1⟩ := e1
  obtain ⟨x2, e2⟩ := e2
  refine trainAt_keep I.keep I.tup (fun b hb ys => ?_) h
  rcases mem_two hb with rfl | rfl
  · exact not_rdL e1 rfl ys
  · exact not_rdL e2 rfl ys
theorem HeldI.mov {bv : List Addr} {CM p kn tr u : Addr} {dx : Addr} {ts : List Part} {kv : List (NestedKey × V)} (I : HeldI w K C H G sp m n c k1 k2 ps qs pus rs kv1 kv2 av1) (e1 : ∃ xs, H k1 = some (NdO w k1 xs)) (e2 : ∃ xs, H k2 = some (NdO w k2 xs)) (hp : H p = some (.ins CM dx (fldsM (.ref tr) (.ref u) kn))) (hT : TrainAt K H tr ts) (hu : Dp K H (.ref u) (.tuple (pus.map psD))) (hn : NdAt w K G kn kv) (hr : KnownM K G ts pus kv bv) : MoverAt w K CM G p kn ts pus kv bv := by
  have np : p ∉ [k1, k2] := fun z => by
    obtain ⟨x1, e1⟩ := e1
    obtain ⟨x2, e2⟩ := e2
    rcases mem_two z with rfl | rfl
    · rw [hp] at e1; cases e1
    · rw [hp] at e2; cases e2
  exact ⟨⟨dx, tr, u, I.keep _ _ np hp, I.train e1 e2 hT, dp_td I.tup (td_pus pus) hu⟩, hn, hr⟩
theorem HeldI.meet (I : HeldI w K C H G sp m n c k1 k2 ps qs pus rs kv1 kv2 av1) (nm : H m = none) (nn : H n = none) (nc : H c = none) (e1 : ∃ xs, H k1 = some (NdO w k1 xs)) (e2 : ∃ xs, H k2 = some (NdO w k2 xs)) (k : Keep [m, n, c] G G') (S' : SearchAt w K C G' sp m n c rs') (nodes : NodesOk ps qs rs') : HeldI w K C H G' sp m n c k1 k2 ps qs pus rs' kv1 kv2 av1 := by
  have t := I.S.tupK k
  obtain ⟨x1, e1⟩ := e1
  obtain ⟨x2, e2⟩ := e2
  have o1 : k1 ∉ [m, n, c] := fun z => by
    rcases mem_three z with rfl | rfl | rfl
    · rw [e1] at nm; cases nm
    · rw [e1] at nn; cases nn
    · rw [e1] at nc; cases nc
  have o2 : k2 ∉ [m, n, c] := fun z => by
    rcases mem_three z with rfl | rfl | rfl
    · rw [e2] at nm; cases nm
    · rw [e2] at nn; cases nn
    · rw [e2] at nc; cases nc
  obtain ⟨y1, f1⟩ := I.n1.ext
  obtain ⟨y2, f2⟩ := I.n2.ext
  obtain ⟨yn, fn⟩ := I.S.num.ext
  obtain ⟨cv, hc, _⟩ := I.S.came
  obtain ⟨yc, fc⟩ := hc.ext
  have nl : ∀ {bv : List Addr}, ∀ a ∈ [m, n, c], a ∈ m :: bv ∨ ∀ ws, G a ≠ some (.lst ws) := fun {bv} a ha => by
    rcases mem_three ha with rfl | rfl | rfl
    · exact .inl List.mem_cons_self
    · exact .inr fun ws z => by rw [fn] at z; cases z
    · exact .inr fun ws z => by rw [fc] at z; cases z
  exact ⟨S', I.keep.then k fun a ha => by
      rcases mem_three ha with rfl | rfl | rfl
      · exact .inr nm
      · exact .inr nn
      · exact .inr nc, I.tup.trans t, I.n1.tup t (by rw [k _ _ o1 f1, f1]), I.r1.keep k t nl, I.n2.tup t (by rw [k _ _ o2 f2, f2]), I.r2.keep k t nl, nodes⟩
theorem HeldI.mv1 {CM p : Addr} (I : HeldI w K C H G sp m n c k1 k2 ps qs pus rs kv1 kv2 av1) (nek : k1 ≠ k2) (ns : H sp = none) (nm : H m = none) (nn : H n = none) (nc : H c = none) (e1 : ∃ xs, H k1 = some (NdO w k1 xs)) (k : Keep [k1] G G') (M : MoverAt w K CM G' p k1 ps pus kv1' (m :: av1)) : HeldI w K C H G' sp m n c k1 k2 ps qs pus rs kv1' kv2 av1 := by
  obtain ⟨x1, e1⟩ := e1
  obtain ⟨y1, f1⟩ := I.n1.ext
  obtain ⟨y2, f2⟩ := I.n2.ext
  have t : TupK G G' := k.tupK fun a ha xs => by rw [List.mem_singleton.mp ha]; exact not_rd f1 rfl xs
  have out : ∀ {a : Addr}, H a = none → a ∉ [k1] := fun e z => by rw [List.mem_singleton.mp z, e1] at e; cases e
  exact ⟨I.S.keep k t (out ns) (out nm) (out nn) (out nc), I.keep.trans (k.mono fun a ha => by rw [List.mem_singleton.mp ha]; exact List.mem_cons_self), I.tup.trans t, M.kn, M.right, I.n2.tup t (by rw [k _ _ (fun z => nek (List.mem_singleton.mp z).symm) f2, f2]), I.r2.keep k t (fun a ha => .inr fun ws z => by rw [List.mem_singleton.mp ha, f1] at z; cases z), I.nodes⟩
theorem HeldI.mv2 {CM p : Addr} (I : HeldI w K C H G sp m n c k1 k2 ps qs pus rs kv1 kv2 av1) (nek : k1 ≠ k2) (ns : H sp = none) (nm : H m = none) (nn : H n = none) (nc : H c = none) (e2 : ∃ xs, H k2 = some (NdO w k2 xs)) (k : Keep [k2] G G') (M : MoverAt w K CM G' p k2 qs pus kv2' [m]) : HeldI w K C H G' sp m n c k1 k2 ps qs pus rs kv1 kv2' av1 := by
  obtain ⟨x2, e2⟩ := e2
  obtain ⟨y1, f1⟩ := I.n1.ext
  obtain ⟨y2, f2⟩ := I.n2.ext
  have t : TupK G G' := k.tupK fun a ha xs => by rw [List.mem_singleton.mp ha]; exact not_rd f2 rfl xs
  have out : ∀ {a : Addr}, H a = none → a ∉ [k2] := fun e z => by rw [List.mem_singleton.mp z, e2] at e; cases e
  exact ⟨I.S.keep k t (out ns) (out nm) (out nn) (out nc), I.keep.trans (k.mono fun a ha => by rw [List.mem_singleton.mp ha]; exact List.mem_cons_of_mem _ List.mem_cons_self), I.tup.trans t, I.n1.tup t (by rw [k _ _ (fun z => nek (List.mem_singleton.mp z)) f1, f1]), I.r1.keep k t (fun a ha => .inr fun ws z => by rw [List.mem_singleton.mp ha, f2] at z; cases z), M.kn, M.right, I.nodes⟩
theorem HeldI.same (I : HeldI w K C H G sp m n c k1 k2 ps qs pus rs kv1 kv2 av1) (s : Same G G') : HeldI w K C H G' sp m n c k1 k2 ps qs pus rs kv1 kv2 av1 :=
  ⟨I.S.same s, I.keep.trans (keep_same s), I.tup.trans (tupK_same s), I.n1.same s, I.r1.same s, I.n2.same s, I.r2.same s, I.nodes⟩
end
def wayOf : PyData → PyData
  | .tuple [_, v] => v
  | d => d
/-- what trains_alike tells: the ways of the pushes alone -/
def heldT : Except (List PyData) (List Rec) → List PyData
  | .error p => p.map wayOf
  | .ok rs => sortD ((keysR rs).map nkD)
def MovesOk (pus : List (Nat × Int)) (rs : List Rec) : Prop := ∀ r ∈ rs, ∀ y d, r.2.2 = some (y, d) → ∃ q ∈ pus, d = psD q
theorem path_moves {pus : List (Nat × Int)} : ∀ {rs : List Rec} (g : NestedKey), MovesOk pus rs → ∀ d ∈ pathR rs g, ∃ q ∈ pus, d = psD q
  | [], _, _, _, h => nomatch h
  | (x, n, o) :: rs, g, ok, d, h => by
    have ok2 : MovesOk pus rs := fun r hr => ok r (List.mem_cons_of_mem _ hr)
    unfold pathR at h
    by_cases c : g = x
    · rw [if_pos c] at h
      cases o with
      | none => exact nomatch h
      | some yd =>
        rcases List.mem_append.mp h with h | h
        · exact path_moves yd.1 ok2 d h
        · rw [List.mem_singleton.mp h]
          exact ok _ List.mem_cons_self yd.1 yd.2 rfl
    · rw [if_neg c] at h
      exact path_moves g ok2 d h
theorem moves_meet {pus : List (Nat × Int)} {rs : List Rec} {here k : NestedKey} {q : Nat × Int} (h : MovesOk pus rs) (hq : q ∈ pus) : MovesOk pus (meetR rs here (psD q) k) := by
  unfold meetR
  by_cases c : k ∈ keysR rs
  · rw [if_pos c]; exact h
  · rw [if_neg c]
    intro r hr y d e
    rcases List.mem_append.mp hr with hr | hr
    · exact h r hr y d e
    · rw [List.mem_singleton.mp hr] at e
      cases e
      exact ⟨q, hq, rfl⟩
theorem visit_moves {ps qs : List Part} {xs ys : List Int} {pus : List (Nat × Int)} : ∀ (l : List (Nat × Int)) (rs : List Rec), (∀ q ∈ l, q ∈ pus) → MovesOk pus rs → (∀ p, visitP ps qs xs ys l rs = .error p → ∀ d ∈ p, ∃ q ∈ pus, d = psD q) ∧ ∀ rs', visitP ps qs xs ys l rs = .ok rs' → MovesOk pus rs'
  | [], rs, _, ok => ⟨(fun p h => by cases h), fun rs' h => by cases h; exact ok⟩
  | q :: l, rs, hl, ok => by
    unfold visitP
    by_cases c : (Ct.run ps xs q.1 q.2).2 ≠ (Ct.run qs ys q.1 q.2).2
    · rw [if_pos c]
      refine ⟨fun p h d hd => ?_, fun rs' h => nomatch h⟩
      cases h
      rcases List.mem_append.mp hd with hd | hd
      · exact path_moves _ (fun r hr => ok r (List.mem_reverse.mp hr)) d hd
      · rw [List.mem_singleton.mp hd]
        exact ⟨q, hl q List.mem_cons_self, rfl⟩
    · rw [if_neg c]
      exact visit_moves l _ (fun z hz => hl z (List.mem_cons_of_mem _ hz)) (moves_meet ok (hl q List.mem_cons_self))
theorem bfs_moves {ps qs : List Part} {pus : List (Nat × Int)} {at_ : Nat} {rs : List Rec} {x : Except (List PyData) (List Rec)} (h : BfsR ps qs pus at_ rs x) : MovesOk pus rs → ∀ p, x = .error p → ∀ d ∈ p, ∃ q ∈ pus, d = psD q := by
  induction h with
  | done _ => intro _ p h; cases h
  | stop _ _ h3 => intro ok p h; cases h; exact (visit_moves pus _ (fun _ h => h) ok).1 _ h3
  | step _ _ h3 _ ih => intro ok; exact ih ((visit_moves pus _ (fun _ h => h) ok).2 _ h3)
theorem moves_start {pus : List (Nat × Int)} {xs ys : List Int} : MovesOk pus (startR xs ys) := fun r hr y d e => by
  rw [List.mem_singleton.mp hr] at e
  cases e
theorem Keep.nil {H H' : Hp} (h : Keep [] H H') : Same H H' := fun a u e => h a u List.not_mem_nil e
theorem known_list {K : PySem.W.Frag} {H : Hp} {ps : List Part} {pus : List (Nat × Int)} {av : List Addr} : ∀ {kvs : List (NestedKey × V)}, KnownM K H ps pus kvs av → ∃ l : List (List Int), kvs.map (·.1) = l.map skey ∧ ∀ x ∈ l, StandL ps x
  | [], _ => ⟨[], rfl, fun _ h => nomatch h⟩
  | (k, v) :: r, h => by
    obtain ⟨l, h1, h2⟩ := known_list (kvs := r) (fun k v hk => h k v (List.mem_cons_of_mem _ hk))
    obtain ⟨xs, _, _, e, sx, _⟩ := h k v List.mem_cons_self
    refine ⟨xs :: l, by rw [List.map_cons, List.map_cons, h1]; exact congrArg (· :: _) e, fun x hx => ?_⟩
    rcases List.mem_cons.mp hx with rfl | hx
    · exact sx
    · exact h2 x hx
theorem known_few {w : World} {K : PySem.W.Frag} {H : Hp} {kn : Addr} {ps : List Part} {pus : List (Nat × Int)} {av : List Addr} {kvs : List (NestedKey × V)} (hn : NdAt w K H kn kvs) (h : KnownM K H ps pus kvs av) : kvs.length ≤ (stands ps).toNat := by
  obtain ⟨l, h1, h2⟩ := known_list h
  obtain ⟨_, _, nd, _⟩ := hn
  rw [h1] at nd
  have nl : l.Nodup := List.Pairwise.imp (fun {a b} hab z => hab (by rw [z])) (List.pairwise_map.mp (List.nodup_iff_pairwise_ne.mp nd))
  have := few_of nl h2
  have e := congrArg List.length h1
  rw [List.length_map, List.length_map] at e
  omega
theorem KnownM.avoid {K : PySem.W.Frag} {H : Hp} {ps : List Part} {pus : List (Nat × Int)} {kvs : List (NestedKey × V)} {av bv : List Addr} (h : KnownM K H ps pus kvs av) (n : ∀ a ∈ bv, a ∈ av ∨ ∀ ws, H a ≠ some (.lst ws)) : KnownM K H ps pus kvs bv := fun k v hk => by
  obtain ⟨xs, l, ws, h1, h2, h3, hav, h4, h5⟩ := h k v hk
  exact ⟨xs, l, ws, h1, h2, h3, fun z => (n l z).elim hav (fun e => e ws h4), h4, h5⟩
end Ct

/-! trains that show alike whatever pushes come -/
namespace Ct
open PySem PySem.Spec PyProof.Rows L2
section
variable {ps qs : List Part} {pus : List (Nat × Int)}
abbrev rA (ps : List Part) (us : List Int) (q : Nat × Int) : List Int × Int := Ct.run ps us q.1 q.2
def ClosedR (ps qs : List Part) (pus : List (Nat × Int)) (R : List Int → List Int → Prop) : Prop := ∀ us vs, R us vs → ∀ q ∈ pus, (rA ps us q).2 = (rA qs vs q).2 ∧ R (rA ps us q).1 (rA qs vs q).1
def Sim (ps qs : List Part) (pus : List (Nat × Int)) (xs ys : List Int) : Prop := ∃ R, R xs ys ∧ ClosedR ps qs pus R
def RK (R : List Int → List Int → Prop) (k : NestedKey) : Prop := ∃ us vs, k = pkey us vs ∧ R us vs
theorem RK.of {R : List Int → List Int → Prop} {us vs : List Int} (h : RK R (pkey us vs)) : R us vs := by
  obtain ⟨a, b, e, r⟩ := h
  obtain ⟨rfl, rfl⟩ := pkey_inj e
  exact r
theorem visit_ok {us vs : List Int} : ∀ (l : List (Nat × Int)) (rs rs' : List Rec), visitP ps qs us vs l rs = .ok rs' → (∃ t, rs' = rs ++ t) ∧ ∀ q ∈ l, (rA ps us q).2 = (rA qs vs q).2 ∧ pkey (rA ps us q).1 (rA qs vs q).1 ∈ keysR rs'
  | [], rs, rs', h => by cases h; exact ⟨⟨[], (List.append_nil _).symm⟩, fun _ z => nomatch z⟩
  | q :: l, rs, rs', h => by
    unfold visitP at h
    by_cases c : (Ct.run ps us q.1 q.2).2 ≠ (Ct.run qs vs q.1 q.2).2
    · rw [if_pos c] at h; cases h
    · rw [if_neg c] at h
      obtain ⟨⟨t, ht⟩, all⟩ := visit_ok l _ rs' h
      obtain ⟨t0, ht0⟩ := meetR_pre (rs := rs) (here := pkey us vs) (k := pkey (Ct.run ps us q.1 q.2).1 (Ct.run qs vs q.1 q.2).1) (d := psD q)
      refine ⟨⟨t0 ++ t, by rw [ht, ht0, List.append_assoc]⟩, fun z hz => ?_⟩
      rcases List.mem_cons.mp hz with rfl | hz
      · refine ⟨Classical.byContradiction c, ?_⟩
        rw [ht, keysR_app]
        exact List.mem_append_left _ meetR_in
      · exact all z hz
theorem visit_R {us vs : List Int} {R : List Int → List Int → Prop} (cl : ClosedR ps qs pus R) (r0 : R us vs) : ∀ (l : List (Nat × Int)) (rs : List Rec), (∀ q ∈ l, q ∈ pus) → (∀ k ∈ keysR rs, RK R k) → (∀ p, visitP ps qs us vs l rs ≠ .error p) ∧ ∀ rs', visitP ps qs us vs l rs = .ok rs' → ∀ k ∈ keysR rs', RK R k
  | [], rs, _, h => ⟨(fun p z => nomatch z), fun rs' z => by cases z; exact h⟩
  | q :: l, rs, hl, h => by
    have c1 := cl us vs r0 q (hl q List.mem_cons_self)
    unfold visitP
    rw [if_neg (fun z => z c1.1)]
    refine visit_R cl r0 l _ (fun z hz => hl z (List.mem_cons_of_mem _ hz)) fun k hk => ?_
    unfold meetR at hk
    by_cases c : pkey (Ct.run ps us q.1 q.2).1 (Ct.run qs vs q.1 q.2).1 ∈ keysR rs
    · rw [if_pos c] at hk
      exact h k hk
    · rw [if_neg c, keysR_app] at hk
      rcases List.mem_append.mp hk with hk | hk
      · exact h k hk
      · rw [List.mem_singleton.mp hk]
        exact ⟨_, _, rfl, c1.2⟩
def DoneK (ps qs : List Part) (pus : List (Nat × Int)) (ks : List NestedKey) (k : NestedKey) : Prop := ∃ us vs, k = pkey us vs ∧ ∀ q ∈ pus, (rA ps us q).2 = (rA qs vs q).2 ∧ pkey (rA ps us q).1 (rA qs vs q).1 ∈ ks
theorem DoneK.more {ks js : List NestedKey} {k : NestedKey} (h : DoneK ps qs pus ks k) (m : ∀ x ∈ ks, x ∈ js) : DoneK ps qs pus js k := by
  obtain ⟨us, vs, e, all⟩ := h
  exact ⟨us, vs, e, fun q hq => ⟨(all q hq).1, m _ (all q hq).2⟩⟩
theorem sim_of {ks : List NestedKey} {xs ys : List Int} (h : ∀ k ∈ ks, DoneK ps qs pus ks k) (s : pkey xs ys ∈ ks) : Sim ps qs pus xs ys := by
  refine ⟨fun us vs => pkey us vs ∈ ks, s, fun us vs hk q hq => ?_⟩
  obtain ⟨a, b, e, all⟩ := h _ hk
  obtain ⟨rfl, rfl⟩ := pkey_inj e
  exact all q hq
theorem bfs_ok {at_ : Nat} {rs : List Rec} {x : Except (List PyData) (List Rec)} (h : BfsR ps qs pus at_ rs x) : ∀ rs', x = .ok rs' → (∀ i r, i < at_ → rs[i]? = some r → DoneK ps qs pus (keysR rs) r.1) → (∀ k ∈ keysR rs', DoneK ps qs pus (keysR rs') k) ∧ ∃ t, rs' = rs ++ t := by
  induction h with
  | @done a rs hl =>
    intro rs' e hd
    cases e
    refine ⟨fun k hk => ?_, [], (List.append_nil _).symm⟩
    obtain ⟨r, hr, rfl⟩ := List.mem_map.mp hk
    obtain ⟨i, hi⟩ := List.getElem?_of_mem hr
    exact hd i r (by have := (List.getElem?_eq_some_iff.mp hi).1; omega) hi
  | stop _ _ _ => intro rs' e; cases e
  | @step a rs rs1 r us vs x h1 h2 h3 _ ih =>
    intro rs' e hd
    obtain ⟨⟨t, ht⟩, all⟩ := visit_ok pus rs rs1 h3
    have sub : ∀ k ∈ keysR rs, k ∈ keysR rs1 := fun k hk => by rw [ht, keysR_app]; exact List.mem_append_left _ hk
    obtain ⟨g1, t1, g2⟩ := ih rs' e fun i r' hi hr' => by
      have lt := (List.getElem?_eq_some_iff.mp h1).1
      rw [ht, List.getElem?_append_left (by omega)] at hr'
      by_cases c : i = a
      · subst c
        cases Option.some.inj (h1.symm.trans hr')
        exact ⟨us, vs, h2, all⟩
      · exact (hd i r' (by omega) hr').more sub
    exact ⟨g1, t ++ t1, by rw [g2, ht, List.append_assoc]⟩
theorem bfs_err {R : List Int → List Int → Prop} (cl : ClosedR ps qs pus R) {at_ : Nat} {rs : List Rec} {x : Except (List PyData) (List Rec)} (h : BfsR ps qs pus at_ rs x) : (∀ k ∈ keysR rs, RK R k) → ∀ p, x ≠ .error p := by
  induction h with
  | done _ => intro _ p z; cases z
  | @stop a rs r us vs p h1 h2 h3 =>
    intro hk p z
    have r0 : R us vs := RK.of (by rw [← h2]; exact hk _ (List.mem_map.mpr ⟨r, List.mem_of_getElem? h1, rfl⟩))
    exact (visit_R cl r0 pus rs (fun _ h => h) hk).1 _ h3
  | @step a rs rs1 r us vs x h1 h2 h3 _ ih =>
    intro hk
    have r0 : R us vs := RK.of (by rw [← h2]; exact hk _ (List.mem_map.mpr ⟨r, List.mem_of_getElem? h1, rfl⟩))
    exact ih ((visit_R cl r0 pus rs (fun _ h => h) hk).2 _ h3)
/-- alike just where no pushes tell them apart -/
theorem bfs_sim {xs ys : List Int} {x : Except (List PyData) (List Rec)} (h : BfsR ps qs pus 0 (startR xs ys) x) : (∃ rs, x = .ok rs) ↔ Sim ps qs pus xs ys := by
  constructor
  · rintro ⟨rs, rfl⟩
    obtain ⟨h1, t, h2⟩ := bfs_ok h rs rfl fun i r hi => absurd hi (Nat.not_lt_zero i)
    exact sim_of h1 (by rw [h2, keysR_app]; exact List.mem_append_left _ (List.mem_singleton.mpr rfl))
  · rintro ⟨R, r0, cl⟩
    cases x with
    | ok rs => exact ⟨rs, rfl⟩
    | error p => exact absurd rfl (bfs_err cl h (fun k hk => by rw [List.mem_singleton.mp hk]; exact ⟨xs, ys, rfl, r0⟩) p)
end
abbrev ways2 : List (Nat × Int) := [(0, 1), (0, -1)]
def lessI {α : Type} (l : List α) (i : Nat) : List α := l.take i ++ l.drop (i + 1)
noncomputable def isSp (ps : List Part) (xs : List Int) (i : Nat) : Bool := @decide (1 < ps.length ∧ Sim ps (lessI ps i) ways2 xs (lessI xs i)) (Classical.propDecidable _)
noncomputable def spareL (ps : List Part) (xs : List Int) : List Nat := (List.range ps.length).filter (isSp ps xs)
theorem isSp_iff {ps : List Part} {xs : List Int} {i : Nat} : isSp ps xs i = true ↔ 1 < ps.length ∧ Sim ps (lessI ps i) ways2 xs (lessI xs i) := @decide_eq_true_iff _ (Classical.propDecidable _)
theorem standL_cut : ∀ {ps : List Part} {xs : List Int} (i : Nat), StandL ps xs → StandL (lessI ps i) (lessI xs i)
  | [], [], i, h => by unfold lessI; rw [List.take_nil, List.drop_nil, List.take_nil, List.drop_nil]; exact h
  | p :: ps, x :: xs, 0, ⟨_, _, _, h⟩ => h
  | p :: ps, x :: xs, i + 1, ⟨h1, h2, h3, h⟩ => ⟨h1, h2, h3, standL_cut i h⟩
theorem lessI_ok {ps : List Part} {i : Nat} (h : ∀ p ∈ ps, p.ok) : ∀ p ∈ lessI ps i, p.ok := fun p hp => by
  rcases List.mem_append.mp hp with hp | hp
  · exact h p (List.mem_of_mem_take hp)
  · exact h p (List.mem_of_mem_drop hp)
theorem lessI_len {α : Type} {l : List α} {i : Nat} (h : i < l.length) : (lessI l i).length + 1 = l.length := by
  unfold lessI
  rw [List.length_append, List.length_take, List.length_drop]
  omega
theorem stands_lessI {ps : List Part} {i : Nat} {p : Part} (h : ps[i]? = some p) : stands ps = stands (lessI ps i) * p.places := by
  have lt := (List.getElem?_eq_some_iff.mp h).1
  have e : ps = ps.take i ++ [p] ++ ps.drop (i + 1) := by
    have h2 := List.drop_eq_getElem_cons lt
    rw [(List.getElem?_eq_some_iff.mp h).2] at h2
    rw [List.append_assoc, List.singleton_append, ← h2, List.take_append_drop]
  have j : ∀ (a b : List Part), stands (a ++ b) = stands a * stands b := fun a => by
    induction a with
    | nil => intro b; show stands b = 1 * stands b; rw [Int.one_mul]
    | cons q a ih => intro b; show q.places * stands (a ++ b) = q.places * stands a * stands b; rw [ih b, Int.mul_assoc]
  have e2 := congrArg stands e
  rw [j, j] at e2
  rw [e2]
  unfold lessI
  rw [j]
  show stands (ps.take i) * (p.places * 1) * stands (ps.drop (i + 1)) = _
  rw [Int.mul_one, Int.mul_assoc, Int.mul_assoc, Int.mul_comm p.places]
theorem w_slAu {K : PySem.W.Frag} {H : Hp} {Q : VK} {g : Addr} {xs : List Int} {n : Nat} (h : SqT K H g (xs.map V.int)) (hn : n ≤ xs.length) (q : ∀ p H', Same H H' → SqT K H' p ((xs.take n).map V.int) → Q (.ref p) H') : rSlA K (.ref g) none (some (n : Int)) H Q := by
  have cut : cutV (xs.map V.int) none (some (n : Int)) = (xs.take n).map V.int := by
    rw [cutV_map, HT.sIx_none, HT.sIx_nat, List.drop_zero, Nat.min_eq_left (by omega), Nat.sub_zero]
  refine ⟨g, _, rfl, h, fun whole => ?_, fun _ p np => q p _ (same_upd np) (.of (by rw [upd_same, cut]))⟩
  refine q g H (Same.refl H) ?_
  rw [← cut, show cutV (xs.map V.int) none (some (n : Int)) = xs.map V.int by unfold cutV; rw [whole.1, whole.2, List.drop_zero, Nat.sub_zero, List.take_length]]
  exact h
theorem w_slAf {K : PySem.W.Frag} {H : Hp} {Q : VK} {g : Addr} {xs : List Int} {n : Nat} (h : SqT K H g (xs.map V.int)) (hn : n ≤ xs.length) (q : ∀ p H', Same H H' → SqT K H' p ((xs.drop n).map V.int) → Q (.ref p) H') : rSlA K (.ref g) (some (n : Int)) none H Q := by
  have cut : cutV (xs.map V.int) (some (n : Int)) none = (xs.drop n).map V.int := by
    rw [cutV_map, HT.sIx_none, HT.sIx_nat, Nat.min_eq_left hn]
    congr 1
    exact List.take_of_length_le (by rw [List.length_drop]; exact Nat.le_refl _)
  refine ⟨g, _, rfl, h, fun whole => ?_, fun _ p np => ?_⟩
  · refine q g H (Same.refl H) ?_
    rw [← cut, show cutV (xs.map V.int) (some (n : Int)) none = xs.map V.int by unfold cutV; rw [whole.1, whole.2, List.drop_zero, Nat.sub_zero, List.take_length]]
    exact h
  · exact q p _ (same_upd np) (.of (by rw [upd_same, cut]))
theorem fldsM_inj {t t' u u' : V} {kn kn' : Addr} (h : fldsM t u kn = fldsM t' u' kn') : t = t' := by
  have e := congrArg (fun l => List.lookup ("train" : Str) l) h
  simp only [fldsM_train] at e
  exact Option.some.inj e
end Ct
namespace Ct
open PySem PySem.Spec PyProof.Rows L2
/-- what was met by now, and what waits -/
structure SameI (ps qs : List Part) (xs ys : List Int) (ks wk : List NestedKey) : Prop where
  nodes : ∀ k ∈ ks, ∃ us vs, k = pkey us vs ∧ StandL ps us ∧ StandL qs vs
  sub : ∀ k ∈ wk, k ∈ ks
  start : pkey xs ys ∈ ks
  reach : ∀ R, R xs ys → ClosedR ps qs ways2 R → ∀ k ∈ ks, RK R k
theorem sameI_start {ps qs : List Part} {xs ys : List Int} (hx : StandL ps xs) (hy : StandL qs ys) : SameI ps qs xs ys [pkey xs ys] [pkey xs ys] :=
  ⟨fun k hk => by rw [List.mem_singleton.mp hk]; exact ⟨xs, ys, rfl, hx, hy⟩, fun _ h => h, List.mem_cons_self, fun R r _ k hk => by rw [List.mem_singleton.mp hk]; exact ⟨xs, ys, rfl, r⟩⟩
theorem keys_few {ps qs : List Part} {ks : List NestedKey} (h : ∀ k ∈ ks, ∃ us vs, k = pkey us vs ∧ StandL ps us ∧ StandL qs vs) (nd : ks.Nodup) : ks.length ≤ (stands ps).toNat * (stands qs).toNat := by
  have e : keysR (ks.map fun k => (k, 0, none)) = ks := by
    unfold keysR
    rw [List.map_map]
    exact List.map_id _
  have := nodes_few (ps := ps) (qs := qs) (rs := ks.map fun k => (k, 0, none)) (by unfold NodesOk; rw [e]; exact h) (by rw [e]; exact nd)
  rw [List.length_map] at this
  exact this
theorem SameI.more {ps qs : List Part} {xs ys us vs : List Int} {ks wk : List NestedKey} {q : Nat × Int} (h : SameI ps qs xs ys ks wk) (hq : q ∈ ways2) (hk : pkey us vs ∈ ks) (s1 : StandL ps (rA ps us q).1) (s2 : StandL qs (rA qs vs q).1) : SameI ps qs xs ys (ks ++ [pkey (rA ps us q).1 (rA qs vs q).1]) (wk ++ [pkey (rA ps us q).1 (rA qs vs q).1]) := by
  refine ⟨fun k hk => ?_, fun k hk => ?_, List.mem_append_left _ h.start, fun R r cl k hk2 => ?_⟩
  · rcases List.mem_append.mp hk with hk | hk
    · exact h.nodes k hk
    · rw [List.mem_singleton.mp hk]
      exact ⟨_, _, rfl, s1, s2⟩
  · rcases List.mem_append.mp hk with hk | hk
    · exact List.mem_append_left _ (h.sub k hk)
    · exact List.mem_append_right _ hk
  · rcases List.mem_append.mp hk2 with hk2 | hk2
    · exact h.reach R r cl k hk2
    · rw [List.mem_singleton.mp hk2]
      exact ⟨_, _, rfl, (cl us vs (RK.of (h.reach R r cl _ hk)) q hq).2⟩
theorem SameI.less {ps qs : List Part} {xs ys : List Int} {ks wk wk' : List NestedKey} (h : SameI ps qs xs ys ks wk) (s : ∀ k ∈ wk', k ∈ wk) : SameI ps qs xs ys ks wk' := ⟨h.nodes, fun k hk => h.sub k (s k hk), h.start, h.reach⟩
def insI {α : Type} (l : List α) (k : Nat) (x : α) : List α := l.take k ++ [x] ++ l.drop k
theorem standL_ins {p : Part} {z : Int} (ok : p.ok) (z0 : 0 ≤ z) (z1 : z < p.places) : ∀ {ps : List Part} {xs : List Int} (k : Nat), StandL ps xs → StandL (insI ps k p) (insI xs k z)
  | [], [], k, h => by unfold insI; rw [List.take_nil, List.drop_nil, List.take_nil, List.drop_nil]; exact ⟨ok, z0, z1, trivial⟩
  | p :: ps, x :: xs, 0, h => ⟨ok, z0, z1, h⟩
  | p :: ps, x :: xs, k + 1, ⟨h1, h2, h3, h⟩ => ⟨h1, h2, h3, standL_ins ok z0 z1 k h⟩
theorem stands_insI (q : Part) : ∀ (ps : List Part) (k : Nat), stands (insI ps k q) = stands ps * q.places
  | [], k => by
    unfold insI
    rw [List.take_nil, List.drop_nil]
    show q.places * 1 = 1 * q.places
    omega
  | p :: ps, 0 => by
    show q.places * stands (p :: ps) = stands (p :: ps) * q.places
    exact Int.mul_comm _ _
  | p :: ps, k + 1 => by
    show p.places * stands (insI ps k q) = p.places * stands ps * q.places
    rw [stands_insI q ps k, Int.mul_assoc]
theorem insI_mem {α : Type} {l : List α} {k : Nat} {x y : α} (h : y ∈ insI l k x) : y = x ∨ y ∈ l := by
  unfold insI at h
  rcases List.mem_append.mp h with h | h
  · rcases List.mem_append.mp h with h | h
    · exact .inr (List.mem_of_mem_take h)
    · exact .inl (List.mem_singleton.mp h)
  · exact .inr (List.mem_of_mem_drop h)
theorem insI_len {α : Type} (l : List α) (k : Nat) (x : α) : (insI l k x).length = l.length + 1 := by
  unfold insI
  rw [List.length_append, List.length_append, List.length_take, List.length_drop]
  show min k l.length + 1 + (l.length - k) = l.length + 1
  omega
theorem dp_insI {K : PySem.W.Frag} {H : Hp} {vs : List V} {v : V} {ps : List Part} {p : Part} (k : Nat) (h : DpAll K H vs (ps.map Part.data)) (hv : Dp K H v p.data) : DpAll K H (vs.take k ++ [v] ++ vs.drop k) ((insI ps k p).map Part.data) := by
  unfold insI
  rw [List.map_append, List.map_append, List.map_take, List.map_drop]
  exact dpAll_app (dpAll_app (dpAll_take k h) (.cons hv .nil)) (dpAll_drop k h)
theorem place_leS {ps : List Part} (h : ∀ p ∈ ps, p.ok) : ∀ p ∈ ps, p.places ≤ stands ps := fun p hp => by
  obtain ⟨i, hi⟩ := List.getElem?_of_mem hp
  have e := stands_lessI hi
  have q1 := stands_pos _ (lessI_ok (i := i) h)
  have p1 := (h p hp).pos.1
  have : 1 * p.places ≤ stands (lessI ps i) * p.places := Int.mul_le_mul_of_nonneg_right q1 (by omega)
  omega
end Ct
namespace Ct
open PySem PySem.Spec PyProof.Rows L2
/-- a train and a stand of it, as a law tells them -/
structure TrS (K : PySem.W.Frag) (G : Hp) (ta tt : Addr) (ps : List Part) (xs : List Int) (ws : List V) : Prop where
  at_ : G ta = some (.lst ws)
  dp : DpAll K G ws (ps.map Part.data)
  ok : ∀ p ∈ ps, p.ok
  l1 : 1 ≤ ps.length
  l2 : ps.length ≤ 101
  few : stands ps ≤ 2000
  st : SqT K G tt (xs.map V.int)
  sl : StandL ps xs
theorem TrS.same {K : PySem.W.Frag} {G G' : Hp} {ta tt : Addr} {ps : List Part} {xs : List Int} {ws : List V} (h : TrS K G ta tt ps xs ws) (s : Same G G') : TrS K G' ta tt ps xs ws := ⟨s _ _ h.at_, dpAll_same s h.dp, h.ok, h.l1, h.l2, h.few, Same.tup s h.st, h.sl⟩
theorem inV_bools : ∀ n : Nat, inV (.bl true) (List.replicate n (.bl false)) = false
  | 0 => rfl
  | n + 1 => by
    rw [List.replicate_succ]
    exact inV_bools n
theorem flat_bools : ∀ n : Nat, (List.replicate n (V.bl false)).all flatV = true
  | 0 => rfl
  | n + 1 => by rw [List.replicate_succ, List.all_cons, flat_bools n]; rfl
/-- each pair's list of ways, as the law keeps it -/
def CameI (G : Hp) (W : Addr) (rs : List Rec) (kvs : List (NestedKey × V)) : Prop := kvs.map (fun p : NestedKey × V => p.1) = keysR rs ∧ ∀ k v, (k, v) ∈ kvs → ∃ (l : Addr) (zs : List Int), v = .ref l ∧ l ≠ W ∧ G l = some (.lst (zs.map V.int)) ∧ zs.length ≤ rs.length ∧ (pathR rs.reverse k).map wayOf = zs.map PyData.int
theorem CameI.same {G G' : Hp} {W : Addr} {rs : List Rec} {kvs : List (NestedKey × V)} (h : CameI G W rs kvs) (s : Same G G') : CameI G' W rs kvs := ⟨h.1, fun k v hk => by
  obtain ⟨l, zs, e, n, hl, r⟩ := h.2 k v hk
  exact ⟨l, zs, e, n, s _ _ hl, r⟩⟩
theorem CameI.upd {G : Hp} {W p : Addr} {o : HO} {rs : List Rec} {kvs : List (NestedKey × V)} (h : CameI G W rs kvs) (hp : p = W ∨ ∀ ws, G p ≠ some (.lst ws)) : CameI (upd G p o) W rs kvs := ⟨h.1, fun k v hk => by
  obtain ⟨l, zs, e, n, hl, r⟩ := h.2 k v hk
  refine ⟨l, zs, e, n, ?_, r⟩
  rw [upd_ne (fun z => ?_)]
  · exact hl
  · rcases hp with rfl | hp
    · exact n z
    · exact hp _ (z ▸ hl)⟩
theorem CameI.put {G : Hp} {W l : Addr} {rs : List Rec} {kvs : List (NestedKey × V)} {k here : NestedKey} {n i : Nat} {z : Int} {zs : List Int} (h : CameI G W rs kvs) (nk : k ∉ keysR rs) (hh : here ∈ keysR rs) (e : (pathR rs.reverse here).map wayOf = zs.map PyData.int) (hl : G l = some (.lst ((zs ++ [z]).map V.int))) (lW : l ≠ W) (zl : zs.length ≤ rs.length) : CameI G W (rs ++ [(k, n, some (here, psD (i, z)))]) (kvs ++ [(k, .ref l)]) := by
  refine ⟨by rw [List.map_append, keysR_app, h.1]; rfl, fun k' v hk => ?_⟩
  rw [List.reverse_append]
  show ∃ (l' : Addr) (zs' : List Int), _ ∧ _ ∧ _ ∧ _ ∧ (pathR ((k, n, some (here, psD (i, z))) :: rs.reverse) k').map wayOf = _
  rcases List.mem_append.mp hk with hk | hk
  · obtain ⟨l', zs', e1, n1, hl', zl', r⟩ := h.2 k' v hk
    have : k' ∈ keysR rs := by rw [← h.1]; exact List.mem_map.mpr ⟨_, hk, rfl⟩
    refine ⟨l', zs', e1, n1, hl', by rw [List.length_append]; omega, ?_⟩
    rw [pathR, if_neg (show ¬ (k' = k) from fun c => nk (c ▸ this))]
    exact r
  · cases List.mem_singleton.mp hk
    refine ⟨l, zs ++ [z], rfl, lW, hl, by rw [List.length_append, List.length_append]; show zs.length + 1 ≤ rs.length + 1; omega, ?_⟩
    rw [pathR, if_pos rfl]
    show (pathR rs.reverse here ++ [psD (i, z)]).map wayOf = _
    rw [List.map_append, e, List.map_append]
    rfl
structure ToldI (w : World) (K : PySem.W.Frag) (G : Hp) (M W : Addr) (ps qs : List Part) (rs : List Rec) (kvs : List (NestedKey × V)) (ws : List V) : Prop where
  nd : NdAt w K G M kvs
  row : G W = some (.lst ws)
  dp : DpAll K G ws ((keysR rs).map nkD)
  came : CameI G W rs kvs
  good : GoodR rs.reverse
  nodes : NodesOk ps qs rs
theorem ToldI.same {w : World} {K : PySem.W.Frag} {G G' : Hp} {M W : Addr} {ps qs : List Part} {rs : List Rec} {kvs : List (NestedKey × V)} {ws : List V} (h : ToldI w K G M W ps qs rs kvs ws) (s : Same G G') : ToldI w K G' M W ps qs rs kvs ws := ⟨h.nd.same s, s _ _ h.row, dpAll_same s h.dp, h.came.same s, h.good, h.nodes⟩
theorem ToldI.few {w : World} {K : PySem.W.Frag} {G : Hp} {M W : Addr} {ps qs : List Part} {rs : List Rec} {kvs : List (NestedKey × V)} {ws : List V} (h : ToldI w K G M W ps qs rs kvs ws) : rs.length ≤ (stands ps).toNat * (stands qs).toNat := nodes_few h.nodes ((List.reverse_perm _).nodup_iff.mp (by have := keysR_nodup h.good; rw [keysR_rev] at this; exact this))
theorem ToldI.len {w : World} {K : PySem.W.Frag} {G : Hp} {M W : Addr} {ps qs : List Part} {rs : List Rec} {kvs : List (NestedKey × V)} {ws : List V} (h : ToldI w K G M W ps qs rs kvs ws) : ws.length = rs.length := by rw [dpAll_len h.dp, List.length_map, keysR, List.length_map]
theorem ToldI.ask {w : World} {K : PySem.W.Frag} {G : Hp} {M W : Addr} {ps qs : List Part} {rs : List Rec} {kvs : List (NestedKey × V)} {ws : List V} {k : NestedKey} (h : ToldI w K G M W ps qs rs kvs ws) (hk : k ∈ keysR rs) : ∃ (l : Addr) (zs : List Int), valV kvs k = some (.ref l) ∧ l ≠ W ∧ G l = some (.lst (zs.map V.int)) ∧ zs.length ≤ rs.length ∧ (pathR rs.reverse k).map wayOf = zs.map PyData.int := by
  cases e : valV kvs k with
  | none => exact absurd (by rw [← h.came.1] at hk; exact hk) (valV_not e)
  | some v =>
    obtain ⟨l, zs, rfl, r⟩ := h.came.2 k v (valV_mem e)
    exact ⟨l, zs, rfl, r⟩
end Ct
namespace Ct
open PySem PySem.Spec PyProof.Rows L2
/-! one part exchanged -/
def repI {α : Type} (l : List α) (k : Nat) (x : α) : List α := l.take k ++ [x] ++ l.drop (k + 1)
theorem repI_len {α : Type} {l : List α} {k : Nat} (x : α) (h : k < l.length) : (repI l k x).length = l.length := by
  unfold repI
  rw [List.length_append, List.length_append, List.length_take, List.length_drop]
  show min k l.length + 1 + (l.length - (k + 1)) = l.length
  omega
theorem repI_mem {α : Type} {l : List α} {k : Nat} {x y : α} (h : y ∈ repI l k x) : y = x ∨ y ∈ l := by
  unfold repI at h
  rcases List.mem_append.mp h with h | h
  · rcases List.mem_append.mp h with h | h
    · exact .inr (List.mem_of_mem_take h)
    · exact .inl (List.mem_singleton.mp h)
  · exact .inr (List.mem_of_mem_drop h)
theorem standL_rep {q : Part} {z : Int} (ok : q.ok) (z0 : 0 ≤ z) (z1 : z < q.places) : ∀ {ps : List Part} {xs : List Int} (k : Nat), k < ps.length → StandL ps xs → StandL (repI ps k q) (repI xs k z)
  | [], [], k, hk, _ => absurd hk (Nat.not_lt_zero _)
  | p :: ps, x :: xs, 0, _, ⟨_, _, _, h⟩ => ⟨ok, z0, z1, h⟩
  | p :: ps, x :: xs, k + 1, hk, ⟨h1, h2, h3, h⟩ => ⟨h1, h2, h3, standL_rep ok z0 z1 k (Nat.lt_of_succ_lt_succ hk) h⟩
theorem stands_rep (q : Part) : ∀ {ps : List Part} {k : Nat} {p : Part}, ps[k]? = some p → stands (repI ps k q) * p.places = stands ps * q.places
  | a :: ps, 0, p, h => by
    cases h
    show q.places * stands ps * a.places = a.places * stands ps * q.places
    rw [Int.mul_right_comm, Int.mul_comm q.places, Int.mul_right_comm]
  | a :: ps, k + 1, p, h => by
    have e := stands_rep q (ps := ps) (k := k) h
    show a.places * stands (repI ps k q) * p.places = a.places * stands ps * q.places
    rw [Int.mul_assoc, e, Int.mul_assoc]
theorem dp_repI {K : PySem.W.Frag} {H : Hp} {vs : List V} {v : V} {ps : List Part} {p : Part} (k : Nat) (h : DpAll K H vs (ps.map Part.data)) (hv : Dp K H v p.data) : DpAll K H (vs.take k ++ [v] ++ vs.drop (k + 1)) ((repI ps k p).map Part.data) := by
  unfold repI
  rw [List.map_append, List.map_append, List.map_take, List.map_drop]
  exact dpAll_app (dpAll_app (dpAll_take k h) (.cons hv .nil)) (dpAll_drop (k + 1) h)
theorem rise_few {ms : List Int} {z : Int} (h : Rise z ms) (hz : 0 ≤ z) : ms.length ≤ z.toNat := by
  have main : ∀ (l : List Int) (a : Int), l.Pairwise (· < ·) → (∀ m ∈ l, a ≤ m ∧ m < z) → l.length ≤ (z - a).toNat := fun l => by
    induction l with
    | nil => intro _ _ _; exact Nat.zero_le _
    | cons m r ih =>
      intro a p hm
      obtain ⟨p1, p2⟩ := List.pairwise_cons.mp p
      have h0 := hm m List.mem_cons_self
      have := ih (m + 1) p2 fun x hx => ⟨p1 x hx, (hm x (List.mem_cons_of_mem _ hx)).2⟩
      show r.length + 1 ≤ _
      omega
  have := main ms 0 h.1 h.2
  omega
theorem rise_dbl {z : Int} {ms : List Int} (h : Rise z ms) : Rise (2 * z) (ms ++ ms.map (· + z)) := by
  refine ⟨List.pairwise_append.mpr ⟨h.1, List.pairwise_map.mpr (h.1.imp fun {a b} h => by omega), fun x hx y hy => ?_⟩, fun m hm => ?_⟩
  · obtain ⟨m, hm, rfl⟩ := List.mem_map.mp hy
    have := h.2 x hx
    have := h.2 m hm
    omega
  · rcases List.mem_append.mp hm with hm | hm
    · have := h.2 m hm
      omega
    · obtain ⟨k, hk, rfl⟩ := List.mem_map.mp hm
      have := h.2 k hk
      omega
end Ct

/-! what trains_alike tells -/
namespace Ct
open PySem PySem.Spec PyProof.Rows L2
section
variable {ps qs : List Part} {pus : List (Nat × Int)}
theorem visit_nodes {xs ys : List Int} (sx : StandL ps xs) (sy : StandL qs ys) : ∀ (l : List (Nat × Int)) (rs rs' : List Rec), (∀ q ∈ l, q.1 < ps.length ∧ q.1 < qs.length ∧ Sign q.2) → NodesOk ps qs rs → visitP ps qs xs ys l rs = .ok rs' → NodesOk ps qs rs'
  | [], rs, rs', _, ok, h => by cases h; exact ok
  | q :: l, rs, rs', hl, ok, h => by
    unfold visitP at h
    by_cases c : (Ct.run ps xs q.1 q.2).2 ≠ (Ct.run qs ys q.1 q.2).2
    · rw [if_pos c] at h
      cases h
    · rw [if_neg c] at h
      obtain ⟨h1, h2, h3⟩ := hl q List.mem_cons_self
      exact visit_nodes sx sy l _ rs' (fun z hz => hl z (List.mem_cons_of_mem _ hz)) (nodes_meet ok (run_stand sx h1 (.inr h3)) (run_stand sy h2 (.inr h3))) h
theorem bfs_nodes {at_ : Nat} {rs : List Rec} {x : Except (List PyData) (List Rec)} (h : BfsR ps qs pus at_ rs x) (hl : ∀ q ∈ pus, q.1 < ps.length ∧ q.1 < qs.length ∧ Sign q.2) : NodesOk ps qs rs → ∀ rs', x = .ok rs' → NodesOk ps qs rs' := by
  induction h with
  | done _ => intro ok rs' e; cases e; exact ok
  | stop _ _ _ => intro _ rs' e; cases e
  | step h1 h2 h3 _ ih =>
    intro ok rs' e
    obtain ⟨us, vs, ek, su, sv⟩ := ok _ (List.mem_map.mpr ⟨_, List.mem_of_getElem? h1, rfl⟩)
    obtain ⟨rfl, rfl⟩ := pkey_inj (h2.symm.trans ek)
    exact ih (visit_nodes su sv _ _ _ hl ok h3) rs' e
theorem ways2_ok (l1 : 1 ≤ ps.length) (l2 : 1 ≤ qs.length) : ∀ q ∈ ways2, q.1 < ps.length ∧ q.1 < qs.length ∧ Sign q.2 := fun q hq => by
  rcases List.mem_cons.mp hq with rfl | hq
  · exact ⟨l1, l2, .inl rfl⟩
  · rw [List.mem_singleton.mp hq]
    exact ⟨l1, l2, .inr rfl⟩
theorem sortD_mem {ds : List PyData} {d : PyData} (h : d ∈ sortD ds) : d ∈ ds := (List.mergeSort_perm ds _).mem_iff.mp h
/-- what is told, each as it may be -/
theorem held_el {xs ys : List Int} {x : Except (List PyData) (List Rec)} (h : BfsR ps qs ways2 0 (startR xs ys) x) (l1 : 1 ≤ ps.length) (l2 : 1 ≤ qs.length) (sx : StandL ps xs) (sy : StandL qs ys) :
    ∀ d ∈ heldT x, (∃ i : Int, d = .int i ∧ Sign i ∧ ∃ p, x = .error p) ∨ ∃ us vs, d = nkD (pkey us vs) ∧ StandL ps us ∧ StandL qs vs ∧ ∃ rs, x = .ok rs := fun d hd => by
  cases x with
  | error p =>
    obtain ⟨e, he, rfl⟩ := List.mem_map.mp hd
    obtain ⟨q, hq, rfl⟩ := bfs_moves h moves_start p rfl e he
    exact .inl ⟨q.2, rfl, (ways2_ok l1 l2 q hq).2.2, _, rfl⟩
  | ok rs =>
    obtain ⟨k, hk, rfl⟩ := List.mem_map.mp (sortD_mem hd)
    obtain ⟨us, vs, rfl, su, sv⟩ := bfs_nodes h (ways2_ok l1 l2) (nodes_start sx sy) rs rfl k hk
    exact .inr ⟨us, vs, rfl, su, sv, _, rfl⟩
theorem held_td {xs ys : List Int} {x : Except (List PyData) (List Rec)} (h : BfsR ps qs ways2 0 (startR xs ys) x) (l1 : 1 ≤ ps.length) (l2 : 1 ≤ qs.length) (sx : StandL ps xs) (sy : StandL qs ys) : TDs (heldT x) := by
  have main : ∀ l : List PyData, (∀ d ∈ l, TD d) → TDs l := fun l => by
    induction l with
    | nil => intro _; exact .nil
    | cons d l ih => intro hl; exact .cons (hl d List.mem_cons_self) (ih fun e he => hl e (List.mem_cons_of_mem _ he))
  refine main _ fun d hd => ?_
  rcases held_el h l1 l2 sx sy d hd with ⟨i, rfl, _⟩ | ⟨us, vs, rfl, _⟩
  · exact .int i
  · exact td_nk _
def heldD (x : Except (List PyData) (List Rec)) : PyData := .tuple [.str (heldW x), .list (heldT x)]
theorem held_lay {xs ys : List Int} {x : Except (List PyData) (List Rec)} (h : BfsR ps qs ways2 0 (startR xs ys) x) (l1 : 1 ≤ ps.length) (l2 : 1 ≤ qs.length) (sx : StandL ps xs) (sy : StandL qs ys) : (heldD x).canLay0 = true ∧ (heldD x).depth ≤ 4 := by
  refine lay_tup (n := 3) fun d hd => ?_
  rcases List.mem_cons.mp hd with rfl | hd
  · cases x with
    | error _ => exact lay_str _ ("apart" : Str)
    | ok _ => exact lay_str _ ("alike" : Str)
  · rw [List.mem_singleton.mp hd]
    refine lay_lst (n := 2) fun d hd => ?_
    rcases held_el h l1 l2 sx sy d hd with ⟨i, rfl, _⟩ | ⟨us, vs, rfl, _⟩
    · exact lay_int _ _
    · rw [pkey_D]
      refine lay_tup (n := 1) fun d hd => ?_
      rcases List.mem_cons.mp hd with rfl | hd
      · exact lay_tup (lay_ints us 0)
      · rw [List.mem_singleton.mp hd]
        exact lay_tup (lay_ints vs 0)
theorem held_dp {K : PySem.W.Frag} {H : Hp} {q l : Addr} {ws : List V} {x : Except (List PyData) (List Rec)} (hq : H q = some (.tup [.str (heldW x), .ref l])) (hl : H l = some (.lst ws)) (d : DpAll K H ws (heldT x)) : Dp K H (.ref q) (heldD x) := .tup (.of hq) (.cons (.str _) (.cons (.lst (.of hl) d) .nil))
end
theorem part_mono (p : Part) (h : p.ok) : (Part.wheel p.places [0]).ok := ⟨h.pos.1, h.pos.2, ⟨List.pairwise_singleton _ _, fun m hm => by rw [List.mem_singleton.mp hm]; have := h.pos.1; omega⟩, by show 1 ≤ 1000; decide⟩
end Ct
/-! sorted: one way alone -/
namespace Ct
open PySem PySem.Spec PyProof.Rows L2
abbrev leD (a b : PyData) : Bool := PySem.W.dataLe false id a b
theorem leD_eq (a b : PyData) : leD a b = !PySem.W.dataLt b a := rfl
theorem leD_trans (a b c : PyData) (h1 : leD a b = true) (h2 : leD b c = true) : leD a c = true := by
  rw [leD_eq] at *
  cases e : PySem.W.dataLt c a with
  | false => rfl
  | true =>
    have n1 : PySem.W.dataLt b a = false := by simpa using h1
    have n2 : PySem.W.dataLt c b = false := by simpa using h2
    cases e2 : PySem.W.dataLt a b with
    | true =>
      have := PyProof.Rows.lex_trans _ _ _ e e2
      have n2' : PyProof.Rows.lexLt PyProof.Rows.itemOrd _ _ = false := n2
      rw [n2'] at this
      cases this
    | false =>
      have k := PyProof.Rows.lex_total _ _ n1 e2
      have e' : PyProof.Rows.lexLt PyProof.Rows.itemOrd _ _ = true := e
      have n2' : PyProof.Rows.lexLt PyProof.Rows.itemOrd _ _ = false := n2
      rw [k] at n2'
      rw [n2'] at e'
      cases e'
theorem leD_total (a b : PyData) : (leD a b || leD b a) = true := by
  rw [leD_eq, leD_eq]
  cases e : PySem.W.dataLt b a with
  | false => rfl
  | true =>
    cases e2 : PySem.W.dataLt a b with
    | false => rfl
    | true =>
      have := PyProof.Rows.lex_trans _ _ _ e e2
      rw [PyProof.Rows.lex_irrefl] at this
      cases this
theorem lt_tupD (xs us : List Int) : PySem.W.dataLt (tupD xs) (tupD us) = decide (xs < us) := by
  unfold tupD
  rw [PySem.W.dataLt_tuple]
  exact PySem.W.dataLt_ints xs us
theorem alike_tupD (xs us : List Int) : PySem.W.alike (tupD xs) (tupD us) = true := by
  unfold tupD
  rw [PySem.W.alike, PySem.W.alike_ints]
theorem lt_pk (xs ys us vs : List Int) : PySem.W.dataLt (nkD (pkey xs ys)) (nkD (pkey us vs)) = decide (xs < us ∨ (xs = us ∧ ys < vs)) := by
  rw [pkey_D, pkey_D, PySem.W.dataLt_pair (alike_tupD _ _) (alike_tupD _ _), eqv_tupD, eqv_tupD, lt_tupD, lt_tupD]
  by_cases h1 : xs = us
  · subst h1
    have : ¬ xs < xs := List.lt_irrefl xs
    by_cases h2 : ys = vs
    · subst h2
      simp
    · simp only [h2, this]; simp
  · simp [h1]
theorem int_lex (a b : List Int) (h1 : ¬ a < b) (h2 : ¬ b < a) : a = b := List.le_antisymm (List.not_lt.mp h2) (List.not_lt.mp h1)
theorem leD_pk_anti (xs ys us vs : List Int) (h1 : leD (nkD (pkey xs ys)) (nkD (pkey us vs)) = true) (h2 : leD (nkD (pkey us vs)) (nkD (pkey xs ys)) = true) : nkD (pkey xs ys) = nkD (pkey us vs) := by
  rw [leD_eq, lt_pk] at h1 h2
  have n1 : ¬ (us < xs ∨ us = xs ∧ vs < ys) := of_decide_eq_false ((Bool.not_eq_true' _).mp h1)
  have n2 : ¬ (xs < us ∨ xs = us ∧ ys < vs) := of_decide_eq_false ((Bool.not_eq_true' _).mp h2)
  have e : xs = us := int_lex _ _ (fun z => n2 (.inl z)) (fun z => n1 (.inl z))
  subst e
  have e2 : ys = vs := int_lex _ _ (fun z => n2 (.inr ⟨rfl, z⟩)) (fun z => n1 (.inr ⟨rfl, z⟩))
  rw [e2]
/-- pairs that are sorted strictly, and the same as these: sorted they are these -/
theorem sortD_is {ds es : List PyData} (hp : List.Perm ds es) (hk : ∀ d ∈ es, ∃ xs ys, d = nkD (pkey xs ys)) (so : es.Pairwise fun a b => leD a b = true) : sortD ds = es := by
  have s1 : (sortD ds).Pairwise fun a b => leD a b = true := List.pairwise_mergeSort (le := leD) leD_trans leD_total ds
  have p1 : List.Perm (sortD ds) es := (List.mergeSort_perm ds _).trans hp
  refine List.Perm.eq_of_pairwise (le := fun a b => leD a b = true) (fun a b ha hb h1 h2 => ?_) s1 so p1
  obtain ⟨xs, ys, rfl⟩ := hk a (p1.mem_iff.mp ha)
  obtain ⟨us, vs, rfl⟩ := hk b hb
  exact leD_pk_anti _ _ _ _ h1 h2
/-- what is met is closed under pushes -/
theorem bfs_closed {ps qs : List Part} {pus : List (Nat × Int)} {xs ys : List Int} {rs : List Rec} (h : BfsR ps qs pus 0 (startR xs ys) (.ok rs)) : pkey xs ys ∈ keysR rs ∧ ∀ us vs, pkey us vs ∈ keysR rs → ∀ q ∈ pus, (rA ps us q).2 = (rA qs vs q).2 ∧ pkey (rA ps us q).1 (rA qs vs q).1 ∈ keysR rs := by
  obtain ⟨h1, t, h2⟩ := bfs_ok h rs rfl fun i r hi => absurd hi (Nat.not_lt_zero i)
  refine ⟨by rw [h2, keysR_app]; exact List.mem_append_left _ (List.mem_singleton.mpr rfl), fun us vs hk q hq => ?_⟩
  obtain ⟨a, b, e, all⟩ := h1 _ hk
  obtain ⟨rfl, rfl⟩ := pkey_inj e
  exact all q hq
theorem meet_nodup {rs : List Rec} {here k : NestedKey} {d : PyData} (h : (keysR rs).Nodup) : (keysR (meetR rs here d k)).Nodup := by
  unfold meetR
  by_cases c : k ∈ keysR rs
  · rw [if_pos c]; exact h
  · rw [if_neg c, keysR_app]
    refine List.nodup_append.mpr ⟨h, List.pairwise_singleton _ _, fun a ha b hb => ?_⟩
    rw [List.mem_singleton.mp hb]
    exact fun (e : a = k) => c (e ▸ ha)
theorem visit_nodup {ps qs : List Part} {xs ys : List Int} : ∀ (l : List (Nat × Int)) (rs rs' : List Rec), (keysR rs).Nodup → visitP ps qs xs ys l rs = .ok rs' → (keysR rs').Nodup
  | [], rs, rs', nd, h => by cases h; exact nd
  | q :: l, rs, rs', nd, h => by
    unfold visitP at h
    by_cases c : (Ct.run ps xs q.1 q.2).2 ≠ (Ct.run qs ys q.1 q.2).2
    · rw [if_pos c] at h
      cases h
    · rw [if_neg c] at h
      exact visit_nodup l _ rs' (meet_nodup nd) h
theorem bfs_nodup {ps qs : List Part} {pus : List (Nat × Int)} {at_ : Nat} {rs : List Rec} {x : Except (List PyData) (List Rec)} (h : BfsR ps qs pus at_ rs x) : (keysR rs).Nodup → ∀ rs', x = .ok rs' → (keysR rs').Nodup := by
  induction h with
  | done _ => intro nd rs' e; cases e; exact nd
  | stop _ _ _ => intro _ rs' e; cases e
  | step h1 h2 h3 _ ih => intro nd rs' e; exact ih (visit_nodup _ _ _ nd h3) rs' e
theorem start_nodup {xs ys : List Int} : (keysR (startR xs ys)).Nodup := List.pairwise_singleton _ _
end Ct
/-! all pairs of two springs' trains are met -/
namespace Ct
open PySem PySem.Spec PyProof.Rows L2
def mA (a b : Nat) : List Part := [.click, .spring a, .spring b, .wheel 1 []]
def mB (a b : Nat) : List Part := [.spring a, .spring b, .wheel 1 []]
def mX (a b n : Nat) : List Int := [0, ((n % a : Nat) : Int), ((n / a % b : Nat) : Int), 0]
def mY (a b n : Nat) : List Int := [((n % a : Nat) : Int), ((n / a % b : Nat) : Int), 0]
theorem succ_mod {n a : Nat} (ha : 0 < a) : (n + 1) % a = if n % a = a - 1 then 0 else n % a + 1 := by
  have h := Nat.mod_lt n ha
  have e := Nat.div_add_mod n a
  by_cases c : n % a = a - 1
  · rw [if_pos c, show n + 1 = a * (n / a + 1) by rw [Nat.mul_add, Nat.mul_one]; omega, Nat.mul_mod_right]
  · rw [if_neg c, Nat.add_mod]
    by_cases a1 : a = 1
    · subst a1; omega
    · rw [Nat.mod_eq_of_lt (show 1 < a by omega), Nat.mod_eq_of_lt (by omega)]
theorem succ_div {n a : Nat} (ha : 0 < a) : (n + 1) / a = if n % a = a - 1 then n / a + 1 else n / a := by
  rw [Nat.succ_div]
  have s := succ_mod (n := n) ha
  by_cases c : n % a = a - 1
  · rw [if_pos c] at s ⊢
    rw [if_pos (Nat.dvd_of_mod_eq_zero s)]
  · rw [if_neg c] at s ⊢
    rw [if_neg (fun z => by rw [Nat.mod_eq_zero_of_dvd z] at s; omega), Nat.add_zero]
theorem pps_up {a x : Nat} (ha : 0 < a) : pp (.spring a) (x : Int) 1 = if x = a - 1 then (0, 1) else (((x + 1 : Nat) : Int), 0) := by
  rw [pp, if_pos rfl]
  by_cases c : x = a - 1
  · rw [if_pos c, if_pos (by omega)]
  · rw [if_neg c, if_neg (by omega)]; rfl
theorem ppw (x w : Int) : pp (.wheel 1 []) x w = (0, 0) := by
  show ((x + w) % 1, _) = _
  rw [Int.emod_one]
  rfl
theorem run3 (p q r : Part) (x y z w : Int) (hw : w ≠ 0) : Ct.run [p, q, r] [x, y, z] 0 w = if (pp p x w).2 = 0 then ([(pp p x w).1, y, z], 0) else if (pp q y (pp p x w).2).2 = 0 then ([(pp p x w).1, (pp q y (pp p x w).2).1, z], 0) else ([(pp p x w).1, (pp q y (pp p x w).2).1, (pp r z (pp q y (pp p x w).2).2).1], (pp r z (pp q y (pp p x w).2).2).2) := by
  show stp _ (stp _ (stp _ ([x, y, z], w) 0) 1) 2 = _
  rw [stp_at (s := ([x, y, z], w)) (n := 0) (p := p) (x := x) hw rfl rfl]
  by_cases c : (pp p x w).2 = 0
  · rw [if_pos c, stp_zero (s := ([x, y, z].set 0 (pp p x w).1, (pp p x w).2)) c, stp_zero c, c]; rfl
  · rw [if_neg c, stp_at (s := ([x, y, z].set 0 (pp p x w).1, (pp p x w).2)) (n := 1) (p := q) (x := y) c rfl rfl]
    by_cases d : (pp q y (pp p x w).2).2 = 0
    · rw [if_pos d, stp_zero d, d]; rfl
    · rw [if_neg d, stp_at (p := r) (x := z) d rfl rfl]; rfl
theorem run4 (p q r : Part) (x y z w : Int) (u : Int) (hw : w ≠ 0) : Ct.run [.click, p, q, r] [u, x, y, z] 0 w = if w = 1 then (0 :: (Ct.run [p, q, r] [x, y, z] 0 1).1, (Ct.run [p, q, r] [x, y, z] 0 1).2) else ([0, x, y, z], 0) := by
  show stp _ (stp _ (stp _ (stp _ ([u, x, y, z], w) 0) 1) 2) 3 = _
  rw [stp_at (s := ([u, x, y, z], w)) (n := 0) (p := .click) (x := u) hw rfl rfl]
  by_cases e : w = 1
  · subst e
    rw [if_pos rfl, run3 p q r x y z 1 (by decide), show pp .click u 1 = (0, 1) from rfl]
    show stp _ (stp _ (stp _ ([0, x, y, z], 1) 1) 2) 3 = _
    rw [stp_at (s := ([0, x, y, z], 1)) (n := 1) (p := p) (x := x) (show (1 : Int) ≠ 0 by decide) rfl rfl]
    show stp _ (stp _ ([0, (pp p x 1).1, y, z], (pp p x 1).2) 2) 3 = _
    by_cases c : (pp p x 1).2 = 0
    · rw [if_pos c, stp_zero (s := ([0, (pp p x 1).1, y, z], (pp p x 1).2)) c, stp_zero (s := ([0, (pp p x 1).1, y, z], (pp p x 1).2)) c, c]
    · rw [if_neg c, stp_at (s := ([0, (pp p x 1).1, y, z], (pp p x 1).2)) (n := 2) (p := q) (x := y) c rfl rfl]
      show stp _ ([0, (pp p x 1).1, (pp q y (pp p x 1).2).1, z], (pp q y (pp p x 1).2).2) 3 = _
      by_cases d : (pp q y (pp p x 1).2).2 = 0
      · rw [if_pos d, stp_zero (s := ([0, (pp p x 1).1, (pp q y (pp p x 1).2).1, z], (pp q y (pp p x 1).2).2)) d, d]
      · rw [if_neg d, stp_at (s := ([0, (pp p x 1).1, (pp q y (pp p x 1).2).1, z], (pp q y (pp p x 1).2).2)) (n := 3) (p := r) (x := z) d rfl rfl]; rfl
  · rw [if_neg e, show pp .click u w = (0, 0) from by show (0, if w = 1 then (1 : Int) else 0) = _; rw [if_neg e]]
    rw [stp_zero rfl, stp_zero rfl, stp_zero rfl]; rfl
theorem mY_up {a b : Nat} (ha : 0 < a) (hb : 0 < b) (n : Nat) : Ct.run (mB a b) (mY a b n) 0 1 = (mY a b (n + 1), 0) := by
  unfold mB mY
  rw [run3 _ _ _ _ _ _ _ (by decide), pps_up ha, succ_mod ha, succ_div ha]
  by_cases c : n % a = a - 1
  · rw [if_pos c, if_pos c, if_pos c, if_neg (show ¬ ((0 : Int), (1 : Int)).2 = 0 by decide)]
    show (if (pp (.spring b) _ 1).2 = 0 then _ else _) = _
    rw [pps_up hb, ppw]
    have sb := succ_mod (n := n / a) hb
    by_cases d : n / a % b = b - 1
    · rw [if_pos d] at sb ⊢
      rw [sb]; rfl
    · rw [if_neg d] at sb ⊢
      rw [sb]; rfl
  · rw [if_neg c, if_neg c, if_neg c]; rfl
theorem mY_down {a b : Nat} (ha : 0 < a) (n : Nat) (h : n % a ≠ 0) : Ct.run (mB a b) (mY a b n) 0 (-1) = (mY a b (n - 1), 0) := by
  unfold mB mY
  obtain ⟨m, rfl⟩ : ∃ m, n = m + 1 := ⟨n - 1, by cases n with | zero => exact absurd (Nat.zero_mod a) h | succ k => rfl⟩
  have s := succ_mod (n := m) ha
  have t := succ_div (n := m) ha
  by_cases c : m % a = a - 1
  · rw [if_pos c] at s; exact absurd s h
  rw [if_neg c] at s t
  rw [run3 _ _ _ _ _ _ _ (by decide), s, t, show m + 1 - 1 = m by omega]
  have e : pp (.spring a) (((m % a + 1 : Nat) : Int)) (-1) = (((m % a : Nat) : Int), 0) := by
    rw [pp, if_neg (by decide)]
    congr 1
    split <;> omega
  rw [e]; rfl
theorem mX_up {a b : Nat} (ha : 0 < a) (hb : 0 < b) (n : Nat) : Ct.run (mA a b) (mX a b n) 0 1 = (mX a b (n + 1), 0) := by
  have e := mY_up ha hb n
  unfold mA mX
  rw [run4 _ _ _ _ _ _ _ _ (by decide), if_pos rfl]
  unfold mB mY at e
  rw [e]
theorem mX_down {a b : Nat} (n : Nat) : Ct.run (mA a b) (mX a b n) 0 (-1) = (mX a b n, 0) := by
  unfold mA mX
  rw [run4 _ _ _ _ _ _ _ _ (by decide), if_neg (by decide)]
theorem mY_stay {a b : Nat} (n : Nat) (h : n % a = 0) : Ct.run (mB a b) (mY a b n) 0 (-1) = (mY a b n, 0) := by
  unfold mB mY
  rw [run3 _ _ _ _ _ _ _ (by decide), h]
  rfl
theorem many_up {a b : Nat} (ha : 0 < a) (hb : 0 < b) {C : List Int → List Int → Prop} (cl : ClosedR (mA a b) (mB a b) ways2 C) {N M : Nat} (h : C (mX a b N) (mY a b M)) : C (mX a b (N + 1)) (mY a b (M + 1)) := by
  have e := (cl _ _ h (0, 1) (by decide)).2
  unfold rA at e
  rw [mX_up ha hb, mY_up ha hb] at e
  exact e
theorem many_down {a b : Nat} (ha : 0 < a) {C : List Int → List Int → Prop} (cl : ClosedR (mA a b) (mB a b) ways2 C) {N M : Nat} (hM : M % a ≠ 0) (h : C (mX a b N) (mY a b M)) : C (mX a b N) (mY a b (M - 1)) := by
  have e := (cl _ _ h (0, -1) (by decide)).2
  unfold rA at e
  rw [mX_down, mY_down ha M hM] at e
  exact e
theorem mX_round {a b : Nat} (N : Nat) : mX a b (N + a * b) = mX a b N := by
  unfold mX
  by_cases ha : a = 0
  · subst ha; rw [Nat.zero_mul, Nat.add_zero]
  rw [Nat.add_mul_mod_self_left, Nat.add_mul_div_left _ _ (by omega), Nat.add_mod_right]
theorem many_all {a b : Nat} (ha : 1 < a) (hb : 0 < b) {C : List Int → List Int → Prop} (c0 : C (mX a b 0) (mY a b 0)) (cl : ClosedR (mA a b) (mB a b) ways2 C) (N M : Nat) (hM : M < a * b) : C (mX a b N) (mY a b M) := by
  have main : ∀ e n, C (mX a b (n + e)) (mY a b n) := fun e => by
    induction e with
    | zero =>
      intro n
      induction n with
      | zero => exact c0
      | succ n ih => exact many_up (by omega) hb cl ih
    | succ e ih =>
      intro n
      induction n with
      | zero =>
        have := many_down (by omega) cl (by rw [Nat.mod_eq_of_lt ha]; decide) (ih 1)
        rw [show 1 + e = 0 + (e + 1) by omega] at this
        exact this
      | succ n ih2 =>
        have := many_up (by omega) hb cl ih2
        rw [show n + (e + 1) + 1 = n + 1 + (e + 1) by omega] at this
        exact this
  have := main (N + a * b - M) M
  rw [show M + (N + a * b - M) = N + a * b by omega, mX_round] at this
  exact this
theorem many_sim {a b : Nat} (ha : 1 < a) (hb : 0 < b) : Sim (mA a b) (mB a b) ways2 (mX a b 0) (mY a b 0) := by
  refine ⟨fun us vs => ∃ N M, us = mX a b N ∧ vs = mY a b M, ⟨0, 0, rfl, rfl⟩, ?_⟩
  rintro us vs ⟨N, M, rfl, rfl⟩ q hq
  unfold rA
  rcases List.mem_cons.mp hq with rfl | hq
  · rw [mX_up (by omega) hb, mY_up (by omega) hb]
    exact ⟨rfl, _, _, rfl, rfl⟩
  · rw [List.mem_singleton.mp hq, mX_down]
    by_cases c : M % a = 0
    · rw [mY_stay M c]
      exact ⟨rfl, _, _, rfl, rfl⟩
    · rw [mY_down (by omega) M c]
      exact ⟨rfl, _, _, rfl, rfl⟩
def sX (b k : Nat) : List Int := [0, ((k / b : Nat) : Int), ((k % b : Nat) : Int), 0]
def sY (b k : Nat) : List Int := [((k / b : Nat) : Int), ((k % b : Nat) : Int), 0]
def rowK (b T k : Nat) : List PyData := (List.range T).map fun j => nkD (pkey (sX b k) (sY b j))
def allK (b T k : Nat) : List PyData := (List.range k).flatMap (rowK b T)
theorem sY_lt {b j k : Nat} (h : j < k) : sY b j < sY b k := by
  unfold sY
  have d := Nat.div_le_div_right (c := b) (Nat.le_of_lt h)
  rw [List.cons_lt_cons_iff, List.cons_lt_cons_iff]
  by_cases c : j / b = k / b
  · refine .inr ⟨by rw [c], .inl ?_⟩
    have e1 := Nat.div_add_mod j b
    have e2 := Nat.div_add_mod k b
    rw [c] at e1
    omega
  · exact .inl (by omega)
theorem sX_lt {b j k : Nat} (h : j < k) : sX b j < sX b k := by
  unfold sX
  rw [List.cons_lt_cons_iff]
  exact .inr ⟨rfl, sY_lt h⟩
theorem allK_lt (b T n : Nat) : (allK b T n).Pairwise fun d e => PySem.W.dataLt d e = true := by
  unfold allK rowK
  rw [List.pairwise_flatMap]
  refine ⟨fun k _ => List.pairwise_map.mpr ((List.pairwise_lt_range (n := T)).imp fun {i j} h => ?_), (List.pairwise_lt_range (n := n)).imp fun {k l} h d hd e he => ?_⟩
  · rw [lt_pk]
    exact decide_eq_true (.inr ⟨rfl, sY_lt h⟩)
  · obtain ⟨i, _, rfl⟩ := List.mem_map.mp hd
    obtain ⟨j, _, rfl⟩ := List.mem_map.mp he
    rw [lt_pk]
    exact decide_eq_true (.inl (sX_lt h))
theorem dataLt_asymm {d e : PyData} (h : PySem.W.dataLt d e = true) : leD d e = true ∧ d ≠ e := by
  constructor
  · rw [leD_eq]
    cases c : PySem.W.dataLt e d with
    | false => rfl
    | true =>
      have := PyProof.Rows.lex_trans _ _ _ h c
      rw [PyProof.Rows.lex_irrefl] at this
      cases this
  · rintro rfl
    have : PySem.W.dataLt d d = false := PyProof.Rows.lex_irrefl _
    rw [this] at h
    cases h
theorem nkD_pk_inj {xs ys us vs : List Int} (h : nkD (pkey xs ys) = nkD (pkey us vs)) : xs = us ∧ ys = vs := by
  rw [pkey_D, pkey_D] at h
  injection h with h
  injection h with h1 h2
  injection h2 with h2 _
  have inj : ∀ {l m : List Int}, l.map PyData.int = m.map PyData.int → l = m := fun {l} => by
    induction l with
    | nil => intro m e; cases m with | nil => rfl | cons _ _ => cases e
    | cons x l ih =>
      intro m e
      cases m with
      | nil => cases e
      | cons y m =>
        injection e with e1 e2
        injection e1 with e1
        rw [e1, ih e2]
  unfold tupD at h1 h2
  injection h1 with h1
  injection h2 with h2
  exact ⟨inj h1, inj h2⟩
/-- what is told of these two trains -/
theorem many_told {a b : Nat} (ha : 1 < a) (hb : 0 < b) {x : Except (List PyData) (List Rec)} (h : BfsR (mA a b) (mB a b) ways2 0 (startR (mX a b 0) (mY a b 0)) x) (sx : StandL (mA a b) (mX a b 0)) (sy : StandL (mB a b) (mY a b 0)) : heldW x = "alike" ∧ heldT x = allK b (a * b) (a * b) := by
  obtain ⟨rs, rfl⟩ := (bfs_sim h).mpr (many_sim ha hb)
  refine ⟨rfl, ?_⟩
  have cl := bfs_closed h
  have nodes := bfs_nodes h (ways2_ok (show 1 ≤ 4 by decide) (show 1 ≤ 3 by decide)) (nodes_start sx sy) rs rfl
  have nd := bfs_nodup h start_nodup rs rfl
  have so := allK_lt b (a * b) (a * b)
  refine sortD_is ((List.perm_ext_iff_of_nodup ?_ (so.imp fun {d e} z => (dataLt_asymm z).2)).mpr fun d => ⟨fun hd => ?_, fun hd => ?_⟩) (fun d hd => ?_) (so.imp fun {d e} z => (dataLt_asymm z).1)
  · refine List.pairwise_map.mpr (List.Pairwise.imp_of_mem (fun {j k} hj hk ne e => ?_) nd)
    obtain ⟨xs, ys, rfl, _⟩ := nodes j hj
    obtain ⟨us, vs, rfl, _⟩ := nodes k hk
    obtain ⟨rfl, rfl⟩ := nkD_pk_inj e
    exact ne rfl
  · obtain ⟨k0, hk0, rfl⟩ := List.mem_map.mp hd
    obtain ⟨us, vs, rfl, su, sv⟩ := nodes k0 hk0
    obtain ⟨i, j, hi, hj, rfl⟩ : ∃ i j : Nat, i < a ∧ j < b ∧ us = [0, (i : Int), (j : Int), 0] := by
      obtain ⟨u0, u1, u2, u3, rfl⟩ : ∃ u0 u1 u2 u3, us = [u0, u1, u2, u3] := by
        have l : us.length = 4 := su.len
        match us, l with
        | [u0, u1, u2, u3], _ => exact ⟨_, _, _, _, rfl⟩
      · obtain ⟨g0, e0⟩ := su.ok.2 0 .click u0 rfl rfl
        obtain ⟨g1, e2⟩ := su.ok.2 1 (.spring a) u1 rfl rfl
        obtain ⟨g2, e4⟩ := su.ok.2 2 (.spring b) u2 rfl rfl
        obtain ⟨g3, e5⟩ := su.ok.2 3 (.wheel 1 []) u3 rfl rfl
        have e0 : u0 < 1 := e0
        have e2 : u1 < (a : Int) := e2
        have e4 : u2 < (b : Int) := e4
        have e5 : u3 < 1 := e5
        refine ⟨u1.toNat, u2.toNat, by omega, by omega, ?_⟩
        rw [show u0 = 0 by omega, show ((u1.toNat : Nat) : Int) = u1 by omega, show ((u2.toNat : Nat) : Int) = u2 by omega, show u3 = 0 by omega]
    obtain ⟨k, l, hk, hl, rfl⟩ : ∃ i j : Nat, i < a ∧ j < b ∧ vs = [(i : Int), (j : Int), 0] := by
      obtain ⟨u1, u2, u3, rfl⟩ : ∃ u1 u2 u3, vs = [u1, u2, u3] := by
        have l : vs.length = 3 := sv.len
        match vs, l with
        | [u1, u2, u3], _ => exact ⟨_, _, _, rfl⟩
      · obtain ⟨g1, e2⟩ := sv.ok.2 0 (.spring a) u1 rfl rfl
        obtain ⟨g2, e4⟩ := sv.ok.2 1 (.spring b) u2 rfl rfl
        obtain ⟨g3, e5⟩ := sv.ok.2 2 (.wheel 1 []) u3 rfl rfl
        have e2 : u1 < (a : Int) := e2
        have e4 : u2 < (b : Int) := e4
        have e5 : u3 < 1 := e5
        refine ⟨u1.toNat, u2.toNat, by omega, by omega, ?_⟩
        rw [show ((u1.toNat : Nat) : Int) = u1 by omega, show ((u2.toNat : Nat) : Int) = u2 by omega, show u3 = 0 by omega]
    have lt : ∀ {i j : Nat}, i < a → j < b → i * b + j < a * b := fun {i j} h1 h2 => by
      have := Nat.mul_le_mul_right b (show i + 1 ≤ a by omega)
      rw [Nat.add_mul, Nat.one_mul] at this
      omega
    have dm : ∀ {i j : Nat}, j < b → (i * b + j) / b = i ∧ (i * b + j) % b = j := fun {i j} h => by
      rw [Nat.mul_comm, Nat.mul_add_div hb, Nat.div_eq_of_lt h, Nat.mul_add_mod, Nat.mod_eq_of_lt h]
      exact ⟨rfl, rfl⟩
    refine List.mem_flatMap.mpr ⟨i * b + j, List.mem_range.mpr (lt hi hj), List.mem_map.mpr ⟨k * b + l, List.mem_range.mpr (lt hk hl), ?_⟩⟩
    unfold sX sY
    rw [(dm hj).1, (dm hj).2, (dm hl).1, (dm hl).2]
  · obtain ⟨k, hk, hd⟩ := List.mem_flatMap.mp hd
    obtain ⟨j, hj, rfl⟩ := List.mem_map.mp hd
    have hk := List.mem_range.mp hk
    have hj := List.mem_range.mp hj
    have dv : ∀ {k : Nat}, k < a * b → k / b < a := fun {k} h => Nat.div_lt_of_lt_mul (by rw [Nat.mul_comm]; exact h)
    have mm : ∀ {k : Nat}, k < a * b → (k % b * a + k / b) % a = k / b ∧ (k % b * a + k / b) / a % b = k % b ∧ k % b * a + k / b < a * b := fun {k} h => by
      have h1 := dv h
      have h2 := Nat.mod_lt k hb
      rw [Nat.mul_comm (k % b) a, Nat.mul_add_mod, Nat.mod_eq_of_lt h1, Nat.mul_add_div (by omega), Nat.div_eq_of_lt h1, Nat.add_zero, Nat.mod_eq_of_lt h2]
      refine ⟨rfl, rfl, ?_⟩
      have := Nat.mul_le_mul_left a (show k % b + 1 ≤ b by omega)
      rw [Nat.mul_add, Nat.mul_one] at this
      omega
    have c := many_all ha hb (C := fun us vs => pkey us vs ∈ keysR rs) cl.1 (fun us vs hk q hq => cl.2 us vs hk q hq) (k % b * a + k / b) (j % b * a + j / b) (mm hj).2.2
    refine List.mem_map.mpr ⟨_, c, ?_⟩
    unfold mX mY sX sY
    rw [(mm hk).1, (mm hk).2.1, (mm hj).1, (mm hj).2.1]
  · obtain ⟨k, _, hd⟩ := List.mem_flatMap.mp hd
    obtain ⟨j, _, rfl⟩ := List.mem_map.mp hd
    exact ⟨_, _, rfl⟩
end Ct

/-! sets of tuples in tuples: the walk through the slots -/
namespace Ct
open PySem PySem.Spec PyProof.Rows L2
/-- 1 + 5 + .. + 5^(n-1) -/
def fives : Nat → Nat
  | 0 => 0
  | n + 1 => 5 * fives n + 1
theorem fives_pow (n : Nat) : 5 ^ n = 4 * fives n + 1 := by
  induction n with
  | zero => rfl
  | succ n ih => rw [Nat.pow_succ, ih, fives]; omega
theorem fives_add (a d : Nat) : fives (a + d) = 5 ^ a * fives d + fives a := by
  induction a with
  | zero => rw [Nat.zero_add, Nat.pow_zero, fives]; omega
  | succ a ih =>
    rw [show a + 1 + d = a + d + 1 by omega, fives, ih, fives, Nat.pow_succ, Nat.mul_comm (5 ^ a) 5, Nat.mul_assoc]
    omega
theorem fives_twice (e : Nat) : fives (e + e) = 2 * (fives e * (2 * fives e + 1)) := by
  rw [fives_add, fives_pow, Nat.add_mul, Nat.one_mul, Nat.mul_add, Nat.mul_one, Nat.mul_assoc, Nat.mul_left_comm (fives e) 2]
  omega
theorem pow_odd {y : Nat} (hy : y % 2 = 1) : ∀ (k x : Nat), 2 ^ k ∣ x * y → 2 ^ k ∣ x
  | 0, x, _ => by rw [Nat.pow_zero]; exact Nat.one_dvd x
  | k + 1, x, h => by
    have h2 : 2 ∣ x * y := Nat.dvd_trans ⟨2 ^ k, by rw [Nat.pow_succ, Nat.mul_comm]⟩ h
    have hx : x % 2 = 0 := by
      have e := Nat.mod_eq_zero_of_dvd h2
      rw [Nat.mul_mod, hy, Nat.mul_one, Nat.mod_mod] at e
      exact e
    obtain ⟨x', rfl⟩ : ∃ x', x = 2 * x' := ⟨x / 2, by omega⟩
    obtain ⟨c, hc⟩ := h
    have : 2 ^ k ∣ x' * y := ⟨c, Nat.eq_of_mul_eq_mul_left (show 0 < 2 by decide) (by rw [← Nat.mul_assoc, hc, Nat.pow_succ, Nat.mul_comm (2 ^ k) 2, Nat.mul_assoc])⟩
    obtain ⟨d, hd⟩ := pow_odd hy k x' this
    exact ⟨d, by rw [hd, Nat.pow_succ, Nat.mul_comm (2 ^ k) 2, Nat.mul_assoc]⟩
theorem fives_dvd : ∀ (d k : Nat), 2 ^ k ∣ fives d → 2 ^ k ∣ d := fun d => by
  induction d using Nat.strongRecOn with
  | _ d ih =>
    intro k h
    cases k with
    | zero => rw [Nat.pow_zero]; exact Nat.one_dvd d
    | succ k =>
      by_cases d0 : d = 0
      · rw [d0]; exact Nat.dvd_zero _
      by_cases ev : d % 2 = 0
      · obtain ⟨e, rfl⟩ : ∃ e, d = e + e := ⟨d / 2, by omega⟩
        rw [fives_twice] at h
        obtain ⟨c, hc⟩ := h
        have h1 : 2 ^ k ∣ fives e * (2 * fives e + 1) := ⟨c, Nat.eq_of_mul_eq_mul_left (show 0 < 2 by decide) (by rw [hc, Nat.pow_succ, Nat.mul_comm (2 ^ k) 2, Nat.mul_assoc])⟩
        obtain ⟨q, hq⟩ := ih e (by omega) k (pow_odd (by omega) k _ h1)
        exact ⟨q, by rw [Nat.pow_succ, Nat.mul_comm (2 ^ k) 2, Nat.mul_assoc, ← hq]; omega⟩
      · exfalso
        obtain ⟨e, rfl⟩ : ∃ e, d = e + e + 1 := ⟨d / 2, by omega⟩
        have h2 : 2 ∣ fives (e + e + 1) := Nat.dvd_trans ⟨2 ^ k, by rw [Nat.pow_succ, Nat.mul_comm]⟩ h
        rw [fives, fives_twice] at h2
        omega
theorem lcg_at (m i : Nat) : ∀ n, lcgI m i n % (m + 1) = (5 ^ n * i + fives n) % (m + 1)
  | 0 => by rw [Nat.pow_zero, Nat.one_mul]; rfl
  | n + 1 => by
    show (lcgI m i n * 5 + 1) % (m + 1) % (m + 1) = _
    rw [Nat.mod_mod, Nat.add_mod, Nat.mul_mod, lcg_at m i n, ← Nat.mul_mod, ← Nat.add_mod, fives, Nat.pow_succ]
    congr 1
    rw [Nat.add_mul, Nat.mul_right_comm, Nat.mul_comm (fives n) 5, Nat.add_assoc]
/-- the masks: one less than a power of two -/
def MaskG (m : Nat) : Prop := m = 7 ∨ m = 31 ∨ m = 127 ∨ m = 511 ∨ m = 2047 ∨ m = 8191 ∨ m = 32767
theorem MaskG.pow {m : Nat} (h : MaskG m) : ∃ k, m + 1 = 2 ^ k := by
  rcases h with rfl | rfl | rfl | rfl | rfl | rfl | rfl
  · exact ⟨3, rfl⟩
  · exact ⟨5, rfl⟩
  · exact ⟨7, rfl⟩
  · exact ⟨9, rfl⟩
  · exact ⟨11, rfl⟩
  · exact ⟨13, rfl⟩
  · exact ⟨15, rfl⟩
theorem MaskG.odd {m : Nat} (h : MaskG m) : m % 2 = 1 := by
  rcases h with rfl | rfl | rfl | rfl | rfl | rfl | rfl <;> rfl
theorem MaskG.le {m : Nat} (h : MaskG m) : m ≤ 32767 := by
  rcases h with rfl | rfl | rfl | rfl | rfl | rfl | rfl <;> decide
theorem lcg_le {m i : Nat} (hi : i ≤ m) : ∀ n, lcgI m i n ≤ m
  | 0 => hi
  | n + 1 => Nat.le_of_lt_succ (Nat.mod_lt _ (Nat.succ_pos m))
theorem lcg_ne {m i a b : Nat} (hm : MaskG m) (hi : i ≤ m) (ab : a < b) (hb : b ≤ m) : lcgI m i a ≠ lcgI m i b := fun e => by
  obtain ⟨k, hk⟩ := hm.pow
  obtain ⟨d, rfl⟩ : ∃ d, b = a + d := ⟨b - a, by omega⟩
  have e1 := lcg_at m i a
  have e2 := lcg_at m i (a + d)
  rw [← e, e1] at e2
  have big : 5 ^ a * i + fives a ≤ 5 ^ (a + d) * i + fives (a + d) := by
    rw [fives_add, Nat.pow_add]
    have : 5 ^ a * i * 1 ≤ 5 ^ a * i * 5 ^ d := Nat.mul_le_mul_left _ (Nat.pow_pos (by decide))
    rw [Nat.mul_one, Nat.mul_right_comm] at this
    omega
  have dv : m + 1 ∣ (5 ^ (a + d) * i + fives (a + d)) - (5 ^ a * i + fives a) := Nat.dvd_of_mod_eq_zero (Nat.sub_mod_eq_zero_of_mod_eq e2.symm)
  have dif : (5 ^ (a + d) * i + fives (a + d)) - (5 ^ a * i + fives a) = fives d * (5 ^ a * (4 * i + 1)) := by
    rw [fives_add, Nat.pow_add, fives_pow d]
    have : 5 ^ a * (4 * fives d + 1) * i + (5 ^ a * fives d + fives a) = fives d * (5 ^ a * (4 * i + 1)) + (5 ^ a * i + fives a) := by
      generalize 5 ^ a = P, fives d = F, fives a = A
      grind
    omega
  rw [dif, hk] at dv
  have od : (5 ^ a * (4 * i + 1)) % 2 = 1 := by
    rw [fives_pow, Nat.mul_mod]
    have h1 : (4 * fives a + 1) % 2 = 1 := by omega
    have h2 : (4 * i + 1) % 2 = 1 := by omega
    rw [h1, h2]
  have dd := fives_dvd d k (pow_odd od k _ dv)
  have := Nat.le_of_dvd (by omega) dd
  omega
/-- from anywhere each slot is met within a round -/
theorem lcg_meets {m i j : Nat} (hm : MaskG m) (hi : i ≤ m) (hj : j ≤ m) : ∃ n, n ≤ m ∧ lcgI m i n = j := by
  apply Classical.byContradiction
  intro no
  have nd : (j :: (List.range (m + 1)).map (lcgI m i)).Nodup := by
    refine List.nodup_cons.mpr ⟨fun hmem => ?_, List.pairwise_map.mpr ((List.pairwise_lt_range (n := m + 1)).imp_of_mem fun {a b} ha hb ab => ?_)⟩
    · obtain ⟨n, hn, e⟩ := List.mem_map.mp hmem
      exact no ⟨n, Nat.le_of_lt_succ (List.mem_range.mp hn), e⟩
    · exact lcg_ne hm hi ab (Nat.le_of_lt_succ (List.mem_range.mp hb))
  have := nat_nodup_len _ (List.range (m + 1)) nd fun x hx => by
    rcases List.mem_cons.mp hx with rfl | hx
    · exact List.mem_range.mpr (Nat.lt_succ_of_le hj)
    · obtain ⟨n, _, rfl⟩ := List.mem_map.mp hx
      exact List.mem_range.mpr (Nat.lt_succ_of_le (lcg_le hi n))
  rw [List.length_cons, List.length_map, List.length_range] at this
  omega
theorem runs_meet {m : Nat} (hm : MaskG m) (h : Int) {j : Nat} (hj : j ≤ m) : ∃ n, n ≤ m + 12 ∧ runI m (SetTable.bits h) n = j := by
  obtain ⟨n, hn, e⟩ := lcg_meets hm (runI_le m (SetTable.bits h) 12) hj
  exact ⟨12 + n, by omega, (runI_tail (bits_lt h) n).trans e⟩
theorem way_meets {m : Nat} (hm : MaskG m) (h : Int) {j : Nat} (hj : j ≤ m) : ∃ n, n < 10 * SetTable.turns m ∧ way m h n = j := by
  obtain ⟨r, hr, e⟩ := runs_meet hm h hj
  obtain ⟨n, hn, e2⟩ := run_nth m (SetTable.bits h) r
  exact ⟨n, by unfold SetTable.turns; omega, (congrArg SetTable.Probe.j e2).trans e⟩
theorem way_in (m : Nat) (h : Int) (n : Nat) : way m h n ≤ m := by
  have hi : SetTable.bits h % (m + 1) ≤ m := Nat.le_of_lt_succ (Nat.mod_lt _ (Nat.succ_pos m))
  have bd := runEnd_bd hi
  have := nth_in (m := m) n (runAt m (SetTable.bits h % (m + 1)) (SetTable.bits h)) (show SetTable.bits h % (m + 1) + (SetTable.runEnd m (SetTable.bits h % (m + 1)) - SetTable.bits h % (m + 1)) ≤ m by omega)
  exact Nat.le_trans (Nat.le_add_right _ _) this
end Ct
namespace Ct
open PySem PySem.Spec PyProof.Rows L2
/-- each slot that is taken is found again by its hash -/
structure TabG (tb : SetTable) (gs : List Int) : Prop where
  up : Ris tb.place.toList
  clean : tb.dummies = #[]
  many : tb.place.toList.length = gs.length
  msk : MaskG tb.mask
  low : ∀ x ∈ tb.place.toList, x ≤ tb.mask
  found : ∀ (i : Nat) (g : Int) (j : Nat), gs[i]? = some g → tb.place.toList[i]? = some j → ∃ n, way tb.mask g n = j ∧ ∀ c, c < n → way tb.mask g c ∈ tb.place.toList
section
variable {tb : SetTable} {gs : List Int}
theorem TabG.free (T : TabG tb gs) (few : gs.length ≤ tb.mask) (g : Int) : ∃ N, N < 10 * SetTable.turns tb.mask ∧ way tb.mask g N ∉ tb.place.toList ∧ ∀ c, c < N → way tb.mask g c ∈ tb.place.toList := by
  obtain ⟨j, hj, out⟩ := st_missing tb.place.toList (tb.mask + 1) (by rw [T.many]; omega)
  obtain ⟨n, hn, e⟩ := way_meets T.msk g (Nat.le_of_lt_succ hj)
  obtain ⟨N, n1, n2, n3⟩ := st_least (p := fun c => way tb.mask g c ∉ tb.place.toList) n (fun z => out (e ▸ z))
  exact ⟨N, by omega, n2, fun c hc => Classical.byContradiction (n3 c hc)⟩
/-- a place that is free is met soon: the runs' starts are all of them others -/
theorem TabG.soon (T : TabG tb gs) (few : gs.length ≤ tb.mask) (g : Int) {N : Nat} (all : ∀ c, c < N → way tb.mask g c ∈ tb.place.toList) : N ≤ 10 * (gs.length + 12) := by
  apply Classical.byContradiction
  intro no
  have start : ∀ k, k ≤ gs.length → lcgI tb.mask (runI tb.mask (SetTable.bits g) 12) k ∈ tb.place.toList := fun k hk => by
    obtain ⟨n, hn, e2⟩ := run_nth tb.mask (SetTable.bits g) (12 + k)
    have e : way tb.mask g n = lcgI tb.mask (runI tb.mask (SetTable.bits g) 12) k := (congrArg SetTable.Probe.j e2).trans (runI_tail (bits_lt g) k)
    rw [← e]
    exact all n (by omega)
  have := nat_nodup_len ((List.range (gs.length + 1)).map (lcgI tb.mask (runI tb.mask (SetTable.bits g) 12))) tb.place.toList (List.pairwise_map.mpr ((List.pairwise_lt_range (n := gs.length + 1)).imp_of_mem fun {a b} ha hb ab => lcg_ne T.msk (runI_le _ _ _) ab (by have := List.mem_range.mp hb; omega))) fun x hx => by
    obtain ⟨k, hk, rfl⟩ := List.mem_map.mp hx
    exact start k (Nat.le_of_lt_succ (List.mem_range.mp hk))
  rw [List.length_map, List.length_range, T.many] at this
  omega
theorem TabG.ahead (T : TabG tb gs) {g : Int} {N i j : Nat} (hN : way tb.mask g N ∉ tb.place.toList) (hi : gs[i]? = some g) (hj : tb.place.toList[i]? = some j) : ∃ c, c < N ∧ way tb.mask g c = j := by
  obtain ⟨c, e, all⟩ := T.found i g j hi hj
  refine ⟨c, ?_, e⟩
  apply Classical.byContradiction
  intro z
  by_cases d : c = N
  · exact hN (d ▸ e ▸ List.mem_of_getElem? hj)
  · exact hN (all N (by omega))
/-- where it is put in -/
def spot (tb : SetTable) (j : Nat) : Nat := SetTable.below tb.place j
theorem TabG.put (T : TabG tb gs) {g : Int} {N : Nat} (hN : way tb.mask g N ∉ tb.place.toList) (all : ∀ c, c < N → way tb.mask g c ∈ tb.place.toList) :
    spot tb (way tb.mask g N) ≤ gs.length ∧ TabG (tb.put (way tb.mask g N)).1 (gs.take (spot tb (way tb.mask g N)) ++ g :: gs.drop (spot tb (way tb.mask g N))) ∧ (tb.put (way tb.mask g N)).1.fill = gs.length + 1 := by
  have inside := way_in tb.mask g N
  generalize hj : way tb.mask g N = j at *
  obtain ⟨b1, _, _⟩ := below_cut T.up j
  have p1 : spot tb j ≤ tb.place.toList.length := by rw [Array.length_toList]; exact b1
  have p2 : spot tb j ≤ gs.length := by rw [← T.many]; exact p1
  have pl : (tb.put j).1.place.toList = tb.place.toList.take (spot tb j) ++ j :: tb.place.toList.drop (spot tb j) := put_place tb j
  have ln : (tb.put j).1.place.toList.length = gs.length + 1 := by rw [pl, len_ins _ p1, T.many]
  have more : ∀ {x : Nat}, x ∈ tb.place.toList → x ∈ (tb.put j).1.place.toList := fun {x} hx => by rw [pl]; exact mem_ins.mpr (.inr hx)
  have new : tb.place[SetTable.below tb.place j]? ≠ some j := fun z => hN (List.mem_of_getElem? (by rw [Array.getElem?_toList]; exact z))
  refine ⟨p2, ⟨ris_insert T.up new, put_dm T.clean j, by rw [ln, len_ins _ p2], T.msk, fun x hx => ?_, fun i g2 j2 h1 h2 => ?_⟩, ?_⟩
  · rw [pl] at hx
    rcases mem_ins.mp hx with rfl | hx
    · exact inside
    · exact T.low x hx
  · rw [tins_get gs p2] at h1
    rw [pl, tins_get _ p1] at h2
    have old : ∀ i0, gs[i0]? = some g2 → tb.place.toList[i0]? = some j2 → ∃ n, way tb.mask g2 n = j2 ∧ ∀ c, c < n → way tb.mask g2 c ∈ (tb.put j).1.place.toList := fun i0 a b => by
      obtain ⟨n, e, z⟩ := T.found i0 g2 j2 a b
      exact ⟨n, e, fun c hc => more (z c hc)⟩
    by_cases c1 : i < spot tb j
    · rw [if_pos c1] at h1 h2
      exact old i h1 h2
    · rw [if_neg c1] at h1 h2
      by_cases c2 : i = spot tb j
      · rw [if_pos c2] at h1 h2
        cases h1
        cases h2
        exact ⟨N, hj, fun c hc => more (all c hc)⟩
      · rw [if_neg c2] at h1 h2
        exact old (i - 1) h1 h2
  · show (tb.put j).1.place.size + (tb.put j).1.dummies.size = gs.length + 1
    rw [put_dm T.clean j, ← Array.length_toList, ln]
    rfl
end
/-! all laid anew -/
theorem free_slot {m : Nat} (hm : MaskG m) (ow : Array (Option Nat)) (g : Int) {j : Nat} (hj : j ≤ m) (hf : oAt ow j = none) :
    ∃ N, SetTable.layClean.free m ow (SetTable.turns m) (SetTable.bits g % (m + 1)) (SetTable.bits g) = some (way m g N) ∧ oAt ow (way m g N) = none ∧ ∀ c, c < N → oAt ow (way m g c) ≠ none := by
  obtain ⟨r, hr, e⟩ := runs_meet hm g hj
  have at_ : way m g (off m (SetTable.bits g % (m + 1)) (SetTable.bits g) r) = j := by
    show (nth m (runAt m (SetTable.bits g % (m + 1)) (SetTable.bits g)) _).j = j
    rw [nth_off, itL_run]
    exact e
  obtain ⟨N, n1, n2, n3⟩ := st_least (p := fun c => oAt ow (way m g c) = none) _ (show oAt ow (way m g (off m (SetTable.bits g % (m + 1)) (SetTable.bits g) r)) = none by rw [at_]; exact hf)
  refine ⟨N, free_spec m ow (SetTable.turns m) r _ _ N (by unfold SetTable.turns; omega) n1 (fun c hc => ?_) (by rw [show oAt ow _ = none from n2]; rfl), n2, n3⟩
  have z := n3 c hc
  cases e2 : oAt ow (nth m (runAt m (SetTable.bits g % (m + 1)) (SetTable.bits g)) c).j with
  | none => exact absurd e2 z
  | some _ => rfl
theorem own_more {m : Nat} (hm : MaskG m) {gs : List Int} {ow : Array (Option Nat)} (W : Own m gs ow) (few : gs.length ≤ m) (g : Int) :
    ∃ j, SetTable.layClean.free m ow (SetTable.turns m) (SetTable.bits g % (m + 1)) (SetTable.bits g) = some j ∧ Own m (gs ++ [g]) (ow.setIfInBounds j (some gs.length)) := by
  obtain ⟨taken, tl, tall⟩ := W.ps
  obtain ⟨j0, hj0, out⟩ := st_missing taken (m + 1) (by omega)
  have f0 : oAt ow j0 = none := Classical.byContradiction fun z => out (tall j0 (Nat.le_of_lt_succ hj0) z)
  obtain ⟨N, e1, e2, e3⟩ := free_slot hm ow g (Nat.le_of_lt_succ hj0) f0
  have low := way_in m g N
  generalize hj : way m g N = j at *
  have mine : oAt (ow.setIfInBounds j (some gs.length)) j = some gs.length := oAt_set_self _ (by rw [W.sz]; omega)
  have other : ∀ {i : Nat}, i ≠ j → oAt (ow.setIfInBounds j (some gs.length)) i = oAt ow i := fun {i} ne => oAt_set_ne _ ne
  have still : ∀ {i : Nat}, oAt ow i ≠ none → oAt (ow.setIfInBounds j (some gs.length)) i ≠ none := fun {i} hi => by
    by_cases c : i = j
    · rw [c, mine]; exact fun z => nomatch z
    · rw [other c]; exact hi
  refine ⟨j, e1, by rw [Array.size_setIfInBounds]; exact W.sz, fun i n hi hn => ?_, fun n hn => ?_, j :: taken, by rw [List.length_cons, tl, List.length_append]; rfl, fun i hi hn => ?_⟩
  · by_cases c : i = j
    · rw [c, mine] at hn
      cases hn
      exact ⟨g, N, by rw [List.getElem?_append_right (Nat.le_refl _), Nat.sub_self]; rfl, by rw [c]; exact hj, fun d hd => still (e3 d hd)⟩
    · rw [other c] at hn
      obtain ⟨g2, N2, a1, a2, a3⟩ := W.at_ i n hi hn
      exact ⟨g2, N2, by rw [List.getElem?_append_left (List.getElem?_eq_some_iff.mp a1).1]; exact a1, a2, fun d hd => still (a3 d hd)⟩
  · rw [List.length_append] at hn
    by_cases c : n < gs.length
    · obtain ⟨i, hi, e⟩ := W.all n c
      exact ⟨i, hi, by rw [other (fun z => by rw [z, e2] at e; cases e)]; exact e⟩
    · have : n < gs.length + 1 := hn
      exact ⟨j, low, by rw [mine, show gs.length = n by omega]⟩
  · by_cases c : i = j
    · rw [c]; exact List.mem_cons_self
    · exact List.mem_cons_of_mem _ (tall i hi (by rw [← other c]; exact hn))
theorem own_all {m : Nat} (hm : MaskG m) : ∀ (more gs : List Int) (ow : Array (Option Nat)), Own m gs ow → gs.length + more.length ≤ m → ∃ ow2, more.foldl (stepF m) (some (ow, gs.length)) = some (ow2, (gs ++ more).length) ∧ Own m (gs ++ more) ow2
  | [], gs, ow, W, _ => by rw [List.append_nil]; exact ⟨ow, rfl, W⟩
  | g :: more, gs, ow, W, few => by
    have few2 : gs.length + (more.length + 1) ≤ m := few
    obtain ⟨j, e, W2⟩ := own_more hm W (by omega) g
    have l1 : (gs ++ [g]).length = gs.length + 1 := by rw [List.length_append]; rfl
    obtain ⟨ow2, e2, W3⟩ := own_all hm more (gs ++ [g]) _ W2 (by omega)
    rw [List.append_assoc, List.singleton_append] at e2 W3
    refine ⟨ow2, ?_, W3⟩
    rw [l1] at e2
    rw [List.foldl_cons, stepF_some e]
    exact e2
theorem laid_anew (tb : SetTable) {hs : Array Int} {wanted m : Nat} (hw : SetTable.sizeAbove wanted - 1 = m) (hm : MaskG m) (few : hs.size ≤ m) :
    ∃ tb2 order, tb.relaid hs wanted = some (tb2, order) ∧ order.toList.Perm (List.range hs.size) ∧ TabG tb2 (order.toList.map fun i => hs.getD i 0) ∧ tb2.mask = m ∧ tb2.led = tb.led ∧ tb2.plain = tb.plain := by
  obtain ⟨ow, e, W⟩ := own_all hm hs.toList [] _ (Own.init m) (by rw [Array.length_toList]; show 0 + hs.size ≤ m; omega)
  rw [List.nil_append] at e W
  have lay : SetTable.layClean m hs = some ow := by
    rw [layClean_eq]
    exact congrArg (Option.map _) e
  have up : Ris ((liveOf m ow).map (·.1)) ∧ ∀ x ∈ (liveOf m ow).map (·.1), x ∈ List.range (m + 1) := ris_live (fun j => ow.getD j none) (List.range (m + 1)) List.pairwise_lt_range
  have nd : ((liveOf m ow).map (·.1)).Nodup := up.1.imp fun h => Nat.ne_of_lt h
  have every : ∀ n, n < hs.size → n ∈ (liveOf m ow).map (·.2) := fun n hn => by
    obtain ⟨j, hj, ej⟩ := W.all n (by rw [Array.length_toList]; exact hn)
    exact List.mem_map.mpr ⟨(j, n), (mem_live W.sz).mpr ⟨hj, ej⟩, rfl⟩
  have ln : (liveOf m ow).length = hs.size := by
    obtain ⟨taken, tl, tall⟩ := W.ps
    have h1 := nat_nodup_len _ taken nd fun x hx => by
      obtain ⟨⟨y, n⟩, hq, rfl⟩ := List.mem_map.mp hx
      obtain ⟨hy, en⟩ := (mem_live W.sz).mp hq
      exact tall y hy (by rw [en]; exact fun z => nomatch z)
    have h2 := nat_nodup_len (List.range hs.size) ((liveOf m ow).map (·.2)) List.nodup_range fun n hn => every n (List.mem_range.mp hn)
    rw [List.length_map, tl] at h1
    rw [List.length_map, List.length_range] at h2
    have h3 : hs.toList.length = hs.size := rfl
    omega
  refine ⟨L2.tabOf tb m ow, ((liveOf m ow).map (·.2)).toArray, by rw [relaid_eq, hw, lay]; rfl, perm_range _ _ (by show ((liveOf m ow).map (·.2)).length = _; rw [List.length_map, ln]) every, ⟨up.1, rfl, ?_, hm, fun x hx => Nat.le_of_lt_succ (List.mem_range.mp (up.2 x hx)), fun i g j h1 h2 => ?_⟩, rfl, rfl, rfl⟩
  · show ((liveOf m ow).map (·.1)).length = (((liveOf m ow).map (·.2)).map _).length
    rw [List.length_map, List.length_map, List.length_map]
  · have h1' : (((liveOf m ow).map (·.2)).map fun i => hs.getD i 0)[i]? = some g := h1
    have h2' : ((liveOf m ow).map (·.1))[i]? = some j := h2
    rw [List.map_map, List.getElem?_map] at h1'
    rw [List.getElem?_map] at h2'
    obtain ⟨⟨y, n⟩, hq, ey⟩ := Option.map_eq_some_iff.mp h2'
    rw [hq] at h1'
    have ey : y = j := ey
    subst ey
    have eg : hs.getD n 0 = g := Option.some.inj h1'
    obtain ⟨hy, en⟩ := (mem_live W.sz).mp (List.mem_of_getElem? hq)
    obtain ⟨g2, N, a1, a2, a3⟩ := W.at_ y n hy en
    have e3 : hs.getD n 0 = g2 := by rw [Array.getD_eq_getD_getElem?, ← Array.getElem?_toList, a1]; rfl
    rw [← eg, e3]
    refine ⟨N, a2, fun c hc => ?_⟩
    show way m g2 c ∈ (liveOf m ow).map (·.1)
    cases z : oAt ow (way m g2 c) with
    | none => exact absurd z (a3 c hc)
    | some n2 => exact List.mem_map.mpr ⟨(way m g2 c, n2), (mem_live W.sz).mpr ⟨way_in m g2 c, z⟩, rfl⟩
/-- how large it is made: by the many it holds -/
theorem grown_to {m n : Nat} (hm : MaskG m) (room : n * 5 < m * 3) (full : (n + 1) * 5 ≥ m * 3) (few : n + 1 < 9000) : ∃ M, SetTable.sizeAbove (SetTable.grown (n + 1)) - 1 = M ∧ MaskG M ∧ SetTable.sizeAbove (SetTable.grown (n + 1)) ≤ 32768 ∧ (n + 1) * 5 < M * 3 := by
  rcases hm with rfl | rfl | rfl | rfl | rfl | rfl | rfl
  · obtain rfl : n = 4 := by omega
    exact ⟨31, by decide +kernel, .inr (.inl rfl), by decide +kernel, by decide⟩
  · obtain rfl : n = 18 := by omega
    exact ⟨127, by decide +kernel, .inr (.inr (.inl rfl)), by decide +kernel, by decide⟩
  · obtain rfl : n = 76 := by omega
    exact ⟨511, by decide +kernel, .inr (.inr (.inr (.inl rfl))), by decide +kernel, by decide⟩
  · obtain rfl : n = 306 := by omega
    exact ⟨2047, by decide +kernel, .inr (.inr (.inr (.inr (.inl rfl)))), by decide +kernel, by decide⟩
  · obtain rfl : n = 1228 := by omega
    exact ⟨8191, by decide +kernel, .inr (.inr (.inr (.inr (.inr (.inl rfl))))), by decide +kernel, by decide⟩
  · obtain rfl : n = 4914 := by omega
    exact ⟨32767, by decide +kernel, .inr (.inr (.inr (.inr (.inr (.inr rfl))))), by decide +kernel, by decide⟩
  · omega
end Ct
namespace Ct
open PySem PySem.Spec PyProof.Rows L2
mutual
/-- whole numbers and tuples of such alone -/
def numK : NestedKey → Bool
  | .num _ => true
  | .tup ks => numKs ks
  | _ => false
def numKs : List NestedKey → Bool
  | [] => true
  | k :: ks => numK k && numKs ks
end
def IsN (h : Heap) (k : NestedKey) (a : Addr) : Prop := NestedIs h k (.ref a) ∧ k.depth ≤ 8 ∧ numK k = true
section
variable {P : Program} {w : World} {s : Shared}
/-- of no class statement, n levels down -/
def NoCls (P : Program) (w : World) (n : Nat) (s : Shared) (v : Value) : Prop := ∀ (A : Around) (E : Value → Shared → Prop) (Q : Bool → Shared → Prop), Q false s → wpAny (model P w) A (ofAClassStatement n v) Q E s
def ByVal (P : Program) (w : World) (n : Nat) (s : Shared) (v : Value) : Prop := ∀ (A : Around) (E : Value → Shared → Prop) (Q : Bool → Shared → Prop), Q true s → wpAny (model P w) A (hashByValue n v) Q E s
theorem noCls_tup {n m : Nat} {a : Addr} {o : Obj} {vs : Array Value} (ho : s.heap.get? a = some o) (hc : o.cls = .type "tuple") (hd : o.data = .seq vs m) (all : ∀ v ∈ vs.toList, NoCls P w n s v) : NoCls P w (n + 1) s (.ref a) := fun A E Q q => by
  have ty : s.TypeIs (.ref a) "tuple" := ⟨o, ho, hc⟩
  unfold ofAClassStatement
  refine wpAny_bind (wpAny_typeOf ty ?_)
  dsimp only
  simp only [show (("tuple" : String) == "tuple") = true by decide, if_true]
  try refine wpAny_bind (wpAny_pure ?_)
  try simp only [Bool.not_true, Bool.false_eq_true, if_false]
  show wpAny _ _ (seqItems? (.ref a) >>= _) _ _ s
  refine wpAny_bind (wpAny_seqItems ho hd ?_)
  dsimp only
  refine wpAny_bind ?_
  show wpAny _ _ (forIn vs _ _) _ _ s
  rw [← Array.forIn_toList]
  refine wpAny_forIn_list _ (fun left r z => r.1 = none ∧ z = s ∧ ∀ v ∈ left, NoCls P w n s v) _ (fun v left r z h => ?_) (fun r z h => ?_) _ _ ⟨rfl, rfl, all⟩
  · obtain ⟨h1, h2, h3⟩ := h
    subst h2
    refine wpAny_bind (h3 v List.mem_cons_self _ _ _ ?_)
    simp only [Bool.false_eq_true, if_false]
    exact wpAny_pure ⟨rfl, rfl, fun u hu => h3 u (List.mem_cons_of_mem _ hu)⟩
  · obtain ⟨r1, r2⟩ := r
    obtain ⟨h1, h2, _⟩ := h
    simp only at h1
    subst h1 h2
    exact wpAny_pure q
theorem byVal_tup {n m : Nat} {a : Addr} {o : Obj} {vs : Array Value} (ho : s.heap.get? a = some o) (hc : o.cls = .type "tuple") (hd : o.data = .seq vs m) (all : ∀ v ∈ vs.toList, ByVal P w n s v) : ByVal P w (n + 1) s (.ref a) := fun A E Q q => by
  have ty : s.TypeIs (.ref a) "tuple" := ⟨o, ho, hc⟩
  unfold hashByValue
  refine wpAny_bind (wpAny_specialOf ty F.slot_tuple_hash.lookup ?_)
  show wpAny _ _ (seqItems? (.ref a) >>= _) _ _ s
  refine wpAny_bind (wpAny_seqItems ho hd ?_)
  refine wpAny_bind ?_
  show wpAny _ _ (forIn vs _ _) _ _ s
  rw [← Array.forIn_toList]
  refine wpAny_forIn_list _ (fun left r z => r.1 = none ∧ z = s ∧ ∀ v ∈ left, ByVal P w n s v) _ (fun v left r z h => ?_) (fun r z h => ?_) _ _ ⟨rfl, rfl, all⟩
  · obtain ⟨h1, h2, h3⟩ := h
    subst h2
    refine wpAny_bind (h3 v List.mem_cons_self _ _ _ ?_)
    simp only [Bool.not_true, Bool.false_eq_true, if_false]
    exact wpAny_pure ⟨rfl, rfl, fun u hu => h3 u (List.mem_cons_of_mem _ hu)⟩
  · obtain ⟨r1, r2⟩ := r
    obtain ⟨h1, h2, _⟩ := h
    simp only at h1
    subst h1 h2
    exact wpAny_pure q
theorem noCls_int (n : Nat) (i : Int) (t : Tok) : NoCls P w n s (.int i t) := fun A E Q q => by
  rw [ofAClass_int]
  exact wpAny_pure q
theorem noCls_bool (n : Nat) (b : Bool) : NoCls P w n s (.bool b) := fun A E Q q => by
  rw [show ofAClassStatement n (.bool b) = pure false by cases n <;> rfl]
  exact wpAny_pure q
theorem byVal_int (n : Nat) (i : Int) (t : Tok) : ByVal P w n s (.int i t) := fun A E Q q => by
  rw [hashBy_int]
  exact wpAny_pure q
theorem byVal_bool (n : Nat) (b : Bool) : ByVal P w n s (.bool b) := fun A E Q q => by
  rw [show hashByValue n (.bool b) = pure true by cases n <;> rfl]
  exact wpAny_pure q
mutual
theorem key_noCls : ∀ (k : NestedKey) (v : Value) (n : Nat), NestedIs s.heap k v → k.depth ≤ n → numK k = true → NoCls P w n s v ∧ ByVal P w n s v
  | .num i, _, n, x, _, _ => by
    cases x with
    | bool _ => exact ⟨noCls_bool n _, byVal_bool n _⟩
    | int _ t => exact ⟨noCls_int n i t, byVal_int n i t⟩
  | .tup ks, _, n, x, hn, nk => by
    cases x with
    | tup hg hc hd hk =>
      rw [NestedKey.depth] at hn
      rw [numK] at nk
      cases n with
      | zero => omega
      | succ n =>
        have all := keys_noCls ks _ n hk (by omega) nk
        exact ⟨noCls_tup hg hc hd fun v hv => (all v hv).1, byVal_tup hg hc hd fun v hv => (all v hv).2⟩
  | .none, _, _, _, _, nk => by rw [numK] at nk <;> cases nk
  | .text _, _, _, _, _, nk => by rw [numK] at nk <;> cases nk
theorem keys_noCls : ∀ (ks : List NestedKey) (vs : List Value) (n : Nat), NestedAll s.heap ks vs → NestedKey.depthAll ks ≤ n → numKs ks = true → ∀ v ∈ vs, NoCls P w n s v ∧ ByVal P w n s v
  | [], _, n, x, _, _, v, hv => by cases x; cases hv
  | k :: ks, _, n, x, hn, nk, v, hv => by
    cases x with
    | cons x1 x2 =>
      rw [NestedKey.depthAll] at hn
      rw [numKs, Bool.and_eq_true] at nk
      rcases List.mem_cons.mp hv with rfl | hv
      · exact key_noCls k _ n x1 (by omega) nk.1
      · exact keys_noCls ks _ n x2 (by omega) nk.2 v hv
end
theorem IsN.eq {h : Heap} {k k2 : NestedKey} {a : Addr} (x : IsN h k a) (y : IsN h k2 a) : k = k2 := NestedIs.inj _ _ _ x.1 y.1
theorem IsN.keep {h h' : Heap} {k : NestedKey} {a b : Addr} {o : Obj} {es : Array (Int × Value)} {ep : Nat} {tb : SetTable} (x : IsN h k b) (ho : h.get? a = some o) (hd : o.data = .set es ep tb) (hs : Heap.SameBut a h h') : IsN h' k b :=
  ⟨NestedIs.at (fun c oc vs n hc hseq => by
    refine (hs.2 c fun e => ?_).trans hc
    subst e
    rw [ho] at hc
    cases hc
    rw [hd] at hseq
    cases hseq) k _ x.1, x.2⟩
/-- a search among such keys tells nothing -/
theorem seen_keys {A : Around} {E : Value → Shared → Prop} {k : NestedKey} {b : Addr} {Q : Bool → Shared → Prop} (hk : IsN s.heap k b) {ys : List Value} (hy : ∀ y ∈ ys, ∃ k2 c, y = Value.ref c ∧ IsN s.heap k2 c) (q : Q false s) : wpAny (model P w) A (searchCouldBeSeen (.ref b) ys) Q E s := by
  unfold searchCouldBeSeen
  refine wpAny_bind ?_
  refine wpAny_forIn_list _ (fun left r z => r.1 = none ∧ z = s ∧ ∀ y ∈ left, ∃ k2 c, y = Value.ref c ∧ IsN s.heap k2 c) _ (fun v left r z h => ?_) (fun r z h => ?_) _ _ ⟨rfl, rfl, hy⟩
  · obtain ⟨h1, h2, h3⟩ := h
    subst h2
    obtain ⟨k2, c, rfl, hc⟩ := h3 v List.mem_cons_self
    have done : ∀ y ∈ left, ∃ k2 c, y = Value.ref c ∧ IsN z.heap k2 c := fun u hu => h3 u (List.mem_cons_of_mem _ hu)
    dsimp only
    by_cases very : (b == c || (carriedByValue (.ref b) && carriedByValue (.ref c))) = true
    · exact wp_if_pos very (wpAny_pure ⟨rfl, rfl, done⟩)
    refine wp_if_neg very ?_
    have a1 := key_noCls (P := P) (w := w) (s := z) k _ 8 hk.1 hk.2.1 hk.2.2
    have a2 := key_noCls (P := P) (w := w) (s := z) k2 _ 8 hc.1 hc.2.1 hc.2.2
    refine wpAny_bind (quiet_key k _ 8 z hk.1 hk.2.1 _ _ _ ?_)
    simp only [Bool.not_true, Bool.false_eq_true, if_false]
    refine wpAny_bind (quiet_key k2 _ 8 z hc.1 hc.2.1 _ _ _ ?_)
    simp only [Bool.not_true, Bool.false_eq_true, if_false]
    refine wpAny_bind (a1.1 _ _ _ ?_)
    simp only [Bool.false_eq_true, if_false]
    refine wpAny_bind (a2.1 _ _ _ ?_)
    simp only [Bool.false_eq_true, if_false]
    exact wpAny_pure ⟨rfl, rfl, done⟩
  · obtain ⟨r1, r2⟩ := r
    obtain ⟨h1, h2, _⟩ := h
    simp only at h1
    subst h1 h2
    exact wpAny_pure q
end
end Ct
namespace Ct
open PySem PySem.Spec PyProof.Rows L2
/-- its rows: each with its hash -/
def rowsG (w : World) (L : List (Addr × NestedKey)) : List (Int × Value) := L.map fun p => (p.2.hash w, Value.ref p.1)
def hashG (w : World) (L : List (Addr × NestedKey)) : List Int := L.map fun p => p.2.hash w
structure SetG (w : World) (h : Heap) (a : Addr) (L : List (Addr × NestedKey)) (es : Array (Int × Value)) (ep : Nat) (tb : SetTable) : Prop where
  obj : ∃ o, h.get? a = some o ∧ o.ExactSet ∧ o.data = .set es ep tb
  rows : es.toList = rowsG w L
  tab : TabG tb (hashG w L)
  once : (L.map (·.2)).Nodup
  keys : ∀ p ∈ L, IsN h p.2 p.1
  plain : tb.plain = true
  led : w.params.followText "set-order" = true ∨ tb.led = true
  room : L.length * 5 < tb.mask * 3
  few : L.length < 9000
section
variable {P : Program} {w : World} {A : Around} {E : Value → Shared → Prop} {s : Shared} {a : Addr} {L : List (Addr × NestedKey)} {es : Array (Int × Value)} {ep : Nat} {tb : SetTable}
theorem rowsG_len : (rowsG w L).length = L.length := List.length_map _
theorem hashG_len : (hashG w L).length = L.length := List.length_map _
theorem SetG.size (R : SetG w s.heap a L es ep tb) : es.size = L.length := by
  rw [← Array.length_toList, R.rows, rowsG_len]
theorem SetG.fits (R : SetG w s.heap a L es ep tb) : tb.fits es.size = true := by
  have h1 := R.tab.many
  rw [hashG_len, Array.length_toList] at h1
  have h2 := R.size
  have h3 := R.room
  unfold SetTable.fits SetTable.fill
  rw [R.tab.clean, Bool.and_eq_true, beq_iff_eq, decide_eq_true_eq]
  refine ⟨by omega, ?_⟩
  show tb.place.size + 0 ≤ tb.mask
  omega
theorem SetG.row (R : SetG w s.heap a L es ep tb) {i : Nat} {p : Addr × NestedKey} (h : L[i]? = some p) : es[i]? = some (p.2.hash w, Value.ref p.1) := by
  rw [← Array.getElem?_toList, R.rows, rowsG, List.getElem?_map, h]
  rfl
theorem SetG.stays (R : SetG w s.heap a L es ep tb) : ¬ tb.gaveWay = true := by
  unfold SetTable.gaveWay
  rw [R.tab.msk.odd]
  decide
/-- the n-th stand of a search -/
abbrev standG (m : Nat) (g : Int) (n : Nat) : SetTable.Probe := nth m (runAt m (SetTable.bits g % (m + 1)) (SetTable.bits g)) n
theorem stand_dummy (m : Nat) (g : Int) (n : Nat) : (standG m g n).dummy = none := by
  have go : ∀ (n : Nat) (p : SetTable.Probe), p.dummy = none → (nth m p n).dummy = none := fun n => by
    induction n with
    | zero => exact fun _ h => h
    | succ n ih =>
      intro p h
      refine ih (adv m p) ?_
      unfold adv
      split <;> exact h
  exact go n _ rfl
theorem stand_go (m : Nat) (g : Int) (c q : Nat) : nth m (standG m g c) q = standG m g (c + q) := (nth_add m c _ q).symm
theorem search_G (ad : Bool) (R : SetG w s.heap a L es ep tb) {x : Addr} {k : NestedKey} (hx : IsN s.heap k x) (hu : A.units + 8 < cLine) {N : Nat} (hf : N < 10 * SetTable.turns tb.mask)
    (hN : way tb.mask (k.hash w) N ∉ tb.place.toList) (all : ∀ c, c < N → way tb.mask (k.hash w) c ∈ tb.place.toList) {Q : SetFound → Shared → Prop}
    (qin : k ∈ L.map (·.2) → ∀ r : Option Nat, (ad = false → r.isSome = true) → Q (.there r) s) (qout : k ∉ L.map (·.2) → Q (.free (way tb.mask (k.hash w) N) false) s) :
    ∀ (f c : Nat) (from_ : Option SetTable.Probe), from_.getD (tb.probeStart (k.hash w)) = standG tb.mask (k.hash w) c → c ≤ N → N - c < f →
      (∀ (i : Nat) (p : Addr × NestedKey), L[i]? = some p → p.2 = k → ∃ d, c ≤ d ∧ d < N ∧ tb.place.toList[i]? = some (way tb.mask (k.hash w) d)) →
      wpAny (model P w) A (setSearchFrom a (.ref x) (k.hash w) ad f from_) Q E s
  | 0, c, _, _, _, lf, _ => absurd lf (Nat.not_lt_zero _)
  | f + 1, c, from_, hs, hc, lf, later => by
    obtain ⟨o, ho, hex, hd⟩ := R.obj
    rw [setSearchFrom_succ]
    refine wpAny_bind (wpAny_setState_of ho hd R.fits ?_)
    dsimp only
    refine wp_if_neg R.stays ?_
    try refine wpAny_bind (wpAny_pure ?_)
    have jq : ∀ q, (nth tb.mask (standG tb.mask (k.hash w) c) q).j = way tb.mask (k.hash w) (c + q) := fun q => congrArg SetTable.Probe.j (stand_go tb.mask (k.hash w) c q)
    have hash : ∀ (i : Nat) (p : Addr × NestedKey), L[i]? = some p → (es[i]?.map (·.1)).getD 0 = p.2.hash w := fun i p hp => by rw [R.row hp]; rfl
    rcases go_spec tb R.tab.up R.tab.clean (fun i => (es[i]?.map (·.1)).getD 0) (k.hash w) (10 * SetTable.turns tb.mask) (N - c) _ (stand_dummy tb.mask (k.hash w) c) (by omega)
      (fun q hq => by rw [jq]; exact all (c + q) (by omega)) (by rw [jq, show c + (N - c) = N by omega]; exact hN) with ⟨q, i, hq, hi, hh, no, met⟩ | ⟨no, met⟩
    · rw [jq, stand_go] at met
      have met2 : tb.probe (fun i => (es[i]?.map (·.1)).getD 0) (k.hash w) (from_.getD (tb.probeStart (k.hash w))) = some (.candidate (way tb.mask (k.hash w) (c + q)) i (standG tb.mask (k.hash w) (c + (q + 1)))) := by
        rw [hs]
        exact met
      rw [met2]
      dsimp only
      rw [jq] at hi
      have il : i < L.length := by
        have h1 := (List.getElem?_eq_some_iff.mp hi).1
        rw [R.tab.many, hashG_len] at h1
        exact h1
      obtain ⟨p, hp⟩ : ∃ p, L[i]? = some p := ⟨_, List.getElem?_eq_getElem il⟩
      have hm : p ∈ L := List.mem_of_getElem? hp
      have hk := R.keys p hm
      have slot := slot_live R.tab.up hi
      have then_ : wpAny (model P w) A (searchRest a (.ref x) (k.hash w) ad f es tb (way tb.mask (k.hash w) (c + q)) i (standG tb.mask (k.hash w) (c + (q + 1)))) Q E s := by
        unfold searchRest
        rw [R.row hp]
        dsimp only
        refine wpAny_bind (wpAny_holding ((nestedKind P w).eqBool hu ⟨hk.1, hk.2.1⟩ ⟨hx.1, hx.2.1⟩ ?_))
        refine wpAny_bind (wpAny_setState_of ho hd R.fits ?_)
        dsimp only
        by_cases same : p.2 = k
        · have mem : k ∈ L.map (·.2) := List.mem_map.mpr ⟨p, hm, same⟩
          cases ad with
          | true =>
            refine wp_if_pos (by simp [same]) ?_
            exact wpAny_pure (qin mem none fun z => nomatch z)
          | false =>
            refine wp_if_neg (by simp) ?_
            try refine wpAny_bind (wpAny_pure ?_)
            rw [sameMem]
            dsimp only
            simp only [if_true, slot, R.row hp]
            refine wpAny_bind (wpAny_isSame_ref_self (wpAny_bind (wpAny_pure ?_)))
            simp only [if_true]
            refine wp_if_pos (by simp [same]) ?_
            exact wpAny_pure (qin mem (some i) fun _ => rfl)
        · refine wp_if_neg (by simp [same]) ?_
          try refine wpAny_bind (wpAny_pure ?_)
          rw [sameMem]
          dsimp only
          simp only [if_true, slot, R.row hp]
          refine wpAny_bind (wpAny_isSame_ref_self (wpAny_bind (wpAny_pure ?_)))
          simp only [if_true]
          refine wp_if_neg (by simp [same]) ?_
          refine search_G ad R hx hu hf hN all qin qout f (c + (q + 1)) _ rfl (by omega) (by omega) fun i2 p2 h2 e2 => ?_
          obtain ⟨d, d1, d2, d3⟩ := later i2 p2 h2 e2
          refine ⟨d, ?_, d2, d3⟩
          apply Classical.byContradiction
          intro z
          by_cases eq : d = c + q
          · rw [eq] at d3
            have s2 := slot_live R.tab.up d3
            rw [slot] at s2
            injection s2 with s2
            rw [← s2, hp] at h2
            cases h2
            exact same e2
          · exact no (d - c) i2 (by omega) (by rw [jq, show c + (d - c) = d by omega]; exact d3) ((hash i2 p2 h2).trans (by rw [e2]))
      by_cases led : tb.led = true
      · refine wp_if_neg (by simp [led]) ?_
        try refine wpAny_bind (wpAny_pure ?_)
        exact then_
      · refine wp_if_pos (by simp [led]) ?_
        refine wpAny_bind (seen_keys hx (fun y hy => ?_) ?_)
        · obtain ⟨e, he, rfl⟩ := List.mem_map.mp hy
          have he1 : e ∈ es ∧ e.1 = k.hash w := by simpa using he
          have he2 : e ∈ es.toList := by simpa using he1.1
          rw [R.rows] at he2
          obtain ⟨p2, hp2, rfl⟩ := List.mem_map.mp he2
          exact ⟨p2.2, p2.1, rfl, R.keys p2 hp2⟩
        · refine wp_if_neg (by decide) ?_
          try refine wpAny_bind (wpAny_pure ?_)
          exact then_
    · rw [jq, show c + (N - c) = N by omega] at met
      have met2 : tb.probe (fun i => (es[i]?.map (·.1)).getD 0) (k.hash w) (from_.getD (tb.probeStart (k.hash w))) = some (.empty (way tb.mask (k.hash w) N) none) := by
        rw [hs]
        exact met
      rw [met2]
      dsimp only
      refine wpAny_pure (qout fun hm => ?_)
      obtain ⟨p, hp, e⟩ := List.mem_map.mp hm
      obtain ⟨i, hi⟩ := List.getElem?_of_mem hp
      obtain ⟨d, d1, d2, d3⟩ := later i p hi e
      exact no (d - c) i (by omega) (by rw [jq, show c + (d - c) = d by omega]; exact d3) ((hash i p hi).trans (by rw [e]))
theorem search_all (ad : Bool) (R : SetG w s.heap a L es ep tb) {x : Addr} {k : NestedKey} (hx : IsN s.heap k x) (hu : A.units + 8 < cLine) {Q : SetFound → Shared → Prop}
    (qin : k ∈ L.map (·.2) → ∀ r : Option Nat, (ad = false → r.isSome = true) → Q (.there r) s)
    (qout : ∀ N, k ∉ L.map (·.2) → way tb.mask (k.hash w) N ∉ tb.place.toList → (∀ c, c < N → way tb.mask (k.hash w) c ∈ tb.place.toList) → Q (.free (way tb.mask (k.hash w) N) false) s) :
    wpAny (model P w) A (setSearch a (.ref x) (k.hash w) ad) Q E s := by
  have room := R.room
  obtain ⟨N, hf, hN, all⟩ := R.tab.free (by rw [hashG_len]; omega) (k.hash w)
  have big : N < 100000 := by
    have h1 := R.tab.soon (by rw [hashG_len]; omega) (k.hash w) all
    have h2 := R.few
    rw [hashG_len] at h1
    omega
  unfold setSearch
  refine search_G ad R hx hu hf hN all qin (fun z => qout N z hN all) 100000 0 none rfl (Nat.zero_le _) (by omega) fun i p hp e => ?_
  have hi : (hashG w L)[i]? = some (k.hash w) := by rw [hashG, List.getElem?_map, hp, ← e]; rfl
  have il : i < tb.place.toList.length := by rw [R.tab.many]; exact (List.getElem?_eq_some_iff.mp hi).1
  obtain ⟨c, hc, e2⟩ := R.tab.ahead hN hi (List.getElem?_eq_getElem il)
  exact ⟨c, Nat.zero_le _, hc, by rw [List.getElem?_eq_getElem il, e2]⟩
/-- found or not -/
theorem find_G (R : SetG w s.heap a L es ep tb) {x : Addr} {k : NestedKey} (hx : IsN s.heap k x) (hu : A.units + 8 < cLine) {Q : Option Nat → Shared → Prop} (q : ∀ r : Option Nat, r.isSome = decide (k ∈ L.map (·.2)) → Q r s) :
    wpAny (model P w) A (setFind a (.ref x) (k.hash w)) Q E s := by
  obtain ⟨o, ho, hex, hd⟩ := R.obj
  unfold setFind
  rw [show (100000 : Nat) = 99999 + 1 from rfl]
  unfold setFindIn
  refine wpAny_bind (wpAny_setState_of ho hd R.fits ?_)
  dsimp only
  refine wp_if_neg (by simp [byScan, Value.scannable]) ?_
  try refine wpAny_bind (wpAny_pure ?_)
  refine wpAny_bind (search_all false R hx hu (fun hm r hr => ?_) fun N hm _ _ => ?_)
  · dsimp only
    exact wpAny_pure (q r (by rw [hr rfl, decide_eq_true hm]))
  · dsimp only
    exact wpAny_pure (q none (by rw [decide_eq_false hm]; rfl))
end
end Ct
namespace Ct
open PySem PySem.Spec PyProof.Rows L2
theorem filterMap_is {α β : Type} {f : α → Option β} {g : α → β} : ∀ (l : List α), (∀ x ∈ l, f x = some (g x)) → l.filterMap f = l.map g
  | [], _ => rfl
  | x :: l, h => by rw [List.filterMap_cons_some (h x List.mem_cons_self), filterMap_is l fun y hy => h y (List.mem_cons_of_mem _ hy)]; rfl
theorem range_get {α : Type} (L : List α) : (List.range L.length).filterMap (fun i => L[i]?) = L := by
  cases L with
  | nil => rfl
  | cons x r =>
    rw [filterMap_is (g := fun i => (x :: r).getD i x) _ fun i hi => by
      have := List.mem_range.mp hi
      rw [List.getD_eq_getElem?_getD, List.getElem?_eq_getElem this]
      rfl]
    refine List.ext_getElem? fun i => ?_
    rw [List.getElem?_map]
    by_cases c : i < (x :: r).length
    · rw [List.getElem?_range c, List.getElem?_eq_getElem c]
      simp [List.getD_eq_getElem?_getD, List.getElem?_eq_getElem c]
    · rw [List.getElem?_eq_none (l := x :: r) (by omega), List.getElem?_eq_none (l := List.range (x :: r).length) (by rw [List.length_range]; omega)]
      rfl
section
variable {P : Program} {w : World} {A : Around} {E : Value → Shared → Prop} {s : Shared} {a : Addr} {L : List (Addr × NestedKey)} {es : Array (Int × Value)} {ep : Nat} {tb : SetTable}
theorem order_G (order : Array Nat) (hr : es.toList = rowsG w L) (hp : order.toList.Perm (List.range L.length)) :
    ∃ L2, (order.filterMap (es[·]?)).toList = rowsG w L2 ∧ L2.Perm L ∧ hashG w L2 = order.toList.map fun i => (es.map (·.1)).getD i 0 := by
  refine ⟨order.toList.filterMap fun i => L[i]?, ?_, ?_, ?_⟩
  · rw [Array.toList_filterMap, rowsG, List.map_filterMap]
    congr 1
    funext i
    rw [← Array.getElem?_toList, hr, rowsG, List.getElem?_map]
  · have := hp.filterMap fun i => L[i]?
    rw [range_get] at this
    exact this
  · rw [hashG, List.map_filterMap]
    refine filterMap_is _ fun i hi => ?_
    have il := List.mem_range.mp (hp.mem_iff.mp hi)
    have e : es[i]? = some ((L[i]).2.hash w, Value.ref (L[i]).1) := by
      rw [← Array.getElem?_toList, hr, rowsG, List.getElem?_map, List.getElem?_eq_getElem il]
      rfl
    rw [List.getElem?_eq_getElem il, Array.getD_eq_getD_getElem?, Array.getElem?_map, e]
    rfl
theorem relay_G {o : Obj} (ho : s.heap.get? a = some o) (hex : o.ExactSet) (hd : o.data = .set es ep tb) (hr : es.toList = rowsG w L) (tab : TabG tb (hashG w L)) (few : L.length < 9000) (fit : L.length ≤ tb.mask)
    (once : (L.map (·.2)).Nodup) (keys : ∀ p ∈ L, IsN s.heap p.2 p.1) (plain : tb.plain = true) (led : w.params.followText "set-order" = true ∨ tb.led = true) {wanted m : Nat}
    (hw : SetTable.sizeAbove wanted - 1 = m) (hm : MaskG m) (small : SetTable.sizeAbove wanted ≤ 32768) (room : L.length * 5 < m * 3) {Q : Unit → Shared → Prop}
    (q : ∀ h2 L2 es2 ep2 tb2, Heap.SameBut a s.heap h2 → SetG w h2 a L2 es2 ep2 tb2 → L2.Perm L → Q () { s with heap := h2 }) : wpAny (model P w) A (setRelay a wanted) Q E s := by
  have size : es.size = L.length := by rw [← Array.length_toList, hr, rowsG_len]
  have fits : tb.fits es.size = true := by
    have h1 := tab.many
    rw [hashG_len, Array.length_toList] at h1
    unfold SetTable.fits SetTable.fill
    rw [tab.clean, Bool.and_eq_true, beq_iff_eq, decide_eq_true_eq]
    refine ⟨by omega, ?_⟩
    show tb.place.size + 0 ≤ tb.mask
    omega
  obtain ⟨tb2, order, e, hp, T, em, el, epl⟩ := laid_anew tb (hs := es.map (·.1)) (wanted := wanted) hw hm (by rw [Array.size_map, size]; omega)
  rw [Array.size_map, size] at hp
  obtain ⟨L2, r1, r2, r3⟩ := order_G order hr hp
  rw [← r3] at T
  have size2 : (order.filterMap (es[·]?)).size = es.size := by rw [← Array.length_toList, r1, rowsG_len, r2.length_eq, size]
  rw [setRelay_eq]
  refine wpAny_bind (wpAny_setState_of ho hd fits ?_)
  dsimp only
  refine wp_if_neg (by rw [sizeLine_eq]; omega) ?_
  try refine wpAny_bind (wpAny_pure ?_)
  rw [e]
  dsimp only
  refine wpAny_bind ?_
  refine wp_if_neg (by rw [size2]; simp) ?_
  try refine wpAny_bind (wpAny_pure ?_)
  refine wpAny_pure ?_
  dsimp only
  refine wpAny_storeSet_of ho hd ?_ (by rw [size2, size, sizeLine_eq]; omega)
  have sb : Heap.SameBut a s.heap (s.heap.update a (Obj.putSet (order.filterMap (es[·]?)) tb2)) := Heap.SameBut.update ..
  exact q _ L2 _ (ep + 1) tb2 sb ⟨⟨_, store_at ho hd, ⟨hex.1, hex.2.1, hex.2.2⟩, rfl⟩, r1, T, (r2.map (·.2)).nodup_iff.mpr once, fun p hpm => (keys p (r2.mem_iff.mp hpm)).keep ho hd sb, by rw [epl]; exact plain, by rw [el]; exact led, by rw [r2.length_eq, em]; exact room, by rw [r2.length_eq]; exact few⟩ r2
theorem add_G (R : SetG w s.heap a L es ep tb) {x : Addr} {k : NestedKey} (hx : IsN s.heap k x) (hu : A.units + 8 < cLine) (few : L.length + 1 < 9000) {Q : Bool → Shared → Prop}
    (q : ∀ b h2 L2 es2 ep2 tb2, Heap.SameBut a s.heap h2 → SetG w h2 a L2 es2 ep2 tb2 → (k ∈ L.map (·.2) → L2 = L) → (k ∉ L.map (·.2) → L2.Perm ((x, k) :: L)) → Q b { s with heap := h2 }) :
    wpAny (model P w) A (setAddHashed a (.ref x) (k.hash w)) Q E s := by
  obtain ⟨o, ho, hex, hd⟩ := R.obj
  have size := R.size
  have room := R.room
  unfold setAddHashed
  refine wpAny_holding ?_
  rw [show (100000 : Nat) = 99999 + 1 from rfl, setAddHashedIn_succ]
  refine wpAny_bind (wpAny_setState_of ho hd R.fits ?_)
  dsimp only
  refine wp_if_neg (by simp [byScan, Value.scannable]) ?_
  try refine wpAny_bind (wpAny_pure ?_)
  refine wpAny_bind (search_all true R hx hu (fun hm r _ => ?_) fun N hm hN all => ?_)
  · dsimp only
    exact wpAny_pure (q false s.heap L es ep tb (Heap.SameBut.refl a s.heap) R (fun _ => rfl) fun z => absurd hm z)
  dsimp only
  refine wpAny_bind (wpAny_setState_of ho hd R.fits ?_)
  dsimp only
  obtain ⟨p1, T1, fill1⟩ := R.tab.put hN all
  have pl1 : (tb.put (way tb.mask (k.hash w) N)).1.plain = true := R.plain
  have ld1 : w.params.followText "set-order" = true ∨ (tb.put (way tb.mask (k.hash w) N)).1.led = true := R.led
  have mk1 : (tb.put (way tb.mask (k.hash w) N)).1.mask = tb.mask := rfl
  have at1 : (tb.put (way tb.mask (k.hash w) N)).2 = spot tb (way tb.mask (k.hash w) N) := rfl
  generalize tb.put (way tb.mask (k.hash w) N) = pt at *
  obtain ⟨tb1, at_⟩ := pt
  dsimp only at *
  rw [hashG_len] at p1
  subst at1
  generalize spot tb (way tb.mask (k.hash w) N) = p at *
  have bv := (key_noCls (P := P) (w := w) (s := s) k _ 8 hx.1 hx.2.1 hx.2.2).2
  first
    | (refine wpAny_bind ?_; refine wp_if_pos pl1 ?_; refine bv _ _ _ ?_)
    | refine wp_if_pos pl1 (wpAny_bind (bv _ _ _ ?_))
  simp only [if_true]
  have pm : (L.take p ++ (x, k) :: L.drop p).Perm ((x, k) :: L) := put_perm L p (x, k)
  have len1 : (L.take p ++ (x, k) :: L.drop p).length = L.length + 1 := pm.length_eq
  have rows1 : (SetTable.insertAt es p (k.hash w, Value.ref x)).toList = rowsG w (L.take p ++ (x, k) :: L.drop p) := by
    rw [SetTable.toList_insertAt, R.rows, rowsG, rowsG, List.map_append, List.map_cons, List.map_take, List.map_drop]
  have hash1 : (hashG w L).take p ++ k.hash w :: (hashG w L).drop p = hashG w (L.take p ++ (x, k) :: L.drop p) := by
    rw [hashG, hashG, List.map_append, List.map_cons, List.map_take, List.map_drop]
  rw [hash1] at T1
  have once1 : ((L.take p ++ (x, k) :: L.drop p).map (·.2)).Nodup := (pm.map (·.2)).nodup_iff.mpr (List.nodup_cons.mpr ⟨hm, R.once⟩)
  have size1 : (SetTable.insertAt es p (k.hash w, Value.ref x)).size = L.length + 1 := by rw [← Array.length_toList, rows1, rowsG_len, len1]
  generalize SetTable.insertAt es p (k.hash w, Value.ref x) = es1 at *
  generalize L.take p ++ (x, k) :: L.drop p = L1 at *
  refine wpAny_bind (wpAny_storeSet_of ho hd ?_ (by rw [size1, sizeLine_eq]; omega))
  have sb : Heap.SameBut a s.heap (s.heap.update a (Obj.putSet es1 tb1)) := Heap.SameBut.update ..
  have ho1 := store_at (es' := es1) (t' := tb1) ho hd
  generalize s.heap.update a (Obj.putSet es1 tb1) = h1 at *
  have keys1 : ∀ r ∈ L1, IsN h1 r.2 r.1 := fun r hr => by
    rcases List.mem_cons.mp (pm.mem_iff.mp hr) with rfl | hr
    · exact hx.keep ho hd sb
    · exact (R.keys r hr).keep ho hd sb
  rw [hashG_len] at fill1
  by_cases full : tb1.tooFull = true
  · have much : (L.length + 1) * 5 ≥ tb.mask * 3 := by
      have h := full
      unfold SetTable.tooFull at h
      rw [decide_eq_true_eq, fill1, mk1] at h
      exact h
    obtain ⟨m, g1, g2, g3, g4⟩ := grown_to R.tab.msk room much few
    first
      | (refine wpAny_bind ?_; refine wp_if_pos (by simp [full]) ?_)
      | (refine wp_if_pos (by simp [full]) ?_; refine wpAny_bind ?_)
    rw [size]
    refine relay_G (s := { s with heap := h1 }) ho1 ⟨hex.1, hex.2.1, hex.2.2⟩ rfl rows1 T1 (by rw [len1]; exact few) (by rw [len1, mk1]; omega) once1 keys1 pl1 ld1 g1 g2 g3 (by rw [len1]; exact g4) fun h2 L2 es2 ep2 tb2 sb2 R2 pm2 => ?_
    exact wpAny_pure (q true h2 L2 es2 ep2 tb2 (sb.trans sb2) R2 (fun z => absurd z hm) fun _ => pm2.trans pm)
  · first
      | refine wp_if_neg (by simp [full]) ?_
      | (refine wpAny_bind ?_; refine wp_if_neg (by simp [full]) ?_; refine wpAny_pure ?_)
    have less : (L.length + 1) * 5 < tb.mask * 3 := by
      have h := full
      unfold SetTable.tooFull at h
      rw [decide_eq_true_eq, fill1, mk1] at h
      omega
    exact wpAny_pure (q true h1 L1 es1 (ep + 1) tb1 sb ⟨⟨_, ho1, ⟨hex.1, hex.2.1, hex.2.2⟩, rfl⟩, rows1, T1, once1, keys1, pl1, ld1, by rw [len1, mk1]; exact less, by rw [len1]; exact few⟩ (fun z => absurd z hm) fun _ => pm)
end
end Ct
namespace Ct
open PySem PySem.Spec PyProof.Rows L2
section
variable {P : Program} {w : World} {A : Around} {E : Value → Shared → Prop} {s : Shared} {a : Addr} {L : List (Addr × NestedKey)} {es : Array (Int × Value)} {ep : Nat} {tb : SetTable}
theorem SetG.ty (R : SetG w s.heap a L es ep tb) : s.TypeIs (.ref a) "set" := by
  obtain ⟨o, ho, hex, _⟩ := R.obj
  exact ⟨o, ho, hex.1⟩
theorem contains_G (R : SetG w s.heap a L es ep tb) {x : Addr} {k : NestedKey} (hx : IsN s.heap k x) (hu : A.in1.units + 8 < cLine) {Q : Bool → Shared → Prop} (q : ∀ n, Q (decide (k ∈ L.map (·.2))) { s with toks := n }) :
    wpAny (model P w) A (contains (.ref a) (.ref x)) Q E s := by
  unfold contains
  try with_reducible refine wpAny_holding ?_
  refine wpAny_bind (wpAny_specialOf R.ty F.slot_set_contains.lookup ?_)
  show wpAny _ _ (if (some (Value.builtin "set.__contains__") == some Value.none) = true then _ else _) _ E s
  rw [if_neg (show ¬ ((some (Value.builtin "set.__contains__") == some Value.none) = true) by rw [beq_builtin_none]; exact fun z => nomatch z)]
  refine wpAny_bind (wpAny_callSpecialUnlessNone?_slot (name := Str.ofString "__contains__") R.ty F.slot_set_contains (wpAny_call_entry F.slot_set_contains R.ty entry_set_contains ?_ (F.args_set_contains_2 _ _)))
  unfold Builtin.«frozenset.__contains__»
  unfold Builtin.Frozenset.oneOther
  simp only [bind_assoc, List.isEmpty_nil]
  unfold Builtin.Frozenset.addrOf
  unfold Builtin.Frozenset.withSetAsKey
  unfold setContains
  refine wpAny_bind (wpAny_pure ?_)
  try dsimp only
  refine wpAny_bind (wpAny_pure ?_)
  try dsimp only
  refine wpAny_bind (wpAny_tryCatch ?_)
  refine wpAny_holding ?_
  refine wpAny_bind ((nestedKind P w).pyHash hu ⟨hx.1, hx.2.1⟩ ?_)
  refine wpAny_bind (find_G (s := { s with toks := s.toks + k.draws }) R hx hu fun r hr => wpAny_pure ?_)
  show wpAny _ _ (ret (Value.bool r.isSome)) _ _ _
  rw [hr]
  exact wpAny_pure ⟨_, rfl, wpAny_truthy_bool (q _)⟩
theorem addCall_G (R : SetG w s.heap a L es ep tb) {x : Addr} {k : NestedKey} (hx : IsN s.heap k x) (hu : A.in1.units + 8 < cLine) (few : L.length + 1 < 9000) {Q : Value → Shared → Prop}
    (q : ∀ h2 L2 es2 ep2 tb2 n, Heap.SameBut a s.heap h2 → SetG w h2 a L2 es2 ep2 tb2 → (k ∈ L.map (·.2) → L2 = L) → (k ∉ L.map (·.2) → L2.Perm ((x, k) :: L)) → Q .none { s with heap := h2, toks := n }) :
    wpAny (model P w) A (call (.builtin "set.add") [.ref a, .ref x]) Q E s := by
  refine wpAny_call_entry F.slot_set_add R.ty F.entry_set_add ?_ (F.args_set_add_2 _ _)
  unfold Builtin.«set.add»
  unfold Builtin.Frozenset.oneOther
  simp only [bind_assoc, List.isEmpty_nil]
  unfold Builtin.Frozenset.addrOf
  unfold setAdd
  refine wpAny_bind (wpAny_pure ?_)
  try dsimp only
  refine wpAny_bind (wpAny_pure ?_)
  try dsimp only
  refine wpAny_bind ?_
  refine wpAny_holding ?_
  refine wpAny_bind ((nestedKind P w).pyHash hu ⟨hx.1, hx.2.1⟩ ?_)
  refine add_G (s := { s with toks := s.toks + k.draws }) R hx hu few fun b h2 L2 es2 ep2 tb2 sb R2 c1 c2 => ?_
  show wpAny _ _ (ret Value.none) _ _ _
  exact wpAny_pure ⟨_, rfl, q h2 L2 es2 ep2 tb2 _ sb R2 c1 c2⟩
theorem freshG {h : Heap} (ho : h.get? a = some { cls := .type "set", dict := none, data := .set #[] 0 (.fresh 0 0 (!w.params.followText "set-order")) }) : SetG w h a [] #[] 0 (.fresh 0 0 (!w.params.followText "set-order")) where
  obj := ⟨_, ho, ⟨rfl, rfl, rfl⟩, rfl⟩
  rows := rfl
  tab := ⟨List.Pairwise.nil, rfl, rfl, .inl rfl, (fun x hx => nomatch hx), fun i g j h _ => nomatch h⟩
  once := List.Pairwise.nil
  keys := fun p hp => nomatch hp
  plain := rfl
  led := by
    cases e : w.params.followText "set-order" with
    | true => exact .inl rfl
    | false => exact .inr rfl
  room := (show 0 * 5 < 7 * 3 by decide)
  few := by decide
end
/-! in the hand layer -/
/-- what is kept of it in the heap itself -/
structure SetG0 (w : World) (h : Heap) (a : Addr) (L : List (Addr × NestedKey)) (es : Array (Int × Value)) (ep : Nat) (tb : SetTable) : Prop where
  obj : ∃ o, h.get? a = some o ∧ o.ExactSet ∧ o.data = .set es ep tb
  rows : es.toList = rowsG w L
  tab : TabG tb (hashG w L)
  plain : tb.plain = true
  led : w.params.followText "set-order" = true ∨ tb.led = true
  room : L.length * 5 < tb.mask * 3
def SnO (w : World) (a : Addr) (L : List (Addr × NestedKey)) : HO := .ext fun h => ∃ es ep tb, SetG0 w h a L es ep tb
/-- a set of such keys: these, each once -/
def SnAt (w : World) (K : PySem.W.Frag) (H : Hp) (a : Addr) (ks : List NestedKey) : Prop := ks.length < 9000 ∧ ks.Nodup ∧ ∃ L, H a = some (SnO w a L) ∧ (L.map (·.2)).Perm ks ∧ ∀ p ∈ L, p.2.depth ≤ 8 ∧ numK p.2 = true ∧ Dp K H (.ref p.1) (nkD p.2)
theorem snO_ok {P : Program} {w : World} {H : Hp} {h : Heap} {a : Addr} {L : List (Addr × NestedKey)} {es : Array (Int × Value)} {ep : Nat} {tb : SetTable} (R : SetG w h a L es ep tb) : ObjOk P w H h a (SnO w a L) := by
  obtain ⟨o, ho, r⟩ := R.obj
  exact ⟨⟨es, ep, tb, ⟨o, ho, r⟩, R.rows, R.tab, R.plain, R.led, R.room⟩, ⟨o, ho⟩, fun _ _ ⟨es, ep, tb, ⟨o, g1, g2⟩, g3, g4, g5, g6, g7⟩ keep => ⟨es, ep, tb, ⟨o, keep o g1, g2⟩, g3, g4, g5, g6, g7⟩⟩
section
variable {X : Cx} {pins : List (Addr × Obj)} {σ : L2.St} {H : Hp} {s : Shared} {a : Addr} {ks : List NestedKey}
theorem SnAt.full (h : SnAt X.w X.K H a ks) (J : Inv X pins σ H s) : ∃ L es ep tb, SetG X.w s.heap a L es ep tb ∧ (L.map (·.2)).Perm ks ∧ H a = some (SnO X.w a L) ∧ ∀ p ∈ L, p.2.depth ≤ 8 ∧ numK p.2 = true ∧ Dp X.K H (.ref p.1) (nkD p.2) := by
  obtain ⟨few, once, L, hL, pm, all⟩ := h
  obtain ⟨⟨es, ep, tb, g⟩, _, _⟩ := (show ObjOk X.prog X.w H s.heap a (SnO X.w a L) from J.hok a _ hL)
  exact ⟨L, es, ep, tb, ⟨g.obj, g.rows, g.tab, pm.nodup_iff.mpr once, fun p hp => ⟨nested_is J _ (all p hp).2.2 rfl, (all p hp).1, (all p hp).2.1⟩, g.plain, g.led, g.room, by have := pm.length_eq; rw [List.length_map] at this; omega⟩, pm, hL, all⟩
theorem SnAt.same {w : World} {K : PySem.W.Frag} {H H' : Hp} (h : SnAt w K H a ks) (e : Same H H') : SnAt w K H' a ks := by
  obtain ⟨few, once, L, hL, pm, all⟩ := h
  exact ⟨few, once, L, e _ _ hL, pm, fun p hp => ⟨(all p hp).1, (all p hp).2.1, dp_same e (all p hp).2.2⟩⟩
theorem SnAt.ext {w : World} {K : PySem.W.Frag} {H : Hp} (h : SnAt w K H a ks) : ∃ L, H a = some (SnO w a L) := by
  obtain ⟨_, _, L, hL, _⟩ := h
  exact ⟨L, hL⟩
end
mutual
/-- keys stand aside when the set is changed -/
theorem dp_asideS {K : PySem.W.Frag} {H : Hp} {a : Addr} {w : World} {L : List (Addr × NestedKey)} {u : HO} (ha : H a = some (SnO w a L)) : ∀ (k : NestedKey) {v : V}, Dp K H v (nkD k) → Dp K (upd H a u) v (nkD k)
  | .none, _, h => by rw [nkD] at h ⊢; cases h; exact .non
  | .num _, _, h => by rw [nkD] at h ⊢; cases h; exact .int _
  | .text _, _, h => by rw [nkD] at h ⊢; cases h; exact .str _
  | .tup ks, _, h => by
    rw [nkD] at h ⊢
    obtain ⟨c, vs, rfl, hs, ht⟩ := tup_inv h
    refine .tup ?_ (dpAll_asideS ha ks ht)
    have ne : ∀ o, H c = some o → (∀ L, o ≠ SnO w a L) → c ≠ a := fun o hc hn z => by rw [z, ha] at hc; exact hn L (Option.some.inj hc).symm
    rcases hs with (z | ⟨y, z⟩) | z
    · exact .inl (.inl (by rw [upd_ne (ne _ z fun L e => by cases e)]; exact z))
    · exact .inl (.inr ⟨y, by rw [upd_ne (ne _ z fun L e => by cases e)]; exact z⟩)
    · exact .inr z
theorem dpAll_asideS {K : PySem.W.Frag} {H : Hp} {a : Addr} {w : World} {L : List (Addr × NestedKey)} {u : HO} (ha : H a = some (SnO w a L)) : ∀ (ks : List NestedKey) {vs : List V}, DpAll K H vs (nkAll ks) → DpAll K (upd H a u) vs (nkAll ks)
  | [], _, h => by rw [nkAll] at h ⊢; cases h; exact .nil
  | k :: ks, _, h => by
    rw [nkAll] at h ⊢
    cases h with
    | cons h1 h2 => exact .cons (dp_asideS ha k h1) (dpAll_asideS ha ks h2)
end
/-- the key, put in where it is new -/
def putN (ks : List NestedKey) (k : NestedKey) : List NestedKey := if k ∈ ks then ks else ks ++ [k]
def rSn0 (w : World) (K : PySem.W.Frag) : List V → Hp → VK → Prop := fun xs H Q => xs = [] ∧ ∀ p, H p = none → ∀ o, SnAt w K (upd H p o) p [] → Q (.ref p) (upd H p o)
def rSnAdd (w : World) (K : PySem.W.Frag) : V → List V → Hp → VK → Prop := fun x xs H Q => ∃ (a b : Addr) (ks : List NestedKey) (k : NestedKey), x = V.ref a ∧ xs = [.ref b] ∧ SnAt w K H a ks ∧ ks.length + 1 < 9000 ∧ k.depth ≤ 8 ∧ numK k = true ∧ Dp K H (.ref b) (nkD k) ∧
  ∀ o, SnAt w K (upd H a o) a (putN ks k) → Q .non (upd H a o)
def rSnIn (w : World) (K : PySem.W.Frag) (neg : Bool) : V → V → Hp → VK → Prop := fun y x H Q => ∃ (a b : Addr) (ks : List NestedKey) (k : NestedKey), x = V.ref a ∧ y = .ref b ∧ SnAt w K H a ks ∧ k.depth ≤ 8 ∧ numK k = true ∧ Dp K H (.ref b) (nkD k) ∧ Q (.bl (if neg then !decide (k ∈ ks) else decide (k ∈ ks))) H
def rSnLen (w : World) (K : PySem.W.Frag) : List V → Hp → VK → Prop := fun xs H Q => ∃ (a : Addr) (ks : List NestedKey), xs = [.ref a] ∧ SnAt w K H a ks ∧ Q (.int ks.length) H
section
variable {X : Cx}
theorem cr_sn0 : CallR X (.type "set") (rSn0 X.w X.K) := by
  intro pins s σ H xs us Q I r h
  obtain ⟨rfl, q⟩ := h
  cases r
  refine setR_new fun _ => ?_
  have new : SetG X.w (s.heap.push { cls := .type "set", dict := none, data := .set #[] 0 (.fresh 0 0 (!X.w.params.followText "set-order")) }) s.heap.objs.size [] #[] 0 (.fresh 0 0 (!X.w.params.followText "set-order")) := freshG (Heap.get?_push_size _ rfl)
  have hf := I.hok.fresh (Nat.le_refl s.heap.objs.size)
  exact ⟨.ref _, upd H s.heap.objs.size (SnO X.w s.heap.objs.size []), I.laid (t' := s.toks) (fun b u e => Heap.get?_push_of_some _ e) (Nat.le_refl _) (snO_ok new), rfl, q _ hf _ ⟨by decide, List.Pairwise.nil, [], upd_same, .nil, fun p hp => nomatch hp⟩⟩
theorem room_sn (room : X.A.units + 64 < cLine) : X.A.in1.units + 8 < cLine := by
  have : X.A.in1.units = X.A.units + 1 := rfl
  omega
theorem or_snIn (room : X.A.units + 64 < cLine) : OpR X (compareOp .In) (rSnIn X.w X.K false) := by
  intro pins s σ H y x v u Q I ry rx h
  obtain ⟨a, b, ks, k, rfl, rfl, hS, dk, nk, db, q⟩ := h
  cases rx
  cases ry
  obtain ⟨L, es, ep, tb, R, pm, _⟩ := hS.full I
  show wpAny _ _ (do return Value.bool (← contains (.ref a) (.ref b)) : Sem Value) _ _ s
  refine wpAny_bind (contains_G R ⟨nested_is I k db rfl, dk, nk⟩ (room_sn room) fun n => wpAny_pure ⟨.bl _, H, I.tok _, rfl, ?_⟩)
  rw [show decide (k ∈ L.map (·.2)) = decide (k ∈ ks) from decide_eq_decide.mpr pm.mem_iff]
  exact q
theorem or_snNot (room : X.A.units + 64 < cLine) : OpR X (compareOp .NotIn) (rSnIn X.w X.K true) := by
  intro pins s σ H y x v u Q I ry rx h
  obtain ⟨a, b, ks, k, rfl, rfl, hS, dk, nk, db, q⟩ := h
  cases rx
  cases ry
  obtain ⟨L, es, ep, tb, R, pm, _⟩ := hS.full I
  show wpAny _ _ (do return Value.bool (!(← contains (.ref a) (.ref b))) : Sem Value) _ _ s
  refine wpAny_bind (contains_G R ⟨nested_is I k db rfl, dk, nk⟩ (room_sn room) fun n => wpAny_pure ⟨.bl _, H, I.tok _, rfl, ?_⟩)
  rw [show decide (k ∈ L.map (·.2)) = decide (k ∈ ks) from decide_eq_decide.mpr pm.mem_iff]
  exact q
theorem mt_snAdd (room : X.A.units + 64 < cLine) : MtR X "set.add" (rSnAdd X.w X.K) := by
  intro pins s σ H x xs v us Q I rx rxs h
  obtain ⟨a, b, ks, k, rfl, rfl, hS, few, dk, nk, db, q⟩ := h
  cases rx
  cases rxs with
  | cons ry rt =>
    cases rt
    cases ry
    obtain ⟨L, es, ep, tb, R, pm, hL, all⟩ := hS.full I
    have len := pm.length_eq
    rw [List.length_map] at len
    refine addCall_G R ⟨nested_is I k db rfl, dk, nk⟩ (room_sn room) (by omega) fun h2 L2 es2 ep2 tb2 n sb R2 c1 c2 => ?_
    have he : ∃ u, h2.get? a = some u := by
      obtain ⟨o, ho, _⟩ := R2.obj
      exact ⟨o, ho⟩
    refine ⟨.non, upd H a (SnO X.w a L2), I.write (e := a) (t' := n) (by rw [hL]; trivial) (.inl rfl) (fun b u hb hu => (sb.2 b hb).trans hu) he (snO_ok R2), rfl, q _ ?_⟩
    have aside : ∀ p ∈ L, p.2.depth ≤ 8 ∧ numK p.2 = true ∧ Dp X.K (upd H a (SnO X.w a L2)) (.ref p.1) (nkD p.2) := fun p hp => ⟨(all p hp).1, (all p hp).2.1, dp_asideS hL _ (all p hp).2.2⟩
    unfold putN
    by_cases c : k ∈ ks
    · rw [if_pos c]
      have e := c1 (pm.mem_iff.mpr c)
      subst e
      exact ⟨hS.1, hS.2.1, L2, upd_same, pm, aside⟩
    · rw [if_neg c]
      have pm2 := c2 (fun z => c (pm.mem_iff.mp z))
      refine ⟨by rw [List.length_append]; exact few, List.nodup_append.mpr ⟨hS.2.1, List.pairwise_singleton _ _, fun x hx y hy z => c (by rw [List.mem_singleton.mp hy] at z; exact z ▸ hx)⟩, L2, upd_same, ((pm2.map (fun p : Addr × NestedKey => p.2)).trans (show ((b, k) :: L).map (fun p : Addr × NestedKey => p.2) |>.Perm (k :: ks) from pm.cons k)).trans (List.perm_append_singleton k ks).symm, fun p hp => ?_⟩
      rcases List.mem_cons.mp (pm2.mem_iff.mp hp) with rfl | hp
      · exact ⟨dk, nk, dp_asideS hL _ db⟩
      · exact aside p hp
end
end Ct
namespace Ct
open PySem PySem.Spec PyProof.Rows L2
section
variable {X : Cx} {o e : Expr} {es : List Expr} {to : TE} {t : TA} {apos cpos : Pos}
theorem cr_snLen : CallR X (.builtin "len") (rSnLen X.w X.K) := by
  intro pins s σ H xs us Q I r h
  obtain ⟨a, ks, rfl, hS, q⟩ := h
  obtain ⟨L, es, ep, tb, R, pm, _⟩ := hS.full I
  obtain ⟨ob, ho, hex, hd⟩ := R.obj
  have n : es.size = ks.length := by rw [R.size, ← pm.length_eq, List.length_map]
  rw [Vals.ref1 r]
  have few := hS.1
  exact call_len_set ho hex hd R.fits (by rw [n]; omega) ⟨.int ks.length, H, I.tok _, ⟨_, by rw [n]⟩, q⟩
def tSnAdd (w : World) (K : PySem.W.Frag) (to : TE) (t : TA) : TE := fun σ H Q => to σ H fun x H1 => (∃ a ks, x = V.ref a ∧ SnAt w K H1 a ks) ∧ t σ H1 fun xs H2 => rSnAdd w K x xs H2 Q
theorem pe_snAdd (room : X.A.units + 64 < cLine) (ho : PE X o to) (ha : PA X (e :: es) t) (base : attributeBase o "add" X.env (eval o X.env) = eval o X.env := by rfl)
    (few : ((backTo cpos (starEach (e :: es) X.env)).all (fun x => !x.1) && (backToKw cpos (keywordEach [] X.env)).all (fun x => x.1.isSome) && decide ((e :: es).length + ([] : List Keyword).length + (if ([] : List Keyword).isEmpty then 0 else 1) < 30)) = true := by rfl)
    (line : (apos.endLine == cpos.line) = true := by rfl) (one : starEach (e :: es) X.env = (false, eval e X.env) :: starEach es X.env := by rfl) (plain : (backTo cpos (starEach es X.env)).any (·.1) = false := by rfl) :
    PE X (.Call (.Attribute o "add" apos) (e :: es) [] cpos) (tSnAdd X.w X.K to t) := by
  refine ⟨fun pins s σ H Q I h => wpAny_Call_method_late base few line rfl (thn (ho.run pins s σ H _ I h) fun v s1 ⟨x, H1, I1, r1, ty, q1⟩ => ?_)⟩
  obtain ⟨a, ks, rfl, hS⟩ := ty
  obtain ⟨L, es0, ep, tb, R, _⟩ := hS.full I1
  obtain ⟨ob, go, hex, _⟩ := R.obj
  cases r1
  refine ⟨"set", "set.add", F.plainAttrs_set, F.slot_set_add, F.type_set_add, R.ty, (fun b z => by injection z with z; subst z; exact ⟨ob, go, hex.2.1⟩), ?_⟩
  have arg := ha.run cpos pins s1 σ H1 _ I1 q1
  rw [one] at arg ⊢
  refine Calls.callWith_builtin (show (false || (backTo cpos (starEach es X.env)).any (·.1)) = false by rw [plain]; rfl) (Calls.evalArgs_plain ?_)
  exact thn arg fun us s2 ⟨vs, H2, I2, r2, q2⟩ => mt_snAdd room pins s2 σ H2 (.ref a) vs (.ref a) us Q I2 rfl r2 q2
end
theorem w_snadd {w : World} {K : PySem.W.Frag} {to : TE} {t : TA} {σ : L2.St} {H : Hp} {Q : VK} (h : to σ H fun x H1 => (∃ a ks, x = V.ref a ∧ SnAt w K H1 a ks) ∧ t σ H1 fun xs H2 => rSnAdd w K x xs H2 Q) : tSnAdd w K to t σ H Q := h
end Ct

/-! dict comprehensions whose keys are tuples in tuples -/
namespace Ct
open PySem PySem.Spec PyProof.Rows L2
section
variable {X : Cx}
/-- a comprehension's store of a new key -/
theorem dN_store {pins : List (Addr × Obj)} {σ : L2.St} {H : Hp} {s : Shared} {E : Value → Shared → Prop} {D b : Addr} {kvs : List (NestedKey × V)} {k : NestedKey} {v : V} {r : Value} {Q : Unit → Shared → Prop} (room : X.A.units + 8 < cLine) (J : Inv X pins σ H s) (hD : NdAt X.w X.K H D kvs) (dk : k.depth ≤ 8) (db : Dp X.K H (.ref b) (nkD k)) (fresh : valV kvs k = none) (few : kvs.length < sizeLine)
    (rv : RelV v r) (q : ∀ o s', NdAt X.w X.K (upd H D o) D (kvs ++ [(k, v)]) → Inv X pins σ (upd H D o) s' → Q () s') : wpAny (model X.prog X.w) X.A (dictSet D (.ref b) r) Q E s := by
  obtain ⟨sys, small, nd, xs, hx, hp⟩ := hD
  have xl : xs.length ≤ sizeLine := by rw [← Paired.length hp]; exact small
  have none_ : (atKey xs k).isSome = false := by
    have e := (nd_val (X := X) (k := k) hp).isSome_eq
    rw [Option.isSome_map, fresh] at e
    exact e.symm
  have st : storedH xs k b r = xs ++ [(k, b, r)] := by
    unfold storedH
    rw [none_]
    rfl
  refine wpAny_dictSet_heap (hsz := xl) (knd := nestedKind X.prog X.w) room ⟨nested_is J k db rfl, dk⟩ (nd_heap J hx hp nd) ?_
  intro h' dd' same
  rw [st] at dd'
  have at_ : ∃ q, h'.get? D = some q := let ⟨q, _, _, hq, _⟩ := dd'; ⟨q, hq⟩
  have nin : k ∉ kvs.map (·.1) := valV_not fresh
  refine q _ _ ⟨sys, by rw [List.length_append]; show kvs.length + 1 ≤ sizeLine; omega, ?_, _, upd_same, ?_⟩ (d_write J (by rw [hx]; exact True.intro) same at_ (ndO_ok dd'))
  · rw [List.map_append]
    exact List.nodup_append.mpr ⟨nd, List.nodup_cons.mpr ⟨List.not_mem_nil, List.nodup_nil⟩, fun p hp q hq z => nin (by rw [List.map_singleton, List.mem_singleton] at hq; rw [← show q = k from hq, ← z]; exact hp)⟩
  · exact Paired.snoc (ndP_same (fun _ k d => dp_aside hx k d) hp) ⟨rfl, dk, dp_aside hx k db, rv⟩
/-- {key: value for target in iter if ..}, each key a new one; D the new dict -/
def tDcN (w : World) (K : PySem.W.Frag) (wi : TI) (g : TG) (tt : TT) (tk tv : TE) (vs : List Nat) : TE := fun σ H Q => wi σ H fun J H1 => ∀ D, H1 D = none → NdAt w K (upd H1 D (NdO w D [])) D [] → ∃ W : Nat → Nat → Hp → Prop, (∃ m, W 0 m (upd H1 D (NdO w D []))) ∧ ∀ i m Hi, W i m Hi →
  (J.stop i Hi ∧ Q (.ref D) Hi) ∨ (J.go i Hi ∧ ∃ Nx : Hp → Prop, (∀ H', Nx H' → ∃ m', m' < m ∧ W (i + 1) m' H') ∧ ∀ x H', J.yld i Hi x H' → g x (wipe σ vs) H' fun σ2 H2 => wipe σ2 vs = wipe σ vs ∧ tt σ2 H2 fun yes H3 =>
    if yes = true then tk σ2 H3 fun y H4 => tv σ2 H4 fun z H5 => ∃ kvs k b, y = .ref b ∧ NdAt w K H5 D kvs ∧ k.depth ≤ 8 ∧ Dp K H5 (.ref b) (nkD k) ∧ valV kvs k = none ∧ kvs.length < sizeLine ∧ ∀ o, NdAt w K (upd H5 D o) D (kvs ++ [(k, z)]) → Nx (upd H5 D o) else Nx H3)
theorem dcN_core {pins : List (Addr × Obj)} {s : Shared} {σ : L2.St} {H : Hp} {Q : VK} {use : Option (Value → Sem Unit)} {Qf : Value → Shared → Prop} {kx vx tg iter : Expr} {ifs : List Expr} {scope : Scope} {own : List (Str × Nat)} {pos pos' : Pos} {wi : TI} {g : TG} {tt : TT} {tk tv : TE} (calm : X.calm = true) (room : X.A.units + 64 < cLine) (nd : X.N.Nodup) (src : PI X tg iter wi) (blk : BlkOk X.N X.env.scope scope own)
    (pG : ∀ (z : Shared) (G : Hp) (C : Addr) (cl : List (Str × Addr)) (fp : List Addr), PG (X.blk z G scope (compEnvC scope cl C X.env) fp) tg g) (pT : ∀ (z : Shared) (G : Hp) (C : Addr) (cl : List (Str × Addr)) (fp : List Addr), PTs (X.blk z G scope (compEnvC scope cl C X.env) fp) ifs tt)
    (pK : ∀ (z : Shared) (G : Hp) (C : Addr) (cl : List (Str × Addr)) (fp : List Addr), PE (X.blk z G scope (compEnvC scope cl C X.env) fp) kx tk)
    (pV : ∀ (z : Shared) (G : Hp) (C : Addr) (cl : List (Str × Addr)) (fp : List Addr), PE (X.blk z G scope (compEnvC scope cl C X.env) fp) vx tv) (plain : ∀ x, foldedSetIterable iter X.env x = pure x)
    (inv : Inv X pins σ H s) (wish : tDcN X.w X.K wi g tt tk tv (own.map (·.2)) σ H Q)
    (post : ∀ D C z m G, Inv X pins σ G z → Q (.ref D) G → z.heap.Ns C m → FpOk X pins G C → compPost (model X.prog X.w) X.A X.xe use Qf (.ref D) C (.ok .next) z) :
    wpAny (model X.prog X.w) X.A (comprehension (.DictComp kx vx [⟨tg, iter, ifs, 0⟩] scope pos) scope X.env pos' newDict false (eval iter X.env) use) Qf X.xe s := by
  have cells : ∀ y ∈ scope.names, y.2 = .free → ∃ c, X.env.cells.lookup y.1 = some c := fun y hy e => (blk.free y hy e).elim (fun k => inv.ok.has _ (.inl k)) fun k => inv.ok.has _ (.inr k)
  refine wpAny_comprehension_free (use := use) rfl plain (closure_ok cells) blk.kind (fun y hy e => by rw [blk.uniq y hy, e]) ?_
  refine thn (src.run pins s σ H _ inv wish) fun _ sA hA => thn hA fun _ sB hB => ?_
  obtain ⟨it, fp, at_, walk, HB, rfl, invB, T, stB, fpB, told⟩ := hB
  refine wpAny_newObj_type (newEnv_comp ?_)
  have free : HB sB.heap.objs.size = none := invB.hok.fresh (Nat.le_refl _)
  obtain ⟨W, ⟨m0, w0⟩, turn⟩ := told sB.heap.objs.size free ⟨beq_eq_false_iff_ne.mpr (Ne.symm (Nat.ne_of_lt invB.big)), Nat.zero_le _, List.nodup_nil, [], upd_same, .nil⟩
  have below : ∀ b ∈ fp, b < sB.heap.objs.size := fun b hb => let ⟨_, e, _⟩ := T.obj _ _ stB b hb; Heap.lt_size e
  generalize hD : sB.heap.objs.size = D at *
  generalize hC : ({ sB with heap := sB.heap.push { cls := .type "dict", data := .dict #[] } } : Shared) = sC
  have heapC : sC.heap = sB.heap.push { cls := .type "dict", data := .dict #[] } := by rw [← hC]
  have invC : Inv X pins σ (upd HB D (NdO X.w D [])) sC := by
    subst hC
    refine invB.laid (t' := sB.toks) (fun b o e => Heap.get?_push_of_some _ e) (Nat.le_of_eq hD) ?_
    subst hD
    exact ndO_ok (Heap.DictOfH.new (knd := nestedKind X.prog X.w) sB.heap)
  have oldC : ∀ b o, sB.heap.get? b = some o → sC.heap.get? b = some o := fun b o e => by rw [heapC]; exact Heap.get?_push_of_some _ e
  have fpC : ∀ b ∈ fp, FpOk X pins (upd HB D (NdO X.w D [])) b ∧ b < sC.heap.objs.size := fun b hb => by
    have lt := below b hb
    have l2 : b < sC.heap.objs.size := by
      rw [heapC, Heap.size_push, hD]
      exact Nat.lt_succ_of_lt lt
    exact ⟨⟨by rw [upd_ne (Nat.ne_of_lt lt)]; exact (fpB b hb).1, (fpB b hb).2⟩, l2⟩
  have invD := block_start invC blk nd fpC
  generalize hcl : cellsFrom (sC.heap.objs.size + 1) scope.names (cloFrom X.env.cells scope.names []) = cl at *
  show codeAny _ _ (.compStart (.DictComp kx vx [⟨tg, iter, ifs, 0⟩] scope pos) 0 (.ref it) (.ref D) (compEnvC scope cl sC.heap.objs.size X.env)) (compPost (model X.prog X.w) X.A X.xe use Qf (.ref D) sC.heap.objs.size) { sC with heap := pushCells (sC.heap.push { cls := .type "dict", data := .dict #[] }) scope.names }
  have loc : (compEnvC scope cl sC.heap.objs.size X.env).locals = sC.heap.objs.size := rfl
  have qG := pG sC (upd HB D (NdO X.w D [])) sC.heap.objs.size cl fp
  have qT := pT sC (upd HB D (NdO X.w D [])) sC.heap.objs.size cl fp
  have qK := pK sC (upd HB D (NdO X.w D [])) sC.heap.objs.size cl fp
  have qV := pV sC (upd HB D (NdO X.w D [])) sC.heap.objs.size cl fp
  have noneC : ∀ b ∈ fp, (upd HB D (NdO X.w D [])) b = none := fun b hb => (fpC b hb).1.1
  generalize hE : compEnvC scope cl sC.heap.objs.size X.env = ce at invD qG qT qK qV loc ⊢
  generalize hG : upd HB D (NdO X.w D []) = HC at invC invD qG qT qK qV w0 noneC fpC
  generalize hZ : ({ sC with heap := pushCells (sC.heap.push { cls := .type "dict", data := .dict #[] }) scope.names } : Shared) = sD at invD ⊢
  have stD : at_ 0 sD.heap := T.keep _ _ _ stB fun b _ o e => by rw [← hZ]; exact pushCells_keeps _ _ _ _ (Heap.get?_push_of_some _ (oldC b o e))
  have calmly : ∀ {τ : L2.St} {G : Hp} {z : Shared}, Inv (X.blk sC HC scope ce fp) [] τ G z → (∀ b ∈ fp, G b = none) → ∀ b ∈ fp, FpOk (X.blk sC HC scope ce fp) [] G b := fun {τ G z} i n b hb =>
    ⟨n b hb, (i.ok.exf b hb).1, i.ok.exfs b hb, .inl hb, fun x c e => (i.ok.exf b hb).2 x c e, fun p hp => absurd (show p ∈ ([] : List (Addr × Obj)) ++ [] from hp) (by simp)⟩
  refine (fun loop => codeAny_compStart_dict loop (T.self X.A 0 _ _ _ stD loop)) ?_
  refine compLoop_anyD (fun n z => ∃ i G, Inv (X.blk sC HC scope ce fp) [] (wipe σ (own.map (·.2))) G z ∧ at_ i z.heap ∧ (∀ b ∈ fp, G b = none) ∧ W i n G) ?_ m0 ⟨0, HC, invD, stD, noneC, w0⟩
  rintro n z5 ⟨i, G5, inv5, st5, n5, w5⟩
  rcases turn i n G5 w5 with ⟨stop, fin⟩ | ⟨go, Nx, less, step⟩
  · refine thnF (T.done (X.blk sC HC scope ce fp) rfl rfl rfl calm i [] z5 _ G5 (fun _ _ => False) inv5 (calmly inv5 n5) st5 stop) ?_
    rintro r z6 ⟨rfl, inv6⟩
    have back : Inv X pins σ G5 z6 := invC.call' (ch := fp) inv6.os inv6.base inv6.hok inv6.bare fun b hb => ⟨(fpC b hb).1.2.2.2.1, (fpC b hb).1.2.1, (fpC b hb).1.2.2.2.2.1, (fpC b hb).1.2.2.2.2.2⟩
    have nL : G5 sC.heap.objs.size = none := by
      rw [← loc]
      exact inv6.free
    obtain ⟨m, names, _⟩ := inv6.loc
    have names' : z6.heap.Ns sC.heap.objs.size m := by
      rw [← loc]
      exact names
    exact post D sC.heap.objs.size z6 m G5 back fin names' (invC.fpOk (Nat.le_refl _) nL)
  · refine thnF (T.item (X.blk sC HC scope ce fp) rfl rfl rfl calm i [] z5 _ G5 (fun _ _ => False) inv5 (calmly inv5 n5) st5 go) ?_
    rintro r z6 ⟨u, rfl, h6⟩
    refine thnF h6 ?_
    rintro _ z7 ⟨x, G7, inv7, r7, y7, st7, n7⟩
    refine thnF (qG.run _ z7 _ G7 x u _ (inv7.pinned (calmly inv7 n7) (T.obj _ _ st7)) r7 (step x G7 y7)) ?_
    rintro _ z8 ⟨σ8, G8, inv8, same8, q8⟩
    refine thnF (qT.run _ z8 σ8 G8 _ inv8 q8) ?_
    rintro yes z9 ⟨G9, inv9, q9⟩
    have next : ∀ {z : Shared} {G : Hp}, Inv (X.blk sC HC scope ce fp) ([] ++ pinsAt fp z7.heap) σ8 G z → Nx G → ∃ m, m < n ∧ ∃ i G, Inv (X.blk sC HC scope ce fp) [] (wipe σ (own.map (·.2))) G z ∧ at_ i z.heap ∧ (∀ b ∈ fp, G b = none) ∧ W i m G := fun {z G} i' nx => by
      obtain ⟨m', lt, w'⟩ := less G nx
      have pinned : ∀ b ∈ fp, ∀ o, z7.heap.get? b = some o → z.heap.get? b = some o ∧ G b = none := fun b hb o e =>
        let p := i'.pin (b, o) (List.mem_append_right _ (List.mem_append_right _ (mem_pinsAt hb e)))
        ⟨p.1, p.2.1⟩
      refine ⟨m', lt, i + 1, G, (i'.unpinned (pins := [])).weak (by rw [← same8, wipe_length]) (fun j v e => ?_), T.keep _ _ _ st7 fun b hb o e => (pinned b hb o e).1, fun b hb => ?_, w'⟩
      · rw [← same8] at e
        exact (wipe_some e).1
      · obtain ⟨o, e, _⟩ := T.obj _ _ st7 b hb
        exact (pinned b hb o e).2
    cases yes with
    | false =>
      simp only [Bool.false_eq_true, if_false] at q9 ⊢
      exact next inv9 q9
    | true =>
      simp only [if_true] at q9 ⊢
      refine thnF (qK.run _ z9 σ8 G9 _ inv9 q9) ?_
      rintro ku z10 ⟨yk, G10, inv10, r10, q10⟩
      refine thnF (qV.run _ z10 σ8 G10 _ inv10 q10) ?_
      rintro vu z11 ⟨yv, G11, inv11, r11, kvs, k, b, rfl, hD11, dk, db, fresh, few, nx⟩
      cases (show ku = Value.ref b from r10)
      exact dN_store (X := X.blk sC HC scope ce fp) (show X.A.units + 8 < cLine by omega) inv11 hD11 dk db fresh few r11 fun o z12 nd12 inv12 => next inv12 (nx o nd12)
theorem pe_dcN {kx vx tg iter : Expr} {ifs : List Expr} {scope : Scope} {own : List (Str × Nat)} {pos : Pos} {wi : TI} {g : TG} {tt : TT} {tk tv : TE} (calm : X.calm = true) (room : X.A.units + 64 < cLine) (nd : X.N.Nodup) (src : PI X tg iter wi) (blk : BlkOk X.N X.env.scope scope own)
    (pG : ∀ (z : Shared) (G : Hp) (C : Addr) (cl : List (Str × Addr)) (fp : List Addr), PG (X.blk z G scope (compEnvC scope cl C X.env) fp) tg g) (pT : ∀ (z : Shared) (G : Hp) (C : Addr) (cl : List (Str × Addr)) (fp : List Addr), PTs (X.blk z G scope (compEnvC scope cl C X.env) fp) ifs tt)
    (pK : ∀ (z : Shared) (G : Hp) (C : Addr) (cl : List (Str × Addr)) (fp : List Addr), PE (X.blk z G scope (compEnvC scope cl C X.env) fp) kx tk)
    (pV : ∀ (z : Shared) (G : Hp) (C : Addr) (cl : List (Str × Addr)) (fp : List Addr), PE (X.blk z G scope (compEnvC scope cl C X.env) fp) vx tv) (plain : ∀ x, foldedSetIterable iter X.env x = pure x := by intro _; rfl) :
    PE X (.DictComp kx vx [⟨tg, iter, ifs, 0⟩] scope pos) (tDcN X.w X.K wi g tt tk tv (own.map (·.2))) := by
  constructor
  intro pins s σ H Q inv wish
  rw [arm_eval_DictComp]
  refine dcN_core calm room nd src blk pG pT pK pV plain inv wish ?_
  intro D C z m G back fin names ⟨f0, f1, f2, f3, f4, f5⟩
  exact ⟨m, names, fun h'' sb => ⟨.ref D, G, back.turned (t' := z.toks) (fun b o hb e => (sb.2 b hb).trans e) f0 f1 f3 f4 f5, rfl, fin⟩⟩
/-- name = {..}, the name a local -/
theorem ps_setDcN {i : Nat} {y : Str} {py spos : Pos} {kx vx tg iter : Expr} {ifs : List Expr} {scope : Scope} {own : List (Str × Nat)} {pos : Pos} {wi : TI} {g : TG} {tt : TT} {tk tv : TE} (at_ : X.N[i]? = some y) (loc : X.env.scope.names.lookup y = some .local)
    (sw : swapsWith (.DictComp kx vx [⟨tg, iter, ifs, 0⟩] scope pos) (some (.Name y py)) spos.line X.env = pure true) (calm : X.calm = true) (room : X.A.units + 64 < cLine) (nd : X.N.Nodup) (src : PI X tg iter wi) (blk : BlkOk X.N X.env.scope scope own)
    (pG : ∀ (z : Shared) (G : Hp) (C : Addr) (cl : List (Str × Addr)) (fp : List Addr), PG (X.blk z G scope (compEnvC scope cl C X.env) fp) tg g) (pT : ∀ (z : Shared) (G : Hp) (C : Addr) (cl : List (Str × Addr)) (fp : List Addr), PTs (X.blk z G scope (compEnvC scope cl C X.env) fp) ifs tt)
    (pK : ∀ (z : Shared) (G : Hp) (C : Addr) (cl : List (Str × Addr)) (fp : List Addr), PE (X.blk z G scope (compEnvC scope cl C X.env) fp) kx tk)
    (pV : ∀ (z : Shared) (G : Hp) (C : Addr) (cl : List (Str × Addr)) (fp : List Addr), PE (X.blk z G scope (compEnvC scope cl C X.env) fp) vx tv) (plain : ∀ x, foldedSetIterable iter X.env x = pure x := by intro _; rfl) :
    PS X (.Assign [.Name y py] (.DictComp kx vx [⟨tg, iter, ifs, 0⟩] scope pos) spos) (tAsg (tDcN X.w X.K wi g tt tk tv (own.map (·.2))) (gName i)) := by
  constructor
  intro pins s σ H D inv wish
  rw [exec_Assign_Name_used _ _ _ _ sw]
  refine wpAny_bind (wpAny_standAt (wpAny_bind ?_))
  show wpAny _ X.A (do let _ ← comprehension (.DictComp kx vx [⟨tg, iter, ifs, 0⟩] scope pos) scope X.env (firstIterPos [⟨tg, iter, ifs, 0⟩] pos) newDict false (eval iter X.env) (some (assign (.Name y py) X.env))) _ _ s
  have wish' : tDcN X.w X.K wi g tt tk tv (own.map (·.2)) σ H (fun x H1 => gName i x σ H1 D.nx) := wish
  refine wpAny_bind (thn (dcN_core (Qf := fun _ z => SP X pins D .next z) calm room nd src blk pG pT pK pV plain inv wish' ?_) fun _ z hz => wpAny_pure (wpAny_pure hz))
  intro L C z m G back fin names ⟨f0, f1, f2, f3, f4, f5⟩
  show wpAny _ _ (assign (.Name y py) X.env (.ref L)) _ _ _
  refine wpAny_assign_Name (store_ok2 (v := V.ref L) back nd at_ (.inl loc) rfl (fun z2 inv2 ⟨a, sb, ha⟩ => ?_) (.inr loc))
  have other : C ≠ a := ha.elim (fun q => by rw [q]; exact f1) fun q => fun e => f4 y a q e.symm
  exact ⟨m, names.sameBut sb other, fun h3 sb3 => ⟨_, G, inv2.turned (t' := z2.toks) (fun b o hb e => (sb3.2 b hb).trans e) f0 f1 f3 f4 f5, fin⟩⟩
/-- over a list that stays -/
theorem dcN_list {w : World} {K : PySem.W.Frag} {a : Addr} {xs : List V} {g : TG} {tt : TT} {tk tv : TE} {vs : List Nat} {σ : L2.St} {H1 : Hp} {D : Addr} {Qd : Hp → Prop} (Pv : Nat → Hp → Prop) (h0 : Pv 0 (upd H1 D (NdO w D []))) (hl : ∀ i G, i ≤ xs.length → Pv i G → SqL K G a xs)
    (hs : ∀ i x G, xs[i]? = some x → Pv i G → g x (wipe σ vs) G fun σ2 H2 => wipe σ2 vs = wipe σ vs ∧ tt σ2 H2 fun yes H3 =>
      if yes = true then tk σ2 H3 fun y H4 => tv σ2 H4 fun z H5 => ∃ kvs k b, y = .ref b ∧ NdAt w K H5 D kvs ∧ k.depth ≤ 8 ∧ Dp K H5 (.ref b) (nkD k) ∧ valV kvs k = none ∧ kvs.length < sizeLine ∧ ∀ o, NdAt w K (upd H5 D o) D (kvs ++ [(k, z)]) → Pv (i + 1) (upd H5 D o) else Pv (i + 1) H3) (hd : ∀ G, Pv xs.length G → Qd G) :
    ∃ W : Nat → Nat → Hp → Prop, (∃ m, W 0 m (upd H1 D (NdO w D []))) ∧ ∀ i m Hi, W i m Hi →
      ((Itl K a).stop i Hi ∧ Qd Hi) ∨ ((Itl K a).go i Hi ∧ ∃ Nx : Hp → Prop, (∀ H', Nx H' → ∃ m', m' < m ∧ W (i + 1) m' H') ∧ ∀ x H', (Itl K a).yld i Hi x H' → g x (wipe σ vs) H' fun σ2 H2 => wipe σ2 vs = wipe σ vs ∧ tt σ2 H2 fun yes H3 =>
        if yes = true then tk σ2 H3 fun y H4 => tv σ2 H4 fun z H5 => ∃ kvs k b, y = .ref b ∧ NdAt w K H5 D kvs ∧ k.depth ≤ 8 ∧ Dp K H5 (.ref b) (nkD k) ∧ valV kvs k = none ∧ kvs.length < sizeLine ∧ ∀ o, NdAt w K (upd H5 D o) D (kvs ++ [(k, z)]) → Nx (upd H5 D o) else Nx H3) := by
  refine ⟨fun i m G => m = xs.length - i ∧ i ≤ xs.length ∧ Pv i G, ⟨_, rfl, Nat.zero_le _, h0⟩, ?_⟩
  rintro i m G ⟨rfl, le, p⟩
  have seq := hl i G le p
  rcases Nat.lt_or_ge i xs.length with lt | ge
  · refine .inr ⟨⟨xs, xs[i], seq, by simp [lt]⟩, Pv (i + 1), fun G' p' => ⟨xs.length - (i + 1), by omega, rfl, lt, p'⟩, ?_⟩
    rintro x G' ⟨rfl, is⟩
    exact hs i x _ (is xs seq) p
  · have e : i = xs.length := by omega
    subst e
    exact .inl ⟨⟨xs, seq, Nat.le_refl _⟩, hd G p⟩
end
def DBn (w : World) (K : PySem.W.Frag) (J : It) (g : TG) (tt : TT) (tk tv : TE) (vs : List Nat) (σ : L2.St) (H : Hp) (Q : VK) : Prop := tDcN w K (fun _ H R => R J H) g tt tk tv vs σ H Q
theorem w_dcN {w : World} {K : PySem.W.Frag} {wi : TI} {g : TG} {tt : TT} {tk tv : TE} {vs : List Nat} {σ : L2.St} {H : Hp} {Q : VK} (h : wi σ H fun J H1 => DBn w K J g tt tk tv vs σ H1 Q) : tDcN w K wi g tt tk tv vs σ H Q := h
theorem dbn_list {w : World} {K : PySem.W.Frag} {H : Hp} {σ : L2.St} {Q : VK} {a : Addr} (xs : List V) {g : TG} {tt : TT} {tk tv : TE} {vs : List Nat} (Pv : Addr → Nat → Hp → Prop) (h0 : ∀ D, H D = none → NdAt w K (upd H D (NdO w D [])) D [] → Pv D 0 (upd H D (NdO w D []))) (hl : ∀ D, H D = none → ∀ i G, i ≤ xs.length → Pv D i G → SqL K G a xs)
    (hs : ∀ D, H D = none → ∀ i x G, xs[i]? = some x → Pv D i G → g x (wipe σ vs) G fun σ2 H2 => wipe σ2 vs = wipe σ vs ∧ tt σ2 H2 fun yes H3 =>
      if yes = true then tk σ2 H3 fun y H4 => tv σ2 H4 fun z H5 => ∃ kvs k b, y = .ref b ∧ NdAt w K H5 D kvs ∧ k.depth ≤ 8 ∧ Dp K H5 (.ref b) (nkD k) ∧ valV kvs k = none ∧ kvs.length < sizeLine ∧ ∀ o, NdAt w K (upd H5 D o) D (kvs ++ [(k, z)]) → Pv D (i + 1) (upd H5 D o) else Pv D (i + 1) H3) (hd : ∀ D, H D = none → ∀ G, Pv D xs.length G → Q (.ref D) G) : DBn w K (Itl K a) g tt tk tv vs σ H Q :=
  fun D hD hN => dcN_list (Pv D) (h0 D hD hN) (hl D hD) (hs D hD) (hd D hD)
end Ct

/-! judges of pairs -/
namespace Ct
open PySem PySem.Spec PyProof.Rows L2
theorem numKs_nums : ∀ xs : List Int, numKs (nums xs) = true
  | [] => by rw [nums, numKs]
  | x :: xs => by rw [nums, numKs, numK, numKs_nums xs]; rfl
theorem numK_skey (xs : List Int) : numK (skey xs) = true := by
  unfold skey
  rw [numK]
  exact numKs_nums xs
theorem numK_pkey (xs ys : List Int) : numK (pkey xs ys) = true := by
  unfold pkey
  rw [numK, numKs, numKs, numKs, numK_skey, numK_skey]
  rfl
theorem skey_deep (xs : List Int) : (skey xs).depth ≤ 8 := by
  unfold skey
  rw [NestedKey.depth, nums_depth]
  decide
/-- pairs of stands -/
def PairsOk (ps qs : List Part) (ks : List NestedKey) : Prop := ∀ k ∈ ks, ∃ xs ys, k = pkey xs ys ∧ StandL ps xs ∧ StandL qs ys
structure HoldI (w : World) (K : PySem.W.Frag) (C : Addr) (H G : Hp) (p1 k1 p2 k2 : Addr) (ps qs : List Part) (pus : List (Nat × Int)) (kv1 kv2 : List (NestedKey × V)) (av1 av2 : List Addr) : Prop where
  keep : Keep [k1, k2] H G
  tup : TupK H G
  m1 : MoverAt w K C G p1 k1 ps pus kv1 av1
  m2 : MoverAt w K C G p2 k2 qs pus kv2 av2
section
variable {w : World} {K : PySem.W.Frag} {C : Addr} {H G G' : Hp} {p1 k1 p2 k2 : Addr} {ps qs : List Part} {pus : List (Nat × Int)} {kv1 kv2 kv1' kv2' : List (NestedKey × V)} {av1 av2 : List Addr}
theorem HoldI.same (I : HoldI w K C H G p1 k1 p2 k2 ps qs pus kv1 kv2 av1 av2) (s : Same G G') : HoldI w K C H G' p1 k1 p2 k2 ps qs pus kv1 kv2 av1 av2 := ⟨I.keep.trans (keep_same s), I.tup.trans (tupK_same s), I.m1.same s, I.m2.same s⟩
theorem one_noLst (h : MoverAt w K C G p1 k1 ps pus kv1 av1) : (∀ z ∈ [k1], ∀ ys, ¬ Rd G z (.lst ys)) ∧ (∀ z ∈ [k1], ∀ ys, ¬ Rd G z (.tup ys)) ∧ ∃ xs, G k1 = some (NdO w k1 xs) := by
  obtain ⟨xs, e⟩ := h.kn.ext
  exact ⟨fun z hz ys => by rw [List.mem_singleton.mp hz]; exact not_rdL e rfl ys, fun z hz ys => by rw [List.mem_singleton.mp hz]; exact not_rd e rfl ys, xs, e⟩
theorem other_keeps (h1 : MoverAt w K C G p1 k1 ps pus kv1 av1) (h2 : MoverAt w K C G p2 k2 qs pus kv2 av2) (ne : k1 ≠ k2) (k : Keep [k1] G G') : TupK G G' ∧ MoverAt w K C G' p2 k2 qs pus kv2 av2 := by
  obtain ⟨nl, nt, xs, e⟩ := one_noLst h1
  have t := k.tupK nt
  refine ⟨t, h2.keep k t (fun z => ?_) (fun z => ne (List.mem_singleton.mp z).symm) (fun z hz => .inr fun ws e2 => nl z hz ws (.inl e2)) fun _ _ _ _ hT => trainAt_keep k t nl hT⟩
  obtain ⟨dx, tr, u, h, _⟩ := h2.ob
  rw [List.mem_singleton.mp z, e] at h
  cases h
theorem HoldI.mv1 (I : HoldI w K C H G p1 k1 p2 k2 ps qs pus kv1 kv2 av1 av2) (ne : k1 ≠ k2) (k : Keep [k1] G G') (M : MoverAt w K C G' p1 k1 ps pus kv1' av1) : HoldI w K C H G' p1 k1 p2 k2 ps qs pus kv1' kv2 av1 av2 := by
  obtain ⟨t, M2⟩ := other_keeps I.m1 I.m2 ne k
  exact ⟨I.keep.trans (k.mono fun a ha => by rw [List.mem_singleton.mp ha]; exact List.mem_cons_self), I.tup.trans t, M, M2⟩
theorem HoldI.mv2 (I : HoldI w K C H G p1 k1 p2 k2 ps qs pus kv1 kv2 av1 av2) (ne : k1 ≠ k2) (k : Keep [k2] G G') (M : MoverAt w K C G' p2 k2 qs pus kv2' av2) : HoldI w K C H G' p1 k1 p2 k2 ps qs pus kv1 kv2' av1 av2 := by
  obtain ⟨t, M1⟩ := other_keeps I.m2 I.m1 ne.symm k
  exact ⟨I.keep.trans (k.mono fun a ha => by rw [List.mem_singleton.mp ha]; exact List.mem_cons_of_mem _ List.mem_cons_self), I.tup.trans t, M1, M⟩
/-- what is no dict of theirs stays -/
theorem HoldI.lst (I : HoldI w K C H G p1 k1 p2 k2 ps qs pus kv1 kv2 av1 av2) {a : Addr} {vs : List V} (e : H a = some (.lst vs)) (n1 : a ≠ k1) (n2 : a ≠ k2) : G a = some (.lst vs) := I.keep _ _ (fun z => by
  rcases mem_two z with z | z
  · exact n1 z
  · exact n2 z) e
theorem HoldI.dict (I : HoldI w K C H G p1 k1 p2 k2 ps qs pus kv1 kv2 av1 av2) {M : Addr} {kvs : List (NestedKey × V)} (h : NdAt w K H M kvs) (n1 : M ≠ k1) (n2 : M ≠ k2) : NdAt w K G M kvs := by
  obtain ⟨xs, e⟩ := h.ext
  exact h.tup I.tup (by rw [I.keep _ _ (fun z => by
    rcases mem_two z with z | z
    · exact n1 z
    · exact n2 z) e, e])
end
/-- closed under pushes, showing alike -/
def ClosedN (ps qs : List Part) (pus : List (Nat × Int)) (ks : List NestedKey) : Prop := ∀ us vs, pkey us vs ∈ ks → ∀ q ∈ pus, (rA ps us q).2 = (rA qs vs q).2 ∧ pkey (rA ps us q).1 (rA qs vs q).1 ∈ ks
/-- told pushes lead to unlike shows -/
def goP (ps : List Part) : List (Nat × Int) → List Int × Int → List Int × Int
  | [], s => s
  | q :: r, s => goP ps r (Ct.run ps s.1 q.1 q.2)
theorem goP_snoc (ps : List Part) : ∀ (l : List (Nat × Int)) (q : Nat × Int) (s : List Int × Int), goP ps (l ++ [q]) s = Ct.run ps (goP ps l s).1 q.1 q.2
  | [], _, _ => rfl
  | a :: l, q, s => goP_snoc ps l q (Ct.run ps s.1 a.1 a.2)
theorem goP_stand {ps : List Part} : ∀ (l : List (Nat × Int)) (s : List Int × Int), StandL ps s.1 → (∀ q ∈ l, q.1 < ps.length ∧ Sign q.2) → StandL ps (goP ps l s).1
  | [], _, h, _ => h
  | q :: l, s, h, hl => goP_stand l _ (run_stand h (hl q List.mem_cons_self).1 (.inr (hl q List.mem_cons_self).2)) fun z hz => hl z (List.mem_cons_of_mem _ hz)
end Ct
/-! what is told of two trains, and the judge -/
namespace Ct
open PySem PySem.Spec PyProof.Rows L2
section
variable {ps qs : List Part} {pus : List (Nat × Int)} {xs ys : List Int}
/-- pushes that show alike all along -/
def Along (ps qs : List Part) (xs ys : List Int) (l : List (Nat × Int)) : Prop := ∀ j, j ≤ l.length → (goP ps (l.take j) (xs, 0)).2 = (goP qs (l.take j) (ys, 0)).2
theorem along_snoc {l : List (Nat × Int)} {q : Nat × Int} (h : Along ps qs xs ys l) (e : (goP ps (l ++ [q]) (xs, 0)).2 = (goP qs (l ++ [q]) (ys, 0)).2) : Along ps qs xs ys (l ++ [q]) := fun j hj => by
  by_cases c : j ≤ l.length
  · rw [List.take_append_of_le_length c]
    exact h j c
  · rw [List.take_of_length_le (by rw [List.length_append] at hj ⊢; have : j ≤ l.length + 1 := hj; show l.length + 1 ≤ j; omega)]
    exact e
/-- each that was met is led to by its path, newest first -/
def LedR (ps qs : List Part) (pus : List (Nat × Int)) (xs ys : List Int) (rr : List Rec) : Prop := ∀ k ∈ keysR rr, ∃ l : List (Nat × Int), pathR rr k = l.map psD ∧ (∀ q ∈ l, q ∈ pus) ∧ k = pkey (goP ps l (xs, 0)).1 (goP qs l (ys, 0)).1 ∧ Along ps qs xs ys l
theorem led_start : LedR ps qs pus xs ys (startR xs ys).reverse := fun k hk => by
  rw [List.mem_singleton.mp hk]
  refine ⟨[], ?_, (fun _ z => nomatch z), rfl, fun j hj => ?_⟩
  · show (if pkey xs ys = pkey xs ys then _ else _) = _
    rw [if_pos rfl]
    rfl
  · rw [List.take_nil]; rfl
theorem led_meet {rs : List Rec} {us vs : List Int} {q : Nat × Int} (h : LedR ps qs pus xs ys rs.reverse) (hk : pkey us vs ∈ keysR rs) (hq : q ∈ pus) (e : (Ct.run ps us q.1 q.2).2 = (Ct.run qs vs q.1 q.2).2) : LedR ps qs pus xs ys (meetR rs (pkey us vs) (psD q) (pkey (Ct.run ps us q.1 q.2).1 (Ct.run qs vs q.1 q.2).1)).reverse := by
  unfold meetR
  by_cases c : pkey (Ct.run ps us q.1 q.2).1 (Ct.run qs vs q.1 q.2).1 ∈ keysR rs
  · rw [if_pos c]; exact h
  · rw [if_neg c, List.reverse_append]
    intro k hk2
    by_cases ek : k = pkey (Ct.run ps us q.1 q.2).1 (Ct.run qs vs q.1 q.2).1
    · obtain ⟨l, h1, h2, h3, h4⟩ := h _ (show pkey us vs ∈ keysR rs.reverse by rw [keysR_rev, List.mem_reverse]; exact hk)
      obtain ⟨rfl, rfl⟩ := pkey_inj h3
      refine ⟨l ++ [q], ?_, fun z hz => ?_, ?_, along_snoc h4 (by rw [goP_snoc, goP_snoc]; exact e)⟩
      · show (if k = _ then pathR rs.reverse (pkey _ _) ++ [psD q] else _) = _
        rw [if_pos ek, h1, List.map_append]
        rfl
      · rcases List.mem_append.mp hz with hz | hz
        · exact h2 z hz
        · rw [List.mem_singleton.mp hz]; exact hq
      · rw [goP_snoc, goP_snoc]; exact ek
    · rcases List.mem_cons.mp hk2 with z | z
      · exact absurd z ek
      · obtain ⟨l, h1, r⟩ := h k z
        refine ⟨l, ?_, r⟩
        show (if k = _ then _ else pathR rs.reverse k) = _
        rw [if_neg ek, h1]
def ApartP (ps qs : List Part) (pus : List (Nat × Int)) (xs ys : List Int) (p : List PyData) : Prop := ∃ (l : List (Nat × Int)) (q : Nat × Int), p = (l ++ [q]).map psD ∧ (∀ z ∈ l ++ [q], z ∈ pus) ∧ Along ps qs xs ys l ∧ (goP ps (l ++ [q]) (xs, 0)).2 ≠ (goP qs (l ++ [q]) (ys, 0)).2
theorem visit_led {us vs : List Int} : ∀ (l : List (Nat × Int)) (rs : List Rec), (∀ q ∈ l, q ∈ pus) → pkey us vs ∈ keysR rs → LedR ps qs pus xs ys rs.reverse → (∀ p, visitP ps qs us vs l rs = .error p → ApartP ps qs pus xs ys p) ∧ ∀ rs', visitP ps qs us vs l rs = .ok rs' → LedR ps qs pus xs ys rs'.reverse
  | [], rs, _, _, h => ⟨(fun p z => nomatch z), fun rs' z => by cases z; exact h⟩
  | q :: l, rs, hl, hk, h => by
    unfold visitP
    by_cases c : (Ct.run ps us q.1 q.2).2 ≠ (Ct.run qs vs q.1 q.2).2
    · rw [if_pos c]
      refine ⟨fun p z => ?_, fun rs' z => nomatch z⟩
      cases z
      obtain ⟨m, h1, h2, h3, h4⟩ := h _ (show pkey us vs ∈ keysR rs.reverse by rw [keysR_rev, List.mem_reverse]; exact hk)
      obtain ⟨rfl, rfl⟩ := pkey_inj h3
      refine ⟨m, q, by rw [h1, List.map_append]; rfl, fun z hz => ?_, h4, by rw [goP_snoc, goP_snoc]; exact c⟩
      rcases List.mem_append.mp hz with hz | hz
      · exact h2 z hz
      · rw [List.mem_singleton.mp hz]; exact hl q List.mem_cons_self
    · rw [if_neg c]
      exact visit_led l _ (fun z hz => hl z (List.mem_cons_of_mem _ hz)) (meetR_keys hk) (led_meet h hk (hl q List.mem_cons_self) (Classical.byContradiction c))
theorem bfs_led {at_ : Nat} {rs : List Rec} {x : Except (List PyData) (List Rec)} (h : BfsR ps qs pus at_ rs x) : LedR ps qs pus xs ys rs.reverse → ∀ p, x = .error p → ApartP ps qs pus xs ys p := by
  induction h with
  | done _ => intro _ p e; cases e
  | stop h1 h2 h3 =>
    intro led p e
    cases e
    exact (visit_led pus _ (fun _ z => z) (h2 ▸ List.mem_map.mpr ⟨_, List.mem_of_getElem? h1, rfl⟩) led).1 _ h3
  | step h1 h2 h3 _ ih =>
    intro led p e
    exact ih ((visit_led pus _ (fun _ z => z) (h2 ▸ List.mem_map.mpr ⟨_, List.mem_of_getElem? h1, rfl⟩) led).2 _ h3) p e
theorem bfs_apart {p : List PyData} (h : BfsR ps qs pus 0 (startR xs ys) (.error p)) : ApartP ps qs pus xs ys p := bfs_led h led_start p rfl
/-- the keys that are told, as they are told -/
def keysS (rs : List Rec) : List NestedKey := (keysR rs).mergeSort fun a b => leD (nkD a) (nkD b)
theorem keysS_data (rs : List Rec) : (keysS rs).map nkD = heldT (.ok rs) := by
  show _ = sortD _
  unfold keysS sortD
  rw [List.map_mergeSort (s := PySem.W.dataLe false id) fun a _ b _ => rfl]
theorem keysS_mem {rs : List Rec} {k : NestedKey} : k ∈ keysS rs ↔ k ∈ keysR rs := (List.mergeSort_perm _ _).mem_iff
theorem sortD_twice (ds : List PyData) : sortD (sortD ds) = sortD ds := List.mergeSort_of_pairwise (List.pairwise_mergeSort (le := leD) leD_trans leD_total ds)
end
end Ct

/-! a wheel made twice as wide goes along with what it was made of -/
namespace Ct
open PySem PySem.Spec PyProof.Rows L2
def redI (z : Int) : Nat → List Int → List Int
  | 0, y :: ys => y % z :: ys
  | k + 1, y :: ys => y :: redI z k ys
  | _, [] => []
theorem dbl_mem {z u : Int} {ms : List Int} (r : Rise z ms) (u0 : 0 ≤ u) (u1 : u < 2 * z) : u ∈ ms ++ ms.map (· + z) ↔ u % z ∈ ms := by
  rw [List.mem_append, List.mem_map]
  by_cases c : u < z
  · rw [Int.emod_eq_of_lt u0 c]
    refine ⟨fun h => h.elim id fun ⟨m, hm, e⟩ => ?_, .inl⟩
    have := (r.2 m hm).1
    omega
  · have e : u % z = u - z := by
      rw [← Int.sub_emod_right, Int.emod_eq_of_lt (by omega) (by omega)]
    rw [e]
    refine ⟨fun h => h.elim (fun hm => ?_) fun ⟨m, hm, e2⟩ => ?_, fun h => .inr ⟨_, h, by omega⟩⟩
    · have := (r.2 u hm).2
      omega
    · rw [show u - z = m by omega]; exact hm
theorem dbl_pp {z y g : Int} {ms : List Int} (r : Rise z ms) (z1 : 1 ≤ z) (y0 : 0 ≤ y) (y1 : y < 2 * z) : ppz (.wheel z ms) (y % z) g = ((ppz (.wheel (2 * z) (ms ++ ms.map (· + z))) y g).1 % z, (ppz (.wheel (2 * z) (ms ++ ms.map (· + z))) y g).2) := by
  unfold ppz
  by_cases c : g = 0
  · rw [if_pos c, if_pos c]
  · rw [if_neg c, if_neg c]
    have e1 : (y % z + g) % z = (y + g) % (2 * z) % z := by
      rw [Int.emod_emod_of_dvd _ (Int.dvd_mul_left 2 z), Int.emod_add_emod]
    have e2 : (if g = 1 then (y % z + g) % z else y % z) = (if g = 1 then (y + g) % (2 * z) else y) % z := by
      by_cases d : g = 1
      · rw [if_pos d, if_pos d, e1]
      · rw [if_neg d, if_neg d]
    have u0 : 0 ≤ (if g = 1 then (y + g) % (2 * z) else y) := by
      by_cases d : g = 1
      · rw [if_pos d]; exact Int.emod_nonneg _ (by omega)
      · rw [if_neg d]; exact y0
    have u1 : (if g = 1 then (y + g) % (2 * z) else y) < 2 * z := by
      by_cases d : g = 1
      · rw [if_pos d]; exact Int.emod_lt_of_pos _ (by omega)
      · rw [if_neg d]; exact y1
    refine Prod.ext e1 ?_
    show (if (if g = 1 then (y % z + g) % z else y % z) ∈ ms then g else 0) = (if (if g = 1 then (y + g) % (2 * z) else y) ∈ ms ++ ms.map (· + z) then g else 0)
    rw [e2]
    have m := dbl_mem r u0 u1
    by_cases d : (if g = 1 then (y + g) % (2 * z) else y) % z ∈ ms
    · rw [if_pos d, if_pos (m.mpr d)]
    · rw [if_neg d, if_neg (fun w => d (m.mp w))]
theorem gen_dbl {z : Int} {ms : List Int} (r : Rise z ms) (z1 : 1 ≤ z) : ∀ (k : Nat) (ps : List Part) (vs : List Int) (g : Int), ps[k]? = some (.wheel z ms) → StandL (repI ps k (.wheel (2 * z) (ms ++ ms.map (· + z)))) vs →
    gen ppz ps (redI z k vs) g = (redI z k (gen ppz (repI ps k (.wheel (2 * z) (ms ++ ms.map (· + z)))) vs g).1, (gen ppz (repI ps k (.wheel (2 * z) (ms ++ ms.map (· + z)))) vs g).2)
  | 0, p :: ps, [], g, e, h => h.elim
  | 0, p :: ps, v :: vs, g, e, ⟨_, v0, v1, h⟩ => by
    obtain rfl : p = .wheel z ms := Option.some.inj e
    have d := dbl_pp (g := g) r z1 v0 v1
    show ((ppz (.wheel z ms) (v % z) g).1 :: (gen ppz ps vs (ppz (.wheel z ms) (v % z) g).2).1, (gen ppz ps vs (ppz (.wheel z ms) (v % z) g).2).2) = ((ppz (.wheel (2 * z) (ms ++ ms.map (· + z))) v g).1 % z :: (gen ppz ps vs (ppz (.wheel (2 * z) (ms ++ ms.map (· + z))) v g).2).1, (gen ppz ps vs (ppz (.wheel (2 * z) (ms ++ ms.map (· + z))) v g).2).2)
    rw [d]
  | k + 1, p :: ps, [], g, e, h => h.elim
  | k + 1, p :: ps, v :: vs, g, e, ⟨_, v0, v1, h⟩ => by
    have ih := gen_dbl r z1 k ps vs (ppz p v g).2 e h
    show ((ppz p v g).1 :: (gen ppz ps (redI z k vs) (ppz p v g).2).1, (gen ppz ps (redI z k vs) (ppz p v g).2).2) = _
    rw [ih]
    rfl
theorem redI_len (z : Int) : ∀ (k : Nat) (vs : List Int), (redI z k vs).length = vs.length
  | 0, [] => rfl
  | _ + 1, [] => rfl
  | 0, _ :: _ => rfl
  | k + 1, v :: vs => by
    show (redI z k vs).length + 1 = vs.length + 1
    rw [redI_len z k vs]
theorem redI_rep {z y : Int} : ∀ {k : Nat} {xs : List Int} {x : Int}, xs[k]? = some x → y % z = x → redI z k (repI xs k y) = xs
  | 0, x :: xs, _, e, h => by
    cases Option.some.inj e
    show y % z :: xs = _
    rw [h]
  | k + 1, x :: xs, _, e, h => by
    show x :: redI z k (repI xs k y) = _
    rw [redI_rep (k := k) (xs := xs) e h]
/-- the one train's stand is told by the other's, for ever -/
def Tied (ps qs : List Part) (xs ys : List Int) : Prop := ∃ f : List Int → List Int, xs = f ys ∧ ∀ vs, StandL qs vs → ∀ q ∈ ways2, rA ps (f vs) q = (f (rA qs vs q).1, (rA qs vs q).2)
theorem tied_dbl {ps : List Part} {xs : List Int} {k : Nat} {z x y : Int} {ms : List Int} (hp : ps[k]? = some (.wheel z ms)) (ok : (Part.wheel z ms).ok) (hx : xs[k]? = some x) (e : y % z = x) : Tied ps (repI ps k (.wheel (2 * z) (ms ++ ms.map (· + z)))) xs (repI xs k y) := by
  refine ⟨redI z k, (redI_rep hx e).symm, fun vs sv q hq => ?_⟩
  have hk : k < ps.length := (List.getElem?_eq_some_iff.mp hp).1
  have q0 : q.1 = 0 := by
    rcases List.mem_cons.mp hq with rfl | hq
    · rfl
    · rw [List.mem_singleton.mp hq]
  have l1 := sv.len
  show Ct.run ps (redI z k vs) q.1 q.2 = (redI z k (Ct.run _ vs q.1 q.2).1, (Ct.run _ vs q.1 q.2).2)
  rw [q0, run_gen (by rw [redI_len, l1, repI_len _ hk]) (Nat.zero_le _), run_gen l1 (Nat.zero_le _)]
  exact gen_dbl ok.2.2.1 ok.1 k ps vs q.2 hp sv
section
variable {ps qs : List Part} {xs ys : List Int}
theorem bfs_R {pus : List (Nat × Int)} {R : List Int → List Int → Prop} (cl : ClosedR ps qs pus R) {at_ : Nat} {rs : List Rec} {x : Except (List PyData) (List Rec)} (h : BfsR ps qs pus at_ rs x) : (∀ k ∈ keysR rs, RK R k) → ∀ rs', x = .ok rs' → ∀ k ∈ keysR rs', RK R k := by
  induction h with
  | done _ => intro hk rs' e; cases e; exact hk
  | stop _ _ _ => intro _ rs' e; cases e
  | @step a rs rs1 r us vs x h1 h2 h3 _ ih =>
    intro hk
    have r0 : R us vs := RK.of (by rw [← h2]; exact hk _ (List.mem_map.mpr ⟨r, List.mem_of_getElem? h1, rfl⟩))
    exact ih ((visit_R cl r0 pus rs (fun _ h => h) hk).2 _ h3)
theorem tied_few {rs : List Rec} (t : Tied ps qs xs ys) (l2 : 1 ≤ qs.length) (sy : StandL qs ys) (h : BfsR ps qs ways2 0 (startR xs ys) (.ok rs)) : rs.length ≤ (stands qs).toNat := by
  obtain ⟨f, rfl, go⟩ := t
  have cl : ClosedR ps qs ways2 fun us vs => us = f vs ∧ StandL qs vs := fun us vs ⟨e, sv⟩ q hq => by
    rw [e, go vs sv q hq]
    have w := ways2_ok (ps := qs) (qs := qs) l2 l2 q hq
    exact ⟨rfl, rfl, run_stand sv w.1 (.inr w.2.2)⟩
  have main := bfs_R cl h (fun k hk => by
    rw [List.mem_singleton.mp hk]
    exact ⟨_, _, rfl, rfl, sy⟩) rs rfl
  have nd := bfs_nodup h start_nodup rs rfl
  have list : ∀ ks : List NestedKey, (∀ k ∈ ks, RK (fun us vs => us = f vs ∧ StandL qs vs) k) → ∃ l : List (List Int), ks = l.map (fun vs => pkey (f vs) vs) ∧ ∀ vs ∈ l, StandL qs vs := fun ks => by
    induction ks with
    | nil => intro _; exact ⟨[], rfl, fun _ z => nomatch z⟩
    | cons k ks ih =>
      intro hk
      obtain ⟨l, e, hl⟩ := ih fun x hx => hk x (List.mem_cons_of_mem _ hx)
      obtain ⟨us, vs, e2, rfl, sv⟩ := hk k List.mem_cons_self
      refine ⟨vs :: l, by rw [e, e2]; rfl, fun v hv => ?_⟩
      rcases List.mem_cons.mp hv with rfl | hv
      · exact sv
      · exact hl v hv
  obtain ⟨l, e, hl⟩ := list _ main
  rw [e] at nd
  have nl : l.Nodup := List.Pairwise.imp (fun {a b} hab z => hab (by rw [z])) (List.pairwise_map.mp (List.nodup_iff_pairwise_ne.mp nd))
  have := few_of nl hl
  have e2 := congrArg List.length e
  unfold keysR at e2
  rw [List.length_map, List.length_map] at e2
  omega
theorem prod_few {rs : List Rec} (l1 : 1 ≤ ps.length) (l2 : 1 ≤ qs.length) (sx : StandL ps xs) (sy : StandL qs ys) (h : BfsR ps qs ways2 0 (startR xs ys) (.ok rs)) : rs.length ≤ (stands ps).toNat * (stands qs).toNat :=
  nodes_few (bfs_nodes h (ways2_ok l1 l2) (nodes_start sx sy) rs rfl) (bfs_nodup h start_nodup rs rfl)
/-- few pairs are met -/
def FewP (ps qs : List Part) (xs ys : List Int) : Prop := ∀ rs, BfsR ps qs ways2 0 (startR xs ys) (.ok rs) → rs.length ≤ 8000
theorem fewP_prod (l1 : 1 ≤ ps.length) (l2 : 1 ≤ qs.length) (sx : StandL ps xs) (sy : StandL qs ys) (n : (stands ps).toNat * (stands qs).toNat ≤ 8000) : FewP ps qs xs ys := fun _ h => Nat.le_trans (prod_few l1 l2 sx sy h) n
theorem fewP_tied (t : Tied ps qs xs ys) (l2 : 1 ≤ qs.length) (sy : StandL qs ys) (n : stands qs ≤ 8000) : FewP ps qs xs ys := fun _ h => by have := tied_few t l2 sy h; omega
/-- rows at the first part show alike -/
theorem closed_pushes {ks : List NestedKey} (cl : ClosedN ps qs ways2 ks) {us vs : List Int} (hk : pkey us vs ∈ ks) {w : Int} (hw : Sign w) (a : Int) : ∀ t, pkey (pushes ps 0 w t (us, a)).1 (pushes qs 0 w t (vs, a)).1 ∈ ks ∧ (pushes ps 0 w t (us, a)).2 = (pushes qs 0 w t (vs, a)).2
  | 0 => ⟨hk, rfl⟩
  | t + 1 => by
    obtain ⟨h1, h2⟩ := closed_pushes cl hk hw a t
    have c := cl _ _ h1 (0, w) (by rcases hw with rfl | rfl <;> simp)
    refine ⟨c.2, ?_⟩
    show (pushes ps 0 w t (us, a)).2 + (Ct.run ps (pushes ps 0 w t (us, a)).1 0 w).2 = (pushes qs 0 w t (vs, a)).2 + (Ct.run qs (pushes qs 0 w t (vs, a)).1 0 w).2
    rw [h2, show (Ct.run ps (pushes ps 0 w t (us, a)).1 0 w).2 = (Ct.run qs (pushes qs 0 w t (vs, a)).1 0 w).2 from c.1]
theorem closed_row {ks : List NestedKey} (cl : ClosedN ps qs ways2 ks) (l1 : 1 ≤ ps.length) (l2 : 1 ≤ qs.length) : ∀ (ds : List Deed) (us vs : List Int) (a : Int), (∀ d ∈ ds, d.i = 0 ∧ Sign d.w) → pkey us vs ∈ ks → StandL ps us → StandL qs vs → (rowL ps ds (us, a)).2 = (rowL qs ds (vs, a)).2
  | [], _, _, _, _, _, _, _ => rfl
  | d :: ds, us, vs, a, hd, hk, su, sv => by
    obtain ⟨d0, dw⟩ := hd d List.mem_cons_self
    have okp : d.ok ps.length := ⟨by omega, dw⟩
    have okq : d.ok qs.length := ⟨by omega, dw⟩
    have p1 := pushes_deed su okp a
    have p2 := pushes_deed sv okq a
    rw [d0] at p1 p2
    have c := closed_pushes cl hk dw a d.t
    rw [p1, p2] at c
    show (rowL ps ds ((deedL ps us d).1, a + (deedL ps us d).2)).2 = (rowL qs ds ((deedL qs vs d).1, a + (deedL qs vs d).2)).2
    rw [show a + (deedL qs vs d).2 = a + (deedL ps us d).2 from c.2.symm]
    exact closed_row cl l1 l2 ds _ _ _ (fun e he => hd e (List.mem_cons_of_mem _ he)) c.1 (deedL_stand su okp) (deedL_stand sv okq)
/-- the pairs the other way about -/
def swpK : NestedKey → NestedKey
  | .tup [a, b] => .tup [b, a]
  | k => k
theorem swpK_pkey (us vs : List Int) : swpK (pkey us vs) = pkey vs us := rfl
def keysB (ks : List NestedKey) : List NestedKey := (ks.map swpK).mergeSort fun a b => leD (nkD a) (nkD b)
theorem keysB_data (ks : List NestedKey) : (keysB ks).map nkD = sortD ((ks.map swpK).map nkD) := by
  unfold keysB sortD
  rw [List.map_mergeSort (s := PySem.W.dataLe false id) fun a _ b _ => rfl]
theorem keysB_mem {ks : List NestedKey} {k : NestedKey} : k ∈ keysB ks ↔ k ∈ ks.map swpK := (List.mergeSort_perm _ _).mem_iff
theorem keysB_len (ks : List NestedKey) : (keysB ks).length = ks.length := by unfold keysB; rw [List.length_mergeSort, List.length_map]
theorem keysB_pk {ks : List NestedKey} (hk : PairsOk ps qs ks) {us vs : List Int} : pkey vs us ∈ keysB ks ↔ pkey us vs ∈ ks := by
  rw [keysB_mem, List.mem_map]
  refine ⟨fun ⟨k, h, e⟩ => ?_, fun h => ⟨_, h, rfl⟩⟩
  obtain ⟨a, b, rfl, _⟩ := hk k h
  obtain ⟨rfl, rfl⟩ := pkey_inj (show pkey b a = pkey vs us from e)
  exact h
theorem keysB_ok {ks : List NestedKey} (hk : PairsOk ps qs ks) : PairsOk qs ps (keysB ks) := fun k h => by
  obtain ⟨k0, h0, rfl⟩ := List.mem_map.mp (keysB_mem.mp h)
  obtain ⟨a, b, rfl, sa, sb⟩ := hk k0 h0
  exact ⟨b, a, rfl, sb, sa⟩
theorem keysB_nodup {ks : List NestedKey} (hk : PairsOk ps qs ks) (nd : ks.Nodup) : (keysB ks).Nodup := by
  refine (List.mergeSort_perm _ _).nodup_iff.mpr (List.pairwise_map.mpr (List.Pairwise.imp_of_mem (fun {a b} ha hb ne e => ?_) nd))
  obtain ⟨u, v, rfl, _⟩ := hk a ha
  obtain ⟨u2, v2, rfl, _⟩ := hk b hb
  obtain ⟨rfl, rfl⟩ := pkey_inj (show pkey v u = pkey v2 u2 from e)
  exact ne rfl
theorem keysB_closed {pus : List (Nat × Int)} {ks : List NestedKey} (hk : PairsOk ps qs ks) (cl : ClosedN ps qs pus ks) : ClosedN qs ps pus (keysB ks) := fun us vs h q hq => by
  have c := cl vs us ((keysB_pk hk).mp h) q hq
  exact ⟨c.1.symm, (keysB_pk hk).mpr c.2⟩
/-- pushes that tell apart, by their ways alone -/
theorem apart_ways {p : List PyData} (h : ApartP ps qs ways2 xs ys p) : ∃ (zs : List Int) (z : Int), p.map wayOf = (zs ++ [z]).map PyData.int ∧ (∀ y ∈ zs ++ [z], Sign y) ∧ (∀ j, j ≤ zs.length → (goP ps ((zs.map fun z => (0, z)).take j) (xs, 0)).2 = (goP qs ((zs.map fun z => (0, z)).take j) (ys, 0)).2) ∧ (goP ps ((zs ++ [z]).map fun z => (0, z)) (xs, 0)).2 ≠ (goP qs ((zs ++ [z]).map fun z => (0, z)) (ys, 0)).2 := by
  obtain ⟨l, q, rfl, hw, al, ne⟩ := h
  have w0 : ∀ e ∈ l ++ [q], e.1 = 0 ∧ Sign e.2 := fun e he => by
    rcases List.mem_cons.mp (hw e he) with rfl | h2
    · exact ⟨rfl, .inl rfl⟩
    · rw [List.mem_singleton.mp h2]
      exact ⟨rfl, .inr rfl⟩
  have back : ∀ m : List (Nat × Int), (∀ e ∈ m, e.1 = 0 ∧ Sign e.2) → (m.map (·.2)).map (fun z => ((0 : Nat), z)) = m := fun m => by
    induction m with
    | nil => intro _; rfl
    | cons e m ih =>
      intro hm
      rw [List.map_cons, List.map_cons, ih fun x hx => hm x (List.mem_cons_of_mem _ hx), ← (hm e List.mem_cons_self).1]
  have bl := back l fun e he => w0 e (List.mem_append_left _ he)
  have ba := back (l ++ [q]) w0
  rw [List.map_append] at ba
  refine ⟨l.map (·.2), q.2, ?_, fun y hy => ?_, fun j hj => ?_, ?_⟩
  · rw [List.map_map, List.map_append, List.map_append, List.map_map]
    rfl
  · rw [show l.map (·.2) ++ [q.2] = (l ++ [q]).map (·.2) by rw [List.map_append]; rfl] at hy
    obtain ⟨e, he, rfl⟩ := List.mem_map.mp hy
    exact (w0 e he).2
  · rw [bl]
    exact al j (by rw [List.length_map] at hj; exact hj)
  · rw [show (l.map (·.2) ++ [q.2]).map (fun z => ((0 : Nat), z)) = l ++ [q] from ba]
    exact ne
theorem cut_lastJ (xs : List Int) {n : Nat} (l : xs.length = n + 1) : cutV (xs.map V.int) none (some (-1)) = (xs.take n).map V.int := by
  unfold cutV
  have e1 : HT.sIx (xs.map V.int).length 0 none = 0 := HT.sIx_none ..
  have e2 : HT.sIx (xs.map V.int).length (xs.map V.int).length (some (-1)) = n := by
    rw [List.length_map, l]
    unfold HT.sIx
    simp
    try omega
  rw [e1, e2, List.drop_zero, Nat.sub_zero, List.map_take]
theorem pairs_sortable {ds : List PyData} (pk : ∀ d ∈ ds, ∃ us vs, d = nkD (pkey us vs)) : PySem.W.AllAlike ds ∧ PySem.W.Sortable ds ∧ ∀ d ∈ ds, d.depth ≤ 60 := by
  refine ⟨fun d hd e he => ?_, .inl fun d hd => ?_, fun d hd => ?_⟩
  · obtain ⟨us, vs, rfl⟩ := pk d hd
    obtain ⟨us2, vs2, rfl⟩ := pk e he
    exact alike_pk _ _ _ _
  · obtain ⟨us, vs, rfl⟩ := pk d hd
    rw [pkey_D]
    exact ⟨_, _, rfl⟩
  · obtain ⟨us, vs, rfl⟩ := pk d hd
    rw [pkey_D]
    have := (lay_tup (n := 1) (ds := [tupD us, tupD vs]) fun d hd => by
      rcases List.mem_cons.mp hd with rfl | hd
      · exact lay_tup (lay_ints us 0)
      · rw [List.mem_singleton.mp hd]
        exact lay_tup (lay_ints vs 0)).2
    exact Nat.le_trans this (by decide)
theorem swp_pairs {ks : List NestedKey} (okK : PairsOk ps qs ks) : ∀ d ∈ (ks.map swpK).map nkD, ∃ us vs, d = nkD (pkey us vs) := fun d hd => by
  obtain ⟨k, hk, rfl⟩ := List.mem_map.mp hd
  obtain ⟨k0, hk0, rfl⟩ := List.mem_map.mp hk
  obtain ⟨us, vs, rfl, _⟩ := okK k0 hk0
  exact ⟨vs, us, rfl⟩
/-- what is shown, push by push -/
def shL (ps : List Part) (zs xs : List Int) : List Int := (List.range zs.length).map fun j => (goP ps ((zs.map fun z => (0, z)).take (j + 1)) (xs, 0)).2
theorem shL_len (ps : List Part) (zs xs : List Int) : (shL ps zs xs).length = zs.length := by unfold shL; rw [List.length_map, List.length_range]
theorem shL_front {zs : List Int} {z : Int} (al : ∀ j, j ≤ zs.length → (goP ps ((zs.map fun z => (0, z)).take j) (xs, 0)).2 = (goP qs ((zs.map fun z => (0, z)).take j) (ys, 0)).2) : (shL ps (zs ++ [z]) xs).take zs.length = (shL qs (zs ++ [z]) ys).take zs.length := by
  unfold shL
  rw [← List.map_take, ← List.map_take]
  refine List.map_congr_left fun j hj => ?_
  rw [List.take_range, List.mem_range] at hj
  have e : ((zs ++ [z]).map fun z => ((0 : Nat), z)).take (j + 1) = (zs.map fun z => (0, z)).take (j + 1) := by
    rw [List.map_append, List.take_append_of_le_length (by rw [List.length_map]; omega)]
  rw [e]
  exact al (j + 1) (by omega)
theorem shL_last (ps : List Part) (zs : List Int) (z : Int) (xs : List Int) : (shL ps (zs ++ [z]) xs)[zs.length]? = some (goP ps ((zs ++ [z]).map fun z => (0, z)) (xs, 0)).2 := by
  unfold shL
  have l : (zs ++ [z]).length = zs.length + 1 := by rw [List.length_append]; rfl
  rw [List.getElem?_map, List.getElem?_range (by omega)]
  show some (goP ps (((zs ++ [z]).map fun z => ((0 : Nat), z)).take (zs.length + 1)) (xs, 0)).2 = _
  rw [List.take_of_length_le (by rw [List.length_map]; omega)]
theorem w_eqInts {K : PySem.W.Frag} {H : Hp} {Q : VK} {a b : Addr} {is : List Int} (ha : SqL K H a (is.map V.int)) (hb : SqL K H b (is.map V.int)) (q : Q (.bl true) H) : rEqD K (.ref a) (.ref b) H Q := by
  have h : (PyData.list (is.map PyData.int)).canLay0 = true ∧ (PyData.list (is.map PyData.int)).depth ≤ 1 := lay_lst (lay_ints is 0)
  exact ⟨_, _, .lst ha (dpAll_ints is), .lst hb (dpAll_ints is), shaped_of h (by decide), shaped_of h (by decide), by rw [SeqAt.eqv_refl _ h.1]; exact q⟩
end
theorem sim_refl {pus : List (Nat × Int)} (ps : List Part) (xs : List Int) : Sim ps ps pus xs xs := ⟨fun us vs => us = vs, rfl, fun us vs e q _ => by cases e; exact ⟨rfl, rfl⟩⟩
theorem sim_trans {pus : List (Nat × Int)} {ps qs rs : List Part} {xs ys zs : List Int} (h : Sim ps qs pus xs ys) (g : Sim qs rs pus ys zs) : Sim ps rs pus xs zs := by
  obtain ⟨R, r0, cr⟩ := h
  obtain ⟨S, s0, cs⟩ := g
  refine ⟨fun us ws => ∃ vs, R us vs ∧ S vs ws, ⟨ys, r0, s0⟩, fun us ws ⟨vs, h1, h2⟩ q hq => ?_⟩
  have a := cr us vs h1 q hq
  have b := cs vs ws h2 q hq
  exact ⟨a.1.trans b.1, _, a.2, b.2⟩
/-- what is told first -/
theorem held_word {ps qs : List Part} {xs ys : List Int} {x : Except (List PyData) (List Rec)} (h : BfsR ps qs ways2 0 (startR xs ys) x) : (heldW x = "alike" ∧ Sim ps qs ways2 xs ys) ∨ heldW x = "apart" := by
  cases x with
  | ok rs => exact .inl ⟨rfl, (bfs_sim h).mp ⟨rs, rfl⟩⟩
  | error p => exact .inr rfl
theorem w_eqWords {K : PySem.W.Frag} {H : Hp} {Q : VK} {a b : Addr} {x y u v : Str} {c : Bool} (ha : H a = some (.lst [.str x, .str y])) (hb : H b = some (.lst [.str u, .str v])) (e : PyData.eqv (.list [.str x, .str y]) (.list [.str u, .str v]) = c) (q : Q (.bl c) H)
    (h1 : (PyData.list [.str x, .str y]).canLay0 = true ∧ (PyData.list [.str x, .str y]).depth ≤ 2 := by decide +kernel) (h2 : (PyData.list [.str u, .str v]).canLay0 = true ∧ (PyData.list [.str u, .str v]).depth ≤ 2 := by decide +kernel) : rEqD K (.ref a) (.ref b) H Q :=
  ⟨_, _, .lst (.of ha) (.cons (.str _) (.cons (.str _) .nil)), .lst (.of hb) (.cons (.str _) (.cons (.str _) .nil)), shaped_of h1 (by decide), shaped_of h2 (by decide), by rw [e]; exact q⟩
end Ct

local macro_rules | `(tactic| walk_at "ct") => `(tactic| repeat (first
  | with_reducible refine Ct.w_seq ?_ | with_reducible refine Ct.w_gen ?_ | with_reducible refine Ct.w_asg ?_ | with_reducible refine Ct.w_ret ?_ | with_reducible refine Ct.w_ifS ?_ | with_reducible refine Ct.w_drop ?_ | with_reducible refine Ct.w_next ?_
  | with_reducible refine Ct.w_op ?_ | with_reducible refine Ct.w_c ?_ | with_reducible refine Ct.w_chain ?_ | with_reducible refine Ct.w_un ?_ | with_reducible refine Ct.w_test ?_ | with_reducible refine Ct.w_B ?_ | with_reducible refine Ct.w_and ?_ | with_reducible refine Ct.w_or ?_ | with_reducible refine Ct.w_not ?_ | with_reducible refine Ct.w_if ?_
  | with_reducible refine Ct.w_andV ?_ | with_reducible refine Ct.w_orV ?_ | with_reducible refine Ct.w_notV ?_
  | with_reducible refine Ct.w_nil ?_ | with_reducible refine Ct.w_cons ?_ | with_reducible refine Ct.w_cb ?_ | with_reducible refine Ct.w_call ?_ | with_reducible refine Ct.w_tup ?_ | with_reducible refine Ct.w_lst ?_ | with_reducible refine Ct.w_bm ?_
  | with_reducible refine Ct.w_sfld ?_ | with_reducible refine Ct.w_fld ?_ | with_reducible refine Ct.w_meth ?_ | with_reducible refine Ct.w_make ?_ | with_reducible refine Ct.w_ndnotin ?_ | with_reducible refine Ct.w_ndget ?_ | with_reducible refine Ct.w_ndput ?_ | with_reducible refine Ct.w_it3 ?_ | with_reducible refine Ct.w_snadd ?_ | with_reducible refine Ct.w_dcN ?_
  | with_reducible refine Ct.w_for ?_ | with_reducible refine Ct.w_rng1 ?_ | with_reducible refine Ct.w_rng2 ?_ | with_reducible refine Ct.w_ilist ?_ | with_reducible refine Ct.w_itup ?_ | with_reducible refine Ct.w_im ?_ | with_reducible refine Ct.w_enum ?_ | with_reducible refine Ct.w_irev ?_ | with_reducible refine Ct.w_dcT ?_ | with_reducible refine Ct.w_bm0 ?_ | with_reducible refine Ct.w_dnewT ?_ | with_reducible refine Ct.w_dnotin ?_ | with_reducible refine Ct.w_dget ?_ | with_reducible refine Ct.w_dput ?_ | with_reducible refine Ct.w_lc ?_ | with_reducible refine Ct.w_lc2 ?_ | with_reducible refine Ct.w_star ?_ | with_reducible refine Ct.w_revL ?_ | with_reducible refine Ct.w_yes ?_
  | with_reducible refine Ct.w_gcons ?_ | with_reducible refine Ct.w_gnil ?_ | with_reducible refine Ct.w_gsub ?_ | with_reducible refine Ct.w_sl ?_ | with_reducible refine Ct.w_nopart ?_ | with_reducible refine Ct.w_part ?_
  | with_reducible refine Ct.w_rI0 ?_ | with_reducible refine Ct.w_rU ?_ | with_reducible refine Ct.w_rEqI ?_ | with_reducible refine Ct.w_rNeI ?_ | with_reducible refine Ct.w_ipI ?_ | with_reducible refine Ct.w_bl ?_ | with_reducible refine Ct.w_in ?_ | with_reducible refine Ct.w_break ?_ | with_reducible refine Ct.w_cont ?_ | with_reducible refine Ct.w_nT ?_ | with_reducible refine Ct.w_nF ?_ | with_reducible refine L2.iteT ?_ | with_reducible refine L2.iteF ?_
  | ((with_reducible refine Ct.w_rEqS (b := true) ?ceq ?_); (case ceq => decide +kernel)) | ((with_reducible refine Ct.w_rEqS (b := false) ?ceq ?_); (case ceq => decide +kernel))
  | with_reducible refine Ct.w_var rfl ?_
  | ((with_reducible refine' Ct.w_ixT ?cas ?cix ?_); (case cas => assumption); (case cix => first | exact Ct.at0 | exact Ct.at1 | exact Ct.at2 | exact rfl))
  | ((with_reducible refine' Ct.w_name ?cnm ?_); (case cnm => simp only [L2.wipe, List.map, List.set_cons_zero, List.set_cons_succ]; exact rfl)) ))
local macro_rules | `(tactic| walk_at "cq") => `(tactic| repeat (first
  | with_reducible refine Ct.w_gen ?_ | with_reducible refine Ct.w_asg ?_ | with_reducible refine Ct.w_ret ?_ | with_reducible refine Ct.w_ifS ?_ | with_reducible refine Ct.w_drop ?_ | with_reducible refine Ct.w_next ?_
  | with_reducible refine Ct.w_op ?_ | with_reducible refine Ct.w_c ?_ | with_reducible refine Ct.w_chain ?_ | with_reducible refine Ct.w_un ?_ | with_reducible refine Ct.w_test ?_ | with_reducible refine Ct.w_B ?_ | with_reducible refine Ct.w_and ?_ | with_reducible refine Ct.w_or ?_ | with_reducible refine Ct.w_not ?_ | with_reducible refine Ct.w_if ?_
  | with_reducible refine Ct.w_andV ?_ | with_reducible refine Ct.w_orV ?_ | with_reducible refine Ct.w_notV ?_
  | with_reducible refine Ct.w_nil ?_ | with_reducible refine Ct.w_cons ?_ | with_reducible refine Ct.w_cb ?_ | with_reducible refine Ct.w_call ?_ | with_reducible refine Ct.w_tup ?_ | with_reducible refine Ct.w_lst ?_ | with_reducible refine Ct.w_bm ?_
  | with_reducible refine Ct.w_sfld ?_ | with_reducible refine Ct.w_fld ?_ | with_reducible refine Ct.w_meth ?_ | with_reducible refine Ct.w_make ?_ | with_reducible refine Ct.w_ndnotin ?_ | with_reducible refine Ct.w_ndget ?_ | with_reducible refine Ct.w_ndput ?_ | with_reducible refine Ct.w_it3 ?_ | with_reducible refine Ct.w_snadd ?_ | with_reducible refine Ct.w_dcN ?_
  | with_reducible refine Ct.w_for ?_ | with_reducible refine Ct.w_rng1 ?_ | with_reducible refine Ct.w_rng2 ?_ | with_reducible refine Ct.w_ilist ?_ | with_reducible refine Ct.w_itup ?_ | with_reducible refine Ct.w_im ?_ | with_reducible refine Ct.w_enum ?_ | with_reducible refine Ct.w_irev ?_ | with_reducible refine Ct.w_dcT ?_ | with_reducible refine Ct.w_bm0 ?_ | with_reducible refine Ct.w_dnewT ?_ | with_reducible refine Ct.w_dnotin ?_ | with_reducible refine Ct.w_dget ?_ | with_reducible refine Ct.w_dput ?_ | with_reducible refine Ct.w_lc ?_ | with_reducible refine Ct.w_lc2 ?_ | with_reducible refine Ct.w_star ?_ | with_reducible refine Ct.w_revL ?_ | with_reducible refine Ct.w_yes ?_
  | with_reducible refine Ct.w_gcons ?_ | with_reducible refine Ct.w_gnil ?_ | with_reducible refine Ct.w_gsub ?_ | with_reducible refine Ct.w_sl ?_ | with_reducible refine Ct.w_nopart ?_ | with_reducible refine Ct.w_part ?_
  | with_reducible refine Ct.w_rI0 ?_ | with_reducible refine Ct.w_rU ?_ | with_reducible refine Ct.w_rEqI ?_ | with_reducible refine Ct.w_rNeI ?_ | with_reducible refine Ct.w_ipI ?_ | with_reducible refine Ct.w_bl ?_ | with_reducible refine Ct.w_in ?_ | with_reducible refine Ct.w_break ?_ | with_reducible refine Ct.w_cont ?_ | with_reducible refine Ct.w_nT ?_ | with_reducible refine Ct.w_nF ?_ | with_reducible refine L2.iteT ?_ | with_reducible refine L2.iteF ?_
  | ((with_reducible refine Ct.w_rEqS (b := true) ?ceq ?_); (case ceq => decide +kernel)) | ((with_reducible refine Ct.w_rEqS (b := false) ?ceq ?_); (case ceq => decide +kernel))
  | with_reducible refine Ct.w_var rfl ?_
  | ((with_reducible refine' Ct.w_ixT ?cas ?cix ?_); (case cas => assumption); (case cix => first | exact Ct.at0 | exact Ct.at1 | exact Ct.at2 | exact rfl))
  | ((with_reducible refine' Ct.w_name ?cnm ?_); (case cnm => simp only [L2.wipe, List.map, List.set_cons_zero, List.set_cons_succ]; exact rfl)) ))

local macro_rules | `(tactic| walk_at "sf") => `(tactic| (first
  | assumption
  | ((refine L2.Same.trans (by assumption) ?_); (walk_at "sf"))))
local macro_rules | `(tactic| walk_at "sb") => `(tactic| (first
  | assumption
  | ((refine L2.Same.trans ?_ (by assumption)); (walk_at "sb"))))
local macro_rules | `(tactic| walk_at "sm") => `(tactic| (first
  | assumption
  | exact L2.Same.refl _
  | (walk_at "sf")
  | (walk_at "sb")))
local macro_rules | `(tactic| walk_at "mv") => `(tactic| (first
  | assumption
  | ((with_reducible refine Ct.mv_get ?_ (by assumption)); (walk_at "sm"))
  | (with_reducible refine L2.SqL.of (by assumption))
  | (with_reducible refine L2.SqT.of (by assumption))
  | ((with_reducible refine Ct.mv_lst ?_ (by assumption)); (walk_at "sm"))
  | ((with_reducible refine Ct.mv_tup ?_ (by assumption)); (walk_at "sm"))
  | ((with_reducible refine Ct.mv_sql ?_ (by assumption)); (walk_at "sm"))
  | ((with_reducible refine Ct.mv_sqt ?_ (by assumption)); (walk_at "sm"))
  | ((with_reducible refine Ct.mv_dp ?_ (by assumption)); (walk_at "sm"))
  | ((with_reducible refine Ct.mv_dpa ?_ (by assumption)); (walk_at "sm"))
  | ((with_reducible refine Ct.mv_train ?_ (by assumption)); (walk_at "sm"))
  | ((with_reducible refine Ct.mv_free ?_ (by assumption)); (walk_at "sm"))
  | ((with_reducible refine Ct.TrS.same (by assumption) ?_); (walk_at "sm"))
  | (refine L2.SqL.of (by assumption))
  | (refine L2.SqT.of (by assumption))
  | ((refine Ct.mv_lst ?_ (by assumption)); (walk_at "sm"))
  | ((refine Ct.mv_tup ?_ (by assumption)); (walk_at "sm"))
  | ((refine Ct.mv_sql ?_ (by assumption)); (walk_at "sm"))
  | ((refine Ct.mv_sqt ?_ (by assumption)); (walk_at "sm"))
  | (walk_at "sm")))

namespace My
open PySem PySem.Spec PyProof.Rows L2 Ct
def topS (i : Nat) : Stmt := PySem.Challenge.pw_clicktrain_k18_whole_trains_alike.main.body.getD i (.Pass ⟨0, 0, 0, 0⟩)
section
variable {P : Program} {w : World} {K : PySem.W.Frag} {mg : Str → Option Value} {base : Heap}
abbrev S_Search____init__ : Stmt := inClass (topS 1) 0
theorem sc_Search____init__ : FnScope ["self", "start"] ["self", "start"] (defScope S_Search____init__) := ⟨rfl, rfl, rfl, by decide +kernel, rfl, by decide +kernel, by decide +kernel⟩
def sp_Search____init__ (w : World) (K : PySem.W.Frag) (c_Search : Addr) : Sp := fun vs H Q _ => ∃ (p dx a : Addr) (k : NestedKey), vs = [.ref p, .ref a] ∧ H p = some (.ins c_Search dx []) ∧ k.depth ≤ 8 ∧ Dp K H (.ref a) (nkD k) ∧
  ∀ m n c H', H m = none → H n = none → H c = none → Keep [p] H H' → TupK H H' → SearchAt w K c_Search H' p m n c [(k, 0, none)] → Q .non H'
theorem ok_Search____init__ {f : Addr} {fd : FuncData} {c_Search : Addr} (F : Fun K "__init__" "Search.__init__" S_Search____init__ f fd)
    (CL_Search : Cls K c_Search)
    (NA_Search_came : NoAttr K c_Search "came")
    (NA_Search_numbers : NoAttr K c_Search "numbers")
    (NA_Search_met : NoAttr K c_Search "met") :
    FnOk P w K mg base CX0 1 f fd ["self", "start"] (sp_Search____init__ w K c_Search) := by
  refine F.ok sc_Search____init__ (fun vs H Q E h => ?_) (fun cdv A outer s H vs Q E hr h => ?_)
  ·
    obtain ⟨p, dx, a, k, rfl, _⟩ := h
    rfl
  ·
    obtain ⟨p, dx, a, k, rfl, hp, dk, ha, q⟩ := h
    refine ⟨_, (pss_cons (ps_fld (pv 0) (pe_lst (pa_cons (pv 1) pa_nil)) rfl)
      (pss_cons (ps_fld (pv 0) (pe_ndone hr.units (pv 1) pe_int) rfl)
      (pss_one (ps_fld (pv 0) (pe_ndone hr.units (pv 1) pe_non) rfl)))), ?_⟩
    refine w_st (σ' := [some (.ref p), some (.ref a)]) rfl ?_
    walk_at "ct"
    refine ⟨len2 rfl, fun m nm => ?_⟩
    have pm : p ≠ m := ne_of_none hp nm
    have h1 : (upd H m (.lst [.ref a])) p = some (.ins c_Search dx []) := by rw [upd_ne pm]; exact hp
    have s1 : Same H (upd H m (.lst [.ref a])) := same_upd nm
    have hm1 : (upd H m (.lst [.ref a])) m = some (.lst [.ref a]) := upd_same
    have ha1 := dp_same s1 ha
    generalize upd H m _ = H1 at *
    walk_at "ct"
    refine w_fset h1 CL_Search NA_Search_met (by decide) ?_
    have k1 : Keep [p] H1 (upd H1 p (.ins c_Search dx (putF "met" (.ref m) []))) := keep_upd List.mem_cons_self
    have t1 : TupK H1 (upd H1 p (.ins c_Search dx (putF "met" (.ref m) []))) := tupK_upd h1 rfl
    have h2 : (upd H1 p (.ins c_Search dx (putF "met" (.ref m) []))) p = some (.ins c_Search dx (putF "met" (.ref m) [])) := upd_same
    have hm2 := k1 m _ (fun z => pm (List.mem_singleton.mp z).symm) hm1
    have ha2 := dp_td t1 (td_nk k) ha1
    generalize upd H1 p _ = H2 at *
    walk_at "ct"
    refine w_ndone (w := w) (K := K) fun n nn => ?_
    have pn : p ≠ n := ne_of_none h2 nn
    have mn : m ≠ n := ne_of_none hm2 nn
    have s2 : Same H2 (upd H2 n (NdO w n [])) := same_upd nn
    have hn2 : (upd H2 n (NdO w n [])) n = some (NdO w n []) := upd_same
    have h3 := s2 _ _ h2
    have hm3 := s2 _ _ hm2
    have ha3 := dp_same s2 ha2
    generalize upd H2 n _ = H3 at *
    walk_at "ct"
    refine ⟨a, k, rfl, hn2, dk, ha3, fun o hn4 => ?_⟩
    have k4 : Keep [n] H3 (upd H3 n o) := keep_upd List.mem_cons_self
    have t4 : TupK H3 (upd H3 n o) := tupK_upd hn2 rfl
    have h4 := k4 p _ (fun z => pn (List.mem_singleton.mp z)) h3
    have hm4 := k4 m _ (fun z => mn (List.mem_singleton.mp z)) hm3
    have ha4 := dp_td t4 (td_nk k) ha3
    have s4 : Same H2 (upd H3 n o) := k4.same s2 (fun b hb => by rw [List.mem_singleton.mp hb]; exact nn)
    generalize upd H3 n o = H4 at *
    walk_at "ct"
    refine w_fset h4 CL_Search NA_Search_numbers (show 1 < 1000 by decide) ?_
    obtain ⟨xn, en⟩ := hn4.ext
    have k5 : Keep [p] H4 (upd H4 p (.ins c_Search dx (putF "numbers" (.ref n) (putF "met" (.ref m) [])))) := keep_upd List.mem_cons_self
    have t5 : TupK H4 (upd H4 p (.ins c_Search dx (putF "numbers" (.ref n) (putF "met" (.ref m) [])))) := tupK_upd h4 rfl
    have h5 : (upd H4 p (.ins c_Search dx (putF "numbers" (.ref n) (putF "met" (.ref m) [])))) p = some (.ins c_Search dx (putF "numbers" (.ref n) (putF "met" (.ref m) []))) := upd_same
    have hm5 := k5 m _ (fun z => pm (List.mem_singleton.mp z).symm) hm4
    have ha5 := dp_td t5 (td_nk k) ha4
    have hn5 := hn4.tup t5 (by rw [k5 n _ (fun z => pn (List.mem_singleton.mp z).symm) en, en])
    generalize upd H4 p _ = H5 at *
    walk_at "ct"
    refine w_ndone (w := w) (K := K) fun c nc => ?_
    obtain ⟨xn5, en5⟩ := hn5.ext
    have pc : p ≠ c := ne_of_none h5 nc
    have mc : m ≠ c := ne_of_none hm5 nc
    have ncn : n ≠ c := ne_of_none en5 nc
    have s5 : Same H5 (upd H5 c (NdO w c [])) := same_upd nc
    have hc5 : (upd H5 c (NdO w c [])) c = some (NdO w c []) := upd_same
    have h6 := s5 _ _ h5
    have hm6 := s5 _ _ hm5
    have ha6 := dp_same s5 ha5
    have hn6 := hn5.same s5
    generalize upd H5 c _ = H6 at *
    walk_at "ct"
    refine ⟨a, k, rfl, hc5, dk, ha6, fun o hc7 => ?_⟩
    obtain ⟨xn6, en6⟩ := hn6.ext
    have k7 : Keep [c] H6 (upd H6 c o) := keep_upd List.mem_cons_self
    have t7 : TupK H6 (upd H6 c o) := tupK_upd hc5 rfl
    have h7 := k7 p _ (fun z => pc (List.mem_singleton.mp z)) h6
    have hm7 := k7 m _ (fun z => mc (List.mem_singleton.mp z)) hm6
    have ha7 := dp_td t7 (td_nk k) ha6
    have hn7 := hn6.tup t7 (by rw [k7 n _ (fun z => ncn (List.mem_singleton.mp z)) en6, en6])
    have s7 : Same H5 (upd H6 c o) := k7.same s5 (fun b hb => by rw [List.mem_singleton.mp hb]; exact nc)
    generalize upd H6 c o = H7 at *
    walk_at "ct"
    refine w_fset h7 CL_Search NA_Search_came (flds_two _ _) ?_
    obtain ⟨xn7, en7⟩ := hn7.ext
    obtain ⟨xc7, ec7⟩ := hc7.ext
    have k8 : Keep [p] H7 (upd H7 p (.ins c_Search dx (putF "came" (.ref c) (putF "numbers" (.ref n) (putF "met" (.ref m) []))))) := keep_upd List.mem_cons_self
    have t8 : TupK H7 (upd H7 p (.ins c_Search dx (putF "came" (.ref c) (putF "numbers" (.ref n) (putF "met" (.ref m) []))))) := tupK_upd h7 rfl
    have h8 : (upd H7 p (.ins c_Search dx (putF "came" (.ref c) (putF "numbers" (.ref n) (putF "met" (.ref m) []))))) p = some (.ins c_Search dx (fldsS m n c)) := upd_same
    generalize upd H7 p _ = H8 at *
    have kall : Keep [p] H H8 := ((((keep_same s1).trans k1).trans (keep_same s4)).trans k5).trans ((keep_same s7).trans k8)
    have tall : TupK H H8 := ((((tupK_same s1).trans t1).trans (tupK_same s4)).trans t5).trans ((tupK_same s7).trans t8)
    have nH : ∀ {b : Addr} {G : Hp}, Keep [p] H G → G b = none → b ≠ p → H b = none := fun {b G} kk e ne => by
      cases hb : H b with
      | none => rfl
      | some u => rw [kk b u (fun z => ne (List.mem_singleton.mp z)) hb] at e; cases e
    refine q m n c _ nm ?_ ?_ kall tall ?_
    · exact nH ((keep_same s1).trans k1) nn pn.symm
    · exact nH ((((keep_same s1).trans k1).trans (keep_same s4)).trans k5) nc pc.symm
    · exact ⟨⟨dx, h8⟩, ⟨[.ref a], k8 m _ (fun z => pm (List.mem_singleton.mp z).symm) hm7, .cons (dp_td t8 (td_nk k) ha7) .nil⟩, hn7.tup t8 (by rw [k8 n _ (fun z => pn (List.mem_singleton.mp z).symm) en7, en7]), ⟨[.non], hc7.tup t8 (by rw [k8 c _ (fun z => pc (List.mem_singleton.mp z).symm) ec7, ec7]), .cons .non .nil⟩, ncn, goodR_one k, (fun r hr => by rw [List.mem_singleton.mp hr]; exact .non), fun x hx => by rw [List.mem_singleton.mp hx]; exact dk⟩
abbrev S_Search__meet : Stmt := inClass (topS 1) 1
theorem sc_Search__meet : FnScope ["self", "here", "move", "after"] ["self", "here", "move", "after"] (defScope S_Search__meet) := ⟨rfl, rfl, rfl, by decide +kernel, rfl, by decide +kernel, by decide +kernel⟩
def sp_Search__meet (w : World) (K : PySem.W.Frag) (c_Search : Addr) : Sp := fun vs H Q _ => ∃ (p m n c a b : Addr) (mv : V) (rs : List Rec) (here k : NestedKey) (d : PyData), vs = [.ref p, .ref a, mv, .ref b] ∧ SearchAt w K c_Search H p m n c rs ∧ here ∈ keysR rs ∧ Dp K H (.ref a) (nkD here) ∧ Dp K H mv d ∧ TD d ∧ Dp K H (.ref b) (nkD k) ∧ k.depth ≤ 8 ∧ rs.length ≤ 15000000 ∧
  ∀ H', Keep [m, n, c] H H' → SearchAt w K c_Search H' p m n c (meetR rs here d k) → Q .non H'
theorem ok_Search__meet {f : Addr} {fd : FuncData} {c_Search : Addr} (F : Fun K "meet" "Search.meet" S_Search__meet f fd)
    (CL_Search : Cls K c_Search)
    (NA_Search_numbers : NoAttr K c_Search "numbers")
    (NA_Search_came : NoAttr K c_Search "came")
    (NA_Search_met : NoAttr K c_Search "met") :
    FnOk P w K mg base CX0 1 f fd ["self", "here", "move", "after"] (sp_Search__meet w K c_Search) := by
  refine F.ok sc_Search__meet (fun vs H Q E h => ?_) (fun cdv A outer s H vs Q E hr h => ?_)
  ·
    obtain ⟨p, m, n, c, a, b, mv, rs, here, k, d, rfl, _⟩ := h
    rfl
  ·
    obtain ⟨p, m, n, c, a, b, mv, rs, here, k, d, rfl, S, hh, ha, hm, td, hb, dk, few, q⟩ := h
    refine ⟨_, (pss_one (ps_if (pt_cmp (pc_ndnotin hr.units (pv 3) (pe_fldK (K := K) rfl (pv 0) rfl))) (pss_cons (ps_expr (pe_bm PySem.F.plainAttrs_list PySem.F.slot_list_append PySem.F.type_list_append mt_append (pe_fldK (K := K) rfl (pv 0) rfl) (pa_cons (pv 3) pa_nil)))
      (pss_cons (ps_ndput hr.units (pe_fldK (K := K) rfl (pv 0) rfl) (pv 3) (pe_op op_add (pe_ndget hr.units (pe_fldK (K := K) rfl (pv 0) rfl) (pv 1) (fun _ _ => rfl)) pe_int) rfl)
      (pss_one (ps_ndput hr.units (pe_fldK (K := K) rfl (pv 0) rfl) (pv 3) (pe_tup (pa_cons (pv 1) (pa_cons (pv 2) pa_nil))) rfl)))) pss_nil)), ?_⟩
    refine w_st (σ' := [some (.ref p), some (.ref a), some mv, some (.ref b)]) rfl ?_
    obtain ⟨⟨dx, hp⟩, ⟨vs, hmet, dmet⟩, hn, ⟨cv, hc, dcv⟩, nec, good, tds, dep⟩ := id S
    obtain ⟨xn, en⟩ := hn.ext
    obtain ⟨xc, ec⟩ := hc.ext
    have pm : p ≠ m := ne_of hp hmet (fun z => nomatch z)
    have pn : p ≠ n := ne_of hp en (fun z => nomatch z)
    have pc : p ≠ c := ne_of hp ec (fun z => nomatch z)
    have mn : m ≠ n := ne_of hmet en (fun z => nomatch z)
    have mc : m ≠ c := ne_of hmet ec (fun z => nomatch z)
    have kl : (keysR rs).length = rs.length := List.length_map _
    have vl : vs.length = rs.length := by rw [dpAll_len dmet, List.length_map, kl]
    have cl : cv.length = rs.length := by rw [dpAll_len dcv, List.length_map]
    have big : rs.length < sizeLine := Nat.lt_of_le_of_lt few (by decide)
    walk_at "ct"
    refine ⟨p, c_Search, dx, _, _, rfl, hp, CL_Search, NA_Search_numbers, fldsS_numbers m n c, ?_⟩
    refine ⟨n, _, rfl, ⟨_, k, b, rfl, hn, dk, hb, rfl⟩, ?_⟩
    rw [valV_num]
    by_cases kin : k ∈ keysR rs
    · obtain ⟨r, e, _⟩ := findR_mem kin
      rw [e]
      walk_at "ct"
      refine q H Keep.refl ?_
      unfold meetR
      rw [if_pos kin]
      exact S
    rw [findR_none.mpr kin]
    walk_at "ct"
    refine L2.iteT ?_
    walk_at "ct"
    refine ⟨p, c_Search, dx, _, _, rfl, hp, CL_Search, NA_Search_met, fldsS_met m n c, ?_⟩
    refine ⟨ty_list hmet, ?_⟩
    walk_at "ct"
    refine w_append hmet (by rw [vl]; exact big) ?_
    have k1 : Keep [m, n, c] H (upd H m (.lst (vs ++ [.ref b]))) := keep_upd List.mem_cons_self
    have t1 : TupK H (upd H m (.lst (vs ++ [.ref b]))) := tupK_upd hmet rfl
    have hm1 : (upd H m (.lst (vs ++ [.ref b]))) m = some (.lst (vs ++ [.ref b])) := upd_same
    have hp1 : (upd H m (.lst (vs ++ [.ref b]))) p = some (.ins c_Search dx (fldsS m n c)) := by rw [upd_ne pm]; exact hp
    have hn1 := hn.tup t1 (by rw [upd_ne mn.symm])
    have hc1 := hc.tup t1 (by rw [upd_ne mc.symm])
    generalize upd H m _ = H1 at *
    walk_at "ct"
    refine ⟨p, c_Search, dx, _, _, rfl, hp1, CL_Search, NA_Search_numbers, fldsS_numbers m n c, ?_⟩
    walk_at "ct"
    refine ⟨n, V.int (numR rs here : Int), rfl, ⟨_, here, a, rfl, hn1, dep here hh, dp_td t1 (td_nk here) ha, (valV_numR hh).symm⟩, ?_⟩
    walk_at "ct"
    refine ⟨p, c_Search, dx, _, _, rfl, hp1, CL_Search, NA_Search_numbers, fldsS_numbers m n c, ?_⟩
    walk_at "ct"
    have nin1 : k ∉ (rs.map fun r => (r.1, V.int (r.2.1 : Int))).map (·.1) := by rw [List.map_map]; exact kin
    refine ⟨n, b, _, k, rfl, rfl, hn1, dk, dp_td t1 (td_nk k) hb, valV_nin nin1, by rw [List.length_map]; exact big, fun o hn2 => ?_⟩
    obtain ⟨xn1, en1⟩ := hn1.ext
    have k2 : Keep [m, n, c] H1 (upd H1 n o) := keep_upd (List.mem_cons_of_mem _ List.mem_cons_self)
    have t2 : TupK H1 (upd H1 n o) := tupK_upd en1 rfl
    have hp2 : (upd H1 n o) p = some (.ins c_Search dx (fldsS m n c)) := by rw [upd_ne pn]; exact hp1
    have hm2 : (upd H1 n o) m = some (.lst (vs ++ [.ref b])) := by rw [upd_ne mn]; exact hm1
    have hc2 := hc1.tup t2 (by rw [upd_ne nec.symm])
    generalize upd H1 n o = H2 at *
    have k12 := k1.trans k2
    have t12 := t1.trans t2
    walk_at "ct"
    refine ⟨len2 rfl, fun t nt => ?_⟩
    have s3 : Same H2 (upd H2 t (.tup [.ref a, mv])) := same_upd nt
    have ht3 : (upd H2 t (.tup [.ref a, mv])) t = some (.tup [.ref a, mv]) := upd_same
    have t13 := t12.trans (tupK_same s3)
    have hp3 := s3 _ _ hp2
    have hm3 := s3 _ _ hm2
    have hn3 := hn2.same s3
    have hc3 := hc2.same s3
    generalize upd H2 t _ = H3 at *
    have k13 := k12.trans (keep_same (S := [m, n, c]) s3)
    walk_at "ct"
    refine ⟨p, c_Search, dx, _, _, rfl, hp3, CL_Search, NA_Search_came, fldsS_came m n c, ?_⟩
    walk_at "ct"
    have nin2 : k ∉ ((keysR rs).zip cv).map (·.1) := by rw [zip_keys cl]; exact kin
    refine ⟨c, b, _, k, rfl, rfl, hc3, dk, dp_td t13 (td_nk k) hb, valV_nin nin2, by rw [List.length_zip, kl, cl, Nat.min_self]; exact big, fun o hc4 => ?_⟩
    obtain ⟨xc3, ec3⟩ := hc3.ext
    obtain ⟨xn3, en3⟩ := hn3.ext
    have k4 : Keep [m, n, c] H3 (upd H3 c o) := keep_upd (List.mem_cons_of_mem _ (List.mem_cons_of_mem _ List.mem_cons_self))
    have t4 : TupK H3 (upd H3 c o) := tupK_upd ec3 rfl
    have hp4 : (upd H3 c o) p = some (.ins c_Search dx (fldsS m n c)) := by rw [upd_ne pc]; exact hp3
    have hm4 : (upd H3 c o) m = some (.lst (vs ++ [.ref b])) := by rw [upd_ne mc]; exact hm3
    have hn4 := hn3.tup t4 (by rw [upd_ne nec])
    have ht4 := t4 t _ (.inl ht3)
    generalize upd H3 c o = H4 at *
    have t14 := t13.trans t4
    refine q H4 (k13.trans k4) ?_
    have gm := goodR_meet (k := k) (d := d) good hh
    unfold meetR at gm ⊢
    rw [if_neg kin] at gm ⊢
    have tdd : TD (cameD (some (here, d))) := .tup (.cons (td_nk here) (.cons td .nil))
    have kapp : keysR (rs ++ [(k, numR rs here + 1, some (here, d))]) = keysR rs ++ [k] := keysR_app _ _
    refine ⟨⟨dx, hp4⟩, ⟨_, hm4, ?_⟩, ?_, ⟨cv ++ [.ref t], ?_, ?_⟩, nec, gm, fun r hr => ?_, fun x hx => ?_⟩
    · rw [kapp, List.map_append]
      exact dpAll_app (dpAll_td t14 (tds_keys _) dmet) (.cons (dp_td t14 (td_nk k) hb) .nil)
    · rw [List.map_append]
      exact hn4
    · rw [kapp, zip_snoc (by rw [kl, cl])]
      exact hc4
    · rw [List.map_append]
      exact dpAll_app (dpAll_td t14 (tds_all tds) dcv) (.cons (.tup (.inl ht4) (.cons (dp_td t14 (td_nk here) ha) (.cons (dp_td t14 td hm) .nil))) .nil)
    · rcases List.mem_append.mp hr with hr | hr
      · exact tds r hr
      · rw [List.mem_singleton.mp hr]
        exact tdd
    · rw [kapp] at hx
      rcases List.mem_append.mp hx with hx | hx
      · exact dep x hx
      · rw [List.mem_singleton.mp hx]
        exact dk
abbrev S_Search__path : Stmt := inClass (topS 1) 2
theorem sc_Search__path : FnScope ["self", "goal", "moves", "step", "here", "move"] ["self", "goal"] (defScope S_Search__path) := ⟨rfl, rfl, rfl, by decide +kernel, rfl, by decide +kernel, by decide +kernel⟩
def sp_Search__path (w : World) (K : PySem.W.Frag) (c_Search : Addr) : Sp := fun vs H Q _ => ∃ (p m n c b : Addr) (rs : List Rec) (g : NestedKey), vs = [.ref p, .ref b] ∧ SearchAt w K c_Search H p m n c rs ∧ g ∈ keysR rs ∧ Dp K H (.ref b) (nkD g) ∧ rs.length ≤ 15000000 ∧
  ∀ l ws H', Same H H' → H l = none → H' l = some (.lst ws) → DpAll K H' ws (pathR rs.reverse g) → Q (.ref l) H'
theorem ok_Search__path {f : Addr} {fd : FuncData} {c_Search : Addr} (F : Fun K "path" "Search.path" S_Search__path f fd)
    (CL_Search : Cls K c_Search)
    (NA_Search_came : NoAttr K c_Search "came") :
    FnOk P w K mg base CX0 1 f fd ["self", "goal"] (sp_Search__path w K c_Search) := by
  refine F.ok sc_Search__path (fun vs H Q E h => ?_) (fun cdv A outer s H vs Q E hr h => ?_)
  ·
    obtain ⟨p, m, n, c, b, rs, g, rfl, _⟩ := h
    rfl
  ·
    obtain ⟨p, m, n, c, b, rs, g, rfl, S, hg, hb, few, q⟩ := h
    refine ⟨_, (pss_cons (ps_set (i := 2) sc_Search__path.nd rfl (.inl rfl) (pe_lst pa_nil))
      (pss_cons (ps_set (i := 3) sc_Search__path.nd rfl (.inl rfl) (pe_ndget hr.units (pe_fldK (K := K) rfl (pv 0) rfl) (pv 1) (fun _ _ => rfl)))
      (pss_cons (ps_while PassesOwn.never (pt_cmpR op_notN (pv 3) pe_non (nomark _)) (pss_cons (ps_asg (pv 3) (pg_tup rfl (pgs_cons (pg_name (i := 4) sc_Search__path.nd rfl (.inl rfl)) (pgs_cons (pg_name (i := 5) sc_Search__path.nd rfl (.inl rfl)) pgs_nil))))
      (pss_cons (ps_expr (pe_bm PySem.F.plainAttrs_list PySem.F.slot_list_append PySem.F.type_list_append mt_append (pv 2) (pa_cons (pv 5) pa_nil)))
      (pss_one (ps_set (i := 3) sc_Search__path.nd rfl (.inl rfl) (pe_ndget hr.units (pe_fldK (K := K) rfl (pv 0) rfl) (pv 4) (fun _ _ => rfl)))))))
      (pss_cons (ps_expr (pe_bm0 PySem.F.plainAttrs_list PySem.F.slot_list_reverse PySem.F.type_list_reverse mt_reverse (pv 2)))
      (pss_one (ps_ret (pv 2))))))), ?_⟩
    refine w_st (σ' := [some (.ref p), some (.ref b), none, none, none, none]) rfl ?_
    obtain ⟨⟨dx, hp⟩, ⟨vs, hmet, dmet⟩, hn, ⟨cv, hc, dcv⟩, nec, good, tds, dep⟩ := id S
    walk_at "ct"
    refine ⟨len2 rfl, fun l nl => ?_⟩
    have s1 : Same H (upd H l (.lst [])) := same_upd nl
    have hl1 : (upd H l (.lst [])) l = some (.lst []) := upd_same
    generalize upd H l _ = H1 at *
    have ask : ∀ {x : NestedKey}, x ∈ keysR rs → ∃ r v, findR rs x = some r ∧ r ∈ rs ∧ r.1 = x ∧ valV ((keysR rs).zip cv) x = some v ∧ Dp K H v (cameD r.2.2) := fun {x} hx => by
      obtain ⟨r, e, hr, e1⟩ := findR_mem hx
      obtain ⟨v, h1, h2⟩ := valV_zip (d := .none) dcv e
      exact ⟨r, v, e, hr, e1, h1, h2⟩
    obtain ⟨r, v, er, hr, e1, hv, dv⟩ := ask hg
    walk_at "ct"
    refine ⟨p, c_Search, dx, _, _, rfl, s1 _ _ hp, CL_Search, NA_Search_came, fldsS_came m n c, ?_⟩
    walk_at "ct"
    refine ⟨c, v, rfl, ⟨_, g, b, rfl, hc.same s1, dep g hg, dp_same s1 hb, hv.symm⟩, ?_⟩
    walk_at "ct"
    have rrev : r ∈ rs.reverse := List.mem_reverse.mpr hr
    obtain ⟨pre0, suf0, split0⟩ := List.append_of_mem rrev
    refine while_by (fun σ G => ∃ (pre suf : List Rec) (r : Rec) (v : V) (ws : List V) (ms : List PyData) (y4 y5 : Option V), σ = [some (.ref p), some (.ref b), some (.ref l), some v, y4, y5] ∧ Same H G ∧ G l = some (.lst ws) ∧ DpAll K G ws ms ∧ TDs ms ∧ Dp K H v (cameD r.2.2) ∧ rs.reverse = pre ++ r :: suf ∧ ws.length ≤ pre.length ∧ pathR rs.reverse g = pathR (r :: suf) r.1 ++ ms.reverse)
      (fun _ G => match G l with | some (.lst ws) => rs.length - ws.length | _ => 0) ⟨pre0, suf0, r, v, [], [], none, none, rfl, s1, hl1, .nil, .nil, dv, split0, Nat.zero_le _, ?_⟩ ?_ ?_
    · rw [List.reverse_nil, List.append_nil, split0, ← e1]
      exact pathR_skip (goodR_pre (by rw [← split0]; exact good) List.mem_cons_self)
    · rintro σ G ⟨pre, suf, r, v, ws, ms, y4, y5, rfl, sG, hl, dws, tms, dv, split, wl, hpath⟩
      have lens : rs.length = pre.length + (suf.length + 1) := by
        have := congrArg List.length split
        rw [List.length_reverse, List.length_append, List.length_cons] at this
        exact this
      have gsuf : GoodR (r :: suf) := goodR_tail (pre := pre) (by rw [← split]; exact good)
      have par := gsuf.2.1
      obtain ⟨rx, rn, ro⟩ := r
      cases ro with
      | none =>
        cases dv
        walk_at "ct"
        refine ⟨rfl, ?_⟩
        walk_at "ct"
        refine w_iteN (fun z => absurd rfl z) (fun _ => ?_)
        walk_at "ct"
        refine ⟨ty_list hl, ?_⟩
        walk_at "ct"
        refine ⟨l, ws, rfl, rfl, hl, ?_⟩
        walk_at "ct"
        refine q l ws.reverse _ (same_new sG nl) nl upd_same ?_
        rw [hpath, show pathR ((rx, rn, none) :: suf) rx = [] from if_pos rfl, List.nil_append]
        exact dpAll_rev (dpAll_td (tupK_upd hl rfl) tms dws)
      | some yd =>
        obtain ⟨y, d⟩ := yd
        have ysuf : y ∈ keysR suf := par y d rfl
        obtain ⟨t, va, vm, rfl, hs, hy, hd⟩ := dp2_inv dv
        walk_at "ct"
        refine ⟨rfl, ?_⟩
        walk_at "ct"
        refine w_iteN (fun _ => ?_) (fun z => nomatch z)
        walk_at "ct"
        refine w_gtup (Same.tup sG hs) rfl ?_
        walk_at "ct"
        refine ⟨ty_list hl, ?_⟩
        walk_at "ct"
        have wn : ws.length < rs.length := by omega
        refine w_append hl (Nat.lt_of_lt_of_le wn (Nat.le_trans few (by decide))) ?_
        have tk : TupK G (upd G l (.lst (ws ++ [vm]))) := tupK_upd hl rfl
        have sG2 : Same H (upd G l (.lst (ws ++ [vm]))) := same_new sG nl
        have ysr : y ∈ keysR rs := by
          have : y ∈ keysR rs.reverse := by
            rw [split, keysR_app]
            exact List.mem_append_right _ (List.mem_cons_of_mem _ ysuf)
          rw [keysR_rev, List.mem_reverse] at this
          exact this
        obtain ⟨r2, v2, er2, hr2, e2, hv2, dv2⟩ := ask ysr
        have tdc : TD (cameD (some (y, d))) := tds _ (List.mem_reverse.mp (by rw [split]; exact List.mem_append_right _ List.mem_cons_self))
        have tdd : TD d := by cases tdc with | tup h => cases h with | cons _ h => cases h with | cons h _ => exact h
        have nul : (upd G l (.lst (ws ++ [vm]))) l = some (.lst (ws ++ [vm])) := upd_same
        have dws2 : DpAll K (upd G l (.lst (ws ++ [vm]))) (ws ++ [vm]) (ms ++ [d]) := dpAll_app (dpAll_td tk tms dws) (.cons (dp_same sG2 hd) .nil)
        generalize upd G l _ = G2 at *
        obtain ⟨ra, rfl⟩ := S.ref ysr hy
        walk_at "ct"
        refine ⟨p, c_Search, dx, _, _, rfl, sG2 _ _ hp, CL_Search, NA_Search_came, fldsS_came m n c, ?_⟩
        walk_at "ct"
        refine ⟨c, v2, rfl, ⟨_, y, ra, rfl, hc.same sG2, dep y ysr, dp_same sG2 hy, hv2.symm⟩, ?_⟩
        walk_at "ct"
        obtain ⟨r3, h3, h4⟩ := List.mem_map.mp ysuf
        obtain ⟨pre2, suf2, split2⟩ := List.append_of_mem h3
        have r23 : r2 = r3 := by
          have f3 : findR rs y = some r3 := by
            have nd : (keysR rs.reverse).Nodup := keysR_nodup good
            exact findR_uniq nd (List.mem_reverse.mp (by rw [split, split2]; exact List.mem_append_right _ (List.mem_cons_of_mem _ (List.mem_append_right _ List.mem_cons_self)))) h4
          exact Option.some.inj (er2.symm.trans f3)
        subst r23
        refine ⟨⟨pre ++ (rx, rn, some (y, d)) :: pre2, suf2, r2, v2, ws ++ [vm], ms ++ [d], _, _, rfl, sG2, nul, dws2, tds_app tms (.cons tdd .nil), dv2, ?_, ?_, ?_⟩, ?_⟩
        · rw [split, split2, List.append_assoc]
          rfl
        · simp only [List.length_append, List.length_cons, List.length_nil]
          omega
        · rw [hpath, show pathR ((rx, rn, some (y, d)) :: suf) rx = pathR suf y ++ [d] from if_pos rfl, List.reverse_append, List.append_assoc, e2, split2, pathR_skip (goodR_pre (pre := pre2) (rs := r2 :: suf2) (by rw [← split2]; exact gsuf.2.2) (by rw [← e2]; exact List.mem_cons_self))]
          rfl
        · simp only [hl, nul]
          rw [List.length_append]
          show rs.length - (ws.length + 1) < rs.length - ws.length
          omega
    · rintro σ G Q1 Q2 hQ ⟨v1, e1, e2, k, e3, hq⟩
      exact ⟨v1, e1, e2, k, e3, hQ _ _ hq⟩
abbrev S_is_whole : Stmt := topS 8
theorem sc_is_whole : FnScope ["thing"] ["thing"] (defScope S_is_whole) := ⟨rfl, rfl, rfl, by decide +kernel, rfl, by decide +kernel, by decide +kernel⟩
def sp_is_whole (K : PySem.W.Frag) : Sp := fun vs H Q _ => ∃ (v : V) (d : PyData), vs = [v] ∧ Dp K H v d ∧ Q (.bl (isW d)) H
theorem ok_is_whole {f : Addr} {fd : FuncData} (F : Fun K "is_whole" "is_whole" S_is_whole f fd) (m_isinstance : mg "isinstance" = none) (m_int : mg "int" = none) (m_bool : mg "bool" = none) :
    FnOk P w K mg base CX0 1 f fd ["thing"] (sp_is_whole K) := by
  refine F.ok sc_is_whole (fun vs H Q E h => ?_) (fun cdv A outer s H vs Q E hr h => ?_)
  ·
    obtain ⟨v, d, rfl, _⟩ := h
    rfl
  ·
    obtain ⟨v, d, rfl, hd, q⟩ := h
    refine ⟨_, (pss_one (ps_ret (pe_and (pe_callB (r := rIsi K) call_isi (by rfl) m_isinstance (by decide +kernel) (pa_cons (pv 0) (pa_cons (pe_bltn (v := .ty "int") (u := .type "int") (by rfl) m_int (by decide +kernel) rfl) pa_nil))) (pe_one (pe_not (pe_callB (r := rIsi K) call_isi (by rfl) m_isinstance (by decide +kernel) (pa_cons (pv 0) (pa_cons (pe_bltn (v := .ty "bool") (u := .type "bool") (by rfl) m_bool (by decide +kernel) rfl) pa_nil)))))))), ?_⟩
    refine w_st (σ' := [some v]) rfl ?_
    walk_at "ct"
    cases hd with
    | non =>
      refine w_isi (b := false) (.base .non) (kit_ty (by decide +kernel)) ?_
      walk_at "ct"
      exact q
    | bl b =>
      refine w_isi (b := true) (.base (.bl b)) (kit_ty (by decide +kernel)) ?_
      walk_at "ct"
      refine w_isi (b := true) (.base (.bl b)) (kit_ty (by decide +kernel)) ?_
      walk_at "ct"
      exact q
    | int i =>
      refine w_isi (b := true) (.base (.int i)) (kit_ty (by decide +kernel)) ?_
      walk_at "ct"
      refine w_isi (b := false) (.base (.int i)) (kit_ty (by decide +kernel)) ?_
      walk_at "ct"
      exact q
    | str x =>
      refine w_isi (b := false) (.base (.str x)) (kit_ty (by decide +kernel)) ?_
      walk_at "ct"
      exact q
    | lst hs ht =>
      refine w_isi (b := false) (tyx_L hs) (kit_ty (by decide +kernel)) ?_
      walk_at "ct"
      exact q
    | tup hs ht =>
      refine w_isi (b := false) (tyx_T hs) (kit_ty (by decide +kernel)) ?_
      walk_at "ct"
      exact q
abbrev S_are_marks : Stmt := topS 9
theorem sc_are_marks : FnScope ["thing", "teeth", "last", "mark"] ["thing", "teeth"] (defScope S_are_marks) := ⟨rfl, rfl, rfl, by decide +kernel, rfl, by decide +kernel, by decide +kernel⟩
def sp_are_marks (K : PySem.W.Frag) : Sp := fun vs H Q _ => ∃ (v : V) (d : PyData) (z : Int), vs = [v, .int z] ∧ Dp K H v d ∧ Q (.bl (areM d z)) H
theorem ok_are_marks {f : Addr} {fd : FuncData} {f_is_whole : Addr} {fd_is_whole : FuncData} (F : Fun K "are_marks" "are_marks" S_are_marks f fd)
    (F_is_whole : Fun K "is_whole" "is_whole" S_is_whole f_is_whole fd_is_whole) (b_is_whole : Binds K fd_is_whole ["thing"] []) (g_is_whole : mg "is_whole" = some (.ref f_is_whole)) (G_is_whole : FnOk P w K mg base CX0 1 f_is_whole fd_is_whole ["thing"] (sp_is_whole K)) (m_isinstance : mg "isinstance" = none) (m_tuple : mg "tuple" = none) :
    FnOk P w K mg base CX0 2 f fd ["thing", "teeth"] (sp_are_marks K) := by
  refine F.ok sc_are_marks (fun vs H Q E h => ?_) (fun cdv A outer s H vs Q E hr h => ?_)
  ·
    obtain ⟨v, d, z, rfl, _⟩ := h
    rfl
  ·
    obtain ⟨v, d, z, rfl, hd, q⟩ := h
    refine ⟨_, (pss_cons (ps_if (pt_not (pt_val (pe_callB (r := rIsi K) call_isi (by rfl) m_isinstance (by decide +kernel) (pa_cons (pv 0) (pa_cons (pe_bltn (v := .ty "tuple") (u := .type "tuple") (by rfl) m_tuple (by decide +kernel) rfl) pa_nil))))) (pss_one (ps_ret pe_bl)) pss_nil)
      (pss_cons (ps_set (i := 2) sc_are_marks.nd rfl (.inl rfl) (pe_un un_neg pe_int))
      (pss_cons (ps_for PassesOwn.never rfl (pi_tup (pv 0)) (pg_name (i := 3) sc_are_marks.nd rfl (.inl rfl))
      (pss_cons (ps_if (PW.pt (pw_or (pt_not (pt_val (pe_call G_is_whole (hr.mono (by decide)) (by rfl) g_is_whole F_is_whole.kp b_is_whole .nil pass0 (pa_cons (pv 3) pa_nil)))) (pw_or (pt_cmpR op_le (pv 3) (pv 2) (nomark _)) (pw_or1 (pt_cmpR op_ge (pv 3) (pv 1) (nomark _)))))) (pss_one (ps_ret pe_bl)) pss_nil)
      (pss_one (ps_set (i := 2) sc_are_marks.nd rfl (.inl rfl) (pv 3)))))
      (pss_one (ps_ret pe_bl))))), ?_⟩
    refine w_st (σ' := [some v, some (.int z), none, none]) rfl ?_
    walk_at "ct"
    cases hd with
    | non =>
      refine w_isi (b := false) (.base .non) (kit_ty (by decide +kernel)) ?_
      walk_at "ct"
      exact q
    | bl b =>
      refine w_isi (b := false) (.base (.bl b)) (kit_ty (by decide +kernel)) ?_
      walk_at "ct"
      exact q
    | int i =>
      refine w_isi (b := false) (.base (.int i)) (kit_ty (by decide +kernel)) ?_
      walk_at "ct"
      exact q
    | str x =>
      refine w_isi (b := false) (.base (.str x)) (kit_ty (by decide +kernel)) ?_
      walk_at "ct"
      exact q
    | lst hs ht =>
      refine w_isi (b := false) (tyx_L hs) (kit_ty (by decide +kernel)) ?_
      walk_at "ct"
      exact q
    | @tup a xs ds hs ht =>
      refine w_isi (b := true) (tyx_T hs) (kit_ty (by decide +kernel)) ?_
      walk_at "ct"
      refine w_IT hs ?_
      have hxl := dpAll_len ht
      refine fb_tup xs (fun n σ H' => ∃ (last : Int) (y : Option V), σ = [some (.ref a), some (.int z), some (.int last), y] ∧ H' = H ∧ risesD (-1) z ds = risesD last z (ds.drop n)) ⟨-1, none, rfl, rfl, rfl⟩ ?_ ?_ ?_
      · rintro n σ H' hn ⟨last, y, rfl, rfl, _⟩
        exact hs
      · rintro n x σ H' hx ⟨last, y, rfl, rfl, hr⟩
        have hn : n < xs.length := (List.getElem?_eq_some_iff.mp hx).1
        obtain ⟨e, he⟩ : ∃ e, ds[n]? = some e := ⟨_, List.getElem?_eq_getElem (by omega)⟩
        obtain ⟨x', hx', hde⟩ := dpAll_get ht he
        cases Option.some.inj (hx.symm.trans hx')
        have hdr : ds.drop n = e :: ds.drop (n + 1) := by
          rw [List.drop_eq_getElem_cons (by omega)]
          congr 1
          rw [List.getElem?_eq_getElem (by omega)] at he
          exact Option.some.inj he
        rw [hdr] at hr
        have hq : risesD last z (e :: ds.drop (n + 1)) = false → Q (.bl false) H' := fun z => by
          rw [z] at hr
          rw [show areM (.tuple ds) _ = risesD (-1) _ ds from rfl, hr] at q
          exact q
        walk_at "ct"
        refine ⟨x, e, rfl, hde, ?_⟩
        cases hde with
        | int m =>
          refine w_bl (w_nT ?_)
          walk_at "ct"
          refine w_ite (fun e1 => ?_) (fun e1 => ?_)
          · walk_at "ct"
            exact hq (if_pos (.inl e1))
          · walk_at "ct"
            refine w_ite (fun e2 => ?_) (fun e2 => ?_)
            · walk_at "ct"
              exact hq (if_pos (.inr e2))
            · walk_at "ct"
              exact ⟨m, _, rfl, rfl, hr.trans (if_neg (by omega))⟩
        | non =>
          refine w_bl (w_nF ?_)
          walk_at "ct"
          exact hq rfl
        | bl b =>
          refine w_bl (w_nF ?_)
          walk_at "ct"
          exact hq rfl
        | str s =>
          refine w_bl (w_nF ?_)
          walk_at "ct"
          exact hq rfl
        | lst h1 h2 =>
          refine w_bl (w_nF ?_)
          walk_at "ct"
          exact hq rfl
        | tup h1 h2 =>
          refine w_bl (w_nF ?_)
          walk_at "ct"
          exact hq rfl
      · rintro σ H' ⟨last, y, rfl, rfl, hr⟩
        walk_at "ct"
        rw [show areM (.tuple ds) z = risesD (-1) z ds from rfl, hr, List.drop_of_length_le (by omega)] at q
        exact q
abbrev S_is_part : Stmt := topS 10
theorem sc_is_part : FnScope ["thing"] ["thing"] (defScope S_is_part) := ⟨rfl, rfl, rfl, by decide +kernel, rfl, by decide +kernel, by decide +kernel⟩
def sp_is_part (K : PySem.W.Frag) : Sp := fun vs H Q _ => ∃ (v : V) (d : PyData) (n : Nat), vs = [v] ∧ Dp K H v d ∧ d.canLay0 = true ∧ d.depth ≤ n ∧ n ≤ 60 ∧ ∀ H', Same H H' → Q (.bl (isP d)) H'
theorem ok_is_part {f : Addr} {fd : FuncData} {f_is_whole : Addr} {fd_is_whole : FuncData} {f_are_marks : Addr} {fd_are_marks : FuncData} (F : Fun K "is_part" "is_part" S_is_part f fd)
    (F_is_whole : Fun K "is_whole" "is_whole" S_is_whole f_is_whole fd_is_whole) (b_is_whole : Binds K fd_is_whole ["thing"] []) (g_is_whole : mg "is_whole" = some (.ref f_is_whole)) (G_is_whole : FnOk P w K mg base CX0 1 f_is_whole fd_is_whole ["thing"] (sp_is_whole K))
    (F_are_marks : Fun K "are_marks" "are_marks" S_are_marks f_are_marks fd_are_marks) (b_are_marks : Binds K fd_are_marks ["thing", "teeth"] []) (g_are_marks : mg "are_marks" = some (.ref f_are_marks)) (G_are_marks : FnOk P w K mg base CX0 2 f_are_marks fd_are_marks ["thing", "teeth"] (sp_are_marks K)) (m_isinstance : mg "isinstance" = none) (m_tuple : mg "tuple" = none) (m_len : mg "len" = none) :
    FnOk P w K mg base CX0 3 f fd ["thing"] (sp_is_part K) := by
  refine F.ok sc_is_part (fun vs H Q E h => ?_) (fun cdv A outer s H vs Q E hr h => ?_)
  ·
    obtain ⟨v, d, n, rfl, _⟩ := h
    rfl
  ·
    obtain ⟨v, d, n, rfl, hd, lay, dep, n60, q⟩ := h
    refine ⟨_, (pss_cons (ps_if (PW.pt (pw_or (pt_not (pt_val (pe_callB (r := rIsi K) call_isi (by rfl) m_isinstance (by decide +kernel) (pa_cons (pv 0) (pa_cons (pe_bltn (v := .ty "tuple") (u := .type "tuple") (by rfl) m_tuple (by decide +kernel) rfl) pa_nil))))) (pw_or1 (pt_cmpR op_eq (pe_callB call_len_seq (by rfl) m_len (by decide +kernel) (pa_cons (pv 0) pa_nil)) pe_int (nomark _))))) (pss_one (ps_ret pe_bl)) pss_nil)
      (pss_cons (ps_if (pt_cmpR (r := rEqD K) (op_eqD hr.units) (pe_ix (r := rIxT K) ix_tup (pv 0) pe_int (fun _ _ => rfl)) pe_str (nomark _)) (pss_one (ps_ret (pe_and (pe_cmpR op_eq (pe_callB call_len_seq (by rfl) m_len (by decide +kernel) (pa_cons (pv 0) pa_nil)) pe_int (nomark _)) (pe_and (pe_call G_is_whole (hr.mono (by decide)) (by rfl) g_is_whole F_is_whole.kp b_is_whole .nil pass0 (pa_cons (pe_ix (r := rIxT K) ix_tup (pv 0) pe_int (fun _ _ => rfl)) pa_nil)) (pe_and (pe_cmpR op_ge (pe_ix (r := rIxT K) ix_tup (pv 0) pe_int (fun _ _ => rfl)) pe_int (nomark _)) (pe_one (pe_call G_are_marks (hr.mono (by decide)) (by rfl) g_are_marks F_are_marks.kp b_are_marks .nil pass0 (pa_cons (pe_ix (r := rIxT K) ix_tup (pv 0) pe_int (fun _ _ => rfl)) (pa_cons (pe_ix (r := rIxT K) ix_tup (pv 0) pe_int (fun _ _ => rfl)) pa_nil))))))))) pss_nil)
      (pss_cons (ps_if (pt_cmpR (r := rEqD K) (op_eqD hr.units) (pe_ix (r := rIxT K) ix_tup (pv 0) pe_int (fun _ _ => rfl)) pe_str (nomark _)) (pss_one (ps_ret (pe_and (pe_cmpR op_eq (pe_callB call_len_seq (by rfl) m_len (by decide +kernel) (pa_cons (pv 0) pa_nil)) pe_int (nomark _)) (pe_and (pe_call G_is_whole (hr.mono (by decide)) (by rfl) g_is_whole F_is_whole.kp b_is_whole .nil pass0 (pa_cons (pe_ix (r := rIxT K) ix_tup (pv 0) pe_int (fun _ _ => rfl)) pa_nil)) (pe_one (pe_cmpR op_ge (pe_ix (r := rIxT K) ix_tup (pv 0) pe_int (fun _ _ => rfl)) pe_int (nomark _))))))) pss_nil)
      (pss_one (ps_ret (pe_or (pe_cmpR (r := rEqD K) (op_eqD hr.units) (pv 0) (pe_tup (pa_cons pe_str pa_nil)) (nomark _)) (pe_one (pe_cmpR (r := rEqD K) (op_eqD hr.units) (pv 0) (pe_tup (pa_cons pe_str pa_nil)) (nomark _))))))))), ?_⟩
    refine w_st (σ' := [some v]) rfl ?_
    walk_at "ct"
    cases hd with
    | non =>
      refine w_isi (b := false) (.base .non) (kit_ty (by decide +kernel)) ?_
      walk_at "ct"
      exact q H (Same.refl H)
    | bl b =>
      refine w_isi (b := false) (.base (.bl b)) (kit_ty (by decide +kernel)) ?_
      walk_at "ct"
      exact q H (Same.refl H)
    | int i =>
      refine w_isi (b := false) (.base (.int i)) (kit_ty (by decide +kernel)) ?_
      walk_at "ct"
      exact q H (Same.refl H)
    | str x =>
      refine w_isi (b := false) (.base (.str x)) (kit_ty (by decide +kernel)) ?_
      walk_at "ct"
      exact q H (Same.refl H)
    | lst hs ht =>
      refine w_isi (b := false) (tyx_L hs) (kit_ty (by decide +kernel)) ?_
      walk_at "ct"
      exact q H (Same.refl H)
    | @tup a xs ds hs ht =>
      refine w_isi (b := true) (tyx_T hs) (kit_ty (by decide +kernel)) ?_
      walk_at "ct"
      refine ⟨a, xs, rfl, .inr hs, ?_⟩
      walk_at "ct"
      cases ht with
      | nil =>
        refine w_ite (fun e => ?_) (fun e => absurd rfl e)
        walk_at "ct"
        exact q H (Same.refl H)
      | @cons v0 vs0 d0 ds0 h0 t0 =>
        have hw : SeqAt.shaped (.str "wheel") = true := by decide +kernel
        have hsp : SeqAt.shaped (.str "spring") = true := by decide +kernel
        rw [PyData.canLay0, PyData.canLayAll0, Bool.and_eq_true] at lay
        rw [PyData.depth, PyData.depthAll] at dep
        have sh0 : SeqAt.shaped d0 = true := shaped_of (n := n) ⟨lay.1, by omega⟩ (by omega)
        have hwhole : ∀ H', Same H H' → Dp K H' (.ref a) (.tuple (d0 :: ds0)) := fun H' s => .tup (Same.tup s hs) (.cons (dp_same s h0) (dpAll_same s t0))
        have shw : SeqAt.shaped (.tuple (d0 :: ds0)) = true := shaped_of (n := n) ⟨by rw [PyData.canLay0, PyData.canLayAll0, lay.1, lay.2]; rfl, by rw [PyData.depth, PyData.depthAll]; omega⟩ (by omega)
        refine w_ite (fun e => absurd e (by rw [List.length_cons]; omega)) (fun e => ?_)
        walk_at "ct"
        refine ⟨d0, .str "wheel", h0, .str _, sh0, hw, ?_⟩
        walk_at "ct"
        by_cases e1 : PyData.eqv d0 (.str "wheel") = true
        · rw [if_pos e1]
          have hq : ∀ b : Bool, b = isP (.tuple (d0 :: ds0)) → Q (.bl b) H := fun b hb => by
            rw [hb]
            exact q H (Same.refl H)
          have hP : isP (.tuple (d0 :: ds0)) = wheelT ds0 := by
            simp only [isP, if_pos e1]
          walk_at "ct"
          refine ⟨a, _, rfl, .inr hs, ?_⟩
          walk_at "ct"
          have l0 := dpAll_len t0
          cases t0 with
          | nil =>
            refine w_ite (fun e => absurd e (by show ¬ ((1 : Nat) : Int) = 3; decide)) (fun e => ?_)
            exact hq _ hP.symm
          | @cons v1 vs1 d1 ds1 h1 t1 =>
            cases t1 with
            | nil =>
              refine w_ite (fun e => absurd e (by show ¬ ((2 : Nat) : Int) = 3; decide)) (fun e => ?_)
              exact hq _ (by rw [hP]; cases d1 <;> rfl)
            | @cons v2 vs2 d2 ds2 h2 t2 =>
              cases t2 with
              | nil =>
                refine w_ite (fun e => ?_) (fun e => absurd rfl e)
                walk_at "ct"
                refine ⟨v1, d1, rfl, h1, ?_⟩
                cases h1 with
                | int z =>
                  refine w_bl ?_
                  refine iteT ?_
                  walk_at "ct"
                  refine w_ite (fun e => ?_) (fun e => ?_)
                  · walk_at "ct"
                    refine ⟨v2, d2, z, rfl, h2, ?_⟩
                    exact hq _ (by rw [hP]; show _ = (decide (1 ≤ z) && areM d2 z); rw [decide_eq_true e]; rfl)
                  · exact hq _ (by rw [hP]; show _ = (decide (1 ≤ z) && areM d2 z); rw [decide_eq_false e]; rfl)
                | non => exact w_bl (iteF (hq _ hP.symm))
                | bl b => exact w_bl (iteF (hq _ hP.symm))
                | str s => exact w_bl (iteF (hq _ hP.symm))
                | lst g1 g2 => exact w_bl (iteF (hq _ hP.symm))
                | tup g1 g2 => exact w_bl (iteF (hq _ hP.symm))
              | @cons v3 vs3 d3 ds3 h3 t3 =>
                refine w_ite (fun e => absurd e (by rw [List.length_cons, List.length_cons, List.length_cons, List.length_cons]; omega)) (fun e => ?_)
                exact hq _ (by rw [hP]; cases d1 <;> rfl)
        · rw [if_neg e1]
          walk_at "ct"
          refine ⟨d0, .str "spring", h0, .str _, sh0, hsp, ?_⟩
          walk_at "ct"
          by_cases e2 : PyData.eqv d0 (.str "spring") = true
          · rw [if_pos e2]
            have hq : ∀ b : Bool, b = isP (.tuple (d0 :: ds0)) → Q (.bl b) H := fun b hb => by
              rw [hb]
              exact q H (Same.refl H)
            have hP : isP (.tuple (d0 :: ds0)) = springT ds0 := by
              simp only [isP, if_neg e1, if_pos e2]
            walk_at "ct"
            refine ⟨a, _, rfl, .inr hs, ?_⟩
            walk_at "ct"
            cases t0 with
            | nil =>
              refine w_ite (fun e => absurd e (by show ¬ ((1 : Nat) : Int) = 2; decide)) (fun e => ?_)
              exact hq _ hP.symm
            | @cons v1 vs1 d1 ds1 h1 t1 =>
              cases t1 with
              | nil =>
                refine w_ite (fun e => ?_) (fun e => absurd rfl e)
                walk_at "ct"
                refine ⟨v1, d1, rfl, h1, ?_⟩
                cases h1 with
                | int z =>
                  refine w_bl ?_
                  refine iteT ?_
                  walk_at "ct"
                  exact hq _ hP.symm
                | non => exact w_bl (iteF (hq _ hP.symm))
                | bl b => exact w_bl (iteF (hq _ hP.symm))
                | str s => exact w_bl (iteF (hq _ hP.symm))
                | lst g1 g2 => exact w_bl (iteF (hq _ hP.symm))
                | tup g1 g2 => exact w_bl (iteF (hq _ hP.symm))
              | @cons v2 vs2 d2 ds2 h2 t2 =>
                refine w_ite (fun e => absurd e (by rw [List.length_cons, List.length_cons, List.length_cons]; omega)) (fun e => ?_)
                exact hq _ (by rw [hP]; cases d1 <;> rfl)
          · rw [if_neg e2]
            have hP : isP (.tuple (d0 :: ds0)) = (PyData.eqv (.tuple (d0 :: ds0)) (.tuple [.str "click"]) || PyData.eqv (.tuple (d0 :: ds0)) (.tuple [.str "rocker"])) := by
              simp only [isP, if_neg e1, if_neg e2]
            rw [hP] at q
            walk_at "ct"
            refine ⟨len2 rfl, fun p np => ?_⟩
            have s1 : Same H (upd H p (.tup [.str "click"])) := same_upd np
            refine ⟨.tuple (d0 :: ds0), .tuple [.str "click"], hwhole _ s1, .tup (.of upd_same) (.cons (.str _) .nil), shw, by decide +kernel, ?_⟩
            walk_at "ct"
            by_cases e3 : PyData.eqv (.tuple (d0 :: ds0)) (.tuple [.str "click"]) = true
            · rw [if_pos e3]
              rw [e3] at q
              exact q _ s1
            · rw [if_neg e3]
              rw [Bool.not_eq_true] at e3
              rw [e3] at q
              walk_at "ct"
              refine ⟨len2 rfl, fun p2 np2 => ?_⟩
              have s2 := same_new (o := .tup [.str "rocker"]) s1 (s1.free np2)
              refine ⟨.tuple (d0 :: ds0), .tuple [.str "rocker"], hwhole _ s2, .tup (.of upd_same) (.cons (.str _) .nil), shw, by decide +kernel, ?_⟩
              exact q _ s2
abbrev S_check_train : Stmt := topS 11
theorem sc_check_train : FnScope ["train", "part"] ["train"] (defScope S_check_train) := ⟨rfl, rfl, rfl, by decide +kernel, rfl, by decide +kernel, by decide +kernel⟩
def sp_check_train (K : PySem.W.Frag) : Sp := fun vs H Q _ => ∃ (a : Addr) (ps : List Part), vs = [.ref a] ∧ TrainAt K H a ps ∧ (∀ p ∈ ps, p.ok) ∧ 1 ≤ ps.length ∧ ∀ H', Same H H' → Q .non H'
theorem ok_check_train {f : Addr} {fd : FuncData} {f_is_part : Addr} {fd_is_part : FuncData} (F : Fun K "check_train" "check_train" S_check_train f fd)
    (F_is_part : Fun K "is_part" "is_part" S_is_part f_is_part fd_is_part) (b_is_part : Binds K fd_is_part ["thing"] []) (g_is_part : mg "is_part" = some (.ref f_is_part)) (G_is_part : FnOk P w K mg base CX0 3 f_is_part fd_is_part ["thing"] (sp_is_part K)) (m_isinstance : mg "isinstance" = none) (m_list : mg "list" = none) (m_len : mg "len" = none) :
    FnOk P w K mg base CX0 4 f fd ["train"] (sp_check_train K) := by
  refine F.ok sc_check_train (fun vs H Q E h => ?_) (fun cdv A outer s H vs Q E hr h => ?_)
  ·
    obtain ⟨a, ps, rfl, _⟩ := h
    rfl
  ·
    obtain ⟨a, ps, rfl, ⟨vs, hv, hd⟩, hok, hps, q⟩ := h
    refine ⟨_, (pss_cons (ps_if (PW.pt (pw_or (pt_not (pt_val (pe_callB (r := rIsi K) call_isi (by rfl) m_isinstance (by decide +kernel) (pa_cons (pv 0) (pa_cons (pe_bltn (v := .ty "list") (u := .type "list") (by rfl) m_list (by decide +kernel) rfl) pa_nil))))) (pw_or1 (pt_cmpR op_eq (pe_callB call_len_seq (by rfl) m_len (by decide +kernel) (pa_cons (pv 0) pa_nil)) pe_int (nomark _))))) (pss_one ps_never) pss_nil)
      (pss_one (ps_for PassesOwn.never rfl (pi_list (pv 0)) (pg_name (i := 1) sc_check_train.nd rfl (.inl rfl))
      (pss_one (ps_if (pt_not (pt_val (pe_call G_is_part (hr.mono (by decide)) (by rfl) g_is_part F_is_part.kp b_is_part .nil pass0 (pa_cons (pv 1) pa_nil)))) (pss_one ps_never) pss_nil))))), ?_⟩
    refine w_st (σ' := [some (.ref a), none]) rfl ?_
    have hvl : vs.length = ps.length := by rw [dpAll_len hd, List.length_map]
    walk_at "ct"
    refine w_isi (b := true) (tyx_L hv) (kit_ty (by decide +kernel)) ?_
    walk_at "ct"
    refine ⟨a, vs, rfl, .inl hv, ?_⟩
    walk_at "ct"
    refine w_ite (fun e => absurd e (by omega)) (fun e => ?_)
    walk_at "ct"
    refine w_IL hv ?_
    refine fb_list vs (fun n σ H' => ∃ y, σ = [some (.ref a), y] ∧ Same H H') ⟨none, rfl, Same.refl H⟩ ?_ ?_ ?_
    · rintro n σ H' hn ⟨y, rfl, sm⟩
      exact sm.seq hv
    · rintro n v σ H' hx ⟨y, rfl, sm⟩
      have hn : n < vs.length := (List.getElem?_eq_some_iff.mp hx).1
      obtain ⟨p, hp⟩ : ∃ p, ps[n]? = some p := ⟨_, List.getElem?_eq_getElem (by omega)⟩
      obtain ⟨v', hv1, hd1⟩ := TrainAt.at (a := a) hd hp
      cases Option.some.inj (hx.symm.trans hv1)
      walk_at "ct"
      refine ⟨v, p.data, 2, rfl, dp_same sm hd1, (lay_part p).1, (lay_part p).2, by decide, fun H1 s1 => ?_⟩
      rw [isP_of (hok p (List.mem_of_getElem? hp))]
      walk_at "ct"
      exact ⟨_, rfl, sm.trans s1⟩
    · rintro σ H' ⟨y, rfl, sm⟩
      exact q H' sm
abbrev S_place_count : Stmt := topS 12
theorem sc_place_count : FnScope ["part"] ["part"] (defScope S_place_count) := ⟨rfl, rfl, rfl, by decide +kernel, rfl, by decide +kernel, by decide +kernel⟩
def sp_place_count (K : PySem.W.Frag) : Sp := fun vs H Q _ => ∃ (v : V) (p : Part), vs = [v] ∧ Dp K H v p.data ∧ Q (.int p.places) H
theorem ok_place_count {f : Addr} {fd : FuncData} (F : Fun K "place_count" "place_count" S_place_count f fd) :
    FnOk P w K mg base CX0 1 f fd ["part"] (sp_place_count K) := by
  refine F.ok sc_place_count (fun vs H Q E h => ?_) (fun cdv A outer s H vs Q E hr h => ?_)
  ·
    obtain ⟨v, p, rfl, _⟩ := h
    rfl
  ·
    obtain ⟨v, p, rfl, hp, q⟩ := h
    refine ⟨_, (pss_cons (ps_if (pt_cmpR op_eq (pe_ix (r := rIxT K) ix_tup (pv 0) pe_int (fun _ _ => rfl)) pe_str (nomark _)) (pss_one (ps_ret pe_int)) pss_nil)
      (pss_cons (ps_if (pt_cmpR op_eq (pe_ix (r := rIxT K) ix_tup (pv 0) pe_int (fun _ _ => rfl)) pe_str (nomark _)) (pss_one (ps_ret pe_int)) pss_nil)
      (pss_one (ps_ret (pe_ix (r := rIxT K) ix_tup (pv 0) pe_int (fun _ _ => rfl)))))), ?_⟩
    refine w_st (σ' := [some v]) rfl ?_
    cases p with
    | wheel z ms =>
      obtain ⟨a, b, rfl, ha, hb⟩ := wheel_inv hp
      walk_at "ct"
      exact q
    | click =>
      obtain ⟨a, rfl, ha⟩ := click_inv hp
      walk_at "ct"
      exact q
    | rocker =>
      obtain ⟨a, rfl, ha⟩ := rocker_inv hp
      walk_at "ct"
      exact q
    | spring k =>
      obtain ⟨a, rfl, ha⟩ := spring_inv hp
      walk_at "ct"
      exact q
abbrev S_is_stand : Stmt := topS 13
theorem sc_is_stand : FnScope ["train", "thing", "part", "place"] ["train", "thing"] (defScope S_is_stand) := ⟨rfl, rfl, rfl, by decide +kernel, rfl, by decide +kernel, by decide +kernel⟩
def sp_is_stand (K : PySem.W.Frag) : Sp := fun vs H Q _ => ∃ (a t : Addr) (ps : List Part) (xs : List Int), vs = [.ref a, .ref t] ∧ TrainAt K H a ps ∧ SqT K H t (xs.map V.int) ∧ StandOk ps xs ∧ ∀ H', Same H H' → Q (.bl true) H'
theorem ok_is_stand {f : Addr} {fd : FuncData} {f_place_count : Addr} {fd_place_count : FuncData} {f_is_whole : Addr} {fd_is_whole : FuncData} (F : Fun K "is_stand" "is_stand" S_is_stand f fd)
    (F_place_count : Fun K "place_count" "place_count" S_place_count f_place_count fd_place_count) (b_place_count : Binds K fd_place_count ["part"] []) (g_place_count : mg "place_count" = some (.ref f_place_count)) (G_place_count : FnOk P w K mg base CX0 1 f_place_count fd_place_count ["part"] (sp_place_count K))
    (F_is_whole : Fun K "is_whole" "is_whole" S_is_whole f_is_whole fd_is_whole) (b_is_whole : Binds K fd_is_whole ["thing"] []) (g_is_whole : mg "is_whole" = some (.ref f_is_whole)) (G_is_whole : FnOk P w K mg base CX0 1 f_is_whole fd_is_whole ["thing"] (sp_is_whole K)) (m_zip : mg "zip" = none) (m_isinstance : mg "isinstance" = none) (m_tuple : mg "tuple" = none) (m_len : mg "len" = none) :
    FnOk P w K mg base CX0 2 f fd ["train", "thing"] (sp_is_stand K) := by
  refine F.ok sc_is_stand (fun vs H Q E h => ?_) (fun cdv A outer s H vs Q E hr h => ?_)
  ·
    obtain ⟨a, t, ps, xs, rfl, _⟩ := h
    rfl
  ·
    obtain ⟨a, t, ps, xs, rfl, ⟨vs, hv, hd⟩, hS, hso, q⟩ := h
    have s1 := Same.refl H
    refine ⟨_, (pss_cons (ps_if (PW.pt (pw_or (pt_not (pt_val (pe_callB (r := rIsi K) call_isi (by rfl) m_isinstance (by decide +kernel) (pa_cons (pv 1) (pa_cons (pe_bltn (v := .ty "tuple") (u := .type "tuple") (by rfl) m_tuple (by decide +kernel) rfl) pa_nil))))) (pw_or1 (pt_cmpR op_ne (pe_callB call_len_seq (by rfl) m_len (by decide +kernel) (pa_cons (pv 1) pa_nil)) (pe_callB call_len_seq (by rfl) m_len (by decide +kernel) (pa_cons (pv 0) pa_nil)) (nomark _))))) (pss_one (ps_ret pe_bl)) pss_nil)
      (pss_cons (ps_for PassesOwn.never rfl (pi_zipM (by rfl) m_zip (pa_cons (pv 0) (pa_cons (pv 1) pa_nil))) (pg_tup rfl (pgs_cons (pg_name (i := 2) sc_is_stand.nd rfl (.inl rfl)) (pgs_cons (pg_name (i := 3) sc_is_stand.nd rfl (.inl rfl)) pgs_nil)))
      (pss_one (ps_if (PW.pt (pw_or (pt_not (pt_val (pe_call G_is_whole (hr.mono (by decide)) (by rfl) g_is_whole F_is_whole.kp b_is_whole .nil pass0 (pa_cons (pv 3) pa_nil)))) (pw_or (pt_cmpR op_lt (pv 3) pe_int (nomark _)) (pw_or1 (pt_cmpR op_ge (pv 3) (pe_call G_place_count (hr.mono (by decide)) (by rfl) g_place_count F_place_count.kp b_place_count .nil pass0 (pa_cons (pv 2) pa_nil)) (nomark _)))))) (pss_one (ps_ret pe_bl)) pss_nil)))
      (pss_one (ps_ret pe_bl)))), ?_⟩
    refine w_st (σ' := [some (.ref a), some (.ref t), none, none]) rfl ?_
    have hvl : vs.length = ps.length := by rw [dpAll_len hd, List.length_map]
    have hxl := hso.1
    walk_at "ct"
    refine w_isi (b := true) (tyx_T (Same.tup s1 hS)) (kit_ty (by decide +kernel)) ?_
    walk_at "ct"
    refine ⟨t, _, rfl, .inr (Same.tup s1 hS), ?_⟩
    walk_at "ct"
    refine ⟨a, _, rfl, .inl (s1.seq hv), ?_⟩
    walk_at "ct"
    refine w_iteN (fun e => absurd (by rw [List.length_map, hxl, hvl]) e) (fun e => ?_)
    walk_at "ct"
    refine w_IM (s1.seq hv) (Same.tup s1 hS) ?_
    refine fb_zipM vs (xs.map V.int) (by rw [List.length_map]; omega) (fun n σ H' => ∃ y z, σ = [some (.ref a), some (.ref t), y, z] ∧ Same H H') ⟨none, none, rfl, s1⟩ ?_ ?_ ?_
    · rintro n σ H' hn ⟨y, z, rfl, sm⟩
      exact ⟨sm.seq hv, Same.tup sm hS⟩
    · rintro n v u T σ H' hx hu ⟨y, z, rfl, sm⟩ hT
      have hn : n < vs.length := (List.getElem?_eq_some_iff.mp hx).1
      obtain ⟨p, hp⟩ : ∃ p, ps[n]? = some p := ⟨_, List.getElem?_eq_getElem (by omega)⟩
      obtain ⟨v', hv1, hd1⟩ := TrainAt.at (a := a) hd hp
      cases Option.some.inj (hx.symm.trans hv1)
      obtain ⟨x, hxx⟩ : ∃ x, xs[n]? = some x := ⟨_, List.getElem?_eq_getElem (by omega)⟩
      rw [List.getElem?_map, hxx] at hu
      cases Option.some.inj hu
      have hb := hso.2 n p x hp hxx
      have s2 : Same H (upd H' T (.tup [v, .int x])) := same_new sm (sm.free hT)
      refine w_gtup (.of upd_same) rfl ?_
      walk_at "ct"
      refine ⟨.int x, .int x, rfl, .int x, ?_⟩
      walk_at "ct"
      refine w_nT ?_
      walk_at "ct"
      refine w_ite (fun e => absurd e (by omega)) (fun e => ?_)
      walk_at "ct"
      refine ⟨v, p, rfl, dp_same s2 hd1, ?_⟩
      walk_at "ct"
      refine w_ite (fun e => absurd e (by omega)) (fun e => ?_)
      walk_at "ct"
      exact ⟨_, _, rfl, s2⟩
    · rintro σ H' ⟨y, z, rfl, sm⟩
      walk_at "ct"
      exact q H' sm
abbrev S_check_stand : Stmt := topS 14
theorem sc_check_stand : FnScope ["train", "stand"] ["train", "stand"] (defScope S_check_stand) := ⟨rfl, rfl, rfl, by decide +kernel, rfl, by decide +kernel, by decide +kernel⟩
def sp_check_stand (K : PySem.W.Frag) : Sp := fun vs H Q _ => ∃ (a t : Addr) (ps : List Part) (xs : List Int), vs = [.ref a, .ref t] ∧ TrainAt K H a ps ∧ (∀ p ∈ ps, p.ok) ∧ 1 ≤ ps.length ∧ SqT K H t (xs.map V.int) ∧ StandOk ps xs ∧ ∀ H', Same H H' → Q .non H'
theorem ok_check_stand {f : Addr} {fd : FuncData} {f_is_stand : Addr} {fd_is_stand : FuncData} {f_check_train : Addr} {fd_check_train : FuncData} (F : Fun K "check_stand" "check_stand" S_check_stand f fd)
    (F_is_stand : Fun K "is_stand" "is_stand" S_is_stand f_is_stand fd_is_stand) (b_is_stand : Binds K fd_is_stand ["train", "thing"] []) (g_is_stand : mg "is_stand" = some (.ref f_is_stand)) (G_is_stand : FnOk P w K mg base CX0 2 f_is_stand fd_is_stand ["train", "thing"] (sp_is_stand K))
    (F_check_train : Fun K "check_train" "check_train" S_check_train f_check_train fd_check_train) (b_check_train : Binds K fd_check_train ["train"] []) (g_check_train : mg "check_train" = some (.ref f_check_train)) (G_check_train : FnOk P w K mg base CX0 4 f_check_train fd_check_train ["train"] (sp_check_train K)) :
    FnOk P w K mg base CX0 5 f fd ["train", "stand"] (sp_check_stand K) := by
  refine F.ok sc_check_stand (fun vs H Q E h => ?_) (fun cdv A outer s H vs Q E hr h => ?_)
  ·
    obtain ⟨a, t, ps, xs, rfl, _⟩ := h
    rfl
  ·
    obtain ⟨a, t, ps, xs, rfl, hT, hok, hps, hS, hso, q⟩ := h
    refine ⟨_, (pss_cons (ps_expr (pe_call G_check_train (hr.mono (by decide)) (by rfl) g_check_train F_check_train.kp b_check_train .nil pass0 (pa_cons (pv 0) pa_nil)))
      (pss_one (ps_if (pt_not (pt_val (pe_call G_is_stand (hr.mono (by decide)) (by rfl) g_is_stand F_is_stand.kp b_is_stand .nil pass0 (pa_cons (pv 0) (pa_cons (pv 1) pa_nil))))) (pss_one ps_never) pss_nil))), ?_⟩
    refine w_st (σ' := [some (.ref a), some (.ref t)]) rfl ?_
    walk_at "ct"
    refine ⟨a, ps, rfl, hT, hok, hps, fun H1 s1 => ?_⟩
    walk_at "ct"
    refine ⟨a, t, ps, xs, rfl, hT.same s1, Same.tup s1 hS, hso, fun H2 s2 => ?_⟩
    walk_at "ct"
    exact q H2 (s1.trans s2)
abbrev S_is_way : Stmt := topS 15
theorem sc_is_way : FnScope ["thing"] ["thing"] (defScope S_is_way) := ⟨rfl, rfl, rfl, by decide +kernel, rfl, by decide +kernel, by decide +kernel⟩
def isWay : PyData → Bool
  | .int i => decide (i = 1) || decide (i = -1)
  | _ => false
def sp_is_way (K : PySem.W.Frag) : Sp := fun vs H Q _ => ∃ (v : V) (d : PyData), vs = [v] ∧ Dp K H v d ∧ ∀ H', Same H H' → Q (.bl (isWay d)) H'
theorem ok_is_way {f : Addr} {fd : FuncData} {f_is_whole : Addr} {fd_is_whole : FuncData} (F : Fun K "is_way" "is_way" S_is_way f fd)
    (F_is_whole : Fun K "is_whole" "is_whole" S_is_whole f_is_whole fd_is_whole) (b_is_whole : Binds K fd_is_whole ["thing"] []) (g_is_whole : mg "is_whole" = some (.ref f_is_whole)) (G_is_whole : FnOk P w K mg base CX0 1 f_is_whole fd_is_whole ["thing"] (sp_is_whole K)) :
    FnOk P w K mg base CX0 2 f fd ["thing"] (sp_is_way K) := by
  refine F.ok sc_is_way (fun vs H Q E h => ?_) (fun cdv A outer s H vs Q E hr h => ?_)
  ·
    obtain ⟨v, d, rfl, _⟩ := h
    rfl
  ·
    obtain ⟨v, d, rfl, hd, q⟩ := h
    refine ⟨_, (pss_one (ps_ret (pe_and (pe_call G_is_whole (hr.mono (by decide)) (by rfl) g_is_whole F_is_whole.kp b_is_whole .nil pass0 (pa_cons (pv 0) pa_nil)) (pe_one (pe_cmpR (r := rIn K false) op_in_seq (pv 0) (pe_tup (pa_cons pe_int (pa_cons (pe_un un_neg pe_int) pa_nil))) (by rfl)))))), ?_⟩
    refine w_st (σ' := [some v]) rfl ?_
    walk_at "ct"
    refine ⟨v, d, rfl, hd, ?_⟩
    cases hd with
    | int i =>
      refine w_bl (iteT ?_)
      walk_at "ct"
      refine ⟨len2 rfl, fun p np => ?_⟩
      refine w_inT (ns := [1, -1]) (.of upd_same) ?_
      have e : decide (i ∈ ([1, -1] : List Int)) = isWay (.int i) := by
        rw [Bool.eq_iff_iff, decide_eq_true_iff, isWay, Bool.or_eq_true, decide_eq_true_iff, decide_eq_true_iff]
        simp
      rw [e]
      exact q _ (same_upd np)
    | non =>
      refine w_bl (iteF ?_)
      exact q H (Same.refl H)
    | bl b =>
      refine w_bl (iteF ?_)
      exact q H (Same.refl H)
    | str s =>
      refine w_bl (iteF ?_)
      exact q H (Same.refl H)
    | lst g1 g2 =>
      refine w_bl (iteF ?_)
      exact q H (Same.refl H)
    | tup g1 g2 =>
      refine w_bl (iteF ?_)
      exact q H (Same.refl H)
abbrev S_wheel_pushed : Stmt := topS 16
theorem sc_wheel_pushed : FnScope ["part", "place", "way", "after", "tooth"] ["part", "place", "way"] (defScope S_wheel_pushed) := ⟨rfl, rfl, rfl, by decide +kernel, rfl, by decide +kernel, by decide +kernel⟩
def sp_wheel_pushed (K : PySem.W.Frag) : Sp := fun vs H Q _ => ∃ (v : V) (z : Int) (ms : List Int) (x w : Int), vs = [v, .int x, .int w] ∧ Dp K H v (Part.wheel z ms).data ∧ 1 ≤ z ∧ Sign w ∧ ∀ t H', Same H H' → H t = none → H' t = some (.tup [.int (pp (.wheel z ms) x w).1, .int (pp (.wheel z ms) x w).2]) → Q (.ref t) H'
theorem ok_wheel_pushed {f : Addr} {fd : FuncData} (F : Fun K "wheel_pushed" "wheel_pushed" S_wheel_pushed f fd) :
    FnOk P w K mg base CX0 1 f fd ["part", "place", "way"] (sp_wheel_pushed K) := by
  refine F.ok sc_wheel_pushed (fun vs H Q E h => ?_) (fun cdv A outer s H vs Q E hr h => ?_)
  ·
    obtain ⟨v, z, ms, x, w, rfl, _⟩ := h
    rfl
  ·
    obtain ⟨v, z, ms, x, w, rfl, hp, hz, hw, q⟩ := h
    refine ⟨_, (pss_cons (ps_set (i := 3) sc_wheel_pushed.nd rfl (.inl rfl) (pe_op op_mod (pe_op op_add (pv 1) (pv 2)) (pe_ix (r := rIxT K) ix_tup (pv 0) pe_int (fun _ _ => rfl))))
      (pss_cons (ps_set (i := 4) sc_wheel_pushed.nd rfl (.inl rfl) (pe_ifExp (pt_cmpR op_eq (pv 2) pe_int (nomark _)) (pv 3) (pv 1)))
      (pss_one (ps_ret (pe_tup (pa_cons (pv 3) (pa_cons (pe_ifExp (pt_cmpR (r := rIn K false) op_in_seq (pv 4) (pe_ix (r := rIxT K) ix_tup (pv 0) pe_int (fun _ _ => rfl)) (by rfl)) (pv 2) pe_int) pa_nil))))))), ?_⟩
    obtain ⟨a, b, rfl, ha, hb⟩ := wheel_inv hp
    refine w_st (σ' := [some (.ref a), some (.int x), some (.int w), none, none]) rfl ?_
    walk_at "ct"
    refine w_rI (by omega) ?_
    walk_at "ct"
    refine w_ite (fun e => ?_) (fun e => ?_)
    · walk_at "ct"
      refine w_inT hb ?_
      walk_at "ct"
      refine w_ite (fun e2 => ?_) (fun e2 => ?_)
      · walk_at "ct"
        refine ⟨len2 rfl, fun p np => ?_⟩
        refine q _ _ (same_upd np) np ?_
        rw [upd_same]
        simp only [pp]
        rw [if_pos e, if_pos e2]
      · walk_at "ct"
        refine ⟨len2 rfl, fun p np => ?_⟩
        refine q _ _ (same_upd np) np ?_
        rw [upd_same]
        simp only [pp]
        rw [if_pos e, if_neg e2]
    · walk_at "ct"
      refine w_inT hb ?_
      walk_at "ct"
      refine w_ite (fun e2 => ?_) (fun e2 => ?_)
      · walk_at "ct"
        refine ⟨len2 rfl, fun p np => ?_⟩
        refine q _ _ (same_upd np) np ?_
        rw [upd_same]
        simp only [pp]
        rw [if_neg e, if_pos e2]
      · walk_at "ct"
        refine ⟨len2 rfl, fun p np => ?_⟩
        refine q _ _ (same_upd np) np ?_
        rw [upd_same]
        simp only [pp]
        rw [if_neg e, if_neg e2]
abbrev S_rocker_pushed : Stmt := topS 17
theorem sc_rocker_pushed : FnScope ["place", "way"] ["place", "way"] (defScope S_rocker_pushed) := ⟨rfl, rfl, rfl, by decide +kernel, rfl, by decide +kernel, by decide +kernel⟩
def sp_rocker_pushed (K : PySem.W.Frag) : Sp := fun vs H Q _ => ∃ (x w : Int), vs = [.int x, .int w] ∧ Sign w ∧ ∀ t H', Same H H' → H t = none → H' t = some (.tup [.int (pp .rocker x w).1, .int (pp .rocker x w).2]) → Q (.ref t) H'
theorem ok_rocker_pushed {f : Addr} {fd : FuncData} (F : Fun K "rocker_pushed" "rocker_pushed" S_rocker_pushed f fd) :
    FnOk P w K mg base CX0 1 f fd ["place", "way"] (sp_rocker_pushed K) := by
  refine F.ok sc_rocker_pushed (fun vs H Q E h => ?_) (fun cdv A outer s H vs Q E hr h => ?_)
  ·
    obtain ⟨x, w, rfl, _⟩ := h
    rfl
  ·
    obtain ⟨x, w, rfl, hw, q⟩ := h
    refine ⟨_, (pss_cons (ps_if (pt_cmpR op_eq (pv 1) pe_int (nomark _)) (pss_one (ps_ret (pe_tup (pa_cons pe_int (pa_cons (pe_ifExp (pt_cmpR op_eq (pv 0) pe_int (nomark _)) pe_int pe_int) pa_nil))))) pss_nil)
      (pss_one (ps_ret (pe_tup (pa_cons pe_int (pa_cons pe_int pa_nil)))))), ?_⟩
    refine w_st (σ' := [some (.int x), some (.int w)]) rfl ?_
    walk_at "ct"
    refine w_ite (fun e => ?_) (fun e => ?_)
    · walk_at "ct"
      refine w_ite (fun e2 => ?_) (fun e2 => ?_)
      · walk_at "ct"
        refine ⟨len2 rfl, fun p np => ?_⟩
        refine q _ _ (same_upd np) np ?_
        rw [upd_same]
        simp only [pp]
        rw [if_pos e, if_pos ⟨e, e2⟩]
      · walk_at "ct"
        refine ⟨len2 rfl, fun p np => ?_⟩
        refine q _ _ (same_upd np) np ?_
        rw [upd_same]
        simp only [pp]
        rw [if_pos e, if_neg fun z => e2 z.2]
    · walk_at "ct"
      refine ⟨len2 rfl, fun p np => ?_⟩
      refine q _ _ (same_upd np) np ?_
      rw [upd_same]
      simp only [pp]
      rw [if_neg e, if_neg fun z => e z.1]
abbrev S_spring_pushed : Stmt := topS 18
theorem sc_spring_pushed : FnScope ["part", "place", "way"] ["part", "place", "way"] (defScope S_spring_pushed) := ⟨rfl, rfl, rfl, by decide +kernel, rfl, by decide +kernel, by decide +kernel⟩
def sp_spring_pushed (K : PySem.W.Frag) : Sp := fun vs H Q _ => ∃ (v : V) (k x w : Int), vs = [v, .int x, .int w] ∧ Dp K H v (Part.spring k).data ∧ 0 ≤ x ∧ Sign w ∧ ∀ t H', Same H H' → H t = none → H' t = some (.tup [.int (pp (.spring k) x w).1, .int (pp (.spring k) x w).2]) → Q (.ref t) H'
theorem ok_spring_pushed {f : Addr} {fd : FuncData} (F : Fun K "spring_pushed" "spring_pushed" S_spring_pushed f fd) (m_max : mg "max" = none) :
    FnOk P w K mg base CX0 1 f fd ["part", "place", "way"] (sp_spring_pushed K) := by
  refine F.ok sc_spring_pushed (fun vs H Q E h => ?_) (fun cdv A outer s H vs Q E hr h => ?_)
  ·
    obtain ⟨v, k, x, w, rfl, _⟩ := h
    rfl
  ·
    obtain ⟨v, k, x, w, rfl, hp, x0, hw, q⟩ := h
    refine ⟨_, (pss_cons (ps_if (pt_cmpR op_eq (pv 2) (pe_un un_neg pe_int) (nomark _)) (pss_one (ps_ret (pe_tup (pa_cons (pe_callB (call_max2 rfl) (by rfl) m_max (by decide +kernel) (pa_cons pe_int (pa_cons (pe_op op_sub (pv 1) pe_int) pa_nil))) (pa_cons pe_int pa_nil))))) pss_nil)
      (pss_cons (ps_if (pt_cmpR op_eq (pv 1) (pe_op op_sub (pe_ix (r := rIxT K) ix_tup (pv 0) pe_int (fun _ _ => rfl)) pe_int) (nomark _)) (pss_one (ps_ret (pe_tup (pa_cons pe_int (pa_cons pe_int pa_nil))))) pss_nil)
      (pss_one (ps_ret (pe_tup (pa_cons (pe_op op_add (pv 1) pe_int) (pa_cons pe_int pa_nil))))))), ?_⟩
    obtain ⟨a, rfl, ha⟩ := spring_inv hp
    refine w_st (σ' := [some (.ref a), some (.int x), some (.int w)]) rfl ?_
    walk_at "ct"
    refine w_ite (fun e => ?_) (fun e => ?_)
    · walk_at "ct"
      refine ⟨_, _, rfl, ?_⟩
      walk_at "ct"
      refine ⟨len2 rfl, fun p np => ?_⟩
      refine q _ _ (same_upd np) np ?_
      rw [upd_same]
      simp only [pp]
      rw [if_neg (show ¬ w = 1 by omega)]
    · have e1 : w = 1 := hw.elim id fun z => absurd z e
      walk_at "ct"
      refine w_ite (fun e2 => ?_) (fun e2 => ?_)
      · walk_at "ct"
        refine ⟨len2 rfl, fun p np => ?_⟩
        refine q _ _ (same_upd np) np ?_
        rw [upd_same]
        simp only [pp]
        rw [if_pos e1, if_pos e2]
      · walk_at "ct"
        refine ⟨len2 rfl, fun p np => ?_⟩
        refine q _ _ (same_upd np) np ?_
        rw [upd_same]
        simp only [pp]
        rw [if_pos e1, if_neg e2]
abbrev S_part_pushed : Stmt := topS 19
theorem sc_part_pushed : FnScope ["part", "place", "way"] ["part", "place", "way"] (defScope S_part_pushed) := ⟨rfl, rfl, rfl, by decide +kernel, rfl, by decide +kernel, by decide +kernel⟩
def sp_part_pushed (K : PySem.W.Frag) : Sp := fun vs H Q _ => ∃ (v : V) (p : Part) (x w : Int), vs = [v, .int x, .int w] ∧ Dp K H v p.data ∧ p.ok ∧ 0 ≤ x ∧ x < p.places ∧ Sign w ∧ ∀ t H', Same H H' → H t = none → H' t = some (.tup [.int (pp p x w).1, .int (pp p x w).2]) → Q (.ref t) H'
theorem ok_part_pushed {f : Addr} {fd : FuncData} {f_spring_pushed : Addr} {fd_spring_pushed : FuncData} {f_rocker_pushed : Addr} {fd_rocker_pushed : FuncData} {f_wheel_pushed : Addr} {fd_wheel_pushed : FuncData} (F : Fun K "part_pushed" "part_pushed" S_part_pushed f fd)
    (F_spring_pushed : Fun K "spring_pushed" "spring_pushed" S_spring_pushed f_spring_pushed fd_spring_pushed) (b_spring_pushed : Binds K fd_spring_pushed ["part", "place", "way"] []) (g_spring_pushed : mg "spring_pushed" = some (.ref f_spring_pushed)) (G_spring_pushed : FnOk P w K mg base CX0 1 f_spring_pushed fd_spring_pushed ["part", "place", "way"] (sp_spring_pushed K))
    (F_rocker_pushed : Fun K "rocker_pushed" "rocker_pushed" S_rocker_pushed f_rocker_pushed fd_rocker_pushed) (b_rocker_pushed : Binds K fd_rocker_pushed ["place", "way"] []) (g_rocker_pushed : mg "rocker_pushed" = some (.ref f_rocker_pushed)) (G_rocker_pushed : FnOk P w K mg base CX0 1 f_rocker_pushed fd_rocker_pushed ["place", "way"] (sp_rocker_pushed K))
    (F_wheel_pushed : Fun K "wheel_pushed" "wheel_pushed" S_wheel_pushed f_wheel_pushed fd_wheel_pushed) (b_wheel_pushed : Binds K fd_wheel_pushed ["part", "place", "way"] []) (g_wheel_pushed : mg "wheel_pushed" = some (.ref f_wheel_pushed)) (G_wheel_pushed : FnOk P w K mg base CX0 1 f_wheel_pushed fd_wheel_pushed ["part", "place", "way"] (sp_wheel_pushed K)) :
    FnOk P w K mg base CX0 2 f fd ["part", "place", "way"] (sp_part_pushed K) := by
  refine F.ok sc_part_pushed (fun vs H Q E h => ?_) (fun cdv A outer s H vs Q E hr h => ?_)
  ·
    obtain ⟨v, p, x, w, rfl, _⟩ := h
    rfl
  ·
    obtain ⟨v, p, x, w, rfl, hp, hok, x0, x1, hw, q⟩ := h
    refine ⟨_, (pss_cons (ps_if (pt_cmpR op_eq (pe_ix (r := rIxT K) ix_tup (pv 0) pe_int (fun _ _ => rfl)) pe_str (nomark _)) (pss_one (ps_ret (pe_call G_wheel_pushed (hr.mono (by decide)) (by rfl) g_wheel_pushed F_wheel_pushed.kp b_wheel_pushed .nil pass0 (pa_cons (pv 0) (pa_cons (pv 1) (pa_cons (pv 2) pa_nil)))))) pss_nil)
      (pss_cons (ps_if (pt_cmpR op_eq (pe_ix (r := rIxT K) ix_tup (pv 0) pe_int (fun _ _ => rfl)) pe_str (nomark _)) (pss_one (ps_ret (pe_call G_rocker_pushed (hr.mono (by decide)) (by rfl) g_rocker_pushed F_rocker_pushed.kp b_rocker_pushed .nil pass0 (pa_cons (pv 1) (pa_cons (pv 2) pa_nil))))) pss_nil)
      (pss_cons (ps_if (pt_cmpR op_eq (pe_ix (r := rIxT K) ix_tup (pv 0) pe_int (fun _ _ => rfl)) pe_str (nomark _)) (pss_one (ps_ret (pe_call G_spring_pushed (hr.mono (by decide)) (by rfl) g_spring_pushed F_spring_pushed.kp b_spring_pushed .nil pass0 (pa_cons (pv 0) (pa_cons (pv 1) (pa_cons (pv 2) pa_nil)))))) pss_nil)
      (pss_one (ps_ret (pe_tup (pa_cons (pv 1) (pa_cons (pe_ifExp (pt_cmpR op_eq (pv 2) pe_int (nomark _)) pe_int pe_int) pa_nil)))))))), ?_⟩
    refine w_st (σ' := [some v, some (.int x), some (.int w)]) rfl ?_
    cases p with
    | wheel z ms =>
      obtain ⟨a, b, rfl, ha, hb⟩ := wheel_inv hp
      walk_at "ct"
      exact ⟨_, z, ms, x, w, rfl, hp, hok.1, hw, q⟩
    | click =>
      obtain ⟨a, rfl, ha⟩ := click_inv hp
      have x2 : x < 1 := x1
      have ex : x = 0 := by omega
      subst ex
      walk_at "ct"
      refine w_ite (fun e => ?_) (fun e => ?_)
      · walk_at "ct"
        refine ⟨len2 rfl, fun p np => ?_⟩
        refine q _ _ (same_upd np) np ?_
        rw [upd_same]
        simp only [pp]
        rw [if_pos e]
      · walk_at "ct"
        refine ⟨len2 rfl, fun p np => ?_⟩
        refine q _ _ (same_upd np) np ?_
        rw [upd_same]
        simp only [pp]
        rw [if_neg e]
    | rocker =>
      obtain ⟨a, rfl, ha⟩ := rocker_inv hp
      walk_at "ct"
      exact ⟨x, w, rfl, hw, q⟩
    | spring k =>
      obtain ⟨a, rfl, ha⟩ := spring_inv hp
      walk_at "ct"
      exact ⟨_, k, x, w, rfl, hp, x0, hw, q⟩
abbrev S_pushed : Stmt := topS 20
theorem sc_pushed : FnScope ["train", "stand", "i", "way", "places", "given", "number"] ["train", "stand", "i", "way"] (defScope S_pushed) := ⟨rfl, rfl, rfl, by decide +kernel, rfl, by decide +kernel, by decide +kernel⟩
def sp_pushed (K : PySem.W.Frag) : Sp := fun vs H Q _ => ∃ (a t : Addr) (ps : List Part) (xs : List Int) (i : Nat) (w : Int), vs = [.ref a, .ref t, .int i, .int w] ∧ TrainAt K H a ps ∧ (∀ p ∈ ps, p.ok) ∧ SqT K H t (xs.map V.int) ∧ StandOk ps xs ∧ i ≤ ps.length ∧ ps.length ≤ 1000 ∧ Sign w ∧
  ∀ q u H', Same H H' → H u = none → H q = none → H' u = some (.tup ((run ps xs i w).1.map V.int)) → H' q = some (.tup [.ref u, .int (run ps xs i w).2]) → Q (.ref q) H'
theorem ok_pushed {f : Addr} {fd : FuncData} {f_part_pushed : Addr} {fd_part_pushed : FuncData} (F : Fun K "pushed" "pushed" S_pushed f fd)
    (F_part_pushed : Fun K "part_pushed" "part_pushed" S_part_pushed f_part_pushed fd_part_pushed) (b_part_pushed : Binds K fd_part_pushed ["part", "place", "way"] []) (g_part_pushed : mg "part_pushed" = some (.ref f_part_pushed)) (G_part_pushed : FnOk P w K mg base CX0 2 f_part_pushed fd_part_pushed ["part", "place", "way"] (sp_part_pushed K)) (m_list : mg "list" = none) (m_range : mg "range" = none) (m_len : mg "len" = none) (m_tuple : mg "tuple" = none) :
    FnOk P w K mg base CX0 3 f fd ["train", "stand", "i", "way"] (sp_pushed K) := by
  refine F.ok sc_pushed (fun vs H Q E h => ?_) (fun cdv A outer s H vs Q E hr h => ?_)
  ·
    obtain ⟨a, t, ps, xs, i, w, rfl, _⟩ := h
    rfl
  ·
    obtain ⟨a, t, ps, xs, i, w, rfl, ⟨vs, hv, hd⟩, hok, hS, hso, hi, hps, hw, q⟩ := h
    refine ⟨_, (pss_cons (ps_set (i := 4) sc_pushed.nd rfl (.inl rfl) (pe_callTy call_list_of (by rfl) m_list (by decide +kernel) (pa_cons (pv 1) pa_nil)))
      (pss_cons (ps_set (i := 5) sc_pushed.nd rfl (.inl rfl) (pv 3))
      (pss_cons (ps_for PassesOwn.never rfl (pi_range2 (by rfl) m_range (pa_cons (pv 2) (pa_cons (pe_callB call_len_seq (by rfl) m_len (by decide +kernel) (pa_cons (pv 0) pa_nil)) pa_nil))) (pg_name (i := 6) sc_pushed.nd rfl (.inl rfl))
      (pss_cons (ps_if (pt_cmpR op_eq (pv 5) pe_int (nomark _)) (pss_one ps_break) pss_nil)
      (pss_one (ps_asg (pe_call G_part_pushed (hr.mono (by decide)) (by rfl) g_part_pushed F_part_pushed.kp b_part_pushed .nil pass0 (pa_cons (pe_ix (r := rIxL K) ix_list (pv 0) (pv 6) (fun _ _ => rfl)) (pa_cons (pe_ix (r := rIxL K) ix_list (pv 4) (pv 6) (fun _ _ => rfl)) (pa_cons (pv 5) pa_nil)))) (pg_tup rfl (pgs_cons (pg_sub (pv 4) (pv 6) set_list) (pgs_cons (pg_name (i := 5) sc_pushed.nd rfl (.inl rfl)) pgs_nil)))))))
      (pss_one (ps_ret (pe_tup (pa_cons (pe_callTy call_tuple_of (by rfl) m_tuple (by decide +kernel) (pa_cons (pv 4) pa_nil)) (pa_cons (pv 5) pa_nil)))))))), ?_⟩
    refine w_st (σ' := [some (.ref a), some (.ref t), some (.int i), some (.int w), none, none, none]) rfl ?_
    have hvl : vs.length = ps.length := by rw [dpAll_len hd, List.length_map]
    have hxl : xs.length = ps.length := hso.1
    walk_at "ct"
    refine ⟨t, _, rfl, .inr hS, fun l nl => ?_⟩
    walk_at "ct"
    refine ⟨a, vs, rfl, .inl ((same_upd nl).seq hv), ?_⟩
    walk_at "ct"
    refine w_RG2 (by omega) (by omega) (by omega) (by omega) ?_
    rw [show ((vs.length : Int) - (i : Int)).toNat = ps.length - i by omega]
    refine fb_range (fun n σ H' => ∃ y, σ = [some (.ref a), some (.ref t), some (.int i), some (.int w), some (.ref l), some (.int (runN ps i (xs, w) n).2), y] ∧ Same H H' ∧ H' l = some (.lst ((runN ps i (xs, w) n).1.map V.int))) ⟨none, rfl, same_upd nl, upd_same⟩ ?_ ?_
    · rintro n σ H' hn ⟨y, rfl, sm, hl⟩
      obtain ⟨p, hp⟩ : ∃ p, ps[i + n]? = some p := ⟨_, List.getElem?_eq_getElem (by omega)⟩
      obtain ⟨v, hv1, hd1⟩ := TrainAt.at (a := a) hd hp
      obtain ⟨x, hx⟩ : ∃ x, xs[i + n]? = some x := ⟨_, List.getElem?_eq_getElem (by omega)⟩
      have hx2 : (runN ps i (xs, w) n).1[i + n]? = some x := by
        rw [runN_ahead ps i (xs, w) n (i + n) (Nat.le_refl _)]
        exact hx
      have hx0 := hso.2 _ _ _ hp hx
      walk_at "ct"
      refine w_ite (fun e => ?_) (fun e => ?_)
      · walk_at "ct"
        have er : run ps xs i w = runN ps i (xs, w) n := by
          unfold Ct.run
          rw [show ps.length - i = n + (ps.length - i - n) by omega]
          exact runN_zero e _
        rw [← er] at hl
        rw [← er]
        refine ⟨l, _, rfl, .inl ⟨.of hl, fun u nu => ?_⟩⟩
        walk_at "ct"
        refine ⟨len2 rfl, fun p np => ?_⟩
        have s2 : Same H (upd H' u (.tup ((run ps xs i w).1.map V.int))) := same_new sm (sm.free nu)
        exact q p u _ (same_new s2 (s2.free np)) (sm.free nu) (s2.free np) (by rw [upd_ne (ne_of_none upd_same np)]; exact upd_same) upd_same
      ·
        walk_at "ct"
        refine w_ixL (sm.seq hv) (at_of (j := i + n) (by omega) hv1) ?_
        walk_at "ct"
        refine w_ixL (.of hl) (at_of (j := i + n) (by omega) (by rw [List.getElem?_map, hx2]; rfl)) ?_
        walk_at "ct"
        refine ⟨v, p, x, _, rfl, dp_same sm hd1, hok p (List.mem_of_getElem? hp), hx0.1, hx0.2, (runN_sign ps i (xs, w) hw n).resolve_left e, fun u H1 s1 n1 hu => ?_⟩
        refine w_gtup (.of hu) rfl ?_
        walk_at "ct"
        refine w_setL (s1 _ _ hl) (ix_at (j := i + n) (by omega) (by rw [List.length_map, runN_len]; show i + n < xs.length; omega)) ?_
        walk_at "ct"
        have er : runN ps i (xs, w) (n + 1) = ((runN ps i (xs, w) n).1.set (i + n) (pp p x (runN ps i (xs, w) n).2).1, (pp p x (runN ps i (xs, w) n).2).2) := stp_at e hp hx2
        refine ⟨some (.int ((i : Int) + (n : Int))), ?_, same_new (sm.trans s1) nl, ?_⟩
        · rw [er]
        · rw [er, upd_same, List.map_set]
    · rintro σ H' ⟨y, rfl, sm, hl⟩
      ·
        walk_at "ct"
        refine ⟨l, _, rfl, .inl ⟨.of hl, fun u nu => ?_⟩⟩
        walk_at "ct"
        refine ⟨len2 rfl, fun p np => ?_⟩
        have s2 : Same H (upd H' u (.tup ((run ps xs i w).1.map V.int))) := same_new sm (sm.free nu)
        exact q p u _ (same_new s2 (s2.free np)) (sm.free nu) (s2.free np) (by rw [upd_ne (ne_of_none upd_same np)]; exact upd_same) upd_same
abbrev S_Mover____init__ : Stmt := inClass (topS 23) 0
theorem sc_Mover____init__ : FnScope ["self", "train", "pushes"] ["self", "train", "pushes"] (defScope S_Mover____init__) := ⟨rfl, rfl, rfl, by decide +kernel, rfl, by decide +kernel, by decide +kernel⟩
def sp_Mover____init__ (w : World) (K : PySem.W.Frag) (c_Mover : Addr) : Sp := fun vs H Q _ => ∃ (p dx tr u : Addr) (ps : List Part) (pus : List (Nat × Int)), vs = [.ref p, .ref tr, .ref u] ∧ H p = some (.ins c_Mover dx []) ∧ TrainAt K H tr ps ∧ Dp K H (.ref u) (.tuple (pus.map psD)) ∧
  ∀ kn H', H kn = none → Keep [p] H H' → TupK H H' → MoverAt w K c_Mover H' p kn ps pus [] [] → Q .non H'
theorem ok_Mover____init__ {f : Addr} {fd : FuncData} {c_Mover : Addr} (F : Fun K "__init__" "Mover.__init__" S_Mover____init__ f fd)
    (CL_Mover : Cls K c_Mover)
    (NA_Mover_known : NoAttr K c_Mover "known")
    (NA_Mover_pushes : NoAttr K c_Mover "pushes")
    (NA_Mover_train : NoAttr K c_Mover "train") :
    FnOk P w K mg base CX0 1 f fd ["self", "train", "pushes"] (sp_Mover____init__ w K c_Mover) := by
  refine F.ok sc_Mover____init__ (fun vs H Q E h => ?_) (fun cdv A outer s H vs Q E hr h => ?_)
  ·
    obtain ⟨p, dx, tr, u, ps, pus, rfl, _⟩ := h
    rfl
  ·
    obtain ⟨p, dx, tr, u, ps, pus, rfl, hp, hT, hu, q⟩ := h
    refine ⟨_, (pss_cons (ps_fld (pv 0) (pv 1) rfl)
      (pss_cons (ps_fld (pv 0) (pv 2) rfl)
      (pss_one (ps_fld (pv 0) pe_dnewN rfl)))), ?_⟩
    refine w_st (σ' := [some (.ref p), some (.ref tr), some (.ref u)]) rfl ?_
    have one : ∀ {G : Hp} {fs : List (Str × V)}, G p = some (.ins c_Mover dx fs) → ∀ b ∈ [p], ∀ ys, ¬ Rd G b (.lst ys) := fun {G fs} e b hb ys => by
      rw [List.mem_singleton.mp hb]
      exact not_rdL e rfl ys
    walk_at "ct"
    refine w_fset hp CL_Mover NA_Mover_train (by decide) ?_
    have k1 : Keep [p] H (upd H p (.ins c_Mover dx (putF "train" (.ref tr) []))) := keep_upd List.mem_cons_self
    have t1 : TupK H (upd H p (.ins c_Mover dx (putF "train" (.ref tr) []))) := tupK_upd hp rfl
    have h1 : (upd H p (.ins c_Mover dx (putF "train" (.ref tr) []))) p = some (.ins c_Mover dx (putF "train" (.ref tr) [])) := upd_same
    have hT1 := trainAt_keep k1 t1 (one hp) hT
    have hu1 := dp_td t1 (td_pus pus) hu
    generalize upd H p _ = H1 at *
    walk_at "ct"
    refine w_fset h1 CL_Mover NA_Mover_pushes (show 1 < 1000 by decide) ?_
    have k2 : Keep [p] H1 (upd H1 p (.ins c_Mover dx (putF "pushes" (.ref u) (putF "train" (.ref tr) [])))) := keep_upd List.mem_cons_self
    have t2 : TupK H1 (upd H1 p (.ins c_Mover dx (putF "pushes" (.ref u) (putF "train" (.ref tr) [])))) := tupK_upd h1 rfl
    have h2 : (upd H1 p (.ins c_Mover dx (putF "pushes" (.ref u) (putF "train" (.ref tr) [])))) p = some (.ins c_Mover dx (putF "pushes" (.ref u) (putF "train" (.ref tr) []))) := upd_same
    have hT2 := trainAt_keep k2 t2 (one h1) hT1
    have hu2 := dp_td t2 (td_pus pus) hu1
    generalize upd H1 p _ = H2 at *
    walk_at "ct"
    refine w_ndnew (w := w) (K := K) fun kn nkn o hk => ?_
    have pk : p ≠ kn := ne_of_none h2 nkn
    have s3 : Same H2 (upd H2 kn o) := same_upd nkn
    have h3 := s3 _ _ h2
    have hT3 := hT2.same s3
    have hu3 := dp_same s3 hu2
    generalize upd H2 kn o = H3 at *
    walk_at "ct"
    refine w_fset h3 CL_Mover NA_Mover_known (fldsM_two _ _) ?_
    obtain ⟨xk, ek⟩ := hk.ext
    have k4 : Keep [p] H3 (upd H3 p (.ins c_Mover dx (putF "known" (.ref kn) (putF "pushes" (.ref u) (putF "train" (.ref tr) []))))) := keep_upd List.mem_cons_self
    have t4 : TupK H3 (upd H3 p (.ins c_Mover dx (putF "known" (.ref kn) (putF "pushes" (.ref u) (putF "train" (.ref tr) []))))) := tupK_upd h3 rfl
    have h4 : (upd H3 p (.ins c_Mover dx (putF "known" (.ref kn) (putF "pushes" (.ref u) (putF "train" (.ref tr) []))))) p = some (.ins c_Mover dx (fldsM (.ref tr) (.ref u) kn)) := upd_same
    have hT4 := trainAt_keep k4 t4 (one h3) hT3
    have hu4 := dp_td t4 (td_pus pus) hu3
    have hk4 := hk.tup t4 (by rw [upd_ne pk.symm])
    generalize upd H3 p _ = H4 at *
    refine q kn H4 ?_ ((k1.trans k2).trans ((keep_same s3).trans k4)) ((t1.trans t2).trans ((tupK_same s3).trans t4)) ⟨⟨dx, tr, u, h4, hT4, hu4⟩, hk4, fun _ _ z => nomatch z⟩
    cases hb : H kn with
    | none => rfl
    | some o => rw [(k1.trans k2) kn o (fun z => pk (List.mem_singleton.mp z).symm) hb] at nkn; cases nkn
abbrev S_Mover__moves : Stmt := inClass (topS 23) 1
theorem sc_Mover__moves : FnScope ["self", "stand", "i", "way"] ["self", "stand"] (defScope S_Mover__moves) := ⟨rfl, rfl, rfl, by decide +kernel, rfl, by decide +kernel, by decide +kernel⟩
def sp_Mover__moves (w : World) (K : PySem.W.Frag) (c_Mover : Addr) : Sp := fun vs H Q _ => ∃ (p kn t : Addr) (ps : List Part) (pus : List (Nat × Int)) (kvs : List (NestedKey × V)) (xs : List Int) (av : List Addr), vs = [.ref p, .ref t] ∧ MoverAt w K c_Mover H p kn ps pus kvs av ∧ (∀ a ∈ av, H a ≠ none) ∧ (∀ p ∈ ps, p.ok) ∧ 1 ≤ ps.length ∧ ps.length ≤ 1000 ∧ (∀ q ∈ pus, q.1 ≤ ps.length ∧ Sign q.2) ∧ pus.length ≤ 1000 ∧ kvs.length ≤ 15000000 ∧ Dp K H (.ref t) (tupD xs) ∧ StandL ps xs ∧
  ∀ l ws kvs' H', Keep [kn] H H' → MoverAt w K c_Mover H' p kn ps pus kvs' av → kvs'.length ≤ kvs.length + 1 → l ∉ av → H' l = some (.lst ws) → DpAll K H' ws ((movesOf ps pus xs).map mvD) → Q (.ref l) H'
theorem ok_Mover__moves {f : Addr} {fd : FuncData} {f_pushed : Addr} {fd_pushed : FuncData} {c_Mover : Addr} (F : Fun K "moves" "Mover.moves" S_Mover__moves f fd)
    (CL_Mover : Cls K c_Mover)
    (NA_Mover_known : NoAttr K c_Mover "known")
    (NA_Mover_pushes : NoAttr K c_Mover "pushes")
    (NA_Mover_train : NoAttr K c_Mover "train")
    (F_pushed : Fun K "pushed" "pushed" S_pushed f_pushed fd_pushed) (b_pushed : Binds K fd_pushed ["train", "stand", "i", "way"] []) (g_pushed : mg "pushed" = some (.ref f_pushed)) (G_pushed : FnOk P w K mg base CX0 3 f_pushed fd_pushed ["train", "stand", "i", "way"] (sp_pushed K)) :
    FnOk P w K mg base CX0 4 f fd ["self", "stand"] (sp_Mover__moves w K c_Mover) := by
  refine F.ok sc_Mover__moves (fun vs H Q E h => ?_) (fun cdv A outer s H vs Q E hr h => ?_)
  ·
    obtain ⟨p, kn, t, ps, pus, kvs, xs, av, rfl, _⟩ := h
    rfl
  ·
    obtain ⟨p, kn, t, ps, pus, kvs, xs, av, rfl, M, hav, hok, l1, l2, hpus, pl, few, ht, st, q⟩ := h
    refine ⟨_, (pss_cons (ps_if (pt_cmp (pc_ndnotin hr.units (pv 1) (pe_fldK (K := K) rfl (pv 0) rfl))) (pss_one (ps_ndput hr.units (pe_fldK (K := K) rfl (pv 0) rfl) (pv 1) (pe_lc (own := [("i", 2), ("way", 3)]) (g := gTup K 2 (gCons (gName 2) (gCons (gName 3) gNil)))  rfl sc_Mover__moves.nd  (pi_tup (pe_fldK (K := K) rfl (pv 0) rfl)) (blkOk_by (own := [("i", 2), ("way", 3)]) (N := ["self", "stand", "i", "way"]) (sc := defScope S_Mover__moves) (by decide +kernel)) (fun _ _ _ _ _ => pg_tup rfl (pgs_cons (pg_name (i := 2) sc_Mover__moves.nd rfl (Or.inl rfl)) (pgs_cons (pg_name (i := 3) sc_Mover__moves.nd rfl (Or.inl rfl)) pgs_nil))) (fun _ _ _ _ _ => pts_nil) (fun _ _ _ _ _ => (pe_call G_pushed (hr.mono (by decide)) (by rfl) g_pushed F_pushed.kp b_pushed .nil pass0 (pa_cons (pe_fldK (K := K) rfl (pv 0) rfl) (pa_cons (pv 1) (pa_cons (pv 2) (pa_cons (pv 3) pa_nil))))))) rfl)) pss_nil)
      (pss_one (ps_ret (pe_ndget hr.units (pe_fldK (K := K) rfl (pv 0) rfl) (pv 1) (fun _ _ => rfl))))), ?_⟩
    refine w_st (σ' := [some (.ref p), some (.ref t), none, none]) rfl ?_
    obtain ⟨⟨dx, tr, u, hp, hT, hu⟩, hk, right⟩ := id M
    walk_at "ct"
    refine ⟨p, c_Mover, dx, _, _, rfl, hp, CL_Mover, NA_Mover_known, fldsM_known _ _ _, ?_⟩
    have htk : Dp K H (.ref t) (nkD (skey xs)) := by rw [skey_D]; exact ht
    refine ⟨kn, _, rfl, ⟨_, skey xs, t, rfl, hk, skey_depth xs, htk, rfl⟩, ?_⟩
    cases ev : valV kvs (skey xs) with
    | some v =>
      obtain ⟨ys, l, ws, e1, sy, rfl, lav, hl, dl⟩ := right _ _ (valV_mem ev)
      have exy := skey_inj e1
      subst exy
      walk_at "ct"
      refine L2.iteF ?_
      walk_at "ct"
      refine ⟨p, c_Mover, dx, _, _, rfl, hp, CL_Mover, NA_Mover_known, fldsM_known _ _ _, ?_⟩
      walk_at "ct"
      refine ⟨kn, _, rfl, ⟨_, skey xs, t, rfl, hk, skey_depth xs, htk, ev.symm⟩, ?_⟩
      exact q l ws kvs H Keep.refl M (Nat.le_succ _) lav hl dl
    | none =>
      walk_at "ct"
      refine L2.iteT ?_
      walk_at "ct"
      obtain ⟨u', us, eu, hus, dus⟩ := tup_inv hu
      cases eu
      have ul : us.length = pus.length := by rw [dpAll_len dus, List.length_map]
      obtain ⟨xk, ek⟩ := hk.ext
      refine ⟨p, c_Mover, dx, _, _, rfl, hp, CL_Mover, NA_Mover_pushes, fldsM_pushes _ _ _, ?_⟩
      refine w_IT hus ?_
      refine lb_tup us (fun D i G => ∃ ws, Same H G ∧ G D = some (.lst ws) ∧ DpAll K G ws ((movesOf ps (pus.take i) xs).map mvD) ∧ ws.length = i) (fun D nD => ⟨[], same_upd nD, upd_same, by rw [List.take_zero]; exact .nil, rfl⟩) (fun D nD i G _ h => by obtain ⟨ws, sG, _⟩ := h; exact Same.tup sG hus) ?_ ?_
      · rintro D nD i x G hx ⟨ws, sG, hD, dws, wl⟩
        have hi : i < us.length := (List.getElem?_eq_some_iff.mp hx).1
        obtain ⟨qq, hq⟩ : ∃ qq, pus[i]? = some qq := ⟨_, List.getElem?_eq_getElem (by omega)⟩
        obtain ⟨x', hx', hdq⟩ := dpAll_get (dpAll_same sG dus) (i := i) (d := psD qq) (by rw [List.getElem?_map, hq]; rfl)
        cases Option.some.inj (hx.symm.trans hx')
        obtain ⟨ga, rfl, hga⟩ := ps_inv hdq
        have okq := hpus qq (List.mem_of_getElem? hq)
        refine w_gtup hga rfl ?_
        walk_at "ct"
        refine ⟨rfl, ?_⟩
        walk_at "ct"
        refine ⟨p, c_Mover, dx, _, _, rfl, sG _ _ hp, CL_Mover, NA_Mover_train, fldsM_train _ _ _, ?_⟩
        walk_at "ct"
        obtain ⟨t', et, ht'⟩ := tupD_inv (dp_same sG ht)
        cases et
        refine ⟨tr, t, ps, xs, qq.1, qq.2, rfl, hT.same sG, hok, ht', st.ok, okq.1, l2, okq.2, fun q2 u2 G2 s2 nu2 nq2 hu2 hq2 => ?_⟩
        have hD2 := s2 _ _ hD
        refine ⟨ws, hD2, small1000 (by omega), ws ++ [.ref q2], same_new (sG.trans s2) nD, upd_same, ?_, by rw [List.length_append, wl]; rfl⟩
        have tk : TupK G2 (upd G2 D (.lst (ws ++ [.ref q2]))) := tupK_upd hD2 rfl
        rw [List.take_add_one, hq]
        show DpAll K _ _ (List.map mvD (movesOf ps (pus.take i ++ [qq]) xs))
        unfold movesOf
        rw [List.map_append, List.map_append]
        refine dpAll_app (dpAll_td tk (tds_all fun m _ => td_mvD m) (dpAll_same s2 dws)) (.cons (dp_td tk (td_mvD _) ?_) .nil)
        exact .tup (.of hq2) (.cons (tupD_dp (.of hu2)) (.cons (.int _) .nil))
      rintro D nD G ⟨ws, sG, hD, dws, wl⟩
      rw [List.take_of_length_le (by omega)] at dws
      walk_at "ct"
      refine ⟨p, c_Mover, dx, _, _, rfl, sG _ _ hp, CL_Mover, NA_Mover_known, fldsM_known _ _ _, ?_⟩
      walk_at "ct"
      have hkG := hk.same sG
      obtain ⟨xkG, ekG⟩ := hkG.ext
      have nin : skey xs ∉ kvs.map (·.1) := valV_not ev
      refine ⟨kn, t, kvs, skey xs, rfl, rfl, hkG, skey_depth xs, dp_same sG htk, ev, Nat.lt_of_le_of_lt few (by decide), fun o hk2 => ?_⟩
      have k2 : Keep [kn] G (upd G kn o) := keep_upd List.mem_cons_self
      have t2 : TupK G (upd G kn o) := tupK_upd ekG rfl
      have pk : p ≠ kn := ne_of hp ek (fun z => nomatch z)
      have kD : D ≠ kn := ne_of hD ekG (fun z => nomatch z)
      have noL : ∀ b ∈ [kn], ∀ ys, ¬ Rd G b (.lst ys) := fun b hb ys => by rw [List.mem_singleton.mp hb]; exact not_rdL ekG rfl ys
      have hp2 : (upd G kn o) p = some (.ins c_Mover dx (fldsM (.ref tr) (.ref u) kn)) := by rw [upd_ne pk]; exact sG _ _ hp
      have hD2 : (upd G kn o) D = some (.lst ws) := by rw [upd_ne kD]; exact hD
      have dws2 := dpAll_td t2 (tds_all fun m _ => td_mvD m) dws
      have hT2 := trainAt_keep k2 t2 noL (hT.same sG)
      have hu2 := dp_td t2 (td_pus pus) (dp_same sG hu)
      have right2 := (right.same sG).keep k2 t2 (fun b hb => .inr fun ws z => noL b hb ws (.inl z))
      have ht2 := dp_td t2 (td_nk (skey xs)) (dp_same sG htk)
      have kH : Keep [kn] H (upd G kn o) := (keep_same sG).trans k2
      generalize upd G kn o = G2 at *
      walk_at "ct"
      refine ⟨p, c_Mover, dx, _, _, rfl, hp2, CL_Mover, NA_Mover_known, fldsM_known _ _ _, ?_⟩
      walk_at "ct"
      refine ⟨kn, .ref D, rfl, ⟨_, skey xs, t, rfl, hk2, skey_depth xs, ht2, by rw [valV_snoc _ _ _ _ ev, if_pos rfl]⟩, ?_⟩
      refine q D ws _ G2 kH ⟨⟨dx, tr, u, hp2, hT2, hu2⟩, hk2, fun k v hkv => ?_⟩ (by rw [List.length_append]; exact Nat.le_refl _) (fun z => hav D z nD) hD2 dws2
      rcases List.mem_append.mp hkv with hkv | hkv
      · exact right2 k v hkv
      · have e := List.mem_singleton.mp hkv
        cases e
        exact ⟨xs, D, ws, rfl, st, rfl, fun z => hav D z nD, hD2, dws2⟩
abbrev S_held_against : Stmt := topS 24
theorem sc_held_against : FnScope ["one", "here", "other", "there", "search", "at", "pair", "push", "mine", "its"] ["one", "here", "other", "there"] (defScope S_held_against) := ⟨rfl, rfl, rfl, by decide +kernel, rfl, by decide +kernel, by decide +kernel⟩
def sp_held_against (w : World) (K : PySem.W.Frag) (c_Mover : Addr) (c_Search : Addr) : Sp := fun vs H Q _ => ∃ (p1 k1 p2 k2 ha hb : Addr) (ps qs : List Part) (pus : List (Nat × Int)) (xs ys : List Int) (kv1 kv2 : List (NestedKey × V)) (av1 : List Addr), vs = [.ref p1, .ref ha, .ref p2, .ref hb] ∧ (∀ a ∈ av1, H a ≠ none) ∧ MoverAt w K c_Mover H p1 k1 ps pus kv1 av1 ∧ MoverAt w K c_Mover H p2 k2 qs pus kv2 [] ∧ k1 ≠ k2 ∧ (∀ p ∈ ps, p.ok) ∧ (∀ p ∈ qs, p.ok) ∧ 1 ≤ ps.length ∧ ps.length ≤ 1000 ∧ 1 ≤ qs.length ∧ qs.length ≤ 1000 ∧ (∀ q ∈ pus, q.1 < ps.length ∧ q.1 < qs.length ∧ Sign q.2) ∧ pus.length ≤ 10 ∧ Dp K H (.ref ha) (tupD xs) ∧ StandL ps xs ∧ Dp K H (.ref hb) (tupD ys) ∧ StandL qs ys ∧ (stands ps).toNat * (stands qs).toNat ≤ 13500000 ∧
  ∀ q l ws x kv1' H', Keep [k1, k2] H H' → MoverAt w K c_Mover H' p1 k1 ps pus kv1' av1 → BfsR ps qs pus 0 (startR xs ys) x → H l = none → H' l = some (.lst ws) → DpAll K H' ws (heldL x) → ws.length ≤ 13500001 → H' q = some (.tup [.str (heldW x), .ref l]) → Q (.ref q) H'
theorem ok_held_against {f : Addr} {fd : FuncData} {f_Mover__moves : Addr} {fd_Mover__moves : FuncData} {f_Search__meet : Addr} {fd_Search__meet : FuncData} {f_Search__path : Addr} {fd_Search__path : FuncData} {f_Search____init__ : Addr} {fd_Search____init__ : FuncData} {c_Search : Addr} {c_Mover : Addr} (F : Fun K "held_against" "held_against" S_held_against f fd)
    (CL_Search : Cls K c_Search)
    (NA_Search_met : NoAttr K c_Search "met")
    (CL_Mover : Cls K c_Mover)
    (NA_Mover_pushes : NoAttr K c_Mover "pushes")
    (F_Mover__moves : Fun K "moves" "Mover.moves" S_Mover__moves f_Mover__moves fd_Mover__moves) (b_Mover__moves : Binds K fd_Mover__moves ["self", "stand"] []) (MT_Mover__moves : Meth K c_Mover "moves" f_Mover__moves) (G_Mover__moves : FnOk P w K mg base CX0 4 f_Mover__moves fd_Mover__moves ["self", "stand"] (sp_Mover__moves w K c_Mover))
    (F_Search__meet : Fun K "meet" "Search.meet" S_Search__meet f_Search__meet fd_Search__meet) (b_Search__meet : Binds K fd_Search__meet ["self", "here", "move", "after"] []) (MT_Search__meet : Meth K c_Search "meet" f_Search__meet) (G_Search__meet : FnOk P w K mg base CX0 1 f_Search__meet fd_Search__meet ["self", "here", "move", "after"] (sp_Search__meet w K c_Search))
    (F_Search__path : Fun K "path" "Search.path" S_Search__path f_Search__path fd_Search__path) (b_Search__path : Binds K fd_Search__path ["self", "goal"] []) (MT_Search__path : Meth K c_Search "path" f_Search__path) (G_Search__path : FnOk P w K mg base CX0 1 f_Search__path fd_Search__path ["self", "goal"] (sp_Search__path w K c_Search))
    (F_Search____init__ : Fun K "__init__" "Search.__init__" S_Search____init__ f_Search____init__ fd_Search____init__) (b_Search____init__ : Binds K fd_Search____init__ ["self", "start"] []) (MK_Search : Mk K c_Search f_Search____init__) (G_Search____init__ : FnOk P w K mg base CX0 1 f_Search____init__ fd_Search____init__ ["self", "start"] (sp_Search____init__ w K c_Search)) (m_len : mg "len" = none) (m_zip : mg "zip" = none) (m_sorted : mg "sorted" = none)
    (g_Search : mg "Search" = some (.ref c_Search)) :
    FnOk P w K mg base CX0 5 f fd ["one", "here", "other", "there"] (sp_held_against w K c_Mover c_Search) := by
  refine F.ok sc_held_against (fun vs H Q E h => ?_) (fun cdv A outer s H vs Q E hr h => ?_)
  ·
    obtain ⟨p1, k1, p2, k2, ha, hb, ps, qs, pus, xs, ys, kv10, kv20, av1, rfl, _⟩ := h
    rfl
  ·
    obtain ⟨p1, k1, p2, k2, ha, hb, ps, qs, pus, xs, ys, kv10, kv20, av1, rfl, nav1, M1, M2, nek, ok1, ok2, l1, l1', l2, l2', hpus, pl, hx, sx, hy, sy, few, q⟩ := h
    refine ⟨_, (pss_cons (ps_set (i := 4) sc_held_against.nd rfl (.inl rfl) (pe_make MK_Search G_Search____init__ (hr.mono (by decide)) (by rfl) g_Search b_Search____init__ .nil pass0 (pa_cons (pe_tup (pa_cons (pv 1) (pa_cons (pv 3) pa_nil))) pa_nil)))
      (pss_cons (ps_set (i := 5) sc_held_against.nd rfl (.inl rfl) pe_int)
      (pss_cons (ps_while PassesOwn.never (pt_cmpR op_lt (pv 5) (pe_callB call_len_seq (by rfl) m_len (by decide +kernel) (pa_cons (pe_fldK (K := K) rfl (pv 4) rfl) pa_nil)) (nomark _)) (pss_cons (ps_set (i := 6) sc_held_against.nd rfl (.inl rfl) (pe_ix (r := rIxL K) ix_list (pe_fldK (K := K) rfl (pv 4) rfl) (pv 5) (fun _ _ => rfl)))
      (pss_cons (ps_aug (i := 5) sc_held_against.nd rfl (.inl rfl) pe_int ip_add)
      (pss_one (ps_for PassesOwn.never rfl (pi_zipT3 (by rfl) m_zip (pa_cons (pe_fldK (K := K) rfl (pv 0) rfl) (pa_cons (pe_meth (pv 0) CL_Mover MT_Mover__moves G_Mover__moves (hr.mono (by decide)) b_Mover__moves .nil pass0 (pa_cons (pe_ix (r := rIxT K) ix_tup (pv 6) pe_int (fun _ _ => rfl)) pa_nil)) (pa_cons (pe_meth (pv 2) CL_Mover MT_Mover__moves G_Mover__moves (hr.mono (by decide)) b_Mover__moves .nil pass0 (pa_cons (pe_ix (r := rIxT K) ix_tup (pv 6) pe_int (fun _ _ => rfl)) pa_nil)) pa_nil)))) (pg_tup rfl (pgs_cons (pg_name (i := 7) sc_held_against.nd rfl (.inl rfl)) (pgs_cons (pg_name (i := 8) sc_held_against.nd rfl (.inl rfl)) (pgs_cons (pg_name (i := 9) sc_held_against.nd rfl (.inl rfl)) pgs_nil))))
      (pss_cons (ps_if (pt_cmpR op_ne (pe_ix (r := rIxT K) ix_tup (pv 8) pe_int (fun _ _ => rfl)) (pe_ix (r := rIxT K) ix_tup (pv 9) pe_int (fun _ _ => rfl)) (nomark _)) (pss_one (ps_ret (pe_tup (pa_cons pe_str (pa_cons (pe_op op_cat (pe_meth (pv 4) CL_Search MT_Search__path G_Search__path (hr.mono (by decide)) b_Search__path .nil pass0 (pa_cons (pv 6) pa_nil)) (pe_lst (pa_cons (pv 7) pa_nil))) pa_nil))))) pss_nil)
      (pss_one (ps_expr (pe_meth (pv 4) CL_Search MT_Search__meet G_Search__meet (hr.mono (by decide)) b_Search__meet .nil pass0 (pa_cons (pv 6) (pa_cons (pv 7) (pa_cons (pe_tup (pa_cons (pe_ix (r := rIxT K) ix_tup (pv 8) pe_int (fun _ _ => rfl)) (pa_cons (pe_ix (r := rIxT K) ix_tup (pv 9) pe_int (fun _ _ => rfl)) pa_nil))) pa_nil))))))))))))
      (pss_one (ps_ret (pe_tup (pa_cons pe_str (pa_cons (pe_callB (r := rSortD K) (cr_sortD (units65 hr)) (by rfl) m_sorted (by decide +kernel) (pa_cons (pe_fldK (K := K) rfl (pv 4) rfl) pa_nil)) pa_nil)))))))), ?_⟩
    have sp1 := stands_pos ps ok1
    have sq1 := stands_pos qs ok2
    have few1 : (stands ps).toNat ≤ 13500000 := Nat.le_trans (Nat.le_mul_of_pos_right _ (by omega)) few
    have few2 : (stands qs).toNat ≤ 13500000 := Nat.le_trans (Nat.le_mul_of_pos_left _ (by omega)) few
    refine w_st (σ' := [some (.ref p1), some (.ref ha), some (.ref p2), some (.ref hb), none, none, none, none, none, none]) rfl ?_
    obtain ⟨⟨dx1, tr1, u1, hp1, hT1, hu1⟩, hk1, rr1⟩ := id M1
    obtain ⟨⟨dx2, tr2, u2, hp2, hT2, hu2⟩, hk2, rr2⟩ := id M2
    obtain ⟨xk1, ek1⟩ := hk1.ext
    obtain ⟨xk2, ek2⟩ := hk2.ext
    walk_at "ct"
    refine ⟨len2 rfl, fun g ng => ?_⟩
    have s1 : Same H (upd H g (.tup [.ref ha, .ref hb])) := same_upd ng
    have hg : (upd H g (.tup [.ref ha, .ref hb])) g = some (.tup [.ref ha, .ref hb]) := upd_same
    generalize upd H g _ = H1 at *
    walk_at "ct"
    intro sp dxs nsp ndx ned
    have s2 : Same H1 (upd (upd H1 dxs (.own sp)) sp (.ins c_Search dxs [])) := (same_upd ndx).trans (same_upd (by rw [upd_ne ned.symm]; exact nsp))
    have hsp0 : (upd (upd H1 dxs (.own sp)) sp (.ins c_Search dxs [])) sp = some (.ins c_Search dxs []) := upd_same
    generalize upd (upd H1 dxs (.own sp)) sp (.ins c_Search dxs []) = HB at *
    have sHB := s1.trans s2
    refine ⟨sp, dxs, g, pkey xs ys, rfl, hsp0, pkey_depth xs ys, ?_, fun m n c H2 nm nn nc kp tk S => ⟨rfl, ?_⟩⟩
    · rw [pkey_D]
      exact .tup (.of (s2 _ _ hg)) (.cons (dp_same sHB hx) (.cons (dp_same sHB hy) .nil))
    have nsp0 := s1.free nsp
    have nm0 := sHB.free nm
    have nn0 := sHB.free nn
    have nc0 := sHB.free nc
    have kH2 : Keep [sp] H H2 := (keep_same sHB).trans kp
    have o1 : k1 ∉ [sp] := fun z => by rw [List.mem_singleton.mp z, nsp0] at ek1; cases ek1
    have o2 : k2 ∉ [sp] := fun z => by rw [List.mem_singleton.mp z, nsp0] at ek2; cases ek2
    have tH2 : TupK H H2 := (tupK_same sHB).trans tk
    have nmL : ∀ {bv : List Addr}, ∀ a ∈ m :: bv, a ∈ bv ∨ ∀ ws, H a ≠ some (.lst ws) := fun {bv} a ha => (List.mem_cons.mp ha).elim (fun e => .inr fun ws z => by rw [e, nm0] at z; cases z) .inl
    have nspL : ∀ {bv : List Addr}, ∀ a ∈ [sp], a ∈ bv ∨ ∀ ws, H a ≠ some (.lst ws) := fun {bv} a ha => .inr fun ws z => by rw [List.mem_singleton.mp ha, nsp0] at z; cases z
    have I0 : HeldI w K c_Search H H2 sp m n c k1 k2 ps qs pus (startR xs ys) kv10 kv20 av1 := ⟨S, (keep_same sHB).then kp (fun a ha => .inr (by rw [List.mem_singleton.mp ha]; exact nsp0)), tH2, hk1.tup tH2 (by rw [kH2 _ _ o1 ek1, ek1]), (rr1.avoid nmL).keep kH2 tH2 nspL, hk2.tup tH2 (by rw [kH2 _ _ o2 ek2, ek2]), (rr2.avoid nmL).keep kH2 tH2 nspL, nodes_start sx sy⟩
    clear S hsp0 hg ng
    walk_at "ct"
    refine while_by (fun σ G => ∃ (at_ : Nat) (rs : List Rec) (kv1 kv2 : List (NestedKey × V)) (y6 y7 y8 y9 : Option V), σ = [some (.ref p1), some (.ref ha), some (.ref p2), some (.ref hb), some (.ref sp), some (.int (at_ : Int)), y6, y7, y8, y9] ∧ HeldI w K c_Search H G sp m n c k1 k2 ps qs pus rs kv1 kv2 av1 ∧ at_ ≤ rs.length ∧ ∀ x, BfsR ps qs pus at_ rs x → BfsR ps qs pus 0 (startR xs ys) x)
      (fun σ _ => match σ with | [_, _, _, _, _, some (.int i), _, _, _, _] => 13500001 - i.toNat | _ => 0) ⟨0, startR xs ys, kv10, kv20, none, none, none, none, rfl, I0, Nat.zero_le _, fun _ h => h⟩ ?_ ?_
    · rintro σ G ⟨at_, rs, kv1, kv2, y6, y7, y8, y9, rfl, I, al, back⟩
      obtain ⟨⟨dxs', hsp⟩, ⟨vs, hmet, dmet⟩, _, _, _, good, _⟩ := id I.S
      have klen : (keysR rs).length = rs.length := List.length_map _
      have vl : vs.length = rs.length := by rw [dpAll_len dmet, List.length_map, klen]
      have nd : (keysR rs).Nodup := (List.reverse_perm _).nodup_iff.mp (by have := keysR_nodup good; rw [keysR_rev] at this; exact this)
      have rfew := Nat.le_trans (nodes_few I.nodes nd) few
      have kl1 := Nat.le_trans (known_few I.n1 I.r1) few1
      walk_at "ct"
      refine ⟨sp, c_Search, _, _, _, rfl, hsp, CL_Search, NA_Search_met, fldsS_met m n c, ?_⟩
      walk_at "ct"
      refine ⟨m, vs, rfl, .inl (.of hmet), ?_⟩
      walk_at "ct"
      refine w_ite (fun lt => ?_) (fun ge => ?_)
      · walk_at "ct"
        refine ⟨sp, c_Search, _, _, _, rfl, hsp, CL_Search, NA_Search_met, fldsS_met m n c, ?_⟩
        have lt' : at_ < rs.length := by omega
        obtain ⟨r, hr⟩ : ∃ r, rs[at_]? = some r := ⟨_, List.getElem?_eq_getElem lt'⟩
        obtain ⟨us, vs2, ek, su, sv⟩ := I.nodes r.1 (List.mem_map.mpr ⟨r, List.mem_of_getElem? hr, rfl⟩)
        obtain ⟨pv0, hpv, dpv⟩ := dpAll_get dmet (i := at_) (d := nkD r.1) (by rw [List.getElem?_map]; show Option.map nkD ((rs.map (·.1))[at_]?) = _; rw [List.getElem?_map, hr]; rfl)
        rw [ek, pkey_D] at dpv
        obtain ⟨pr, va, vb, rfl, hprs, hva, hvb⟩ := dp2_inv dpv
        obtain ⟨pa, rfl, hpa⟩ := tupD_inv hva
        obtain ⟨pb, rfl, hpb⟩ := tupD_inv hvb
        walk_at "ct"
        refine w_ixL (.of hmet) (at_of (j := at_) rfl hpv) ?_
        walk_at "ct"
        refine w_aug rfl ?_
        walk_at "ct"
        have e1 : ∃ xs, H k1 = some (NdO w k1 xs) := ⟨_, ek1⟩
        have e2 : ∃ xs, H k2 = some (NdO w k2 xs) := ⟨_, ek2⟩
        have np1 : p1 ∉ [k1, k2] := fun z => by
          rcases mem_two z with e | e
          · rw [e, ek1] at hp1; cases hp1
          · rw [e, ek2] at hp1; cases hp1
        have hp1G := I.keep _ _ np1 hp1
        have hu1G := dp_td I.tup (td_pus pus) hu1
        obtain ⟨u1', wsp, eu, hwsp, dwsp⟩ := tup_inv hu1G
        cases eu
        refine ⟨p1, c_Mover, dx1, _, _, rfl, hp1G, CL_Mover, NA_Mover_pushes, fldsM_pushes _ _ _, ?_⟩
        walk_at "ct"
        refine ⟨p1, dx1, _, rfl, hp1G, fldsM_no _ _ _ (by decide +kernel) (by decide +kernel) (by decide +kernel), ?_⟩
        walk_at "ct"
        have mG : ∀ a ∈ m :: av1, G a ≠ none := fun a ha => by
          rcases List.mem_cons.mp ha with rfl | ha
          · rw [hmet]; exact fun z => nomatch z
          · intro z
            by_cases nk : a ∈ [k1, k2]
            · obtain ⟨y1, f1⟩ := I.n1.ext
              obtain ⟨y2, f2⟩ := I.n2.ext
              rcases mem_two nk with rfl | rfl
              · rw [f1] at z; cases z
              · rw [f2] at z; cases z
            · cases hz : H a with
              | none => exact nav1 a ha hz
              | some o => rw [I.keep _ _ nk hz] at z; cases z
        refine ⟨p1, k1, pa, ps, pus, kv1, us, m :: av1, rfl, I.mov e1 e2 hp1 hT1 hu1 I.n1 I.r1, mG, ok1, l1, l1', fun q hq => ⟨Nat.le_of_lt (hpus q hq).1, (hpus q hq).2.2⟩, by omega, by omega, hva, su, fun la wsa kv1' G1 kk1 M1' kl1' lam hla dla => ?_⟩
        have I1 := I.mv1 nek nsp0 nm0 nn0 nc0 e1 kk1 M1'
        have kl2 := Nat.le_trans (known_few I1.n2 I1.r2) few2
        have hp2G1 := I1.keep _ _ (fun z => by
          rcases mem_two z with e | e
          · rw [e, ek1] at hp2; cases hp2
          · rw [e, ek2] at hp2; cases hp2) hp2
        have tG1 : TupK G G1 := kk1.tupK fun a ha xs => by
          obtain ⟨y1, f1⟩ := I.n1.ext
          rw [List.mem_singleton.mp ha]
          exact not_rd f1 rfl xs
        have hpr1 := sqT_tup tG1 hprs
        walk_at "ct"
        refine ⟨p2, dx2, _, rfl, hp2G1, fldsM_no _ _ _ (by decide +kernel) (by decide +kernel) (by decide +kernel), ?_⟩
        walk_at "ct"
        have hmet1 : G1 m = some (.lst vs) := kk1 _ _ (fun z => by rw [List.mem_singleton.mp z, ek1] at nm0; cases nm0) hmet
        have mG1 : ∀ a ∈ [m], G1 a ≠ none := fun a ha => by rw [List.mem_singleton.mp ha, hmet1]; exact fun z => nomatch z
        refine ⟨p2, k2, pb, qs, pus, kv2, vs2, [m], rfl, I1.mov e1 e2 hp2 hT2 hu2 I1.n2 I1.r2, mG1, ok2, l2, l2', fun q hq => ⟨Nat.le_of_lt (hpus q hq).2.1, (hpus q hq).2.2⟩, by omega, by omega, dp_td tG1 (td_tupD _) hvb, sv, fun lb wsb kv2' G2 kk2 M2' kl2' lbm hlb dlb => ?_⟩
        have I2 := I1.mv2 nek nsp0 nm0 nn0 nc0 e2 kk2 M2'
        have tG2 : TupK G1 G2 := kk2.tupK fun a ha xs => by
          obtain ⟨y2, f2⟩ := I1.n2.ext
          rw [List.mem_singleton.mp ha]
          exact not_rd f2 rfl xs
        have la2 : la ∉ [k2] := fun z => by
          obtain ⟨y2, f2⟩ := I1.n2.ext
          rw [List.mem_singleton.mp z, f2] at hla
          cases hla
        have hla2 := kk2 _ _ la2 hla
        have dla2 := dpAll_td tG2 (tds_all fun a _ => td_mvD a) dla
        have tG := tG1.trans tG2
        have dws2 := dpAll_td tG (tds_all fun a _ => td_psD a) dwsp
        have hws2 := sqT_tup tG hwsp
        have hpr2 := sqT_tup tG hprs
        have hpa2 := dp_td tG (td_tupD _) hva
        have hpb2 := dp_td tG (td_tupD _) hvb
        clear dla dwsp hwsp hprs hva hvb hpa hpb hmet1 mG1 mG M1' M2'
        have wl1 : wsp.length = pus.length := by rw [dpAll_len dws2, List.length_map]
        have wl2 : wsa.length = pus.length := by rw [dpAll_len dla2, List.length_map]; exact List.length_map _
        have wl3 : wsb.length = pus.length := by rw [dpAll_len dlb, List.length_map]; exact List.length_map _
        have keep3 : ∀ {b : Addr} {us : List V}, b ∉ [m] → G2 b = some (.lst us) → b ∉ [m, n, c] := fun {b us} nb e z => by
          obtain ⟨yn, fn⟩ := I2.S.num.ext
          obtain ⟨cv, hc, _⟩ := I2.S.came
          obtain ⟨yc, fc⟩ := hc.ext
          rcases mem_three z with rfl | rfl | rfl
          · exact nb List.mem_cons_self
          · rw [fn] at e; cases e
          · rw [fc] at e; cases e
        have oa := keep3 (fun z => lam (by rw [List.mem_singleton.mp z]; exact List.mem_cons_self)) hla2
        have ob := keep3 lbm hlb
        walk_at "ct"
        refine w_IT3 hws2 (.of hla2) (.of hlb) ?_
        refine fb_zipT3 wsp wsa wsb (by omega) (by omega) (fun i σ J => ∃ (rs' : List Rec) (y7 y8 y9 : Option V), σ = [some (.ref p1), some (.ref ha), some (.ref p2), some (.ref hb), some (.ref sp), some (.int ((at_ : Int) + 1)), some (.ref pr), y7, y8, y9] ∧ HeldI w K c_Search H J sp m n c k1 k2 ps qs pus rs' kv1' kv2' av1 ∧ Keep [m, n, c] G2 J ∧ TupK G2 J ∧ visitP ps qs us vs2 pus rs = visitP ps qs us vs2 (pus.drop i) rs' ∧ ∃ t, rs' = rs ++ t) ⟨rs, y7, y8, y9, rfl, I2, Keep.refl, TupK.refl, by rw [List.drop_zero], [], (List.append_nil _).symm⟩ ?_ ?_ ?_
        · rintro i σ J _ ⟨rs', y7, y8, y9, rfl, IJ, kJ, tJ, _⟩
          exact ⟨sqT_tup tJ hws2, .of (kJ _ _ oa hla2), .of (kJ _ _ ob hlb)⟩
        · rintro i x y z T σ J hx' hy' hz' ⟨rs', y7, y8, y9, rfl, IJ, kJ, tJ, vis, t0, rst⟩ nT
          have hi : i < wsp.length := (List.getElem?_eq_some_iff.mp hx').1
          obtain ⟨qq, hqq⟩ : ∃ qq, pus[i]? = some qq := ⟨_, List.getElem?_eq_getElem (by omega)⟩
          obtain ⟨x1, hx1, dx'⟩ := dpAll_get dws2 (i := i) (d := psD qq) (by rw [List.getElem?_map, hqq]; rfl)
          cases Option.some.inj (hx'.symm.trans hx1)
          obtain ⟨y1, hy1, dy'⟩ := dpAll_get dla2 (i := i) (d := mvD (Ct.run ps us qq.1 qq.2)) (by unfold movesOf; rw [List.getElem?_map, List.getElem?_map, hqq]; rfl)
          cases Option.some.inj (hy'.symm.trans hy1)
          obtain ⟨z1, hz1, dz'⟩ := dpAll_get dlb (i := i) (d := mvD (Ct.run qs vs2 qq.1 qq.2)) (by unfold movesOf; rw [List.getElem?_map, List.getElem?_map, hqq]; rfl)
          cases Option.some.inj (hz'.symm.trans hz1)
          have okq := hpus qq (List.mem_of_getElem? hqq)
          have dr : pus.drop i = qq :: pus.drop (i + 1) := by
            rw [List.drop_eq_getElem_cons (by omega), (List.getElem?_eq_some_iff.mp hqq).2]
          have sT : Same J (upd J T (.tup [x, y, z])) := same_upd nT
          have hT' : (upd J T (.tup [x, y, z])) T = some (.tup [x, y, z]) := upd_same
          generalize upd J T _ = J1 at *
          have IJ1 := IJ.same sT
          have kJ1 := kJ.trans (keep_same (S := [m, n, c]) sT)
          have tJ1 := tJ.trans (tupK_same sT)
          obtain ⟨ya, yb, rfl, hya, hyb⟩ := mv_inv (dp_td tJ1 (td_mvD _) dy')
          obtain ⟨za, zb, rfl, hza, hzb⟩ := mv_inv (dp_td tJ1 (td_mvD _) dz')
          have dxJ := dp_td tJ1 (td_psD _) dx'
          have kin : pkey us vs2 ∈ keysR rs' := by
            rw [rst, keysR_app]
            exact List.mem_append_left _ (List.mem_map.mpr ⟨r, List.mem_of_getElem? hr, ek⟩)
          have rn := keysR_nodup IJ1.S.good
          have rfew' := Nat.le_trans (nodes_few IJ1.nodes ((List.reverse_perm _).nodup_iff.mp (by rw [keysR_rev] at rn; exact rn))) few
          have dpr : Dp K J1 (.ref pr) (nkD (pkey us vs2)) := by
            rw [pkey_D]
            exact .tup (sqT_tup tJ1 hpr2) (.cons (dp_td tJ1 (td_tupD _) hpa2) (.cons (dp_td tJ1 (td_tupD _) hpb2) .nil))
          refine w_gtup (.of hT') rfl ?_
          walk_at "ct"
          obtain ⟨dxj, hspJ⟩ := IJ1.S.ob
          refine w_iteN (fun ne => ?_) (fun e => ?_)
          · walk_at "ct"
            refine ⟨sp, dxj, _, rfl, hspJ, fldsS_no _ _ _ (by decide +kernel) (by decide +kernel) (by decide +kernel), ?_⟩
            walk_at "ct"
            refine ⟨sp, m, n, c, pr, rs', pkey us vs2, rfl, IJ1.S, kin, dpr, by omega, fun l ws J2 s3 nl hl dl => ?_⟩
            have wlen : ws.length ≤ rs'.length := by
              rw [dpAll_len dl]
              have := pathR_len rs'.reverse (pkey us vs2)
              rw [List.length_reverse] at this
              exact this
            walk_at "ct"
            refine ⟨len2 rfl, fun l3 nl3 => ?_⟩
            have s4 : Same J2 (upd J2 l3 (.lst [x])) := same_upd nl3
            have hl3 : (upd J2 l3 (.lst [x])) l3 = some (.lst [x]) := upd_same
            generalize upd J2 l3 _ = J3 at *
            refine ⟨l, l3, ws, [x], rfl, rfl, s4 _ _ hl, hl3, Nat.le_trans (show ws.length + 1 ≤ 13500001 by omega) (by decide), fun l4 nl4 => ?_⟩
            have s5 : Same J3 (upd J3 l4 (.lst (ws ++ [x]))) := same_upd nl4
            have hl4 : (upd J3 l4 (.lst (ws ++ [x]))) l4 = some (.lst (ws ++ [x])) := upd_same
            have s35 := (s3.trans s4).trans s5
            have dl4 : DpAll K (upd J3 l4 (.lst (ws ++ [x]))) (ws ++ [x]) (pathR rs'.reverse (pkey us vs2) ++ [psD qq]) := dpAll_app (dpAll_same (s4.trans s5) dl) (.cons (dp_same s35 dxJ) .nil)
            generalize upd J3 l4 _ = J4 at *
            walk_at "ct"
            refine ⟨len2 rfl, fun g2 ng2 => ?_⟩
            have s6 := same_upd (o := .tup [.str "apart", .ref l4]) ng2
            have kk : Keep [k1, k2] H (upd J4 g2 (.tup [.str "apart", .ref l4])) := IJ1.keep.trans (keep_same (s35.trans s6))
            have hv : visitP ps qs us vs2 pus rs = .error (pathR rs'.reverse (pkey us vs2) ++ [psD qq]) := by
              rw [vis, dr]
              exact if_pos ne
            have nl40 : H l4 = none := by
              cases hz : H l4 with
              | none => rfl
              | some o =>
                have nk : l4 ∉ [k1, k2] := fun z => by
                  rcases mem_two z with e | e
                  · obtain ⟨y1, f1⟩ := (IJ1.n1.same (s3.trans s4)).ext
                    rw [e, f1] at nl4; cases nl4
                  · obtain ⟨y2, f2⟩ := (IJ1.n2.same (s3.trans s4)).ext
                    rw [e, f2] at nl4; cases nl4
                rw [(IJ1.keep.trans (keep_same (s3.trans s4))) _ _ nk hz] at nl4
                cases nl4
            exact q g2 l4 _ (.error (pathR rs'.reverse (pkey us vs2) ++ [psD qq])) kv1' _ kk ((IJ1.mov e1 e2 hp1 hT1 hu1 IJ1.n1 (IJ1.r1.avoid (fun _ z => .inl (List.mem_cons_of_mem _ z)))).same (s35.trans s6)) (back _ (.stop hr ek hv)) nl40 (s6 _ _ hl4) (dpAll_same s6 dl4) (by rw [List.length_append]; show ws.length + 1 ≤ 13500001; omega) upd_same
          · walk_at "ct"
            refine ⟨sp, dxj, _, rfl, hspJ, fldsS_no _ _ _ (by decide +kernel) (by decide +kernel) (by decide +kernel), ?_⟩
            walk_at "ct"
            refine ⟨len2 rfl, fun g2 ng2 => ?_⟩
            have s6 : Same J1 (upd J1 g2 (.tup [.ref yb, .ref zb])) := same_upd ng2
            have hg2 : (upd J1 g2 (.tup [.ref yb, .ref zb])) g2 = some (.tup [.ref yb, .ref zb]) := upd_same
            generalize upd J1 g2 _ = J2 at *
            have IJ2 := IJ1.same s6
            have su2 : StandL ps (Ct.run ps us qq.1 qq.2).1 := run_stand su okq.1 (.inr okq.2.2)
            have sv2 : StandL qs (Ct.run qs vs2 qq.1 qq.2).1 := run_stand sv okq.2.1 (.inr okq.2.2)
            walk_at "ct"
            refine ⟨sp, m, n, c, pr, g2, x, rs', pkey us vs2, pkey (Ct.run ps us qq.1 qq.2).1 (Ct.run qs vs2 qq.1 qq.2).1, psD qq, rfl, IJ2.S, kin, dp_same s6 dpr, dp_same s6 dxJ, td_psD qq, ?_, pkey_depth _ _, by omega, fun J3 k3 S3 => ?_⟩
            · rw [pkey_D]
              exact .tup (.of hg2) (.cons (tupD_dp (Same.tup s6 hyb)) (.cons (tupD_dp (Same.tup s6 hzb)) .nil))
            have IJ3 := IJ2.meet nm0 nn0 nc0 e1 e2 k3 S3 (nodes_meet IJ2.nodes su2 sv2)
            walk_at "ct"
            obtain ⟨t1, ht1⟩ := meetR_pre (rs := rs') (here := pkey us vs2) (k := pkey (Ct.run ps us qq.1 qq.2).1 (Ct.run qs vs2 qq.1 qq.2).1) (d := psD qq)
            refine ⟨_, _, _, _, rfl, IJ3, (kJ1.trans (keep_same s6)).trans k3, (tJ1.trans (tupK_same s6)).trans (IJ2.S.tupK k3), ?_, t0 ++ t1, by rw [ht1, rst, List.append_assoc]⟩
            rw [vis, dr]
            exact if_neg (fun z => z e)
        · rintro σ J ⟨rs', y7, y8, y9, rfl, IJ, kJ, tJ, vis, t0, rst⟩
          rw [List.drop_of_length_le (by omega)] at vis
          refine ⟨⟨at_ + 1, rs', kv1', kv2', _, _, _, _, by rw [show ((at_ + 1 : Nat) : Int) = (at_ : Int) + 1 by omega], IJ, by rw [rst, List.length_append]; omega, fun x h => back x (.step hr ek vis h)⟩, ?_⟩
          show 13500001 - ((at_ : Int) + 1).toNat < 13500001 - (at_ : Int).toNat
          omega
      · walk_at "ct"
        refine ⟨sp, c_Search, _, _, _, rfl, hsp, CL_Search, NA_Search_met, fldsS_met m n c, ?_⟩
        walk_at "ct"
        refine ⟨m, vs, _, rfl, .of hmet, dmet, alike_nodes I.nodes, sort_nodes I.nodes, depth_nodes I.nodes, fun zs l zl dz nl => ?_⟩
        have s6 : Same G (upd G l (.lst zs)) := same_upd nl
        have hl : (upd G l (.lst zs)) l = some (.lst zs) := upd_same
        have nl0 : H l = none := by
          cases hz : H l with
          | none => rfl
          | some o =>
            have nk : l ∉ [k1, k2] := fun z => by
              rcases mem_two z with e | e
              · obtain ⟨y1, f1⟩ := I.n1.ext
                rw [e, f1] at nl; cases nl
              · obtain ⟨y2, f2⟩ := I.n2.ext
                rw [e, f2] at nl; cases nl
            rw [I.keep _ _ nk hz] at nl
            cases nl
        have dz2 := dpAll_same s6 dz
        generalize upd G l _ = G2 at *
        walk_at "ct"
        refine ⟨len2 rfl, fun g2 ng2 => ?_⟩
        have s7 := same_upd (o := .tup [.str "alike", .ref l]) ng2
        exact q g2 l zs (.ok rs) kv1 _ (I.keep.trans (keep_same (s6.trans s7))) ((I.mov ⟨_, ek1⟩ ⟨_, ek2⟩ hp1 hT1 hu1 I.n1 (I.r1.avoid (fun _ z => .inl (List.mem_cons_of_mem _ z)))).same (s6.trans s7)) (back _ (.done (by omega))) nl0 (s7 _ _ hl) (dpAll_same s7 dz2) (by omega) upd_same
    · rintro σ H4 Q1 Q2 hQ ⟨v1, e1, v2, e2, a, C, dx, fs, v', g1, g2, g3, g4, g5, pp, ys', g6, g7, i, j, g8, g9, k, g10, hq⟩
      exact ⟨v1, e1, v2, e2, a, C, dx, fs, v', g1, g2, g3, g4, g5, pp, ys', g6, g7, i, j, g8, g9, k, g10, hQ _ _ hq⟩
abbrev S_trains_alike : Stmt := topS 25
theorem sc_trains_alike : FnScope ["train", "stand", "other", "there", "word", "told", "i", "way"] ["train", "stand", "other", "there"] (defScope S_trains_alike) := ⟨rfl, rfl, rfl, by decide +kernel, rfl, by decide +kernel, by decide +kernel⟩
def sp_trains_alike (K : PySem.W.Frag) (c_Mover : Addr) (c_Search : Addr) : Sp := fun vs H Q _ => ∃ (a t b u : Addr) (ps qs : List Part) (xs ys : List Int), vs = [.ref a, .ref t, .ref b, .ref u] ∧ TrainAt K H a ps ∧ TrainAt K H b qs ∧ (∀ p ∈ ps, p.ok) ∧ (∀ p ∈ qs, p.ok) ∧ 1 ≤ ps.length ∧ ps.length ≤ 1000 ∧ 1 ≤ qs.length ∧ qs.length ≤ 1000 ∧ SqT K H t (xs.map V.int) ∧ StandL ps xs ∧ SqT K H u (ys.map V.int) ∧ StandL qs ys ∧ (stands ps).toNat * (stands qs).toNat ≤ 13500000 ∧
  ∀ q l ws x H', Same H H' → BfsR ps qs [(0, 1), (0, -1)] 0 (startR xs ys) x → H l = none → H' l = some (.lst ws) → DpAll K H' ws (heldT x) → ws.length ≤ 13500001 → H' q = some (.tup [.str (heldW x), .ref l]) → Q (.ref q) H'
theorem ok_trains_alike {f : Addr} {fd : FuncData} {f_Mover____init__ : Addr} {fd_Mover____init__ : FuncData} {f_held_against : Addr} {fd_held_against : FuncData} {f_check_stand : Addr} {fd_check_stand : FuncData} {c_Mover : Addr} {c_Search : Addr} {q0_AT_FIRST_PART : Addr} (F : Fun K "trains_alike" "trains_alike" S_trains_alike f fd)
    (CL_Mover : Cls K c_Mover)
    (F_Mover____init__ : Fun K "__init__" "Mover.__init__" S_Mover____init__ f_Mover____init__ fd_Mover____init__) (b_Mover____init__ : Binds K fd_Mover____init__ ["self", "train", "pushes"] []) (MK_Mover : Mk K c_Mover f_Mover____init__) (G_Mover____init__ : FnOk P w K mg base CX0 1 f_Mover____init__ fd_Mover____init__ ["self", "train", "pushes"] (sp_Mover____init__ w K c_Mover))
    (F_held_against : Fun K "held_against" "held_against" S_held_against f_held_against fd_held_against) (b_held_against : Binds K fd_held_against ["one", "here", "other", "there"] []) (g_held_against : mg "held_against" = some (.ref f_held_against)) (G_held_against : FnOk P w K mg base CX0 5 f_held_against fd_held_against ["one", "here", "other", "there"] (sp_held_against w K c_Mover c_Search))
    (F_check_stand : Fun K "check_stand" "check_stand" S_check_stand f_check_stand fd_check_stand) (b_check_stand : Binds K fd_check_stand ["train", "stand"] []) (g_check_stand : mg "check_stand" = some (.ref f_check_stand)) (G_check_stand : FnOk P w K mg base CX0 5 f_check_stand fd_check_stand ["train", "stand"] (sp_check_stand K))
    (g_Mover : mg "Mover" = some (.ref c_Mover)) (g_AT_FIRST_PART : mg "AT_FIRST_PART" = some (.ref q0_AT_FIRST_PART)) (D_AT_FIRST_PART : ∀ H : Hp, Dp K H (.ref q0_AT_FIRST_PART) (.tuple [.tuple [.int (0), .int (1)], .tuple [.int (0), .int (-1)]])) :
    FnOk P w K mg base CX0 6 f fd ["train", "stand", "other", "there"] (sp_trains_alike K c_Mover c_Search) := by
  refine F.ok sc_trains_alike (fun vs H Q E h => ?_) (fun cdv A outer s H vs Q E hr h => ?_)
  ·
    obtain ⟨a, t, b, u, ps, qs, xs, ys, rfl, _⟩ := h
    rfl
  ·
    obtain ⟨a, t, b, u, ps, qs, xs, ys, rfl, hA, hB, ok1, ok2, l1, l1', l2, l2', ht, sx, hu, sy, few, q⟩ := h
    refine ⟨_, (pss_cons (ps_expr (pe_call G_check_stand (hr.mono (by decide)) (by rfl) g_check_stand F_check_stand.kp b_check_stand .nil pass0 (pa_cons (pv 0) (pa_cons (pv 1) pa_nil))))
      (pss_cons (ps_expr (pe_call G_check_stand (hr.mono (by decide)) (by rfl) g_check_stand F_check_stand.kp b_check_stand .nil pass0 (pa_cons (pv 2) (pa_cons (pv 3) pa_nil))))
      (pss_cons (ps_asg (pe_call G_held_against (hr.mono (by decide)) (by rfl) g_held_against F_held_against.kp b_held_against .nil pass0 (pa_cons (pe_make MK_Mover G_Mover____init__ (hr.mono (by decide)) (by rfl) g_Mover b_Mover____init__ .nil pass0 (pa_cons (pv 0) (pa_cons (pe_glob (v := .ref q0_AT_FIRST_PART) (by rfl) g_AT_FIRST_PART rfl) pa_nil))) (pa_cons (pv 1) (pa_cons (pe_make MK_Mover G_Mover____init__ (hr.mono (by decide)) (by rfl) g_Mover b_Mover____init__ .nil pass0 (pa_cons (pv 2) (pa_cons (pe_glob (v := .ref q0_AT_FIRST_PART) (by rfl) g_AT_FIRST_PART rfl) pa_nil))) (pa_cons (pv 3) pa_nil))))) (pg_tup rfl (pgs_cons (pg_name (i := 4) sc_trains_alike.nd rfl (.inl rfl)) (pgs_cons (pg_name (i := 5) sc_trains_alike.nd rfl (.inl rfl)) pgs_nil))))
      (pss_cons (ps_if (pt_cmpR op_eq (pv 4) pe_str (nomark _)) (pss_one (ps_ret (pe_tup (pa_cons (pv 4) (pa_cons (pe_lc (own := [("i", 6), ("way", 7)]) (g := gTup K 2 (gCons (gName 6) (gCons (gName 7) gNil)))  rfl sc_trains_alike.nd  (pi_list (pv 5)) (blkOk_by (own := [("i", 6), ("way", 7)]) (N := ["train", "stand", "other", "there", "word", "told", "i", "way"]) (sc := defScope S_trains_alike) (by decide +kernel)) (fun _ _ _ _ _ => pg_tup rfl (pgs_cons (pg_name (i := 6) sc_trains_alike.nd rfl (Or.inl rfl)) (pgs_cons (pg_name (i := 7) sc_trains_alike.nd rfl (Or.inl rfl)) pgs_nil))) (fun _ _ _ _ _ => pts_nil) (fun _ _ _ _ _ => (pv 7))) pa_nil))))) pss_nil)
      (pss_one (ps_ret (pe_tup (pa_cons (pv 4) (pa_cons (pv 5) pa_nil))))))))), ?_⟩
    refine w_st (σ' := [some (.ref a), some (.ref t), some (.ref b), some (.ref u), none, none, none, none]) rfl ?_
    walk_at "ct"
    refine ⟨a, t, ps, xs, rfl, hA, ok1, l1, ht, sx.ok, fun H1 s1 => ?_⟩
    walk_at "ct"
    refine ⟨b, u, qs, ys, rfl, hB.same s1, ok2, l2, Same.tup s1 hu, sy.ok, fun H2 s2 => ?_⟩
    have s12 := s1.trans s2
    walk_at "ct"
    intro x1 d1 nx1 nd1 ne1
    have s3 : Same H2 (upd (upd H2 d1 (.own x1)) x1 (.ins c_Mover d1 [])) := (same_upd nd1).trans (same_upd (by rw [upd_ne ne1.symm]; exact nx1))
    have hx1 : (upd (upd H2 d1 (.own x1)) x1 (.ins c_Mover d1 [])) x1 = some (.ins c_Mover d1 []) := upd_same
    generalize upd (upd H2 d1 (.own x1)) x1 (.ins c_Mover d1 []) = H3 at *
    have s13 := s12.trans s3
    refine ⟨x1, d1, a, q0_AT_FIRST_PART, ps, [(0, 1), (0, -1)], rfl, hx1, hA.same s13, D_AT_FIRST_PART H3, fun k1 H4 nk1 kp1 tp1 M1 => ⟨rfl, ?_⟩⟩
    have fx1 := s12.free nx1
    have fk1 := s13.free nk1
    have K4 : Keep [] H H4 := (keep_same (S := []) s13).then kp1 fun z hz => .inr (by rw [List.mem_singleton.mp hz]; exact fx1)
    walk_at "ct"
    intro x2 d2 nx2 nd2 ne2
    have s5 : Same H4 (upd (upd H4 d2 (.own x2)) x2 (.ins c_Mover d2 [])) := (same_upd nd2).trans (same_upd (by rw [upd_ne ne2.symm]; exact nx2))
    have hx2 : (upd (upd H4 d2 (.own x2)) x2 (.ins c_Mover d2 [])) x2 = some (.ins c_Mover d2 []) := upd_same
    generalize upd (upd H4 d2 (.own x2)) x2 (.ins c_Mover d2 []) = H5 at *
    have K5 := K4.nil.trans s5
    refine ⟨x2, d2, b, q0_AT_FIRST_PART, qs, [(0, 1), (0, -1)], rfl, hx2, hB.same K5, D_AT_FIRST_PART H5, fun k2 H6 nk2 kp2 tp2 M2 => ⟨rfl, ?_⟩⟩
    have fx2 := K4.nil.free nx2
    have fk2 := K5.free nk2
    have K6 : Keep [] H H6 := (keep_same (S := []) K5).then kp2 fun z hz => .inr (by rw [List.mem_singleton.mp hz]; exact fx2)
    have M15 := M1.same s5
    obtain ⟨⟨dd, tr', u', hx15, _, _⟩, hk15, _⟩ := id M15
    obtain ⟨xk, ek⟩ := hk15.ext
    have x12 : x1 ∉ [x2] := fun z => by
      obtain ⟨⟨_, _, _, e, _, _⟩, _, _⟩ := M1
      rw [List.mem_singleton.mp z, nx2] at e
      cases e
    have k12 : k1 ∉ [x2] := fun z => by
      obtain ⟨_, ⟨_, _, _, xs, e, _⟩, _⟩ := M1
      rw [List.mem_singleton.mp z, nx2] at e
      cases e
    have noL : ∀ z ∈ [x2], ∀ ys, ¬ Rd H5 z (.lst ys) := fun z hz ys => by rw [List.mem_singleton.mp hz]; exact not_rdL hx2 rfl ys
    have M16 := M15.keep kp2 tp2 x12 k12 (fun z hz => .inr fun ws e => noL z hz ws (.inl e)) fun _ _ _ _ hT => trainAt_keep kp2 tp2 noL hT
    have nek : k1 ≠ k2 := fun z => by rw [← z, ek] at nk2; cases nk2
    walk_at "ct"
    refine ⟨x1, k1, x2, k2, t, u, ps, qs, [(0, 1), (0, -1)], xs, ys, [], [], [], rfl, (fun _ z => nomatch z), M16, M2, nek, ok1, ok2, l1, l1', l2, l2', fun q hq => ?_, by decide, tupD_dp (Same.tup K6.nil ht), sx, tupD_dp (Same.tup K6.nil hu), sy, few, fun q1 l ws x kv1' H7 kk _ bf nl hl dl wl hq => ?_⟩
    · rcases List.mem_cons.mp hq with rfl | hq
      · exact ⟨l1, l2, .inl rfl⟩
      · rw [List.mem_singleton.mp hq]
        exact ⟨l1, l2, .inr rfl⟩
    have K7 : Same H H7 := (K6.then kk fun z hz => .inr (by
      rcases mem_two hz with rfl | rfl
      · exact fk1
      · exact fk2)).nil
    have fl := K6.nil.free nl
    refine w_gtup (.of hq) rfl ?_
    walk_at "ct"
    cases x with
    | ok rs =>
      walk_at "ct"
      refine w_rEqS (b := false) (show decide (V.str "alike" = V.str "apart") = false by decide +kernel) ?_
      walk_at "ct"
      refine ⟨len2 rfl, fun g ng => ?_⟩
      have s8 := same_upd (o := .tup [.str (heldW (.ok rs)), .ref l]) ng
      exact q g l ws (.ok rs) _ (K7.trans s8) bf fl (s8 _ _ hl) (dpAll_same s8 dl) wl upd_same
    | error pp =>
      walk_at "ct"
      refine w_rEqS (b := true) (show decide (V.str "apart" = V.str "apart") = true by decide +kernel) ?_
      walk_at "ct"
      have all := bfs_moves bf moves_start pp rfl
      have wpl : ws.length = pp.length := dpAll_len dl
      refine w_IL (.of hl) ?_
      refine lb_list ws (fun D i G => ∃ us, Same H7 G ∧ G D = some (.lst us) ∧ us.length = i ∧ DpAll K G us ((pp.take i).map wayOf)) (fun D nD => ⟨[], same_upd nD, upd_same, rfl, by rw [List.take_zero]; exact .nil⟩) (fun D nD i G _ h => by obtain ⟨us, sG, _⟩ := h; exact .of (sG _ _ hl)) ?_ ?_
      · rintro D nD i x G hx ⟨us, sG, hD, ul, dus⟩
        have hi : i < ws.length := (List.getElem?_eq_some_iff.mp hx).1
        obtain ⟨d, hd⟩ : ∃ d, pp[i]? = some d := ⟨_, List.getElem?_eq_getElem (by omega)⟩
        obtain ⟨x', hx', hdp⟩ := dpAll_get (dpAll_same sG dl) (i := i) (d := d) hd
        cases Option.some.inj (hx.symm.trans hx')
        obtain ⟨qq, _, rfl⟩ := all d (List.mem_of_getElem? hd)
        obtain ⟨ga, rfl, hga⟩ := ps_inv hdp
        refine w_gtup hga rfl ?_
        walk_at "ct"
        refine ⟨rfl, ?_⟩
        walk_at "ct"
        have tk : TupK G (upd G D (.lst (us ++ [.int qq.2]))) := tupK_upd hD rfl
        have wints : ∀ e ∈ pp.take i, TD (wayOf e) := fun e he => by
          obtain ⟨q2, _, rfl⟩ := all e (List.mem_of_mem_take he)
          exact .int _
        refine ⟨us, hD, Nat.lt_of_lt_of_le (show us.length < 14000000 by omega) (by decide), us ++ [.int qq.2], same_new sG nD, upd_same, by rw [List.length_append, ul]; rfl, ?_⟩
        rw [List.take_add_one, hd, List.map_append]
        exact dpAll_app (dpAll_td tk (tds_all wints) dus) (.cons (.int _) .nil)
      · rintro D nD G ⟨us, sG, hD, ul, dus⟩
        rw [List.take_of_length_le (by omega)] at dus
        walk_at "ct"
        refine ⟨len2 rfl, fun g ng => ?_⟩
        have s8 := same_upd (o := .tup [.str (heldW (.error pp)), .ref D]) ng
        exact q g D us (.error pp) _ ((K7.trans sG).trans s8) bf (K7.free nD) (s8 _ _ hD) (dpAll_same s8 dus) (by omega) upd_same
abbrev S_are_pairs : Stmt := topS 26
theorem sc_are_pairs : FnScope ["train", "other", "thing", "seen", "pair"] ["train", "other", "thing"] (defScope S_are_pairs) := ⟨rfl, rfl, rfl, by decide +kernel, rfl, by decide +kernel, by decide +kernel⟩
def sp_are_pairs (K : PySem.W.Frag) : Sp := fun vs H Q _ => ∃ (a b l : Addr) (ps qs : List Part) (ws : List V) (ks : List NestedKey), vs = [.ref a, .ref b, .ref l] ∧ TrainAt K H a ps ∧ TrainAt K H b qs ∧ SqL K H l ws ∧ DpAll K H ws (ks.map nkD) ∧ PairsOk ps qs ks ∧ ks.Nodup ∧ ks.length < 8900 ∧ ∀ H', Same H H' → Q (.bl true) H'
theorem ok_are_pairs {f : Addr} {fd : FuncData} {f_is_stand : Addr} {fd_is_stand : FuncData} (F : Fun K "are_pairs" "are_pairs" S_are_pairs f fd)
    (F_is_stand : Fun K "is_stand" "is_stand" S_is_stand f_is_stand fd_is_stand) (b_is_stand : Binds K fd_is_stand ["train", "thing"] []) (g_is_stand : mg "is_stand" = some (.ref f_is_stand)) (G_is_stand : FnOk P w K mg base CX0 2 f_is_stand fd_is_stand ["train", "thing"] (sp_is_stand K)) (m_set : mg "set" = none) (m_isinstance : mg "isinstance" = none) (m_list : mg "list" = none) (m_tuple : mg "tuple" = none) (m_len : mg "len" = none) :
    FnOk P w K mg base CX0 3 f fd ["train", "other", "thing"] (sp_are_pairs K) := by
  refine F.ok sc_are_pairs (fun vs H Q E h => ?_) (fun cdv A outer s H vs Q E hr h => ?_)
  ·
    obtain ⟨a, b, l, ps, qs, ws, ks, rfl, _⟩ := h
    rfl
  ·
    obtain ⟨a, b, l, ps, qs, ws, ks, rfl, hA, hB, hL, dL, okK, nd, few, q⟩ := h
    refine ⟨_, (pss_cons (ps_if (pt_not (pt_val (pe_callB (r := rIsi K) call_isi (by rfl) m_isinstance (by decide +kernel) (pa_cons (pv 2) (pa_cons (pe_bltn (v := .ty "list") (u := .type "list") (by rfl) m_list (by decide +kernel) rfl) pa_nil))))) (pss_one (ps_ret pe_bl)) pss_nil)
      (pss_cons (ps_set (i := 3) sc_are_pairs.nd rfl (.inl rfl) (pe_callTy0 (r := rSn0 w K) cr_sn0 (by rfl) m_set (by decide +kernel)))
      (pss_cons (ps_for PassesOwn.never rfl (pi_list (pv 2)) (pg_name (i := 4) sc_are_pairs.nd rfl (.inl rfl))
      (pss_cons (ps_if (PW.pt (pw_or (pt_not (pt_val (pe_callB (r := rIsi K) call_isi (by rfl) m_isinstance (by decide +kernel) (pa_cons (pv 4) (pa_cons (pe_bltn (v := .ty "tuple") (u := .type "tuple") (by rfl) m_tuple (by decide +kernel) rfl) pa_nil))))) (pw_or1 (pt_cmpR op_ne (pe_callB call_len_seq (by rfl) m_len (by decide +kernel) (pa_cons (pv 4) pa_nil)) pe_int (nomark _))))) (pss_one (ps_ret pe_bl)) pss_nil)
      (pss_cons (ps_if (PW.pt (pw_or (pt_not (pt_val (pe_call G_is_stand (hr.mono (by decide)) (by rfl) g_is_stand F_is_stand.kp b_is_stand .nil pass0 (pa_cons (pv 0) (pa_cons (pe_ix (r := rIxT K) ix_tup (pv 4) pe_int (fun _ _ => rfl)) pa_nil))))) (pw_or (pt_not (pt_val (pe_call G_is_stand (hr.mono (by decide)) (by rfl) g_is_stand F_is_stand.kp b_is_stand .nil pass0 (pa_cons (pv 1) (pa_cons (pe_ix (r := rIxT K) ix_tup (pv 4) pe_int (fun _ _ => rfl)) pa_nil))))) (pw_or1 (pt_cmpR (r := rSnIn w K false) (or_snIn hr.units) (pv 4) (pv 3) (by rfl)))))) (pss_one (ps_ret pe_bl)) pss_nil)
      (pss_one (ps_expr (pe_snAdd hr.units (pv 3) (pa_cons (pv 4) pa_nil)))))))
      (pss_one (ps_ret pe_bl))))), ?_⟩
    refine w_st (σ' := [some (.ref a), some (.ref b), some (.ref l), none, none]) rfl ?_
    have wl : ws.length = ks.length := by rw [dpAll_len dL, List.length_map]
    walk_at "ct"
    refine w_isi (b := true) (tyx_L hL) (kit_ty (by decide +kernel)) ?_
    walk_at "ct"
    refine ⟨rfl, fun S nS o hS => ?_⟩
    have s_G : Same H (upd H S o) := same_upd nS
    generalize upd H S o = G at *
    walk_at "ct"
    refine w_IL (s_G.seq hL) ?_
    refine fb_list ws (fun i σ J => ∃ y, σ = [some (.ref a), some (.ref b), some (.ref l), some (.ref S), y] ∧ Same H J ∧ SnAt w K J S (ks.take i)) ⟨_, rfl, s_G, by rw [List.take_zero]; exact hS⟩ ?_ ?_ ?_
    · rintro i σ J _ ⟨y, rfl, s, _⟩
      exact s.seq hL
    · rintro i x σ J hx ⟨y, rfl, s_J, hSJ⟩
      have hi := (List.getElem?_eq_some_iff.mp hx).1
      obtain ⟨k, hk⟩ : ∃ k, ks[i]? = some k := ⟨_, List.getElem?_eq_getElem (by omega)⟩
      obtain ⟨x', hx', dx⟩ := dpAll_get dL (i := i) (d := nkD k) (by rw [List.getElem?_map, hk]; rfl)
      cases Option.some.inj (hx.symm.trans hx')
      obtain ⟨xs, ys, rfl, sx, sy⟩ := okK k (List.mem_of_getElem? hk)
      have dxJ := dp_same s_J dx
      have dx2 := dxJ
      rw [pkey_D] at dx2
      obtain ⟨g, v1, v2, rfl, hg, h1, h2⟩ := dp2_inv dx2
      obtain ⟨a1, rfl, ha1⟩ := tupD_inv h1
      obtain ⟨a2, rfl, ha2⟩ := tupD_inv h2
      have new : pkey xs ys ∉ ks.take i := fun z => by
        have nd2 : (ks.take i ++ ks.drop i).Nodup := by rw [List.take_append_drop]; exact nd
        have at_ : pkey xs ys ∈ ks.drop i := by rw [List.drop_eq_getElem_cons (by omega), (List.getElem?_eq_some_iff.mp hk).2]; exact List.mem_cons_self
        exact (List.nodup_append.mp nd2).2.2 _ z _ at_ rfl
      walk_at "ct"
      refine w_isi (b := true) (tyx_T hg) (kit_ty (by decide +kernel)) ?_
      walk_at "ct"
      refine ⟨g, _, rfl, .inr hg, ?_⟩
      walk_at "ct"
      refine w_iteN (fun z => absurd rfl z) (fun _ => ?_)
      walk_at "ct"
      refine ⟨a, a1, ps, xs, rfl, hA.same s_J, ha1, sx.ok, fun J1 s1 => ?_⟩
      walk_at "ct"
      refine w_ixT (Same.tup s1 hg) at1 ?_
      refine ⟨b, a2, qs, ys, rfl, hB.same (s_J.trans s1), Same.tup s1 ha2, sy.ok, fun J2 s2 => ?_⟩
      have s12 := s1.trans s2
      walk_at "ct"
      refine ⟨S, g, ks.take i, pkey xs ys, rfl, rfl, hSJ.same s12, pkey_depth xs ys, numK_pkey xs ys, dp_same s12 dxJ, ?_⟩
      rw [if_neg Bool.false_ne_true, decide_eq_false new]
      walk_at "ct"
      refine ⟨⟨S, _, rfl, hSJ.same s12⟩, ?_⟩
      walk_at "ct"
      refine ⟨S, g, ks.take i, pkey xs ys, rfl, rfl, hSJ.same s12, by rw [List.length_take]; omega, pkey_depth xs ys, numK_pkey xs ys, dp_same s12 dxJ, fun o hS2 => ?_⟩
      unfold putN at hS2
      rw [if_neg new] at hS2
      walk_at "ct"
      refine ⟨_, rfl, same_new (s_J.trans s12) nS, ?_⟩
      rw [List.take_add_one, hk]
      exact hS2
    rintro σ J ⟨y, rfl, s, _⟩
    walk_at "ct"
    exact q J s
abbrev S_pairs_hold : Stmt := topS 27
theorem sc_pairs_hold : FnScope ["one", "other", "pairs", "start", "among", "here", "there", "mine", "its", "pair"] ["one", "other", "pairs", "start"] (defScope S_pairs_hold) := ⟨rfl, rfl, rfl, by decide +kernel, rfl, by decide +kernel, by decide +kernel⟩
def sp_pairs_hold (w : World) (K : PySem.W.Frag) (c_Mover : Addr) : Sp := fun vs H Q _ => ∃ (p1 k1 p2 k2 l g : Addr) (ps qs : List Part) (pus : List (Nat × Int)) (xs ys : List Int) (kv1 kv2 : List (NestedKey × V)) (ws : List V) (ks : List NestedKey), vs = [.ref p1, .ref p2, .ref l, .ref g] ∧ MoverAt w K c_Mover H p1 k1 ps pus kv1 [] ∧ MoverAt w K c_Mover H p2 k2 qs pus kv2 [] ∧ k1 ≠ k2 ∧ (∀ p ∈ ps, p.ok) ∧ (∀ p ∈ qs, p.ok) ∧ 1 ≤ ps.length ∧ ps.length ≤ 1000 ∧ 1 ≤ qs.length ∧ qs.length ≤ 1000 ∧ (∀ q ∈ pus, q.1 < ps.length ∧ q.1 < qs.length ∧ Sign q.2) ∧ pus.length ≤ 1000 ∧ stands ps ≤ 13000000 ∧ stands qs ≤ 13000000 ∧
  H l = some (.lst ws) ∧ DpAll K H ws (ks.map nkD) ∧ PairsOk ps qs ks ∧ ks.Nodup ∧ ks.length ≤ 8900 ∧ Dp K H (.ref g) (nkD (pkey xs ys)) ∧ pkey xs ys ∈ ks ∧ ClosedN ps qs pus ks ∧
  ∀ kv1' kv2' H', Keep [k1, k2] H H' → MoverAt w K c_Mover H' p1 k1 ps pus kv1' [] → MoverAt w K c_Mover H' p2 k2 qs pus kv2' [] → Q (.bl true) H'
theorem ok_pairs_hold {f : Addr} {fd : FuncData} {f_Mover__moves : Addr} {fd_Mover__moves : FuncData} {c_Mover : Addr} (F : Fun K "pairs_hold" "pairs_hold" S_pairs_hold f fd)
    (CL_Mover : Cls K c_Mover)
    (F_Mover__moves : Fun K "moves" "Mover.moves" S_Mover__moves f_Mover__moves fd_Mover__moves) (b_Mover__moves : Binds K fd_Mover__moves ["self", "stand"] []) (MT_Mover__moves : Meth K c_Mover "moves" f_Mover__moves) (G_Mover__moves : FnOk P w K mg base CX0 4 f_Mover__moves fd_Mover__moves ["self", "stand"] (sp_Mover__moves w K c_Mover)) (m_zip : mg "zip" = none) :
    FnOk P w K mg base CX0 5 f fd ["one", "other", "pairs", "start"] (sp_pairs_hold w K c_Mover) := by
  refine F.ok sc_pairs_hold (fun vs H Q E h => ?_) (fun cdv A outer s H vs Q E hr h => ?_)
  ·
    obtain ⟨p1, k1, p2, k2, l, g, ps, qs, pus, xs, ys, kv1, kv2, ws, ks, rfl, _⟩ := h
    rfl
  ·
    obtain ⟨p1, k1, p2, k2, l, g, ps, qs, pus, xs, ys, kv10, kv20, ws, ks, rfl, M1, M2, ne, ok1, ok2, l1, l1', l2, l2', okP, plen, few1, few2, hL, dL, okK, nd, kfew, hg, st, cl, q⟩ := h
    refine ⟨_, (pss_cons (ps_setDcN (i := 4) rfl rfl (swD_true rfl rfl rfl (by decide +kernel)) (own := [("pair", 9)]) (g := gName 9) rfl hr.units sc_pairs_hold.nd (pi_list (pv 2)) (blkOk_by (own := [("pair", 9)]) (N := ["one", "other", "pairs", "start", "among", "here", "there", "mine", "its", "pair"]) (sc := defScope S_pairs_hold) (by decide +kernel)) (fun _ _ _ _ _ => pg_name (i := 9) sc_pairs_hold.nd rfl (Or.inl rfl)) (fun _ _ _ _ _ => pts_nil) (fun _ _ _ _ _ => (pv 9)) (fun _ _ _ _ _ => pe_bl))
      (pss_cons (ps_if (pt_cmp (pc_ndnotin hr.units (pv 3) (pv 4))) (pss_one (ps_ret pe_bl)) pss_nil)
      (pss_cons (ps_for PassesOwn.never rfl (pi_list (pv 2)) (pg_tup rfl (pgs_cons (pg_name (i := 5) sc_pairs_hold.nd rfl (.inl rfl)) (pgs_cons (pg_name (i := 6) sc_pairs_hold.nd rfl (.inl rfl)) pgs_nil)))
      (pss_one (ps_for PassesOwn.never rfl (pi_zip (by rfl) m_zip (pa_cons (pe_meth (pv 0) CL_Mover MT_Mover__moves G_Mover__moves (hr.mono (by decide)) b_Mover__moves .nil pass0 (pa_cons (pv 5) pa_nil)) (pa_cons (pe_meth (pv 1) CL_Mover MT_Mover__moves G_Mover__moves (hr.mono (by decide)) b_Mover__moves .nil pass0 (pa_cons (pv 6) pa_nil)) pa_nil))) (pg_tup rfl (pgs_cons (pg_name (i := 7) sc_pairs_hold.nd rfl (.inl rfl)) (pgs_cons (pg_name (i := 8) sc_pairs_hold.nd rfl (.inl rfl)) pgs_nil)))
      (pss_one (ps_if (PW.pt (pw_or (pt_cmpR op_ne (pe_ix (r := rIxT K) ix_tup (pv 7) pe_int (fun _ _ => rfl)) (pe_ix (r := rIxT K) ix_tup (pv 8) pe_int (fun _ _ => rfl)) (nomark _)) (pw_or1 (pt_cmp (pc_ndnotin hr.units (pe_tup (pa_cons (pe_ix (r := rIxT K) ix_tup (pv 7) pe_int (fun _ _ => rfl)) (pa_cons (pe_ix (r := rIxT K) ix_tup (pv 8) pe_int (fun _ _ => rfl)) pa_nil))) (pv 4)))))) (pss_one (ps_ret pe_bl)) pss_nil)))))
      (pss_one (ps_ret pe_bl))))), ?_⟩
    refine w_st (σ' := [some (.ref p1), some (.ref p2), some (.ref l), some (.ref g), none, none, none, none, none, none]) rfl ?_
    have wl : ws.length = ks.length := by rw [dpAll_len dL, List.length_map]
    obtain ⟨xk1, ek1⟩ := M1.kn.ext
    obtain ⟨xk2, ek2⟩ := M2.kn.ext
    walk_at "ct"
    refine w_IL (.of hL) ?_
    refine dbn_list ws (fun D i J => Same H J ∧ ∃ kvs, NdAt w K J D kvs ∧ kvs.map (·.1) = ks.take i) (fun D nD hD => ⟨same_upd nD, [], hD, by rw [List.take_zero]; rfl⟩) (fun D nD i J _ h => .of (h.1 _ _ hL)) ?_ ?_
    · rintro D nD i x J hx ⟨s_J, kvs, hD, ek⟩
      have hi := (List.getElem?_eq_some_iff.mp hx).1
      obtain ⟨k, hk⟩ : ∃ k, ks[i]? = some k := ⟨_, List.getElem?_eq_getElem (by omega)⟩
      obtain ⟨x', hx', dx⟩ := dpAll_get dL (i := i) (d := nkD k) (by rw [List.getElem?_map, hk]; rfl)
      cases Option.some.inj (hx.symm.trans hx')
      obtain ⟨us, vs, rfl, su, sv⟩ := okK k (List.mem_of_getElem? hk)
      have dxJ := dp_same s_J dx
      have dx2 := dxJ
      rw [pkey_D] at dx2
      obtain ⟨b, v1, v2, rfl, hb, h1, h2⟩ := dp2_inv dx2
      have kl : kvs.length = i := by
        have := congrArg List.length ek
        rw [List.length_map, List.length_take] at this
        omega
      have new : valV kvs (pkey us vs) = none := by
        cases e : valV kvs (pkey us vs) with
        | none => rfl
        | some v =>
          have z := valV_in e
          rw [ek] at z
          have nd2 : (ks.take i ++ ks.drop i).Nodup := by rw [List.take_append_drop]; exact nd
          have at_ : pkey us vs ∈ ks.drop i := by rw [List.drop_eq_getElem_cons (by omega), (List.getElem?_eq_some_iff.mp hk).2]; exact List.mem_cons_self
          exact absurd rfl ((List.nodup_append.mp nd2).2.2 _ z _ at_)
      walk_at "ct"
      refine ⟨rfl, ?_⟩
      walk_at "ct"
      refine ⟨kvs, pkey us vs, b, rfl, hD, pkey_depth us vs, dxJ, new, Nat.lt_of_le_of_lt (show kvs.length ≤ 8900 by omega) (by decide), fun o hD2 => ⟨same_new s_J nD, _, hD2, ?_⟩⟩
      rw [List.map_append, ek, List.take_add_one, hk]
      rfl
    rintro M nM G0 ⟨s_G0, kvs, hM, ek⟩
    rw [wl, List.take_of_length_le (Nat.le_refl _)] at ek
    have kin : ∀ k, k ∈ ks → ∃ v, valV kvs k = some v := fun k hk => by
      cases e : valV kvs k with
      | some v => exact ⟨v, rfl⟩
      | none => exact absurd (ek ▸ hk) (valV_not e)
    obtain ⟨v0, hv0⟩ := kin _ st
    obtain ⟨xM, eM⟩ := hM.ext
    have nM1 : M ≠ k1 := fun z => by rw [z, ek1] at nM; cases nM
    have nM2 : M ≠ k2 := fun z => by rw [z, ek2] at nM; cases nM
    have nl1 : l ≠ k1 := fun z => by rw [z, ek1] at hL; cases hL
    have nl2 : l ≠ k2 := fun z => by rw [z, ek2] at hL; cases hL
    have hL0 := s_G0 _ _ hL
    have dL0 := dpAll_same s_G0 dL
    walk_at "ct"
    refine ⟨M, _, rfl, ⟨kvs, _, g, rfl, hM, pkey_depth xs ys, dp_same s_G0 hg, hv0.symm⟩, ?_⟩
    walk_at "ct"
    refine L2.iteF ?_
    walk_at "ct"
    have I0 : HoldI w K c_Mover G0 G0 p1 k1 p2 k2 ps qs pus kv10 kv20 [] [] := ⟨Keep.refl, TupK.refl, M1.same s_G0, M2.same s_G0⟩
    refine w_IL (.of hL0) ?_
    refine fb_list ws (fun i σ J => ∃ (y5 y6 y7 y8 : Option V) (kv1 kv2 : List (NestedKey × V)), σ = [some (.ref p1), some (.ref p2), some (.ref l), some (.ref g), some (.ref M), y5, y6, y7, y8, none] ∧ HoldI w K c_Mover G0 J p1 k1 p2 k2 ps qs pus kv1 kv2 [] []) ⟨_, _, _, _, _, _, rfl, I0⟩ ?_ ?_ ?_
    · rintro i σ J _ ⟨y5, y6, y7, y8, kv1, kv2, rfl, I⟩
      exact .of (I.lst hL0 nl1 nl2)
    · rintro i x σ J hx ⟨y5, y6, y7, y8, kv1, kv2, rfl, I⟩
      have hi := (List.getElem?_eq_some_iff.mp hx).1
      obtain ⟨k, hk⟩ : ∃ k, ks[i]? = some k := ⟨_, List.getElem?_eq_getElem (by omega)⟩
      obtain ⟨x', hx', dx⟩ := dpAll_get (dpAll_td I.tup (tds_all fun k _ => td_nk k) dL0) (i := i) (d := nkD k) (by rw [List.getElem?_map, hk]; rfl)
      cases Option.some.inj (hx.symm.trans hx')
      have hkm := List.mem_of_getElem? hk
      obtain ⟨us, vs, rfl, su, sv⟩ := okK k hkm
      have ck := cl us vs hkm
      rw [pkey_D] at dx
      obtain ⟨b, v1, v2, rfl, hb, h1, h2⟩ := dp2_inv dx
      obtain ⟨a1, rfl, ha1⟩ := tupD_inv h1
      obtain ⟨a2, rfl, ha2⟩ := tupD_inv h2
      refine w_gtup hb rfl ?_
      walk_at "ct"
      refine w_izipw ?_
      walk_at "ct"
      obtain ⟨dx1, tr1, u1, hp1, _, _⟩ := id I.m1.ob
      refine ⟨p1, dx1, _, rfl, hp1, fldsM_no _ _ _ (by decide +kernel) (by decide +kernel) (by decide +kernel), ?_⟩
      walk_at "ct"
      have kf1 := known_few I.m1.kn I.m1.right
      refine ⟨p1, k1, a1, ps, pus, kv1, us, [], rfl, I.m1, (fun _ z => nomatch z), ok1, l1, l1', (fun q hq => ⟨Nat.le_of_lt (okP q hq).1, (okP q hq).2.2⟩), plen, by omega, tupD_dp ha1, su, fun la wsa kv1' J1 kk1 M1' _ _ hla dla => ?_⟩
      have I1 := I.mv1 ne kk1 M1'
      have t1 := kk1.tupK (one_noLst I.m1).2.1
      walk_at "ct"
      obtain ⟨dx2, tr2, u2, hp2, _, _⟩ := id I1.m2.ob
      refine ⟨p2, dx2, _, rfl, hp2, fldsM_no _ _ _ (by decide +kernel) (by decide +kernel) (by decide +kernel), ?_⟩
      walk_at "ct"
      have kf2 := known_few I1.m2.kn I1.m2.right
      refine ⟨p2, k2, a2, qs, pus, kv2, vs, [], rfl, I1.m2, (fun _ z => nomatch z), ok2, l2, l2', (fun q hq => ⟨Nat.le_of_lt (okP q hq).2.1, (okP q hq).2.2⟩), plen, by omega, dp_td t1 (td_tupD _) (tupD_dp ha2), sv, fun lb wsb kv2' J2 kk2 M2' _ _ hlb dlb => ?_⟩
      have I2 := I1.mv2 ne kk2 M2'
      have t2 := kk2.tupK (one_noLst I1.m2).2.1
      have hla2 := kk2 _ _ (fun z => by
        obtain ⟨x2, e2⟩ := I1.m2.kn.ext
        rw [List.mem_singleton.mp z, e2] at hla
        cases hla) hla
      have dla2 := dpAll_td t2 (tds_all fun a _ => td_mvD a) dla
      have wla : wsa.length = pus.length := by rw [dpAll_len dla2, List.length_map]; exact List.length_map _
      have wlb : wsb.length = pus.length := by rw [dpAll_len dlb, List.length_map]; exact List.length_map _
      walk_at "ct"
      refine w_IZw (.of hla2) (.of hlb) ?_
      refine fb_zipw wsa wsb (by omega) (fun j σ J3 => ∃ (y7 y8 : Option V), σ = [some (.ref p1), some (.ref p2), some (.ref l), some (.ref g), some (.ref M), some (.ref a1), some (.ref a2), y7, y8, none] ∧ Same J2 J3) ⟨_, _, rfl, Same.refl _⟩ ?_ ?_ ?_
      · rintro j σ J3 _ ⟨y7, y8, rfl, s⟩
        exact ⟨.of (s _ _ hla2), .of (s _ _ hlb)⟩
      · rintro j x y T σ J3 J4 hx hy ⟨y7, y8, rfl, s3⟩ nT s4 hT
        have hj := (List.getElem?_eq_some_iff.mp hx).1
        obtain ⟨qq, hq⟩ : ∃ qq, pus[j]? = some qq := ⟨_, List.getElem?_eq_getElem (by omega)⟩
        have s34 := s3.trans s4
        obtain ⟨x1, hx1, dx'⟩ := dpAll_get dla2 (i := j) (d := mvD (Ct.run ps us qq.1 qq.2)) (by unfold movesOf; rw [List.getElem?_map, List.getElem?_map, hq]; rfl)
        cases Option.some.inj (hx.symm.trans hx1)
        obtain ⟨y1, hy1, dy'⟩ := dpAll_get dlb (i := j) (d := mvD (Ct.run qs vs qq.1 qq.2)) (by unfold movesOf; rw [List.getElem?_map, List.getElem?_map, hq]; rfl)
        cases Option.some.inj (hy.symm.trans hy1)
        obtain ⟨m1, n1, rfl, hm1, hn1⟩ := mv_inv (dp_same s34 dx')
        obtain ⟨m2, n2, rfl, hm2, hn2⟩ := mv_inv (dp_same s34 dy')
        obtain ⟨e1, e2⟩ := ck qq (List.mem_of_getElem? hq)
        obtain ⟨v3, hv3⟩ := kin _ e2
        refine w_gtup (.of hT) rfl ?_
        walk_at "ct"
        refine w_iteN (fun z => absurd e1 z) (fun _ => ?_)
        walk_at "ct"
        refine ⟨len2 rfl, fun tt n_tt => ?_⟩
        generalize h_J5 : upd _ tt _ = J5
        obtain ⟨s_J5, e_tt⟩ := Ct.upd_new h_J5 n_tt
        clear h_J5
        walk_at "ct"
        have I5 := I2.same (show Same J2 J5 from (by walk_at "sm"))
        refine ⟨M, _, rfl, ⟨kvs, pkey (rA ps us qq).1 (rA qs vs qq).1, tt, rfl, I5.dict hM nM1 nM2, pkey_depth _ _, ?_, hv3.symm⟩, ?_⟩
        · rw [pkey_D]
          exact .tup (.of e_tt) (.cons (tupD_dp (Same.tup s_J5 hn1)) (.cons (tupD_dp (Same.tup s_J5 hn2)) .nil))
        walk_at "ct"
        refine L2.iteF ?_
        walk_at "ct"
        exact ⟨_, _, rfl, (by walk_at "sm")⟩
      rintro σ J3 ⟨y7, y8, rfl, s3⟩
      exact ⟨_, _, _, _, _, _, rfl, I2.same s3⟩
    rintro σ J ⟨y5, y6, y7, y8, kv1, kv2, rfl, I⟩
    walk_at "ct"
    exact q _ _ J (Keep.trans (keep_same s_G0) I.keep) I.m1 I.m2
abbrev S_unlike_at_last : Stmt := topS 28
theorem sc_unlike_at_last : FnScope ["train", "stand", "other", "there", "pushes", "shown", "shown_there", "i", "way"] ["train", "stand", "other", "there", "pushes"] (defScope S_unlike_at_last) := ⟨rfl, rfl, rfl, by decide +kernel, rfl, by decide +kernel, by decide +kernel⟩
def sp_unlike_at_last (K : PySem.W.Frag) : Sp := fun vs H Q _ => ∃ (a t b u l : Addr) (ps qs : List Part) (xs ys : List Int) (ws : List V) (pus : List (Nat × Int)), vs = [.ref a, .ref t, .ref b, .ref u, .ref l] ∧ TrainAt K H a ps ∧ TrainAt K H b qs ∧ (∀ p ∈ ps, p.ok) ∧ (∀ p ∈ qs, p.ok) ∧ ps.length ≤ 1000 ∧ qs.length ≤ 1000 ∧ SqT K H t (xs.map V.int) ∧ StandL ps xs ∧ SqT K H u (ys.map V.int) ∧ StandL qs ys ∧ SqL K H l ws ∧ DpAll K H ws (pus.map psD) ∧ (∀ q ∈ pus, q.1 < ps.length ∧ q.1 < qs.length ∧ Sign q.2) ∧
  ∀ H', Same H H' → Q (.bl (!decide ((goP ps pus (xs, 0)).2 = (goP qs pus (ys, 0)).2))) H'
theorem ok_unlike_at_last {f : Addr} {fd : FuncData} {f_pushed : Addr} {fd_pushed : FuncData} (F : Fun K "unlike_at_last" "unlike_at_last" S_unlike_at_last f fd)
    (F_pushed : Fun K "pushed" "pushed" S_pushed f_pushed fd_pushed) (b_pushed : Binds K fd_pushed ["train", "stand", "i", "way"] []) (g_pushed : mg "pushed" = some (.ref f_pushed)) (G_pushed : FnOk P w K mg base CX0 3 f_pushed fd_pushed ["train", "stand", "i", "way"] (sp_pushed K)) :
    FnOk P w K mg base CX0 4 f fd ["train", "stand", "other", "there", "pushes"] (sp_unlike_at_last K) := by
  refine F.ok sc_unlike_at_last (fun vs H Q E h => ?_) (fun cdv A outer s H vs Q E hr h => ?_)
  ·
    obtain ⟨a, t, b, u, l, ps, qs, xs, ys, ws, pus, rfl, _⟩ := h
    rfl
  ·
    obtain ⟨a, t, b, u, l, ps, qs, xs, ys, ws, pus, rfl, hA, hB, ok1, ok2, l1, l2, ht, sx, hu, sy, hL, dL, okP, q⟩ := h
    refine ⟨_, (pss_cons (ps_set (i := 5) sc_unlike_at_last.nd rfl (.inl rfl) pe_int)
      (pss_cons (ps_set (i := 6) sc_unlike_at_last.nd rfl (.inl rfl) pe_int)
      (pss_cons (ps_for PassesOwn.never rfl (pi_list (pv 4)) (pg_tup rfl (pgs_cons (pg_name (i := 7) sc_unlike_at_last.nd rfl (.inl rfl)) (pgs_cons (pg_name (i := 8) sc_unlike_at_last.nd rfl (.inl rfl)) pgs_nil)))
      (pss_cons (ps_asg (pe_call G_pushed (hr.mono (by decide)) (by rfl) g_pushed F_pushed.kp b_pushed .nil pass0 (pa_cons (pv 0) (pa_cons (pv 1) (pa_cons (pv 7) (pa_cons (pv 8) pa_nil))))) (pg_tup rfl (pgs_cons (pg_name (i := 1) sc_unlike_at_last.nd rfl (.inl rfl)) (pgs_cons (pg_name (i := 5) sc_unlike_at_last.nd rfl (.inl rfl)) pgs_nil))))
      (pss_one (ps_asg (pe_call G_pushed (hr.mono (by decide)) (by rfl) g_pushed F_pushed.kp b_pushed .nil pass0 (pa_cons (pv 2) (pa_cons (pv 3) (pa_cons (pv 7) (pa_cons (pv 8) pa_nil))))) (pg_tup rfl (pgs_cons (pg_name (i := 3) sc_unlike_at_last.nd rfl (.inl rfl)) (pgs_cons (pg_name (i := 6) sc_unlike_at_last.nd rfl (.inl rfl)) pgs_nil)))))))
      (pss_one (ps_ret (pe_cmpR op_ne (pv 5) (pv 6) (nomark _))))))), ?_⟩
    refine w_st (σ' := [some (.ref a), some (.ref t), some (.ref b), some (.ref u), some (.ref l), none, none, none, none]) rfl ?_
    have wl : ws.length = pus.length := by rw [dpAll_len dL, List.length_map]
    walk_at "ct"
    refine w_IL hL ?_
    refine fb_list ws (fun i σ J => ∃ (t u : Addr) (y7 y8 : Option V), σ = [some (.ref a), some (.ref t), some (.ref b), some (.ref u), some (.ref l), some (.int (goP ps (pus.take i) (xs, 0)).2), some (.int (goP qs (pus.take i) (ys, 0)).2), y7, y8] ∧ Same H J ∧ SqT K J t ((goP ps (pus.take i) (xs, 0)).1.map V.int) ∧ SqT K J u ((goP qs (pus.take i) (ys, 0)).1.map V.int)) ⟨t, u, _, _, rfl, Same.refl _, ht, hu⟩ ?_ ?_ ?_
    · rintro i σ J _ ⟨t, u, y7, y8, rfl, s, _⟩
      exact s.seq hL
    · rintro i x σ J hx ⟨t, u, y7, y8, rfl, s_J, htJ, huJ⟩
      have hi := (List.getElem?_eq_some_iff.mp hx).1
      obtain ⟨qq, hq⟩ : ∃ qq, pus[i]? = some qq := ⟨_, List.getElem?_eq_getElem (by omega)⟩
      obtain ⟨x', hx', dx⟩ := dpAll_get dL (i := i) (d := psD qq) (by rw [List.getElem?_map, hq]; rfl)
      cases Option.some.inj (hx.symm.trans hx')
      obtain ⟨g, rfl, hg⟩ := ps_inv (dp_same s_J dx)
      have okq := okP qq (List.mem_of_getElem? hq)
      have okT : ∀ z ∈ pus.take i, z.1 < ps.length ∧ z.1 < qs.length ∧ Sign z.2 := fun z hz => okP z (List.mem_of_mem_take hz)
      have sx2 := goP_stand (pus.take i) (xs, 0) sx fun z hz => ⟨(okT z hz).1, (okT z hz).2.2⟩
      have sy2 := goP_stand (pus.take i) (ys, 0) sy fun z hz => ⟨(okT z hz).2.1, (okT z hz).2.2⟩
      refine w_gtup hg rfl ?_
      walk_at "ct"
      refine ⟨a, t, ps, _, qq.1, qq.2, rfl, hA.same s_J, ok1, htJ, sx2.ok, Nat.le_of_lt okq.1, l1, okq.2.2, fun r1 u1 J1 s1 nu1 nr1 hu1 hr1 => ?_⟩
      refine w_gtup (.of hr1) rfl ?_
      walk_at "ct"
      refine ⟨b, u, qs, _, qq.1, qq.2, rfl, hB.same (s_J.trans s1), ok2, Same.tup s1 huJ, sy2.ok, Nat.le_of_lt okq.2.1, l2, okq.2.2, fun r2 u2 J2 s2 nu2 nr2 hu2 hr2 => ?_⟩
      refine w_gtup (.of hr2) rfl ?_
      walk_at "ct"
      have e1 : goP ps (pus.take (i + 1)) (xs, 0) = Ct.run ps (goP ps (pus.take i) (xs, 0)).1 qq.1 qq.2 := by rw [List.take_add_one, hq]; exact goP_snoc ps _ qq _
      have e2 : goP qs (pus.take (i + 1)) (ys, 0) = Ct.run qs (goP qs (pus.take i) (ys, 0)).1 qq.1 qq.2 := by rw [List.take_add_one, hq]; exact goP_snoc qs _ qq _
      refine ⟨u1, u2, _, _, by rw [e1, e2], (s_J.trans s1).trans s2, by rw [e1]; exact .of (s2 _ _ hu1), by rw [e2]; exact .of hu2⟩
    rintro σ J ⟨t, u, y7, y8, rfl, s, _⟩
    rw [wl, List.take_of_length_le (Nat.le_refl _)]
    walk_at "ct"
    exact q J s
abbrev S_tells_alike : Stmt := topS 29
theorem sc_tells_alike : FnScope ["train", "stand", "other", "there", "pairs"] ["train", "stand", "other", "there", "pairs"] (defScope S_tells_alike) := ⟨rfl, rfl, rfl, by decide +kernel, rfl, by decide +kernel, by decide +kernel⟩
def sp_tells_alike (K : PySem.W.Frag) (c_Mover : Addr) : Sp := fun vs H Q _ => ∃ (a t b u l : Addr) (ps qs : List Part) (xs ys : List Int) (ws : List V) (ks : List NestedKey), vs = [.ref a, .ref t, .ref b, .ref u, .ref l] ∧ TrainAt K H a ps ∧ TrainAt K H b qs ∧ (∀ p ∈ ps, p.ok) ∧ (∀ p ∈ qs, p.ok) ∧ 1 ≤ ps.length ∧ ps.length ≤ 1000 ∧ 1 ≤ qs.length ∧ qs.length ≤ 1000 ∧ SqT K H t (xs.map V.int) ∧ StandL ps xs ∧ SqT K H u (ys.map V.int) ∧ StandL qs ys ∧ stands ps ≤ 13000000 ∧ stands qs ≤ 13000000 ∧
  H l = some (.lst ws) ∧ DpAll K H ws (ks.map nkD) ∧ PairsOk ps qs ks ∧ ks.Nodup ∧ ks.length < 8900 ∧ sortD (ks.map nkD) = ks.map nkD ∧ pkey xs ys ∈ ks ∧ ClosedN ps qs ways2 ks ∧ ∀ H', Same H H' → Q (.bl true) H'
theorem ok_tells_alike {f : Addr} {fd : FuncData} {f_Mover____init__ : Addr} {fd_Mover____init__ : FuncData} {f_pairs_hold : Addr} {fd_pairs_hold : FuncData} {f_are_pairs : Addr} {fd_are_pairs : FuncData} {c_Mover : Addr} {q0_AT_FIRST_PART : Addr} (F : Fun K "tells_alike" "tells_alike" S_tells_alike f fd)
    (CL_Mover : Cls K c_Mover)
    (F_Mover____init__ : Fun K "__init__" "Mover.__init__" S_Mover____init__ f_Mover____init__ fd_Mover____init__) (b_Mover____init__ : Binds K fd_Mover____init__ ["self", "train", "pushes"] []) (MK_Mover : Mk K c_Mover f_Mover____init__) (G_Mover____init__ : FnOk P w K mg base CX0 1 f_Mover____init__ fd_Mover____init__ ["self", "train", "pushes"] (sp_Mover____init__ w K c_Mover))
    (F_pairs_hold : Fun K "pairs_hold" "pairs_hold" S_pairs_hold f_pairs_hold fd_pairs_hold) (b_pairs_hold : Binds K fd_pairs_hold ["one", "other", "pairs", "start"] []) (g_pairs_hold : mg "pairs_hold" = some (.ref f_pairs_hold)) (G_pairs_hold : FnOk P w K mg base CX0 5 f_pairs_hold fd_pairs_hold ["one", "other", "pairs", "start"] (sp_pairs_hold w K c_Mover))
    (F_are_pairs : Fun K "are_pairs" "are_pairs" S_are_pairs f_are_pairs fd_are_pairs) (b_are_pairs : Binds K fd_are_pairs ["train", "other", "thing"] []) (g_are_pairs : mg "are_pairs" = some (.ref f_are_pairs)) (G_are_pairs : FnOk P w K mg base CX0 3 f_are_pairs fd_are_pairs ["train", "other", "thing"] (sp_are_pairs K)) (m_sorted : mg "sorted" = none)
    (g_Mover : mg "Mover" = some (.ref c_Mover)) (g_AT_FIRST_PART : mg "AT_FIRST_PART" = some (.ref q0_AT_FIRST_PART)) (D_AT_FIRST_PART : ∀ H : Hp, Dp K H (.ref q0_AT_FIRST_PART) (.tuple [.tuple [.int (0), .int (1)], .tuple [.int (0), .int (-1)]])) :
    FnOk P w K mg base CX0 6 f fd ["train", "stand", "other", "there", "pairs"] (sp_tells_alike K c_Mover) := by
  refine F.ok sc_tells_alike (fun vs H Q E h => ?_) (fun cdv A outer s H vs Q E hr h => ?_)
  ·
    obtain ⟨a, t, b, u, l, ps, qs, xs, ys, ws, ks, rfl, _⟩ := h
    rfl
  ·
    obtain ⟨a, t, b, u, l, ps, qs, xs, ys, ws, ks, rfl, hA, hB, ok1, ok2, l1, l1', l2, l2', ht, sx, hu, sy, few1, few2, hL, dL, okK, nd, kfew, so, st, cl, q⟩ := h
    refine ⟨_, (pss_cons (ps_if (PW.pt (pw_or (pt_not (pt_val (pe_call G_are_pairs (hr.mono (by decide)) (by rfl) g_are_pairs F_are_pairs.kp b_are_pairs .nil pass0 (pa_cons (pv 0) (pa_cons (pv 2) (pa_cons (pv 4) pa_nil)))))) (pw_or1 (pt_cmpR (r := rNeD K) (op_neD hr.units) (pv 4) (pe_callB (r := rSortD K) (cr_sortD (units65 hr)) (by rfl) m_sorted (by decide +kernel) (pa_cons (pv 4) pa_nil)) (nomark _))))) (pss_one (ps_ret pe_bl)) pss_nil)
      (pss_one (ps_ret (pe_call G_pairs_hold (hr.mono (by decide)) (by rfl) g_pairs_hold F_pairs_hold.kp b_pairs_hold .nil pass0 (pa_cons (pe_make MK_Mover G_Mover____init__ (hr.mono (by decide)) (by rfl) g_Mover b_Mover____init__ .nil pass0 (pa_cons (pv 0) (pa_cons (pe_glob (v := .ref q0_AT_FIRST_PART) (by rfl) g_AT_FIRST_PART rfl) pa_nil))) (pa_cons (pe_make MK_Mover G_Mover____init__ (hr.mono (by decide)) (by rfl) g_Mover b_Mover____init__ .nil pass0 (pa_cons (pv 2) (pa_cons (pe_glob (v := .ref q0_AT_FIRST_PART) (by rfl) g_AT_FIRST_PART rfl) pa_nil))) (pa_cons (pv 4) (pa_cons (pe_tup (pa_cons (pv 1) (pa_cons (pv 3) pa_nil))) pa_nil)))))))), ?_⟩
    refine w_st (σ' := [some (.ref a), some (.ref t), some (.ref b), some (.ref u), some (.ref l)]) rfl ?_
    walk_at "ct"
    refine ⟨a, b, l, ps, qs, ws, ks, rfl, hA, hB, .of hL, dL, okK, nd, kfew, fun H1 s1 => ?_⟩
    walk_at "ct"
    have pk : ∀ d ∈ ks.map nkD, ∃ us vs, d = nkD (pkey us vs) := fun d hd => by
      obtain ⟨k, hk, rfl⟩ := List.mem_map.mp hd
      obtain ⟨us, vs, rfl, _⟩ := okK k hk
      exact ⟨us, vs, rfl⟩
    have layP : ∀ d ∈ ks.map nkD, d.canLay0 = true ∧ d.depth ≤ 2 := fun d hd => by
      obtain ⟨us, vs, rfl⟩ := pk d hd
      rw [pkey_D]
      exact lay_tup (n := 1) fun d hd => by
        rcases List.mem_cons.mp hd with rfl | hd
        · exact lay_tup (lay_ints us 0)
        · rw [List.mem_singleton.mp hd]
          exact lay_tup (lay_ints vs 0)
    refine ⟨l, ws, ks.map nkD, rfl, .of (s1 _ _ hL), dpAll_same s1 dL, fun d hd e he => ?_, .inl fun d hd => ?_, fun d hd => Nat.le_trans (layP d hd).2 (by decide), fun zs p zl dz np => ?_⟩
    · obtain ⟨us, vs, rfl⟩ := pk d hd
      obtain ⟨us2, vs2, rfl⟩ := pk e he
      exact alike_pk _ _ _ _
    · obtain ⟨us, vs, rfl⟩ := pk d hd
      rw [pkey_D]
      exact ⟨_, _, rfl⟩
    rw [so] at dz
    generalize h_H2 : upd _ p _ = H2
    obtain ⟨s_H2, e_p⟩ := Ct.upd_new h_H2 np
    clear h_H2
    refine w_neSame (.list (ks.map nkD)) (.lst (.of (s_H2 _ _ (s1 _ _ hL))) (dpAll_same (s1.trans s_H2) dL)) (.lst (.of e_p) (dpAll_same s_H2 dz)) (lay_lst layP) (by decide) ?_
    have s12 : Same H H2 := s1.trans s_H2
    clear dz e_p s_H2
    walk_at "ct"
    intro x1 d1 nx1 nd1 ne1
    have s3 : Same H2 (upd (upd H2 d1 (.own x1)) x1 (.ins c_Mover d1 [])) := (same_upd nd1).trans (same_upd (by rw [upd_ne ne1.symm]; exact nx1))
    have hx1 : (upd (upd H2 d1 (.own x1)) x1 (.ins c_Mover d1 [])) x1 = some (.ins c_Mover d1 []) := upd_same
    generalize upd (upd H2 d1 (.own x1)) x1 (.ins c_Mover d1 []) = H3 at *
    have s13 := s12.trans s3
    refine ⟨x1, d1, a, q0_AT_FIRST_PART, ps, [(0, 1), (0, -1)], rfl, hx1, hA.same s13, D_AT_FIRST_PART H3, fun k1 H4 nk1 kp1 tp1 M1 => ⟨rfl, ?_⟩⟩
    have fx1 := s12.free nx1
    have fk1 := s13.free nk1
    have K4 : Keep [] H H4 := (keep_same (S := []) s13).then kp1 fun z hz => .inr (by rw [List.mem_singleton.mp hz]; exact fx1)
    walk_at "ct"
    intro x2 d2 nx2 nd2 ne2
    have s5 : Same H4 (upd (upd H4 d2 (.own x2)) x2 (.ins c_Mover d2 [])) := (same_upd nd2).trans (same_upd (by rw [upd_ne ne2.symm]; exact nx2))
    have hx2 : (upd (upd H4 d2 (.own x2)) x2 (.ins c_Mover d2 [])) x2 = some (.ins c_Mover d2 []) := upd_same
    generalize upd (upd H4 d2 (.own x2)) x2 (.ins c_Mover d2 []) = H5 at *
    have K5 := K4.nil.trans s5
    refine ⟨x2, d2, b, q0_AT_FIRST_PART, qs, [(0, 1), (0, -1)], rfl, hx2, hB.same K5, D_AT_FIRST_PART H5, fun k2 H6 nk2 kp2 tp2 M2 => ⟨rfl, ?_⟩⟩
    have fx2 := K4.nil.free nx2
    have fk2 := K5.free nk2
    have K6 : Keep [] H H6 := (keep_same (S := []) K5).then kp2 fun z hz => .inr (by rw [List.mem_singleton.mp hz]; exact fx2)
    have M15 := M1.same s5
    obtain ⟨⟨dd, tr', u', hx15, _, _⟩, hk15, _⟩ := id M15
    obtain ⟨xk, ek⟩ := hk15.ext
    have x12 : x1 ∉ [x2] := fun z => by
      obtain ⟨⟨_, _, _, e, _, _⟩, _, _⟩ := M1
      rw [List.mem_singleton.mp z, nx2] at e
      cases e
    have k12 : k1 ∉ [x2] := fun z => by
      obtain ⟨_, ⟨_, _, _, xs, e, _⟩, _⟩ := M1
      rw [List.mem_singleton.mp z, nx2] at e
      cases e
    have noL : ∀ z ∈ [x2], ∀ ys, ¬ Rd H5 z (.lst ys) := fun z hz ys => by rw [List.mem_singleton.mp hz]; exact not_rdL hx2 rfl ys
    have M16 := M15.keep kp2 tp2 x12 k12 (fun z hz => .inr fun ws e => noL z hz ws (.inl e)) fun _ _ _ _ hT => trainAt_keep kp2 tp2 noL hT
    have nek : k1 ≠ k2 := fun z => by rw [← z, ek] at nk2; cases nk2
    walk_at "ct"
    refine ⟨len2 rfl, fun g n_g => ?_⟩
    generalize h_H7 : upd _ g _ = H7
    obtain ⟨s_H7, e_g⟩ := Ct.upd_new h_H7 n_g
    clear h_H7
    have s6 := K6.nil.trans s_H7
    have N15 := M16.same s_H7
    have N2 := M2.same s_H7
    refine ⟨x1, k1, x2, k2, l, g, ps, qs, [(0, 1), (0, -1)], xs, ys, [], [], ws, ks, rfl, N15, N2, nek, ok1, ok2, l1, l1', l2, l2', ways2_ok l1 l2, by decide, few1, few2, s6 _ _ hL, dpAll_same s6 dL, okK, nd, by omega, ?_, st, cl, fun kv1' kv2' H8 kk _ _ => ?_⟩
    · rw [pkey_D]
      exact .tup (.of e_g) (.cons (tupD_dp (Same.tup s6 ht)) (.cons (tupD_dp (Same.tup s6 hu)) .nil))
    exact q H8 ((keep_same (S := []) s6).then kk fun z hz => .inr (by
      rcases mem_two hz with rfl | rfl
      · exact fk1
      · exact fk2)).nil
abbrev S_tells_apart : Stmt := topS 30
theorem sc_tells_apart : FnScope ["train", "stand", "other", "there", "ways", "way"] ["train", "stand", "other", "there", "ways"] (defScope S_tells_apart) := ⟨rfl, rfl, rfl, by decide +kernel, rfl, by decide +kernel, by decide +kernel⟩
def sp_tells_apart (K : PySem.W.Frag) (T : List Addr) : Sp := fun vs H Q _ => ∃ (a t b u l : Addr) (ps qs : List Part) (xs ys zs : List Int), vs = [.ref a, .ref t, .ref b, .ref u, .ref l] ∧ TrainAt K H a ps ∧ TrainAt K H b qs ∧ (∀ p ∈ ps, p.ok) ∧ (∀ p ∈ qs, p.ok) ∧ 1 ≤ ps.length ∧ ps.length ≤ 1000 ∧ 1 ≤ qs.length ∧ qs.length ≤ 1000 ∧ SqT K H t (xs.map V.int) ∧ StandL ps xs ∧ SqT K H u (ys.map V.int) ∧ StandL qs ys ∧
  H l = some (.lst (zs.map V.int)) ∧ (∀ z ∈ zs, Sign z) ∧ zs.length ≤ 14000000 ∧ Tb T H ∧ ∀ H', Same H H' → Q (.bl (!decide ((goP ps (zs.map fun z => (0, z)) (xs, 0)).2 = (goP qs (zs.map fun z => (0, z)) (ys, 0)).2))) H'
theorem ok_tells_apart {f : Addr} {fd : FuncData} {f_unlike_at_last : Addr} {fd_unlike_at_last : FuncData} {f_is_way : Addr} {fd_is_way : FuncData} {T : List Addr} {cT PT : Addr} (F : Fun K "tells_apart" "tells_apart" S_tells_apart f fd)
    (F_unlike_at_last : Fun K "unlike_at_last" "unlike_at_last" S_unlike_at_last f_unlike_at_last fd_unlike_at_last) (b_unlike_at_last : Binds K fd_unlike_at_last ["train", "stand", "other", "there", "pushes"] []) (g_unlike_at_last : mg "unlike_at_last" = some (.ref f_unlike_at_last)) (G_unlike_at_last : FnOk P w K mg base CX0 4 f_unlike_at_last fd_unlike_at_last ["train", "stand", "other", "there", "pushes"] (sp_unlike_at_last K))
    (F_is_way : Fun K "is_way" "is_way" S_is_way f_is_way fd_is_way) (b_is_way : Binds K fd_is_way ["thing"] []) (g_is_way : mg "is_way" = some (.ref f_is_way)) (G_is_way : FnOk P w K mg base CX0 2 f_is_way fd_is_way ["thing"] (sp_is_way K)) (m_isinstance : mg "isinstance" = none) (m_list : mg "list" = none) (m_all : mg "all" = none)
    (TB_tells_apart : GxR.TabB base mg cT PT) (HC_tells_apart : fd.code = .ref cT) (tm : PT ∈ T) :
    FnOk P w K mg base CX0 6 f fd ["train", "stand", "other", "there", "ways"] (sp_tells_apart K T) := by
  refine okC F sc_tells_apart (fun vs H Q E h => ?_) (fun A outer s H vs Q E hr h => ?_)
  ·
    obtain ⟨a, t, b, u, l, ps, qs, xs, ys, zs, rfl, _⟩ := h
    rfl
  ·
    obtain ⟨a, t, b, u, l, ps, qs, xs, ys, zs, rfl, hA, hB, ok1, ok2, l1, l1', l2, l2', ht, sx, hu, sy, hL, sgn, zl, hTb, q⟩ := h
    refine ⟨_, (pss_cons (ps_if (PW.pt (pw_or (pt_not (pt_val (pe_callB (r := rIsi K) call_isi (by rfl) m_isinstance (by decide +kernel) (pa_cons (pv 4) (pa_cons (pe_bltn (v := .ty "list") (u := .type "list") (by rfl) m_list (by decide +kernel) rfl) pa_nil))))) (pw_or1 (pt_not (pt_val (pe_allX (own := [("way", 5)]) (g := (gName 5)) hr (by rfl) m_all rfl sc_tells_apart.nd TB_tells_apart HC_tells_apart (pi_list (pv 4)) (blkOk_by (own := [("way", 5)]) (N := ["train", "stand", "other", "there", "ways", "way"]) (sc := defScope S_tells_apart) (by decide +kernel)) (by decide +kernel) rfl (by decide +kernel) (fun _ _ _ _ _ _ _ _ => (pg_name (i := 5) sc_tells_apart.nd rfl (Or.inl rfl))) (fun _ _ _ _ _ _ _ _ hr => (pe_call G_is_way (hr.mono (by decide)) (by rfl) g_is_way F_is_way.kp b_is_way .nil pass0 (pa_cons (pv 5) pa_nil))))))))) (pss_one (ps_ret pe_bl)) pss_nil)
      (pss_one (ps_ret (pe_call G_unlike_at_last (hr.mono (by decide)) (by rfl) g_unlike_at_last F_unlike_at_last.kp b_unlike_at_last .nil pass0 (pa_cons (pv 0) (pa_cons (pv 1) (pa_cons (pv 2) (pa_cons (pv 3) (pa_cons (pe_lc (own := [("way", 5)]) (g := gName 5)  rfl sc_tells_apart.nd  (pi_list (pv 4)) (blkOk_by (own := [("way", 5)]) (N := ["train", "stand", "other", "there", "ways", "way"]) (sc := defScope S_tells_apart) (by decide +kernel)) (fun _ _ _ _ _ => pg_name (i := 5) sc_tells_apart.nd rfl (Or.inl rfl)) (fun _ _ _ _ _ => pts_nil) (fun _ _ _ _ _ => (pe_tup (pa_cons pe_int (pa_cons (pv 5) pa_nil))))) pa_nil))))))))), ?_⟩
    refine w_st (σ' := [some (.ref a), some (.ref t), some (.ref b), some (.ref u), some (.ref l), none]) rfl ?_
    walk_at "ct"
    refine w_isi (b := true) (tyx_L (.of hL)) (kit_ty (by decide +kernel)) ?_
    walk_at "ct"
    refine w_IL (.of hL) ?_
    refine gb_list (zs.map V.int) (fun i H2 => Same H H2) (hTb _ tm) (Same.refl _) (fun i H2 _ s2 => .of (s2 _ _ hL)) ?_ ?_
    · rintro i x H2 hx s2
      rw [List.getElem?_map] at hx
      obtain ⟨z, hz, rfl⟩ := Option.map_eq_some_iff.mp hx
      walk_at "ct"
      refine ⟨rfl, ?_⟩
      walk_at "ct"
      refine ⟨_, _, rfl, .int z, fun H3 s3 => ⟨_, rfl, ?_⟩⟩
      have hw : isWay (.int z) = true := by
        rcases sgn z (List.mem_of_getElem? hz) with e | e
        · rw [e]; rfl
        · rw [e]; rfl
      rw [hw, if_neg (by decide)]
      exact s2.trans s3
    intro H2 s2
    walk_at "ct"
    rw [show (!!false) = false from rfl]
    walk_at "ct"
    refine w_IL (.of (s2 _ _ hL)) ?_
    refine lb_list (zs.map V.int) (fun D i J => Same H2 J ∧ ∃ us, J D = some (.lst us) ∧ us.length = i ∧ DpAll K J us (((zs.take i).map fun z => (0, z)).map psD)) (fun D nD => ⟨same_upd nD, [], upd_same, rfl, by rw [List.take_zero]; exact .nil⟩) (fun D nD i J _ h => .of (h.1 _ _ (s2 _ _ hL))) ?_ ?_
    · rintro D nD i x J hx ⟨s_J, us, hD, ul, dus⟩
      rw [List.getElem?_map] at hx
      obtain ⟨z, hz, rfl⟩ := Option.map_eq_some_iff.mp hx
      have hi := (List.getElem?_eq_some_iff.mp hz).1
      walk_at "ct"
      refine ⟨rfl, ?_⟩
      walk_at "ct"
      refine ⟨len2 rfl, fun g n_g => ?_⟩
      generalize h_J1 : upd _ g _ = J1
      obtain ⟨s_J1, e_g⟩ := Ct.upd_new h_J1 n_g
      clear h_J1
      have hD1 : J1 D = some (.lst us) := (by walk_at "mv")
      have tk : TupK J1 (upd J1 D (.lst (us ++ [.ref g]))) := tupK_upd hD1 rfl
      have dg : Dp K J1 (.ref g) (psD (0, z)) := .tup (.of e_g) (.cons (.int _) (.cons (.int _) .nil))
      refine ⟨us, hD1, Nat.lt_of_le_of_lt (show us.length ≤ 14000000 by omega) (by decide), same_new (show Same H2 J1 from (by walk_at "sm")) nD, us ++ [.ref g], upd_same, by rw [List.length_append, ul]; rfl, ?_⟩
      rw [List.take_add_one, hz, List.map_append, List.map_append]
      exact dpAll_app (dpAll_td tk (tds_all fun q _ => td_psD q) (dpAll_same s_J1 dus)) (.cons (dp_td tk (td_psD _) dg) .nil)
    rintro D nD J ⟨s_J, us, hD, ul, dus⟩
    rw [List.length_map, List.take_of_length_le (Nat.le_refl _)] at dus
    have sJ := s2.trans s_J
    walk_at "ct"
    refine ⟨a, t, b, u, D, ps, qs, xs, ys, us, zs.map fun z => (0, z), rfl, hA.same sJ, hB.same sJ, ok1, ok2, l1', l2', Same.tup sJ ht, sx, Same.tup sJ hu, sy, .of hD, dus, fun p hp => ?_, fun H4 s4 => q H4 (sJ.trans s4)⟩
    obtain ⟨z, hz, rfl⟩ := List.mem_map.mp hp
    exact ⟨l1, l2, sgn z hz⟩
abbrev S_shows_alike : Stmt := topS 31
theorem sc_shows_alike : FnScope ["train", "stand", "other", "there", "thing"] ["train", "stand", "other", "there", "thing"] (defScope S_shows_alike) := ⟨rfl, rfl, rfl, by decide +kernel, rfl, by decide +kernel, by decide +kernel⟩
def sp_shows_alike (K : PySem.W.Frag) (T : List Addr) (c_Mover : Addr) : Sp := fun vs H Q _ => ∃ (a t b u g l : Addr) (ps qs : List Part) (xs ys : List Int) (ws : List V) (x : Str), vs = [.ref a, .ref t, .ref b, .ref u, .ref g] ∧ TrainAt K H a ps ∧ TrainAt K H b qs ∧ (∀ p ∈ ps, p.ok) ∧ (∀ p ∈ qs, p.ok) ∧ 1 ≤ ps.length ∧ ps.length ≤ 1000 ∧ 1 ≤ qs.length ∧ qs.length ≤ 1000 ∧ SqT K H t (xs.map V.int) ∧ StandL ps xs ∧ SqT K H u (ys.map V.int) ∧ StandL qs ys ∧ stands ps ≤ 13000000 ∧ stands qs ≤ 13000000 ∧
  H g = some (.tup [.str x, .ref l]) ∧ H l = some (.lst ws) ∧ Tb T H ∧
  ((x = "alike" ∧ ∃ ks : List NestedKey, DpAll K H ws (ks.map nkD) ∧ PairsOk ps qs ks ∧ ks.Nodup ∧ ks.length < 8900 ∧ sortD (ks.map nkD) = ks.map nkD ∧ pkey xs ys ∈ ks ∧ ClosedN ps qs ways2 ks) ∨
   (x = "apart" ∧ ∃ zs : List Int, ws = zs.map V.int ∧ (∀ z ∈ zs, Sign z) ∧ zs.length ≤ 14000000 ∧ (goP ps (zs.map fun z => (0, z)) (xs, 0)).2 ≠ (goP qs (zs.map fun z => (0, z)) (ys, 0)).2)) ∧
  ∀ H', Same H H' → Q (.bl true) H'
theorem ok_shows_alike {f : Addr} {fd : FuncData} {f_tells_apart : Addr} {fd_tells_apart : FuncData} {f_tells_alike : Addr} {fd_tells_alike : FuncData} {f_check_stand : Addr} {fd_check_stand : FuncData} {c_Mover : Addr} {T : List Addr} (F : Fun K "shows_alike" "shows_alike" S_shows_alike f fd)
    (F_tells_apart : Fun K "tells_apart" "tells_apart" S_tells_apart f_tells_apart fd_tells_apart) (b_tells_apart : Binds K fd_tells_apart ["train", "stand", "other", "there", "ways"] []) (g_tells_apart : mg "tells_apart" = some (.ref f_tells_apart)) (G_tells_apart : FnOk P w K mg base CX0 6 f_tells_apart fd_tells_apart ["train", "stand", "other", "there", "ways"] (sp_tells_apart K T))
    (F_tells_alike : Fun K "tells_alike" "tells_alike" S_tells_alike f_tells_alike fd_tells_alike) (b_tells_alike : Binds K fd_tells_alike ["train", "stand", "other", "there", "pairs"] []) (g_tells_alike : mg "tells_alike" = some (.ref f_tells_alike)) (G_tells_alike : FnOk P w K mg base CX0 6 f_tells_alike fd_tells_alike ["train", "stand", "other", "there", "pairs"] (sp_tells_alike K c_Mover))
    (F_check_stand : Fun K "check_stand" "check_stand" S_check_stand f_check_stand fd_check_stand) (b_check_stand : Binds K fd_check_stand ["train", "stand"] []) (g_check_stand : mg "check_stand" = some (.ref f_check_stand)) (G_check_stand : FnOk P w K mg base CX0 5 f_check_stand fd_check_stand ["train", "stand"] (sp_check_stand K)) (m_isinstance : mg "isinstance" = none) (m_tuple : mg "tuple" = none) (m_len : mg "len" = none) :
    FnOk P w K mg base CX0 7 f fd ["train", "stand", "other", "there", "thing"] (sp_shows_alike K T c_Mover) := by
  refine F.ok sc_shows_alike (fun vs H Q E h => ?_) (fun cdv A outer s H vs Q E hr h => ?_)
  ·
    obtain ⟨a, t, b, u, g, l, ps, qs, xs, ys, ws, x, rfl, _⟩ := h
    rfl
  ·
    obtain ⟨a, t, b, u, g, l, ps, qs, xs, ys, ws, x, rfl, hA, hB, ok1, ok2, l1, l1', l2, l2', ht, sx, hu, sy, few1, few2, hg, hL, hTb, right, q⟩ := h
    refine ⟨_, (pss_cons (ps_expr (pe_call G_check_stand (hr.mono (by decide)) (by rfl) g_check_stand F_check_stand.kp b_check_stand .nil pass0 (pa_cons (pv 0) (pa_cons (pv 1) pa_nil))))
      (pss_cons (ps_expr (pe_call G_check_stand (hr.mono (by decide)) (by rfl) g_check_stand F_check_stand.kp b_check_stand .nil pass0 (pa_cons (pv 2) (pa_cons (pv 3) pa_nil))))
      (pss_cons (ps_if (PW.pt (pw_or (pt_not (pt_val (pe_callB (r := rIsi K) call_isi (by rfl) m_isinstance (by decide +kernel) (pa_cons (pv 4) (pa_cons (pe_bltn (v := .ty "tuple") (u := .type "tuple") (by rfl) m_tuple (by decide +kernel) rfl) pa_nil))))) (pw_or1 (pt_cmpR op_ne (pe_callB call_len_seq (by rfl) m_len (by decide +kernel) (pa_cons (pv 4) pa_nil)) pe_int (nomark _))))) (pss_one (ps_ret pe_bl)) pss_nil)
      (pss_cons (ps_if (pt_cmpR op_eq (pe_ix (r := rIxT K) ix_tup (pv 4) pe_int (fun _ _ => rfl)) pe_str (nomark _)) (pss_one (ps_ret (pe_call G_tells_alike (hr.mono (by decide)) (by rfl) g_tells_alike F_tells_alike.kp b_tells_alike .nil pass0 (pa_cons (pv 0) (pa_cons (pv 1) (pa_cons (pv 2) (pa_cons (pv 3) (pa_cons (pe_ix (r := rIxT K) ix_tup (pv 4) pe_int (fun _ _ => rfl)) pa_nil)))))))) pss_nil)
      (pss_one (ps_ret (pe_and (pe_cmpR op_eq (pe_ix (r := rIxT K) ix_tup (pv 4) pe_int (fun _ _ => rfl)) pe_str (nomark _)) (pe_one (pe_call G_tells_apart (hr.mono (by decide)) (by rfl) g_tells_apart F_tells_apart.kp b_tells_apart .nil pass0 (pa_cons (pv 0) (pa_cons (pv 1) (pa_cons (pv 2) (pa_cons (pv 3) (pa_cons (pe_ix (r := rIxT K) ix_tup (pv 4) pe_int (fun _ _ => rfl)) pa_nil)))))))))))))), ?_⟩
    refine w_st (σ' := [some (.ref a), some (.ref t), some (.ref b), some (.ref u), some (.ref g)]) rfl ?_
    walk_at "ct"
    refine ⟨a, t, ps, xs, rfl, hA, ok1, l1, ht, sx.ok, fun H1 s1 => ?_⟩
    walk_at "ct"
    refine ⟨b, u, qs, ys, rfl, hB.same s1, ok2, l2, Same.tup s1 hu, sy.ok, fun H2 s2 => ?_⟩
    have s12 := s1.trans s2
    have hg2 := s12 _ _ hg
    have hL2 := s12 _ _ hL
    walk_at "ct"
    refine w_isi (b := true) (tyx_T (.of hg2)) (kit_ty (by decide +kernel)) ?_
    walk_at "ct"
    refine ⟨g, _, rfl, .inr (.of hg2), ?_⟩
    walk_at "ct"
    refine w_iteN (fun z => absurd rfl z) (fun _ => ?_)
    walk_at "ct"
    refine w_ixT (.of hg2) at0 ?_
    rcases right with ⟨rfl, ks, dK, okK, nd, kfew, so, st, cl⟩ | ⟨rfl, zs, rfl, sgn, zl, un⟩
    · walk_at "ct"
      refine w_ixT (.of hg2) at1 ?_
      exact ⟨a, t, b, u, l, ps, qs, xs, ys, ws, ks, rfl, hA.same s12, hB.same s12, ok1, ok2, l1, l1', l2, l2', Same.tup s12 ht, sx, Same.tup s12 hu, sy, few1, few2, hL2, dpAll_same s12 dK, okK, nd, kfew, so, st, cl, fun H' s => q H' (s12.trans s)⟩
    · walk_at "ct"
      refine w_ixT (.of hg2) at0 ?_
      walk_at "ct"
      refine w_ixT (.of hg2) at1 ?_
      refine ⟨a, t, b, u, l, ps, qs, xs, ys, zs, rfl, hA.same s12, hB.same s12, ok1, ok2, l1, l1', l2, l2', Same.tup s12 ht, sx, Same.tup s12 hu, sy, hL2, sgn, zl, hTb.same s12, fun H' s => ?_⟩
      rw [decide_eq_false un]
      exact q H' (s12.trans s)
abbrev S_is_deed : Stmt := topS 33
theorem sc_is_deed : FnScope ["thing", "parts", "i", "way", "times"] ["thing", "parts"] (defScope S_is_deed) := ⟨rfl, rfl, rfl, by decide +kernel, rfl, by decide +kernel, by decide +kernel⟩
def sp_is_deed (K : PySem.W.Frag) : Sp := fun vs H Q _ => ∃ (v : V) (d : PyData) (n : Int), vs = [v, .int n] ∧ Dp K H v d ∧ ∀ H', Same H H' → Q (.bl (isD d n)) H'
theorem ok_is_deed {f : Addr} {fd : FuncData} {f_is_whole : Addr} {fd_is_whole : FuncData} {f_is_way : Addr} {fd_is_way : FuncData} (F : Fun K "is_deed" "is_deed" S_is_deed f fd)
    (F_is_whole : Fun K "is_whole" "is_whole" S_is_whole f_is_whole fd_is_whole) (b_is_whole : Binds K fd_is_whole ["thing"] []) (g_is_whole : mg "is_whole" = some (.ref f_is_whole)) (G_is_whole : FnOk P w K mg base CX0 1 f_is_whole fd_is_whole ["thing"] (sp_is_whole K))
    (F_is_way : Fun K "is_way" "is_way" S_is_way f_is_way fd_is_way) (b_is_way : Binds K fd_is_way ["thing"] []) (g_is_way : mg "is_way" = some (.ref f_is_way)) (G_is_way : FnOk P w K mg base CX0 2 f_is_way fd_is_way ["thing"] (sp_is_way K)) (m_isinstance : mg "isinstance" = none) (m_tuple : mg "tuple" = none) (m_len : mg "len" = none) :
    FnOk P w K mg base CX0 3 f fd ["thing", "parts"] (sp_is_deed K) := by
  refine F.ok sc_is_deed (fun vs H Q E h => ?_) (fun cdv A outer s H vs Q E hr h => ?_)
  ·
    obtain ⟨v, d, n, rfl, _⟩ := h
    rfl
  ·
    obtain ⟨v, d, n, rfl, hd, q⟩ := h
    refine ⟨_, (pss_cons (ps_if (PW.pt (pw_or (pt_not (pt_val (pe_callB (r := rIsi K) call_isi (by rfl) m_isinstance (by decide +kernel) (pa_cons (pv 0) (pa_cons (pe_bltn (v := .ty "tuple") (u := .type "tuple") (by rfl) m_tuple (by decide +kernel) rfl) pa_nil))))) (pw_or1 (pt_cmpR op_ne (pe_callB call_len_seq (by rfl) m_len (by decide +kernel) (pa_cons (pv 0) pa_nil)) pe_int (nomark _))))) (pss_one (ps_ret pe_bl)) pss_nil)
      (pss_cons (ps_asg (pv 0) (pg_tup rfl (pgs_cons (pg_name (i := 2) sc_is_deed.nd rfl (.inl rfl)) (pgs_cons (pg_name (i := 3) sc_is_deed.nd rfl (.inl rfl)) (pgs_cons (pg_name (i := 4) sc_is_deed.nd rfl (.inl rfl)) pgs_nil)))))
      (pss_cons (ps_if (PW.pt (pw_or (pt_not (pt_val (pe_call G_is_whole (hr.mono (by decide)) (by rfl) g_is_whole F_is_whole.kp b_is_whole .nil pass0 (pa_cons (pv 2) pa_nil)))) (pw_or (pt_not (pt_val (pe_call G_is_way (hr.mono (by decide)) (by rfl) g_is_way F_is_way.kp b_is_way .nil pass0 (pa_cons (pv 3) pa_nil)))) (pw_or1 (pt_not (pt_val (pe_call G_is_whole (hr.mono (by decide)) (by rfl) g_is_whole F_is_whole.kp b_is_whole .nil pass0 (pa_cons (pv 4) pa_nil)))))))) (pss_one (ps_ret pe_bl)) pss_nil)
      (pss_one (ps_ret (pe_and (pe_chain op_le op_lt pe_int (pv 2) (pv 1)) (pe_one (pe_cmpR op_ge (pv 4) pe_int (nomark _))))))))), ?_⟩
    refine w_st (σ' := [some v, some (.int n), none, none, none]) rfl ?_
    walk_at "ct"
    cases hd with
    | non =>
      refine w_isi (b := false) (.base .non) (kit_ty (by decide +kernel)) ?_
      walk_at "ct"
      exact q H (Same.refl H)
    | bl b =>
      refine w_isi (b := false) (.base (.bl b)) (kit_ty (by decide +kernel)) ?_
      walk_at "ct"
      exact q H (Same.refl H)
    | int i =>
      refine w_isi (b := false) (.base (.int i)) (kit_ty (by decide +kernel)) ?_
      walk_at "ct"
      exact q H (Same.refl H)
    | str x =>
      refine w_isi (b := false) (.base (.str x)) (kit_ty (by decide +kernel)) ?_
      walk_at "ct"
      exact q H (Same.refl H)
    | lst hs ht =>
      refine w_isi (b := false) (tyx_L hs) (kit_ty (by decide +kernel)) ?_
      walk_at "ct"
      exact q H (Same.refl H)
    | @tup a xs ds hs ht =>
      refine w_isi (b := true) (tyx_T hs) (kit_ty (by decide +kernel)) ?_
      walk_at "ct"
      refine ⟨a, xs, rfl, .inr hs, ?_⟩
      walk_at "ct"
      refine w_iteN (fun e => ?_) (fun e => ?_)
      · walk_at "ct"
        have hF : isD (.tuple ds) n = false := by
          cases ht with
          | nil => rfl
          | @cons v0 vs0 d0 ds0 h0 t0 => cases t0 with
            | nil => cases d0 <;> rfl
            | @cons v1 vs1 d1 ds1 h1 t1 => cases t1 with
              | nil => cases d0 <;> first | rfl | (cases d1 <;> rfl)
              | @cons v2 vs2 d2 ds2 h2 t2 => cases t2 with
                | nil => exact absurd rfl e
                | @cons v3 vs3 d3 ds3 h3 t3 => cases d0 <;> first | rfl | (cases d1 <;> first | rfl | (cases d2 <;> rfl))
        rw [hF] at q
        exact q H (Same.refl H)
      · obtain ⟨v0, v1, v2, rfl⟩ : ∃ v0 v1 v2, xs = [v0, v1, v2] := by
          match xs, e with
          | [a, b, c], _ => exact ⟨a, b, c, rfl⟩
          | [], e => exact absurd e (by decide)
          | [_], e => exact absurd e (by show ¬ ((1 : Nat) : Int) = 3; decide)
          | [_, _], e => exact absurd e (by show ¬ ((2 : Nat) : Int) = 3; decide)
          | _ :: _ :: _ :: _ :: r, e => exact absurd e (by rw [List.length_cons, List.length_cons, List.length_cons, List.length_cons]; omega)
        cases ht with
        | @cons _ _ d0 _ h0 t0 => cases t0 with
          | @cons _ _ d1 _ h1 t1 => cases t1 with
            | @cons _ _ d2 _ h2 t2 =>
              cases t2
              walk_at "ct"
              refine w_gtup hs rfl ?_
              walk_at "ct"
              refine ⟨v0, d0, rfl, h0, ?_⟩
              have bad : isD (.tuple [d0, d1, d2]) n = false → ∀ H', Same H H' → Q (.bl false) H' := fun z H' s => by
                rw [z] at q
                exact q H' s
              have sr := Same.refl H
              cases h0 with
              | int i =>
                refine w_bl (w_nT ?_)
                walk_at "ct"
                refine ⟨v1, d1, rfl, h1, fun H1 s1 => ?_⟩
                cases h1 with
                | int w =>
                  cases hw : isWay (.int w) with
                  | false =>
                    walk_at "ct"
                    refine bad ?_ _ s1
                    have hw' : (decide (w = 1) || decide (w = -1)) = false := hw
                    cases d2 <;> first | rfl | (show (_ && _ && (decide (w = 1) || decide (w = -1)) && _) = false; rw [hw', Bool.and_false, Bool.false_and])
                  | true =>
                    have hw' : (decide (w = 1) || decide (w = -1)) = true := hw
                    walk_at "ct"
                    refine ⟨v2, d2, rfl, dp_same s1 h2, ?_⟩
                    cases h2 with
                    | int t =>
                      refine w_bl (w_nT ?_)
                      walk_at "ct"
                      have hD : isD (.tuple [.int i, .int w, .int t]) n = (decide (0 ≤ i) && decide (i < n) && (decide (w = 1) || decide (w = -1)) && decide (0 ≤ t)) := rfl
                      have go : ∀ b, b = isD (.tuple [.int i, .int w, .int t]) n → ∀ H', Same H H' → Q (.bl b) H' := fun b hb H' s => by
                        rw [hb]
                        exact q H' s
                      rw [hD, hw'] at go
                      refine w_ite (fun e1 => ?_) (fun e1 => ?_)
                      · walk_at "ct"
                        refine w_ite (fun e2 => ?_) (fun e2 => ?_)
                        · walk_at "ct"
                          refine go _ ?_ _ s1
                          rw [decide_eq_true e1, decide_eq_true e2]
                          rfl
                        · walk_at "ct"
                          refine go _ ?_ _ s1
                          rw [decide_eq_false e2, Bool.and_false, Bool.false_and, Bool.false_and]
                      · walk_at "ct"
                        refine go _ ?_ _ s1
                        rw [decide_eq_false e1, Bool.false_and, Bool.false_and, Bool.false_and]
                    | non =>
                      refine w_bl (w_nF ?_)
                      walk_at "ct"
                      exact bad rfl _ s1
                    | bl b =>
                      refine w_bl (w_nF ?_)
                      walk_at "ct"
                      exact bad rfl _ s1
                    | str s =>
                      refine w_bl (w_nF ?_)
                      walk_at "ct"
                      exact bad rfl _ s1
                    | lst g1 g2 =>
                      refine w_bl (w_nF ?_)
                      walk_at "ct"
                      exact bad rfl _ s1
                    | tup g1 g2 =>
                      refine w_bl (w_nF ?_)
                      walk_at "ct"
                      exact bad rfl _ s1
                | non =>
                  refine w_bl (w_nF ?_)
                  walk_at "ct"
                  exact bad rfl _ s1
                | bl b =>
                  refine w_bl (w_nF ?_)
                  walk_at "ct"
                  exact bad rfl _ s1
                | str s =>
                  refine w_bl (w_nF ?_)
                  walk_at "ct"
                  exact bad rfl _ s1
                | lst g1 g2 =>
                  refine w_bl (w_nF ?_)
                  walk_at "ct"
                  exact bad rfl _ s1
                | tup g1 g2 =>
                  refine w_bl (w_nF ?_)
                  walk_at "ct"
                  exact bad rfl _ s1
              | non =>
                refine w_bl (w_nF ?_)
                walk_at "ct"
                exact bad rfl _ sr
              | bl b =>
                refine w_bl (w_nF ?_)
                walk_at "ct"
                exact bad rfl _ sr
              | str s =>
                refine w_bl (w_nF ?_)
                walk_at "ct"
                exact bad rfl _ sr
              | lst g1 g2 =>
                refine w_bl (w_nF ?_)
                walk_at "ct"
                exact bad rfl _ sr
              | tup g1 g2 =>
                refine w_bl (w_nF ?_)
                walk_at "ct"
                exact bad rfl _ sr
abbrev S_check_row : Stmt := topS 34
theorem sc_check_row : FnScope ["train", "row", "deed"] ["train", "row"] (defScope S_check_row) := ⟨rfl, rfl, rfl, by decide +kernel, rfl, by decide +kernel, by decide +kernel⟩
def sp_check_row (K : PySem.W.Frag) : Sp := fun vs H Q _ => ∃ (a b : Addr) (ps : List Part) (ds : List Deed), vs = [.ref a, .ref b] ∧ TrainAt K H a ps ∧ RowAt K H b ds ∧ (∀ d ∈ ds, d.ok ps.length) ∧ ∀ H', Same H H' → Q .non H'
theorem ok_check_row {f : Addr} {fd : FuncData} {f_is_deed : Addr} {fd_is_deed : FuncData} (F : Fun K "check_row" "check_row" S_check_row f fd)
    (F_is_deed : Fun K "is_deed" "is_deed" S_is_deed f_is_deed fd_is_deed) (b_is_deed : Binds K fd_is_deed ["thing", "parts"] []) (g_is_deed : mg "is_deed" = some (.ref f_is_deed)) (G_is_deed : FnOk P w K mg base CX0 3 f_is_deed fd_is_deed ["thing", "parts"] (sp_is_deed K)) (m_isinstance : mg "isinstance" = none) (m_list : mg "list" = none) (m_len : mg "len" = none) :
    FnOk P w K mg base CX0 4 f fd ["train", "row"] (sp_check_row K) := by
  refine F.ok sc_check_row (fun vs H Q E h => ?_) (fun cdv A outer s H vs Q E hr h => ?_)
  ·
    obtain ⟨a, b, ps, ds, rfl, _⟩ := h
    rfl
  ·
    obtain ⟨a, b, ps, ds, rfl, ⟨vs, hv, hd⟩, ⟨us, hu, he⟩, hok, q⟩ := h
    refine ⟨_, (pss_cons (ps_if (pt_not (pt_val (pe_callB (r := rIsi K) call_isi (by rfl) m_isinstance (by decide +kernel) (pa_cons (pv 1) (pa_cons (pe_bltn (v := .ty "list") (u := .type "list") (by rfl) m_list (by decide +kernel) rfl) pa_nil))))) (pss_one ps_never) pss_nil)
      (pss_one (ps_for PassesOwn.never rfl (pi_list (pv 1)) (pg_name (i := 2) sc_check_row.nd rfl (.inl rfl))
      (pss_one (ps_if (pt_not (pt_val (pe_call G_is_deed (hr.mono (by decide)) (by rfl) g_is_deed F_is_deed.kp b_is_deed .nil pass0 (pa_cons (pv 2) (pa_cons (pe_callB call_len_seq (by rfl) m_len (by decide +kernel) (pa_cons (pv 0) pa_nil)) pa_nil))))) (pss_one ps_never) pss_nil))))), ?_⟩
    refine w_st (σ' := [some (.ref a), some (.ref b), none]) rfl ?_
    have hvl : vs.length = ps.length := by rw [dpAll_len hd, List.length_map]
    have hul : us.length = ds.length := by rw [dpAll_len he, List.length_map]
    walk_at "ct"
    refine w_isi (b := true) (tyx_L hu) (kit_ty (by decide +kernel)) ?_
    walk_at "ct"
    refine w_IL hu ?_
    refine fb_list us (fun n σ H' => ∃ y, σ = [some (.ref a), some (.ref b), y] ∧ Same H H') ⟨none, rfl, Same.refl H⟩ ?_ ?_ ?_
    · rintro n σ H' hn ⟨y, rfl, sm⟩
      exact sm.seq hu
    · rintro n v σ H' hx ⟨y, rfl, sm⟩
      have hn : n < us.length := (List.getElem?_eq_some_iff.mp hx).1
      obtain ⟨d, hdn⟩ : ∃ d, ds[n]? = some d := ⟨_, List.getElem?_eq_getElem (by omega)⟩
      obtain ⟨v', hv1, hd1⟩ := deed_get he hdn
      cases Option.some.inj (hx.symm.trans hv1)
      walk_at "ct"
      refine ⟨a, vs, rfl, .inl (sm.seq hv), ?_⟩
      walk_at "ct"
      refine ⟨v, d.data, _, rfl, dp_same sm hd1, fun H1 s1 => ?_⟩
      have ok := hok d (List.mem_of_getElem? hdn)
      have hD : isD d.data (vs.length : Int) = true := by
        show (decide (0 ≤ (d.i : Int)) && decide ((d.i : Int) < (vs.length : Int)) && (decide (d.w = 1) || decide (d.w = -1)) && decide (0 ≤ (d.t : Int))) = true
        have o1 := ok.1
        rw [decide_eq_true (show 0 ≤ (d.i : Int) by omega), decide_eq_true (show (d.i : Int) < (vs.length : Int) by omega), decide_eq_true (show 0 ≤ (d.t : Int) by omega), show (decide (d.w = 1) || decide (d.w = -1)) = true by
          rcases ok.2 with z | z
          · rw [decide_eq_true z]; rfl
          · rw [decide_eq_true z, Bool.or_true]]
        rfl
      rw [hD]
      walk_at "ct"
      exact ⟨_, rfl, sm.trans s1⟩
    · rintro σ H' ⟨y, rfl, sm⟩
      exact q H' sm
abbrev S_marks_up_to : Stmt := topS 35
theorem sc_marks_up_to : FnScope ["marks", "place", "low", "high", "middle"] ["marks", "place"] (defScope S_marks_up_to) := ⟨rfl, rfl, rfl, by decide +kernel, rfl, by decide +kernel, by decide +kernel⟩
def sp_marks_up_to (K : PySem.W.Frag) : Sp := fun vs H Q _ => ∃ (b : Addr) (ms : List Int) (r : Int), vs = [.ref b, .int r] ∧ SqT K H b (ms.map V.int) ∧ ms.Pairwise (· < ·) ∧ ms.length ≤ 1000 ∧ Q (.int (cnt ms r)) H
theorem ok_marks_up_to {f : Addr} {fd : FuncData} (F : Fun K "marks_up_to" "marks_up_to" S_marks_up_to f fd) (m_len : mg "len" = none) :
    FnOk P w K mg base CX0 1 f fd ["marks", "place"] (sp_marks_up_to K) := by
  refine F.ok sc_marks_up_to (fun vs H Q E h => ?_) (fun cdv A outer s H vs Q E hr h => ?_)
  ·
    obtain ⟨b, ms, r, rfl, _⟩ := h
    rfl
  ·
    obtain ⟨b, ms, r, rfl, hb, hp, hl, q⟩ := h
    refine ⟨_, (pss_cons (ps_set (i := 2) sc_marks_up_to.nd rfl (.inl rfl) pe_int)
      (pss_cons (ps_set (i := 3) sc_marks_up_to.nd rfl (.inl rfl) (pe_callB call_len_seq (by rfl) m_len (by decide +kernel) (pa_cons (pv 0) pa_nil)))
      (pss_cons (ps_while PassesOwn.never (pt_cmpR op_lt (pv 2) (pv 3) (nomark _)) (pss_cons (ps_set (i := 4) sc_marks_up_to.nd rfl (.inl rfl) (pe_op op_fdivW (pe_op op_add (pv 2) (pv 3)) pe_int))
      (pss_one (ps_if (pt_cmpR op_le (pe_ix (r := rIxT K) ix_tup (pv 0) (pv 4) (fun _ _ => rfl)) (pv 1) (nomark _)) (pss_one (ps_set (i := 2) sc_marks_up_to.nd rfl (.inl rfl) (pe_op op_add (pv 4) pe_int))) (pss_one (ps_set (i := 3) sc_marks_up_to.nd rfl (.inl rfl) (pv 4)))))))
      (pss_one (ps_ret (pv 2)))))), ?_⟩
    refine w_st (σ' := [some (.ref b), some (.int r), none, none, none]) rfl ?_
    walk_at "ct"
    refine ⟨b, _, rfl, .inr hb, ?_⟩
    walk_at "ct"
    rw [List.length_map]
    refine while_by (fun σ H' => ∃ (lo hi : Nat) (y : Option V), σ = [some (.ref b), some (.int r), some (.int (lo : Int)), some (.int (hi : Int)), y] ∧ H' = H ∧ lo ≤ hi ∧ hi ≤ ms.length ∧ (∀ (j : Nat) (m : Int), j < lo → ms[j]? = some m → m ≤ r) ∧ (∀ (j : Nat) (m : Int), hi ≤ j → ms[j]? = some m → r < m))
      (fun σ _ => match σ with | [_, _, some (.int lo), some (.int hi), _] => (hi - lo).toNat | _ => 0)
      ⟨0, ms.length, none, rfl, rfl, Nat.zero_le _, Nat.le_refl _, (fun j m hj => absurd hj (Nat.not_lt_zero j)), fun j m hj e => by rw [List.getElem?_eq_none hj] at e; cases e⟩ ?_ ?_
    · rintro σ H' ⟨lo, hi, y, rfl, rfl, h1, h2, h3, h4⟩
      walk_at "ct"
      refine w_ite (fun e => ?_) (fun e => ?_)
      · walk_at "ct"
        refine w_rI (div_ok (by decide) (by decide)) ?_
        walk_at "ct"
        obtain ⟨mid, hm, g1, g2⟩ : ∃ mid : Nat, ((lo : Int) + (hi : Int)) / 2 = (mid : Int) ∧ lo ≤ mid ∧ mid < hi := ⟨((lo : Int) + (hi : Int)).toNat / 2, by omega, by omega, by omega⟩
        rw [hm]
        obtain ⟨m, hmm⟩ : ∃ m, ms[mid]? = some m := ⟨_, List.getElem?_eq_getElem (by omega)⟩
        refine w_ixT hb (at_of (j := mid) rfl (by rw [List.getElem?_map, hmm]; rfl)) ?_
        walk_at "ct"
        have mono : ∀ (j k : Nat) (x y : Int), j < k → ms[j]? = some x → ms[k]? = some y → x < y := fun j k x y hjk hx hy => by
          obtain ⟨l1, e1⟩ := List.getElem?_eq_some_iff.mp hx
          obtain ⟨l2, e2⟩ := List.getElem?_eq_some_iff.mp hy
          rw [← e1, ← e2]
          exact List.pairwise_iff_getElem.mp hp j k l1 l2 hjk
        refine w_ite (fun e2 => ?_) (fun e2 => ?_)
        · walk_at "ct"
          refine ⟨⟨mid + 1, hi, _, rfl, rfl, by omega, h2, fun j x hj hx => ?_, h4⟩, ?_⟩
          · by_cases hjm : j = mid
            · subst hjm
              cases Option.some.inj (hmm.symm.trans hx)
              exact e2
            · have := mono j mid x m (by omega) hx hmm
              omega
          · show ((hi : Int) - ((mid : Int) + 1)).toNat < ((hi : Int) - (lo : Int)).toNat
            omega
        · walk_at "ct"
          refine ⟨⟨lo, mid, _, rfl, rfl, g1, by omega, h3, fun j x hj hx => ?_⟩, ?_⟩
          · by_cases hjm : j = mid
            · subst hjm
              cases Option.some.inj (hmm.symm.trans hx)
              omega
            · have := mono mid j m x (by omega) hmm hx
              omega
          · show ((mid : Int) - (lo : Int)).toNat < ((hi : Int) - (lo : Int)).toNat
            omega
      · walk_at "ct"
        have e3 : lo = hi := by omega
        subst e3
        rw [← cnt_split ms lo r h2 h3 h4]
        exact q
    · rintro σ H' Q1 Q2 hQ ⟨v1, e1, v2, e2, i, j, rfl, rfl, k, e3, hq⟩
      exact ⟨_, e1, _, e2, i, j, rfl, rfl, k, e3, hQ _ _ hq⟩
abbrev S_marks_ahead : Stmt := topS 36
theorem sc_marks_ahead : FnScope ["part", "tooth"] ["part", "tooth"] (defScope S_marks_ahead) := ⟨rfl, rfl, rfl, by decide +kernel, rfl, by decide +kernel, by decide +kernel⟩
def sp_marks_ahead (K : PySem.W.Frag) : Sp := fun vs H Q _ => ∃ (v : V) (z : Int) (ms : List Int) (y : Int), vs = [v, .int y] ∧ Dp K H v (Part.wheel z ms).data ∧ (Part.wheel z ms).ok ∧ -(2 ^ 220) < y ∧ y < 2 ^ 220 ∧ Q (.int (mah z ms y)) H
theorem ok_marks_ahead {f : Addr} {fd : FuncData} {f_marks_up_to : Addr} {fd_marks_up_to : FuncData} (F : Fun K "marks_ahead" "marks_ahead" S_marks_ahead f fd)
    (F_marks_up_to : Fun K "marks_up_to" "marks_up_to" S_marks_up_to f_marks_up_to fd_marks_up_to) (b_marks_up_to : Binds K fd_marks_up_to ["marks", "place"] []) (g_marks_up_to : mg "marks_up_to" = some (.ref f_marks_up_to)) (G_marks_up_to : FnOk P w K mg base CX0 1 f_marks_up_to fd_marks_up_to ["marks", "place"] (sp_marks_up_to K)) (m_len : mg "len" = none) :
    FnOk P w K mg base CX0 2 f fd ["part", "tooth"] (sp_marks_ahead K) := by
  refine F.ok sc_marks_ahead (fun vs H Q E h => ?_) (fun cdv A outer s H vs Q E hr h => ?_)
  ·
    obtain ⟨v, z, ms, y, rfl, _⟩ := h
    rfl
  ·
    obtain ⟨v, z, ms, y, rfl, hp, ok, y0, y1, q⟩ := h
    refine ⟨_, (pss_one (ps_ret (pe_op op_add (pe_op op_mulW (pe_op op_fdivW (pv 1) (pe_ix (r := rIxT K) ix_tup (pv 0) pe_int (fun _ _ => rfl))) (pe_callB call_len_seq (by rfl) m_len (by decide +kernel) (pa_cons (pe_ix (r := rIxT K) ix_tup (pv 0) pe_int (fun _ _ => rfl)) pa_nil))) (pe_call G_marks_up_to (hr.mono (by decide)) (by rfl) g_marks_up_to F_marks_up_to.kp b_marks_up_to .nil pass0 (pa_cons (pe_ix (r := rIxT K) ix_tup (pv 0) pe_int (fun _ _ => rfl)) (pa_cons (pe_op op_mod (pv 1) (pe_ix (r := rIxT K) ix_tup (pv 0) pe_int (fun _ _ => rfl))) pa_nil)))))), ?_⟩
    obtain ⟨a, b, rfl, ha, hb⟩ := wheel_inv hp
    refine w_st (σ' := [some (.ref a), some (.int y)]) rfl ?_
    have hz : 1 ≤ z := ok.1
    have hz2 : z < 2 ^ 200 := ok.2.1
    walk_at "ct"
    refine w_rI (div_ok (by omega) (by omega)) ?_
    walk_at "ct"
    refine ⟨b, _, rfl, .inr hb, ?_⟩
    have hl : ms.length ≤ 1000 := ok.2.2.2
    have hq : -(2 ^ 220) ≤ y / z ∧ y / z < 2 ^ 220 := by
      refine ⟨Int.le_ediv_of_mul_le (by omega) ?_, Int.ediv_lt_of_lt_mul (by omega) ?_⟩
      · omega
      · omega
    rw [List.length_map]
    refine w_rI (mul_ok (by omega) (by omega) (by omega) (by omega)) ?_
    walk_at "ct"
    refine w_rI (by omega) ?_
    walk_at "ct"
    refine ⟨b, ms, _, rfl, hb, ok.2.2.1.1, hl, ?_⟩
    walk_at "ct"
    exact q
abbrev S_wheel_turned : Stmt := topS 37
theorem sc_wheel_turned : FnScope ["part", "place", "way", "times", "after", "given"] ["part", "place", "way", "times"] (defScope S_wheel_turned) := ⟨rfl, rfl, rfl, by decide +kernel, rfl, by decide +kernel, by decide +kernel⟩
def sp_wheel_turned (K : PySem.W.Frag) : Sp := fun vs H Q _ => ∃ (v : V) (z : Int) (ms : List Int) (x w : Int) (t : Nat), vs = [v, .int x, .int w, .int t] ∧ Dp K H v (Part.wheel z ms).data ∧ (Part.wheel z ms).ok ∧ 0 ≤ x ∧ x < z ∧ Sign w ∧ t < 2 ^ 200 ∧
  ∀ u H', Same H H' → H u = none → H' u = some (.tup [.int (pt (.wheel z ms) x w t).1, .int (pt (.wheel z ms) x w t).2]) → Q (.ref u) H'
theorem ok_wheel_turned {f : Addr} {fd : FuncData} {f_marks_ahead : Addr} {fd_marks_ahead : FuncData} (F : Fun K "wheel_turned" "wheel_turned" S_wheel_turned f fd)
    (F_marks_ahead : Fun K "marks_ahead" "marks_ahead" S_marks_ahead f_marks_ahead fd_marks_ahead) (b_marks_ahead : Binds K fd_marks_ahead ["part", "tooth"] []) (g_marks_ahead : mg "marks_ahead" = some (.ref f_marks_ahead)) (G_marks_ahead : FnOk P w K mg base CX0 2 f_marks_ahead fd_marks_ahead ["part", "tooth"] (sp_marks_ahead K)) (m_abs : mg "abs" = none) :
    FnOk P w K mg base CX0 3 f fd ["part", "place", "way", "times"] (sp_wheel_turned K) := by
  refine F.ok sc_wheel_turned (fun vs H Q E h => ?_) (fun cdv A outer s H vs Q E hr h => ?_)
  ·
    obtain ⟨v, z, ms, x, w, t, rfl, _⟩ := h
    rfl
  ·
    obtain ⟨v, z, ms, x, w, t, rfl, hp, ok, x0, x1, hw, ht, q⟩ := h
    refine ⟨_, (pss_cons (ps_set (i := 4) sc_wheel_turned.nd rfl (.inl rfl) (pe_op op_add (pv 1) (pe_op op_mulW (pv 2) (pv 3))))
      (pss_cons (ps_set (i := 5) sc_wheel_turned.nd rfl (.inl rfl) (pe_callB call_abs (by rfl) m_abs (by decide +kernel) (pa_cons (pe_op op_sub (pe_call G_marks_ahead (hr.mono (by decide)) (by rfl) g_marks_ahead F_marks_ahead.kp b_marks_ahead .nil pass0 (pa_cons (pv 0) (pa_cons (pv 4) pa_nil))) (pe_call G_marks_ahead (hr.mono (by decide)) (by rfl) g_marks_ahead F_marks_ahead.kp b_marks_ahead .nil pass0 (pa_cons (pv 0) (pa_cons (pv 1) pa_nil)))) pa_nil)))
      (pss_one (ps_ret (pe_tup (pa_cons (pe_op op_mod (pv 4) (pe_ix (r := rIxT K) ix_tup (pv 0) pe_int (fun _ _ => rfl))) (pa_cons (pv 5) pa_nil))))))), ?_⟩
    obtain ⟨a, b, rfl, ha, hb⟩ := wheel_inv hp
    refine w_st (σ' := [some (.ref a), some (.int x), some (.int w), some (.int t), none, none]) rfl ?_
    have hz : 1 ≤ z := ok.1
    have hz2 : z < 2 ^ 200 := ok.2.1
    have hw1 : -1 ≤ w ∧ w ≤ 1 := by rcases hw with rfl | rfl <;> exact ⟨by decide, by decide⟩
    walk_at "ct"
    refine w_rI (mul_ok (by omega) (by omega) (by omega) (by omega)) ?_
    walk_at "ct"
    have hb2 : -(2 ^ 220) < x + w * t ∧ x + w * t < 2 ^ 220 := by rcases hw with rfl | rfl <;> exact ⟨by omega, by omega⟩
    refine ⟨_, z, ms, _, rfl, hp, ok, hb2.1, hb2.2, ?_⟩
    walk_at "ct"
    refine ⟨_, z, ms, _, rfl, hp, ok, by omega, by omega, ?_⟩
    walk_at "ct"
    refine ⟨_, rfl, ?_⟩
    walk_at "ct"
    refine w_rI (by omega) ?_
    walk_at "ct"
    refine ⟨len2 rfl, fun p np => ?_⟩
    exact q _ _ (same_upd np) np upd_same
abbrev S_rocker_turned : Stmt := topS 38
theorem sc_rocker_turned : FnScope ["place", "way", "times"] ["place", "way", "times"] (defScope S_rocker_turned) := ⟨rfl, rfl, rfl, by decide +kernel, rfl, by decide +kernel, by decide +kernel⟩
def sp_rocker_turned (K : PySem.W.Frag) : Sp := fun vs H Q _ => ∃ (x w : Int) (t : Nat), vs = [.int x, .int w, .int t] ∧ ∀ u H', Same H H' → H u = none → H' u = some (.tup [.int (pt .rocker x w t).1, .int (pt .rocker x w t).2]) → Q (.ref u) H'
theorem ok_rocker_turned {f : Addr} {fd : FuncData} (F : Fun K "rocker_turned" "rocker_turned" S_rocker_turned f fd) :
    FnOk P w K mg base CX0 1 f fd ["place", "way", "times"] (sp_rocker_turned K) := by
  refine F.ok sc_rocker_turned (fun vs H Q E h => ?_) (fun cdv A outer s H vs Q E hr h => ?_)
  ·
    obtain ⟨x, w, t, rfl, _⟩ := h
    rfl
  ·
    obtain ⟨x, w, t, rfl, q⟩ := h
    refine ⟨_, (pss_cons (ps_if (pt_cmpR op_eq (pv 2) pe_int (nomark _)) (pss_one (ps_ret (pe_tup (pa_cons (pv 0) (pa_cons pe_int pa_nil))))) pss_nil)
      (pss_cons (ps_if (pt_cmpR op_eq (pv 1) (pe_un un_neg pe_int) (nomark _)) (pss_one (ps_ret (pe_tup (pa_cons pe_int (pa_cons pe_int pa_nil))))) pss_nil)
      (pss_one (ps_ret (pe_tup (pa_cons pe_int (pa_cons (pe_op op_sub pe_int (pv 0)) pa_nil))))))), ?_⟩
    refine w_st (σ' := [some (.int x), some (.int w), some (.int t)]) rfl ?_
    walk_at "ct"
    refine w_ite (fun e => ?_) (fun e => ?_)
    · walk_at "ct"
      refine ⟨len2 rfl, fun p np => q _ _ (same_upd np) np ?_⟩
      rw [upd_same]
      simp only [pt, if_pos e]
    · walk_at "ct"
      refine w_ite (fun e2 => ?_) (fun e2 => ?_)
      · walk_at "ct"
        refine ⟨len2 rfl, fun p np => q _ _ (same_upd np) np ?_⟩
        rw [upd_same]
        simp only [pt, if_neg e, if_pos e2]
      · walk_at "ct"
        refine ⟨len2 rfl, fun p np => q _ _ (same_upd np) np ?_⟩
        rw [upd_same]
        simp only [pt, if_neg e, if_neg e2]
abbrev S_spring_turned : Stmt := topS 39
theorem sc_spring_turned : FnScope ["part", "place", "way", "times"] ["part", "place", "way", "times"] (defScope S_spring_turned) := ⟨rfl, rfl, rfl, by decide +kernel, rfl, by decide +kernel, by decide +kernel⟩
def sp_spring_turned (K : PySem.W.Frag) : Sp := fun vs H Q _ => ∃ (v : V) (k x w : Int) (t : Nat), vs = [v, .int x, .int w, .int t] ∧ Dp K H v (Part.spring k).data ∧ (Part.spring k).ok ∧ ∀ u H', Same H H' → H u = none → H' u = some (.tup [.int (pt (.spring k) x w t).1, .int (pt (.spring k) x w t).2]) → Q (.ref u) H'
theorem ok_spring_turned {f : Addr} {fd : FuncData} (F : Fun K "spring_turned" "spring_turned" S_spring_turned f fd) (m_max : mg "max" = none) :
    FnOk P w K mg base CX0 1 f fd ["part", "place", "way", "times"] (sp_spring_turned K) := by
  refine F.ok sc_spring_turned (fun vs H Q E h => ?_) (fun cdv A outer s H vs Q E hr h => ?_)
  ·
    obtain ⟨v, k, x, w, t, rfl, _⟩ := h
    rfl
  ·
    obtain ⟨v, k, x, w, t, rfl, hp, ok, q⟩ := h
    refine ⟨_, (pss_cons (ps_if (pt_cmpR op_eq (pv 2) (pe_un un_neg pe_int) (nomark _)) (pss_one (ps_ret (pe_tup (pa_cons (pe_callB (call_max2 rfl) (by rfl) m_max (by decide +kernel) (pa_cons pe_int (pa_cons (pe_op op_sub (pv 1) (pv 3)) pa_nil))) (pa_cons pe_int pa_nil))))) pss_nil)
      (pss_one (ps_ret (pe_tup (pa_cons (pe_op op_mod (pe_op op_add (pv 1) (pv 3)) (pe_ix (r := rIxT K) ix_tup (pv 0) pe_int (fun _ _ => rfl))) (pa_cons (pe_op op_fdivW (pe_op op_add (pv 1) (pv 3)) (pe_ix (r := rIxT K) ix_tup (pv 0) pe_int (fun _ _ => rfl))) pa_nil)))))), ?_⟩
    obtain ⟨a, rfl, ha⟩ := spring_inv hp
    refine w_st (σ' := [some (.ref a), some (.int x), some (.int w), some (.int t)]) rfl ?_
    have k0 : 1 ≤ k := ok.1
    have k1 : k < 2 ^ 200 := ok.2
    walk_at "ct"
    refine w_ite (fun e2 => ?_) (fun e2 => ?_)
    · walk_at "ct"
      refine ⟨_, _, rfl, ?_⟩
      walk_at "ct"
      refine ⟨len2 rfl, fun p np => q _ _ (same_upd np) np ?_⟩
      rw [upd_same]
      simp only [pt, if_pos e2]
    · walk_at "ct"
      refine w_rI (by omega) ?_
      walk_at "ct"
      refine w_rI (div_ok (by omega) (by omega)) ?_
      walk_at "ct"
      refine ⟨len2 rfl, fun p np => q _ _ (same_upd np) np ?_⟩
      rw [upd_same]
      simp only [pt, if_neg e2]
abbrev S_part_turned : Stmt := topS 40
theorem sc_part_turned : FnScope ["part", "place", "way", "times"] ["part", "place", "way", "times"] (defScope S_part_turned) := ⟨rfl, rfl, rfl, by decide +kernel, rfl, by decide +kernel, by decide +kernel⟩
def sp_part_turned (K : PySem.W.Frag) : Sp := fun vs H Q _ => ∃ (v : V) (p : Part) (x w : Int) (t : Nat), vs = [v, .int x, .int w, .int t] ∧ Dp K H v p.data ∧ p.ok ∧ 0 ≤ x ∧ x < p.places ∧ Sign w ∧ t < 2 ^ 200 ∧
  ∀ u H', Same H H' → H u = none → H' u = some (.tup [.int (pt p x w t).1, .int (pt p x w t).2]) → Q (.ref u) H'
theorem ok_part_turned {f : Addr} {fd : FuncData} {f_spring_turned : Addr} {fd_spring_turned : FuncData} {f_rocker_turned : Addr} {fd_rocker_turned : FuncData} {f_wheel_turned : Addr} {fd_wheel_turned : FuncData} (F : Fun K "part_turned" "part_turned" S_part_turned f fd)
    (F_spring_turned : Fun K "spring_turned" "spring_turned" S_spring_turned f_spring_turned fd_spring_turned) (b_spring_turned : Binds K fd_spring_turned ["part", "place", "way", "times"] []) (g_spring_turned : mg "spring_turned" = some (.ref f_spring_turned)) (G_spring_turned : FnOk P w K mg base CX0 1 f_spring_turned fd_spring_turned ["part", "place", "way", "times"] (sp_spring_turned K))
    (F_rocker_turned : Fun K "rocker_turned" "rocker_turned" S_rocker_turned f_rocker_turned fd_rocker_turned) (b_rocker_turned : Binds K fd_rocker_turned ["place", "way", "times"] []) (g_rocker_turned : mg "rocker_turned" = some (.ref f_rocker_turned)) (G_rocker_turned : FnOk P w K mg base CX0 1 f_rocker_turned fd_rocker_turned ["place", "way", "times"] (sp_rocker_turned K))
    (F_wheel_turned : Fun K "wheel_turned" "wheel_turned" S_wheel_turned f_wheel_turned fd_wheel_turned) (b_wheel_turned : Binds K fd_wheel_turned ["part", "place", "way", "times"] []) (g_wheel_turned : mg "wheel_turned" = some (.ref f_wheel_turned)) (G_wheel_turned : FnOk P w K mg base CX0 3 f_wheel_turned fd_wheel_turned ["part", "place", "way", "times"] (sp_wheel_turned K)) :
    FnOk P w K mg base CX0 4 f fd ["part", "place", "way", "times"] (sp_part_turned K) := by
  refine F.ok sc_part_turned (fun vs H Q E h => ?_) (fun cdv A outer s H vs Q E hr h => ?_)
  ·
    obtain ⟨v, p, x, w, t, rfl, _⟩ := h
    rfl
  ·
    obtain ⟨v, p, x, w, t, rfl, hp, ok, x0, x1, hw, ht, q⟩ := h
    refine ⟨_, (pss_cons (ps_if (pt_cmpR op_eq (pe_ix (r := rIxT K) ix_tup (pv 0) pe_int (fun _ _ => rfl)) pe_str (nomark _)) (pss_one (ps_ret (pe_call G_wheel_turned (hr.mono (by decide)) (by rfl) g_wheel_turned F_wheel_turned.kp b_wheel_turned .nil pass0 (pa_cons (pv 0) (pa_cons (pv 1) (pa_cons (pv 2) (pa_cons (pv 3) pa_nil))))))) pss_nil)
      (pss_cons (ps_if (pt_cmpR op_eq (pe_ix (r := rIxT K) ix_tup (pv 0) pe_int (fun _ _ => rfl)) pe_str (nomark _)) (pss_one (ps_ret (pe_call G_rocker_turned (hr.mono (by decide)) (by rfl) g_rocker_turned F_rocker_turned.kp b_rocker_turned .nil pass0 (pa_cons (pv 1) (pa_cons (pv 2) (pa_cons (pv 3) pa_nil)))))) pss_nil)
      (pss_cons (ps_if (pt_cmpR op_eq (pe_ix (r := rIxT K) ix_tup (pv 0) pe_int (fun _ _ => rfl)) pe_str (nomark _)) (pss_one (ps_ret (pe_call G_spring_turned (hr.mono (by decide)) (by rfl) g_spring_turned F_spring_turned.kp b_spring_turned .nil pass0 (pa_cons (pv 0) (pa_cons (pv 1) (pa_cons (pv 2) (pa_cons (pv 3) pa_nil))))))) pss_nil)
      (pss_one (ps_ret (pe_tup (pa_cons (pv 1) (pa_cons (pe_ifExp (pt_cmpR op_eq (pv 2) pe_int (nomark _)) (pv 3) pe_int) pa_nil)))))))), ?_⟩
    refine w_st (σ' := [some v, some (.int x), some (.int w), some (.int t)]) rfl ?_
    cases p with
    | wheel z ms =>
      obtain ⟨a, b, rfl, ha, hb⟩ := wheel_inv hp
      walk_at "ct"
      exact ⟨_, z, ms, x, w, t, rfl, hp, ok, x0, x1, hw, ht, q⟩
    | click =>
      obtain ⟨a, rfl, ha⟩ := click_inv hp
      walk_at "ct"
      refine w_ite (fun e => ?_) (fun e => ?_)
      · walk_at "ct"
        refine ⟨len2 rfl, fun p np => q _ _ (same_upd np) np ?_⟩
        rw [upd_same]
        simp only [pt, if_pos e]
      · walk_at "ct"
        refine ⟨len2 rfl, fun p np => q _ _ (same_upd np) np ?_⟩
        rw [upd_same]
        simp only [pt, if_neg e]
    | rocker =>
      obtain ⟨a, rfl, ha⟩ := rocker_inv hp
      walk_at "ct"
      exact ⟨x, w, t, rfl, q⟩
    | spring k =>
      obtain ⟨a, rfl, ha⟩ := spring_inv hp
      walk_at "ct"
      exact ⟨_, k, x, w, t, rfl, hp, ok, q⟩
abbrev S_row_left : Stmt := topS 41
theorem sc_row_left : FnScope ["train", "stand", "row", "places", "total", "i", "way", "times", "given", "number"] ["train", "stand", "row"] (defScope S_row_left) := ⟨rfl, rfl, rfl, by decide +kernel, rfl, by decide +kernel, by decide +kernel⟩
def sp_row_left (K : PySem.W.Frag) : Sp := fun vs H Q _ => ∃ (a t b : Addr) (ps : List Part) (xs : List Int) (ds : List Deed), vs = [.ref a, .ref t, .ref b] ∧ TrainAt K H a ps ∧ StandL ps xs ∧ ps.length ≤ 1000 ∧ SqT K H t (xs.map V.int) ∧ RowAt K H b ds ∧ (∀ d ∈ ds, d.ok ps.length ∧ d.t < 2 ^ 200) ∧
  ∀ q u H', Same H H' → H u = none → H q = none → H' u = some (.tup ((rowL ps ds (xs, 0)).1.map V.int)) → H' q = some (.tup [.ref u, .int (rowL ps ds (xs, 0)).2]) → Q (.ref q) H'
theorem ok_row_left {f : Addr} {fd : FuncData} {f_part_turned : Addr} {fd_part_turned : FuncData} (F : Fun K "row_left" "row_left" S_row_left f fd)
    (F_part_turned : Fun K "part_turned" "part_turned" S_part_turned f_part_turned fd_part_turned) (b_part_turned : Binds K fd_part_turned ["part", "place", "way", "times"] []) (g_part_turned : mg "part_turned" = some (.ref f_part_turned)) (G_part_turned : FnOk P w K mg base CX0 4 f_part_turned fd_part_turned ["part", "place", "way", "times"] (sp_part_turned K)) (m_list : mg "list" = none) (m_range : mg "range" = none) (m_tuple : mg "tuple" = none) (m_len : mg "len" = none) :
    FnOk P w K mg base CX0 5 f fd ["train", "stand", "row"] (sp_row_left K) := by
  refine F.ok sc_row_left (fun vs H Q E h => ?_) (fun cdv A outer s H vs Q E hr h => ?_)
  ·
    obtain ⟨a, t, b, ps, xs, ds, rfl, _⟩ := h
    rfl
  ·
    obtain ⟨a, t, b, ps, xs, ds, rfl, ⟨vs, hv, hd⟩, hst, hps, hS, ⟨us, hu, he⟩, hok, q⟩ := h
    refine ⟨_, (pss_cons (ps_set (i := 3) sc_row_left.nd rfl (.inl rfl) (pe_callTy call_list_of (by rfl) m_list (by decide +kernel) (pa_cons (pv 1) pa_nil)))
      (pss_cons (ps_set (i := 4) sc_row_left.nd rfl (.inl rfl) pe_int)
      (pss_cons (ps_for PassesOwn.never rfl (pi_list (pv 2)) (pg_tup rfl (pgs_cons (pg_name (i := 5) sc_row_left.nd rfl (.inl rfl)) (pgs_cons (pg_name (i := 6) sc_row_left.nd rfl (.inl rfl)) (pgs_cons (pg_name (i := 7) sc_row_left.nd rfl (.inl rfl)) pgs_nil))))
      (pss_cons (ps_set (i := 8) sc_row_left.nd rfl (.inl rfl) (pv 7))
      (pss_cons (ps_for PassesOwn.never rfl (pi_range2 (by rfl) m_range (pa_cons (pv 5) (pa_cons (pe_callB call_len_seq (by rfl) m_len (by decide +kernel) (pa_cons (pv 0) pa_nil)) pa_nil))) (pg_name (i := 9) sc_row_left.nd rfl (.inl rfl))
      (pss_one (ps_asg (pe_call G_part_turned (hr.mono (by decide)) (by rfl) g_part_turned F_part_turned.kp b_part_turned .nil pass0 (pa_cons (pe_ix (r := rIxL K) ix_list (pv 0) (pv 9) (fun _ _ => rfl)) (pa_cons (pe_ix (r := rIxL K) ix_list (pv 3) (pv 9) (fun _ _ => rfl)) (pa_cons (pv 6) (pa_cons (pv 8) pa_nil))))) (pg_tup rfl (pgs_cons (pg_sub (pv 3) (pv 9) set_list) (pgs_cons (pg_name (i := 8) sc_row_left.nd rfl (.inl rfl)) pgs_nil))))))
      (pss_one (ps_aug (i := 4) sc_row_left.nd rfl (.inl rfl) (pe_op op_mulW (pv 6) (pv 8)) ip_add)))))
      (pss_one (ps_ret (pe_tup (pa_cons (pe_callTy call_tuple_of (by rfl) m_tuple (by decide +kernel) (pa_cons (pv 3) pa_nil)) (pa_cons (pv 4) pa_nil)))))))), ?_⟩
    refine w_st (σ' := [some (.ref a), some (.ref t), some (.ref b), none, none, none, none, none, none, none]) rfl ?_
    have hvl : vs.length = ps.length := by rw [dpAll_len hd, List.length_map]
    have hul : us.length = ds.length := by rw [dpAll_len he, List.length_map]
    walk_at "ct"
    refine ⟨t, _, rfl, .inr hS, fun l nl => ?_⟩
    walk_at "ct"
    refine w_IL ((same_upd nl).seq hu) ?_
    refine fb_list us (fun n σ H' => ∃ y4 y5 y6 y7 y8, σ = [some (.ref a), some (.ref t), some (.ref b), some (.ref l), some (.int (rowL ps (ds.take n) (xs, 0)).2), y4, y5, y6, y7, y8] ∧ Same H H' ∧ H' l = some (.lst ((rowL ps (ds.take n) (xs, 0)).1.map V.int)))
      ⟨none, none, none, none, none, rfl, same_upd nl, upd_same⟩ ?_ ?_ ?_
    · rintro n σ H' hn ⟨y4, y5, y6, y7, y8, rfl, sm, _⟩
      exact sm.seq hu
    · rintro n v σ H' hx ⟨y4, y5, y6, y7, y8, rfl, sm, hl⟩
      have hn : n < us.length := (List.getElem?_eq_some_iff.mp hx).1
      obtain ⟨d, hdn⟩ : ∃ d, ds[n]? = some d := ⟨_, List.getElem?_eq_getElem (by omega)⟩
      obtain ⟨v', hv1, hd1⟩ := deed_get he hdn
      cases Option.some.inj (hx.symm.trans hv1)
      obtain ⟨c, rfl, hc⟩ := deed_inv hd1
      have okd := hok d (List.mem_of_getElem? hdn)
      have hi : d.i < ps.length := okd.1.1
      have hw : Sign d.w := okd.1.2
      have ht2 : d.t < 2 ^ 200 := okd.2
      have hw1 : -1 ≤ d.w ∧ d.w ≤ 1 := by rcases hw with z | z <;> rw [z] <;> exact ⟨by decide, by decide⟩
      have hst2 : StandL ps (rowL ps (ds.take n) (xs, 0)).1 := rowL_stand hst fun e he => (hok e (List.mem_of_mem_take he)).1
      have htk : ds.take (n + 1) = ds.take n ++ [d] := by rw [List.take_add_one, hdn]; rfl
      generalize hrw : rowL ps (ds.take n) (xs, 0) = rw0 at *
      obtain ⟨ys, tot⟩ := rw0
      have hst3 : StandL ps ys := hst2
      have hyl : ys.length = ps.length := hst3.len
      refine w_gtup (Same.tup sm hc) rfl ?_
      walk_at "ct"
      refine ⟨a, vs, rfl, .inl (sm.seq hv), ?_⟩
      walk_at "ct"
      refine w_RG2 (by omega) (by omega) (by omega) (by omega) ?_
      rw [show ((vs.length : Int) - (d.i : Int)).toNat = ps.length - d.i by omega]
      refine fb_range (fun m σ H' => ∃ y9, σ = [some (.ref a), some (.ref t), some (.ref b), some (.ref l), some (.int tot), some (.int d.i), some (.int d.w), some (.int d.t), some (.int (rnF (ptw d.w) ps d.i (ys, (d.t : Int)) m).2), y9] ∧ Same H H' ∧ H' l = some (.lst ((rnF (ptw d.w) ps d.i (ys, (d.t : Int)) m).1.map V.int)) ∧ 0 ≤ (rnF (ptw d.w) ps d.i (ys, (d.t : Int)) m).2 ∧ (rnF (ptw d.w) ps d.i (ys, (d.t : Int)) m).2 ≤ d.t)
        ⟨_, rfl, sm, hl, Int.natCast_nonneg _, Int.le_refl _⟩ ?_ ?_
      · rintro m σ H1 hm ⟨y9, rfl, s1, hl1, n0, n1⟩
        obtain ⟨p, hp⟩ : ∃ p, ps[d.i + m]? = some p := ⟨_, List.getElem?_eq_getElem (by omega)⟩
        obtain ⟨v, hv1, hd1⟩ := TrainAt.at (a := a) hd hp
        obtain ⟨x, hx⟩ : ∃ x, ys[d.i + m]? = some x := ⟨_, List.getElem?_eq_getElem (by omega)⟩
        have hx2 : (rnF (ptw d.w) ps d.i (ys, (d.t : Int)) m).1[d.i + m]? = some x := by
          rw [rnF_ahead _ ps d.i _ m (d.i + m) (Nat.le_refl _)]
          exact hx
        have hx0 := hst3.ok.2 _ _ _ hp hx
        have okp : p.ok := hst3.okp p (List.mem_of_getElem? hp)
        obtain ⟨g, hg⟩ : ∃ g : Nat, (rnF (ptw d.w) ps d.i (ys, (d.t : Int)) m).2 = (g : Int) := ⟨_, (Int.toNat_of_nonneg n0).symm⟩
        have er : rnF (ptw d.w) ps d.i (ys, (d.t : Int)) (m + 1) = ((rnF (ptw d.w) ps d.i (ys, (d.t : Int)) m).1.set (d.i + m) (pt p x d.w g).1, (pt p x d.w g).2) := by
          rw [← hg]
          exact stF_at hp hx2
        rw [hg] at n0 n1 ⊢
        walk_at "ct"
        refine w_ixL (s1.seq hv) (at_of (j := d.i + m) (by omega) hv1) ?_
        walk_at "ct"
        refine w_ixL (.of hl1) (at_of (j := d.i + m) (by omega) (by rw [List.getElem?_map, hx2]; rfl)) ?_
        walk_at "ct"
        refine ⟨v, p, x, d.w, g, rfl, dp_same s1 hd1, okp, hx0.1, hx0.2, hw, by omega, fun u H2 s2 nu hu2 => ?_⟩
        refine w_gtup (.of hu2) rfl ?_
        walk_at "ct"
        refine w_setL (s2 _ _ hl1) (ix_at (j := d.i + m) (by omega) (by rw [List.length_map, rnF_len]; show d.i + m < ys.length; omega)) ?_
        walk_at "ct"
        have hle := pt_le okp hx0.1 hx0.2 hw g
        have hnn := pt_nn okp hx0.1 hx0.2 hw g
        refine ⟨some (.int ((d.i : Int) + (m : Int))), ?_, same_new (s1.trans s2) nl, ?_, ?_, ?_⟩
        · rw [er]
        · rw [er, upd_same, List.map_set]
        · rw [er]
          exact hnn
        · rw [er]
          show (pt p x d.w g).2 ≤ _
          omega
      · rintro σ H1 ⟨y9, rfl, s1, hl1, n0, n1⟩
        have hR : rnF (ptw d.w) ps d.i (ys, (d.t : Int)) (ps.length - d.i) = (ys.take d.i ++ (gen (ptw d.w) (ps.drop d.i) (ys.drop d.i) d.t).1, (gen (ptw d.w) (ps.drop d.i) (ys.drop d.i) d.t).2) := rnF_gen _ ps _ _ _ _ hyl (by omega)
        have hD : rowL ps (ds.take (n + 1)) (xs, 0) = ((deedL ps ys d).1, tot + (deedL ps ys d).2) := by
          rw [htk, rowL_app, hrw]
          rfl
        have hl2 : (rnF (ptw d.w) ps d.i (ys, (d.t : Int)) (ps.length - d.i)).1 = (deedL ps ys d).1 := by rw [hR]; rfl
        have hl3 : d.w * (rnF (ptw d.w) ps d.i (ys, (d.t : Int)) (ps.length - d.i)).2 = (deedL ps ys d).2 := by rw [hR]; rfl
        rw [hl2] at hl1
        refine w_aug rfl ?_
        walk_at "ct"
        refine w_rI (mul_ok (by omega) (by omega) (by omega) (by omega)) ?_
        walk_at "ct"
        rw [hl3]
        rw [hD]
        exact ⟨_, _, _, _, _, rfl, s1, hl1⟩
    · rintro σ H' ⟨y4, y5, y6, y7, y8, rfl, sm, hl⟩
      rw [List.take_of_length_le (by omega)] at hl ⊢
      walk_at "ct"
      refine ⟨l, _, rfl, .inl ⟨.of hl, fun u nu => ?_⟩⟩
      walk_at "ct"
      refine ⟨len2 rfl, fun p np => ?_⟩
      have s2 : Same H (upd H' u (.tup ((rowL ps ds (xs, 0)).1.map V.int))) := same_new sm (sm.free nu)
      exact q p u _ (same_new s2 (s2.free np)) (sm.free nu) (s2.free np) (by rw [upd_ne (ne_of_none upd_same np)]; exact upd_same) upd_same
abbrev S_left : Stmt := topS 42
theorem sc_left : FnScope ["train", "stand", "row"] ["train", "stand", "row"] (defScope S_left) := ⟨rfl, rfl, rfl, by decide +kernel, rfl, by decide +kernel, by decide +kernel⟩
def sp_left (K : PySem.W.Frag) : Sp := fun vs H Q _ => ∃ (a t b : Addr) (ps : List Part) (xs : List Int) (ds : List Deed), vs = [.ref a, .ref t, .ref b] ∧ TrainAt K H a ps ∧ StandL ps xs ∧ 1 ≤ ps.length ∧ ps.length ≤ 1000 ∧ SqT K H t (xs.map V.int) ∧ RowAt K H b ds ∧ (∀ d ∈ ds, d.ok ps.length ∧ d.t < 2 ^ 200) ∧
  ∀ q u H', Same H H' → H u = none → H q = none → H' u = some (.tup ((rowL ps ds (xs, 0)).1.map V.int)) → H' q = some (.tup [.ref u, .int (rowL ps ds (xs, 0)).2]) → Q (.ref q) H'
theorem ok_left {f : Addr} {fd : FuncData} {f_row_left : Addr} {fd_row_left : FuncData} {f_check_row : Addr} {fd_check_row : FuncData} {f_check_stand : Addr} {fd_check_stand : FuncData} (F : Fun K "left" "left" S_left f fd)
    (F_row_left : Fun K "row_left" "row_left" S_row_left f_row_left fd_row_left) (b_row_left : Binds K fd_row_left ["train", "stand", "row"] []) (g_row_left : mg "row_left" = some (.ref f_row_left)) (G_row_left : FnOk P w K mg base CX0 5 f_row_left fd_row_left ["train", "stand", "row"] (sp_row_left K))
    (F_check_row : Fun K "check_row" "check_row" S_check_row f_check_row fd_check_row) (b_check_row : Binds K fd_check_row ["train", "row"] []) (g_check_row : mg "check_row" = some (.ref f_check_row)) (G_check_row : FnOk P w K mg base CX0 4 f_check_row fd_check_row ["train", "row"] (sp_check_row K))
    (F_check_stand : Fun K "check_stand" "check_stand" S_check_stand f_check_stand fd_check_stand) (b_check_stand : Binds K fd_check_stand ["train", "stand"] []) (g_check_stand : mg "check_stand" = some (.ref f_check_stand)) (G_check_stand : FnOk P w K mg base CX0 5 f_check_stand fd_check_stand ["train", "stand"] (sp_check_stand K)) :
    FnOk P w K mg base CX0 6 f fd ["train", "stand", "row"] (sp_left K) := by
  refine F.ok sc_left (fun vs H Q E h => ?_) (fun cdv A outer s H vs Q E hr h => ?_)
  ·
    obtain ⟨a, t, b, ps, xs, ds, rfl, _⟩ := h
    rfl
  ·
    obtain ⟨a, t, b, ps, xs, ds, rfl, hT, hst, hp1, hps, hS, hR, hok, q⟩ := h
    refine ⟨_, (pss_cons (ps_expr (pe_call G_check_stand (hr.mono (by decide)) (by rfl) g_check_stand F_check_stand.kp b_check_stand .nil pass0 (pa_cons (pv 0) (pa_cons (pv 1) pa_nil))))
      (pss_cons (ps_expr (pe_call G_check_row (hr.mono (by decide)) (by rfl) g_check_row F_check_row.kp b_check_row .nil pass0 (pa_cons (pv 0) (pa_cons (pv 2) pa_nil))))
      (pss_one (ps_ret (pe_call G_row_left (hr.mono (by decide)) (by rfl) g_row_left F_row_left.kp b_row_left .nil pass0 (pa_cons (pv 0) (pa_cons (pv 1) (pa_cons (pv 2) pa_nil)))))))), ?_⟩
    refine w_st (σ' := [some (.ref a), some (.ref t), some (.ref b)]) rfl ?_
    walk_at "ct"
    refine ⟨a, t, ps, xs, rfl, hT, hst.okp, hp1, hS, hst.ok, fun H1 s1 => ?_⟩
    walk_at "ct"
    refine ⟨a, b, ps, ds, rfl, hT.same s1, hR.same s1, fun d hd => (hok d hd).1, fun H2 s2 => ?_⟩
    have s12 := s1.trans s2
    walk_at "ct"
    exact ⟨a, t, b, ps, xs, ds, rfl, hT.same s12, hst, hps, Same.tup s12 hS, hR.same s12, hok, fun q' u H3 s3 nu nq hu hq => q q' u H3 (s12.trans s3) (s12.free nu) (s12.free nq) hu hq⟩
abbrev S__law_mix : Stmt := topS 45
theorem sc__law_mix : FnScope ["_law_cell", "_law_k", "_law_turn", "_law_number"] ["_law_cell", "_law_k"] (defScope S__law_mix) := ⟨rfl, rfl, rfl, by decide +kernel, rfl, by decide +kernel, by decide +kernel⟩
def sp__law_mix (K : PySem.W.Frag) : Sp := fun vs H Q _ => ∃ c k : Int, vs = [.int c, .int k] ∧ 0 ≤ k ∧ k ≤ 1000 ∧ ∀ n : Int, 0 ≤ n → n < 2147483648 → Q (.int n) H
theorem ok__law_mix {f : Addr} {fd : FuncData} (F : Fun K "_law_mix" "_law_mix" S__law_mix f fd) (m_range : mg "range" = none) :
    FnOk P w K mg base CX0 1 f fd ["_law_cell", "_law_k"] (sp__law_mix K) := by
  refine F.ok sc__law_mix (fun vs H Q E h => ?_) (fun cdv A outer s H vs Q E hr h => ?_)
  ·
    obtain ⟨c, k, rfl, _⟩ := h
    rfl
  ·
    obtain ⟨c, k, rfl, k0, k1, q⟩ := h
    refine ⟨_, (pss_cons (ps_if (pt_cmpR op_ge (pv 0) (pe_op op_powB pe_int pe_int) (nomark _)) (pss_cons (ps_for PassesOwn.never rfl (pi_range1 (by rfl) m_range (pa_cons (pv 1) pa_nil)) (pg_name (i := 2) sc__law_mix.nd rfl (.inl rfl))
      (pss_one (ps_set (i := 0) sc__law_mix.nd rfl (.inl rfl) (pe_op op_fdivW (pv 0) (pe_op op_powB pe_int pe_int)))))
      (pss_one (ps_ret (pe_op op_mod (pv 0) (pe_op op_powB pe_int pe_int))))) pss_nil)
      (pss_cons (ps_set (i := 3) sc__law_mix.nd rfl (.inl rfl) (pe_op op_mod (pe_op op_mulW (pe_op op_add (pe_op op_add (pe_op op_mod (pv 0) pe_int) (pe_op op_mulW (pe_op op_mulW (pv 1) (pv 1)) pe_int)) (pv 1)) pe_int) pe_int))
      (pss_cons (ps_set (i := 3) sc__law_mix.nd rfl (.inl rfl) (pe_op op_mod (pe_op op_mulW (pv 3) (pv 3)) pe_int))
      (pss_one (ps_ret (pe_op op_fdivW (pe_op op_mod (pe_op op_mulW (pv 3) (pe_op op_add (pv 3) pe_int)) pe_int) pe_int)))))), ?_⟩
    refine w_st (σ' := [some (.int c), some (.int k), none, none]) rfl ?_
    walk_at "ct"
    refine w_rIv (.int 1000000000000000000) ⟨by decide, by decide⟩ rfl ?_
    walk_at "ct"
    refine w_ite (fun e => ?_) (fun e => ?_)
    · walk_at "ct"
      refine w_RG1 (by omega) (by omega) ?_
      refine fb_range (fun n σ H' => ∃ (c' : Int) (y : Option V), σ = [some (.int c'), some (.int k), y, none] ∧ H' = H) ⟨c, none, rfl, rfl⟩ ?_ ?_
      · rintro i σ H' hi ⟨c', y, rfl, rfl⟩
        walk_at "ct"
        refine w_rIv (.int 1000000) ⟨by decide, by decide⟩ rfl ?_
        refine w_div (div_ok (by decide) (by decide)) fun r => ?_
        walk_at "ct"
        exact ⟨_, _, rfl, rfl⟩
      · rintro σ H' ⟨c', y, rfl, rfl⟩
        walk_at "ct"
        refine w_rIv (.int 1000000) ⟨by decide, by decide⟩ rfl ?_
        refine w_mod (by decide) fun r h0 h1 => ?_
        exact q _ h0 (by omega)
    · walk_at "ct"
      refine w_mod (by decide) fun r0 a0 a1 => ?_
      walk_at "ct"
      have kk : 0 ≤ k * k ∧ k * k ≤ 1000 * 1000 := ⟨Int.mul_nonneg k0 k0, Int.mul_le_mul k1 k1 k0 (by decide)⟩
      refine w_rI (mul_ok (by omega) (by omega) (by omega) (by omega)) ?_
      walk_at "ct"
      refine w_rI (mul_ok (by omega) (by omega) (by omega) (by omega)) ?_
      walk_at "ct"
      refine w_rI (mul_ok (by omega) (by omega) (by omega) (by omega)) ?_
      walk_at "ct"
      refine w_mod (by decide) fun r1 b0 b1 => ?_
      walk_at "ct"
      refine w_rI (mul_ok (by omega) (by omega) (by omega) (by omega)) ?_
      walk_at "ct"
      refine w_mod (by decide) fun r2 c0 c1 => ?_
      walk_at "ct"
      refine w_rI (mul_ok (by omega) (by omega) (by omega) (by omega)) ?_
      walk_at "ct"
      refine w_mod (by decide) fun r3 d0 d1 => ?_
      walk_at "ct"
      refine w_rI (div_ok (by decide) (by decide)) ?_
      exact q _ (by omega) (by omega)
abbrev S__law_places : Stmt := topS 47
theorem sc__law_places : FnScope ["_law_part_here"] ["_law_part_here"] (defScope S__law_places) := ⟨rfl, rfl, rfl, by decide +kernel, rfl, by decide +kernel, by decide +kernel⟩
def sp__law_places (K : PySem.W.Frag) : Sp := fun vs H Q _ => ∃ (v : V) (p : Part), vs = [v] ∧ Dp K H v p.data ∧ Q (.int p.places) H
theorem ok__law_places {f : Addr} {fd : FuncData} (F : Fun K "_law_places" "_law_places" S__law_places f fd) (m_int : mg "int" = none) :
    FnOk P w K mg base CX0 1 f fd ["_law_part_here"] (sp__law_places K) := by
  refine F.ok sc__law_places (fun vs H Q E h => ?_) (fun cdv A outer s H vs Q E hr h => ?_)
  ·
    obtain ⟨v, p, rfl, _⟩ := h
    rfl
  ·
    obtain ⟨v, p, rfl, hp, q⟩ := h
    refine ⟨_, (pss_cons (ps_if (PW.pt (pw_or (pt_cmpR op_eq (pe_ix (r := rIxT K) ix_tup (pv 0) pe_int (fun _ _ => rfl)) pe_str (nomark _)) (pw_or1 (pt_cmpR op_eq (pe_ix (r := rIxT K) ix_tup (pv 0) pe_int (fun _ _ => rfl)) pe_str (nomark _))))) (pss_one (ps_ret (pe_ix (r := rIxT K) ix_tup (pv 0) pe_int (fun _ _ => rfl)))) pss_nil)
      (pss_one (ps_ret (pe_op op_add pe_int (pe_callTy call_int1 (by rfl) m_int (by decide +kernel) (pa_cons (pe_cmpR op_eq (pe_ix (r := rIxT K) ix_tup (pv 0) pe_int (fun _ _ => rfl)) pe_str (nomark _)) pa_nil)))))), ?_⟩
    refine w_st (σ' := [some v]) rfl ?_
    cases p with
    | wheel z ms =>
      obtain ⟨a, b, rfl, ha, hb⟩ := wheel_inv hp
      walk_at "ct"
      exact q
    | click =>
      obtain ⟨a, rfl, ha⟩ := click_inv hp
      walk_at "ct"
      refine .inr ⟨_, rfl, ?_⟩
      walk_at "ct"
      exact q
    | rocker =>
      obtain ⟨a, rfl, ha⟩ := rocker_inv hp
      walk_at "ct"
      refine .inr ⟨_, rfl, ?_⟩
      walk_at "ct"
      exact q
    | spring k =>
      obtain ⟨a, rfl, ha⟩ := spring_inv hp
      walk_at "ct"
      exact q
abbrev S__law_part : Stmt := topS 48
theorem sc__law_part : FnScope ["_law_pick", "_law_most", "_law_way", "_law_size", "_law_marks", "_law_mark"] ["_law_pick", "_law_most"] (defScope S__law_part) := ⟨rfl, rfl, rfl, by decide +kernel, rfl, by decide +kernel, by decide +kernel⟩
def sp__law_part (K : PySem.W.Frag) : Sp := fun vs H Q _ => ∃ (pick most : Int), vs = [.int pick, .int most] ∧ 1 ≤ most ∧ ∀ (v : V) (p : Part) H', Same H H' → Dp K H' v p.data → p.ok → p.places ≤ most → p.places ≤ 500 → Q v H'
theorem ok__law_part {f : Addr} {fd : FuncData} (F : Fun K "_law_part" "_law_part" S__law_part f fd) (m_max : mg "max" = none) (m_tuple : mg "tuple" = none) (m_min : mg "min" = none) (m_range : mg "range" = none) :
    FnOk P w K mg base CX0 1 f fd ["_law_pick", "_law_most"] (sp__law_part K) := by
  refine F.ok sc__law_part (fun vs H Q E h => ?_) (fun cdv A outer s H vs Q E hr h => ?_)
  ·
    obtain ⟨pick, most, rfl, _⟩ := h
    rfl
  ·
    obtain ⟨pick, most, rfl, hm, q⟩ := h
    refine ⟨_, (pss_cons (ps_set (i := 2) sc__law_part.nd rfl (.inl rfl) (pe_op op_mod (pv 0) pe_int))
      (pss_cons (ps_set (i := 3) sc__law_part.nd rfl (.inl rfl) (pe_op op_add pe_int (pe_op op_mod (pe_op op_fdivW (pv 0) pe_int) (pe_callB (call_max2 rfl) (by rfl) m_max (by decide +kernel) (pa_cons pe_int (pa_cons (pe_callB (call_min2 rfl) (by rfl) m_min (by decide +kernel) (pa_cons (pv 1) (pa_cons pe_int pa_nil))) pa_nil))))))
      (pss_cons (ps_if (pt_cmpR op_lt (pv 2) pe_int (nomark _)) (pss_cons (ps_setLc (i := 4) (own := [("_law_mark", 5)]) (g := gName 5)  rfl sc__law_part.nd rfl rfl (sw_true rfl rfl rfl (by decide +kernel)) (pi_range1 (by rfl) m_range (pa_cons (pv 3) pa_nil)) (blkOk_by (own := [("_law_mark", 5)]) (N := ["_law_pick", "_law_most", "_law_way", "_law_size", "_law_marks", "_law_mark"]) (sc := defScope S__law_part) (by decide +kernel)) (fun _ _ _ _ _ => pg_name (i := 5) sc__law_part.nd rfl (Or.inl rfl)) (fun _ _ _ _ _ => (pts_one (pt_cmpR op_eq (pe_op op_mod (pe_op op_fdivW (pe_op op_fdivW (pv 0) pe_int) (pe_op op_shl pe_int (pv 5))) pe_int) pe_int (nomark _)))) (fun _ _ _ _ _ => (pv 5)))
      (pss_cons (ps_if (pt_cmpR op_eq (pe_op op_mod (pe_op op_fdivW (pv 0) pe_int) pe_int) pe_int (nomark _)) (pss_one (ps_set (i := 4) sc__law_part.nd rfl (.inl rfl) (pe_lst (pa_cons (pe_op op_mod (pe_op op_fdivW (pv 0) pe_int) (pv 3)) pa_nil)))) pss_nil)
      (pss_one (ps_ret (pe_tup (pa_cons pe_str (pa_cons (pv 3) (pa_cons (pe_callTy call_tuple_of (by rfl) m_tuple (by decide +kernel) (pa_cons (pv 4) pa_nil)) pa_nil)))))))) pss_nil)
      (pss_cons (ps_if (pt_cmpR op_eq (pv 2) pe_int (nomark _)) (pss_one (ps_ret (pe_tup (pa_cons pe_str pa_nil)))) pss_nil)
      (pss_cons (ps_if (PW.pt (pw_and (pt_cmpR op_eq (pv 2) pe_int (nomark _)) (pw_and1 (pt_cmpR op_gt (pv 1) pe_int (nomark _))))) (pss_one (ps_ret (pe_tup (pa_cons pe_str pa_nil)))) pss_nil)
      (pss_one (ps_ret (pe_tup (pa_cons pe_str (pa_cons (pv 3) pa_nil)))))))))), ?_⟩
    refine w_st (σ' := [some (.int pick), some (.int most), none, none, none, none]) rfl ?_
    walk_at "ct"
    refine w_mod (by decide) fun way wy0 wy1 => ?_
    walk_at "ct"
    refine w_div (div_ok (by decide) (by decide)) fun p8 => ?_
    have s0 := Same.refl H
    have t0 : (1 : Int) ≤ 7 := by decide
    walk_at "ct"
    refine ⟨most, 7, rfl, ?_⟩
    walk_at "ct"
    refine ⟨1, _, rfl, ?_⟩
    obtain ⟨lid, hlid, d0, d1, d2⟩ : ∃ lid : Int, (if (if 7 < most then 7 else most) > 1 then (if 7 < most then 7 else most) else 1) = lid ∧ 1 ≤ lid ∧ lid ≤ most ∧ lid ≤ 500 := by
      refine ⟨_, rfl, ?_⟩
      split
      · split at * <;> omega
      · omega
    rw [hlid]
    refine w_mod (by omega) fun sz z0 z1 => ?_
    walk_at "ct"
    obtain ⟨z, hz⟩ : ∃ z : Int, 1 + sz = z := ⟨_, rfl⟩
    rw [hz]
    refine w_ite (fun e => ?_) (fun e => ?_)
    · walk_at "ct"
      refine w_RG1 (by omega) (by omega) ?_
      have mk : ∀ (b D : Addr) (ms : List Int) (Ha : Hp), Same H Ha → Ha b = none → Rise z ms → ms.length ≤ 1000 → Ha D = some (.lst (ms.map V.int)) →
          ∀ (c : Addr), (upd Ha b (.tup (ms.map V.int))) c = none → Q (.ref c) (upd (upd Ha b (.tup (ms.map V.int))) c (.tup [.str "wheel", .int z, .ref b])) := fun b D ms Ha sa nb rs ml hD c nc => by
        have s1 : Same H (upd Ha b (.tup (ms.map V.int))) := same_new sa (sa.free nb)
        refine q (.ref c) (.wheel z ms) _ (same_new s1 (s1.free nc)) (wheel_dp (.of upd_same) (.of ?_)) ⟨by omega, by omega, rs, ml⟩ (show z ≤ most by omega) (show z ≤ 500 by omega)
        rw [upd_ne (ne_of_none upd_same nc), upd_same]
      refine lb_range (fun D i H1 => Same H H1 ∧ ∃ ms : List Int, H1 D = some (.lst (ms.map V.int)) ∧ ms.length ≤ i ∧ Rise (i : Int) ms) (fun D hD => ⟨same_new s0 (s0.free hD), [], upd_same, Nat.le_refl _, List.Pairwise.nil, fun m hm => by cases hm⟩) ?_ ?_
      · rintro D hD i H1 hi ⟨sm, ms, hD1, ml, rs⟩
        have hi5 : i < 500 := by omega
        walk_at "ct"
        refine ⟨rfl, ?_⟩
        walk_at "ct"
        refine w_div (div_ok (by decide) (by decide)) fun p64 => ?_
        walk_at "ct"
        refine w_rI ⟨by omega, by omega, by decide⟩ ?_
        refine w_div (wide_div (b := 501) ?_ ?_ (by decide) (by decide)) fun pq => ?_
        · rw [Int.one_mul]
          exact Int.pow_pos (by decide)
        · rw [Int.one_mul, Int.natAbs_pow]
          exact Nat.pow_lt_pow_right (by decide) (by omega)
        walk_at "ct"
        refine w_mod (by decide) fun bit _ _ => ?_
        walk_at "ct"
        refine w_ite (fun e2 => ?_) (fun e2 => ?_)
        · walk_at "ct"
          refine ⟨ms.map V.int, hD1, by rw [List.length_map]; exact small1000 (by omega), same_new sm (s0.free hD), ms ++ [(i : Int)], ?_, ?_, ?_, ?_⟩
          · rw [upd_same, List.map_append, Int.zero_add]
            rfl
          · rw [List.length_append]
            show ms.length + 1 ≤ i + 1
            omega
          · refine List.pairwise_append.mpr ⟨rs.1, List.pairwise_singleton _ _, fun a ha b hb => ?_⟩
            rw [List.mem_singleton] at hb
            rw [hb]
            exact (rs.2 a ha).2
          · intro m hm
            rcases List.mem_append.mp hm with hm | hm
            · have := rs.2 m hm
              omega
            · rw [List.mem_singleton] at hm
              omega
        · exact ⟨sm, ms, hD1, by omega, rs.1, fun m hm => by have := rs.2 m hm; omega⟩
      · rintro D hD H1 ⟨sm, ms, hD1, ml, rs⟩
        have rs2 : Rise z ms := ⟨rs.1, fun m hm => by have := rs.2 m hm; omega⟩
        walk_at "ct"
        refine w_div (div_ok (by decide) (by decide)) fun pc => ?_
        walk_at "ct"
        refine w_mod (by decide) fun bit _ _ => ?_
        walk_at "ct"
        refine w_ite (fun e2 => ?_) (fun e2 => ?_)
        · walk_at "ct"
          refine w_div (div_ok (by decide) (by decide)) fun pd => ?_
          walk_at "ct"
          refine w_mod (by omega) fun m m0 m1 => ?_
          walk_at "ct"
          refine ⟨len2 rfl, fun l1 nl1 => ?_⟩
          walk_at "ct"
          refine ⟨l1, _, rfl, .inl ⟨.of upd_same, fun b nb => ?_⟩⟩
          walk_at "ct"
          refine ⟨len2 rfl, fun c nc => ?_⟩
          exact mk b l1 [m] _ (same_new sm (sm.free nl1)) nb ⟨List.pairwise_singleton _ _, fun x hx => by rw [List.mem_singleton] at hx; omega⟩ (show 1 ≤ 1000 by decide) upd_same c nc
        · walk_at "ct"
          refine ⟨D, _, rfl, .inl ⟨.of hD1, fun b nb => ?_⟩⟩
          walk_at "ct"
          refine ⟨len2 rfl, fun c nc => ?_⟩
          exact mk b D ms _ sm nb rs2 (by omega) hD1 c nc
    · walk_at "ct"
      refine w_ite (fun e2 => ?_) (fun e2 => ?_)
      · walk_at "ct"
        refine ⟨len2 rfl, fun c nc => ?_⟩
        exact q (.ref c) .click _ (same_new s0 (s0.free nc)) (click_dp (.of upd_same)) trivial hm (by decide)
      · walk_at "ct"
        have spr : ∀ c : Addr, H c = none → Q (.ref c) (upd H c (.tup [.str "spring", .int z])) := fun c nc =>
          q (.ref c) (.spring z) _ (same_new s0 (s0.free nc)) (spring_dp (.of upd_same)) ⟨by omega, by omega⟩ (show z ≤ most by omega) (show z ≤ 500 by omega)
        refine w_ite (fun e3 => ?_) (fun e3 => ?_)
        · walk_at "ct"
          refine w_ite (fun e4 => ?_) (fun e4 => ?_)
          · walk_at "ct"
            refine ⟨len2 rfl, fun c nc => ?_⟩
            exact q (.ref c) .rocker _ (same_new s0 (s0.free nc)) (rocker_dp (.of upd_same)) trivial (show (2 : Int) ≤ most by omega) (by decide)
          · walk_at "ct"
            exact ⟨len2 rfl, spr⟩
        · walk_at "ct"
          exact ⟨len2 rfl, spr⟩
abbrev S__law_train : Stmt := topS 49
theorem sc__law_train : FnScope ["_law_cell", "_law_place", "_law_most", "_law_told", "_law_room", "_law_k"] ["_law_cell", "_law_place", "_law_most"] (defScope S__law_train) := ⟨rfl, rfl, rfl, by decide +kernel, rfl, by decide +kernel, by decide +kernel⟩
def sp__law_train (K : PySem.W.Frag) : Sp := fun vs H Q _ => ∃ (cell place most : Int), vs = [.int cell, .int place, .int most] ∧ 0 ≤ place ∧ place ≤ 500 ∧ 1 ≤ most ∧
  ∀ (ps : List Part) a ws H', Same H H' → H a = none → H' a = some (.lst ws) → DpAll K H' ws (ps.map Part.data) → (∀ p ∈ ps, p.ok) → 1 ≤ ps.length → ps.length ≤ 5 → stands ps ≤ most → Q (.ref a) H'
theorem ok__law_train {f : Addr} {fd : FuncData} {f__law_mix : Addr} {fd__law_mix : FuncData} {f__law_places : Addr} {fd__law_places : FuncData} {f__law_part : Addr} {fd__law_part : FuncData} (F : Fun K "_law_train" "_law_train" S__law_train f fd)
    (F__law_mix : Fun K "_law_mix" "_law_mix" S__law_mix f__law_mix fd__law_mix) (b__law_mix : Binds K fd__law_mix ["_law_cell", "_law_k"] []) (g__law_mix : mg "_law_mix" = some (.ref f__law_mix)) (G__law_mix : FnOk P w K mg base CX0 1 f__law_mix fd__law_mix ["_law_cell", "_law_k"] (sp__law_mix K))
    (F__law_places : Fun K "_law_places" "_law_places" S__law_places f__law_places fd__law_places) (b__law_places : Binds K fd__law_places ["_law_part_here"] []) (g__law_places : mg "_law_places" = some (.ref f__law_places)) (G__law_places : FnOk P w K mg base CX0 1 f__law_places fd__law_places ["_law_part_here"] (sp__law_places K))
    (F__law_part : Fun K "_law_part" "_law_part" S__law_part f__law_part fd__law_part) (b__law_part : Binds K fd__law_part ["_law_pick", "_law_most"] []) (g__law_part : mg "_law_part" = some (.ref f__law_part)) (G__law_part : FnOk P w K mg base CX0 1 f__law_part fd__law_part ["_law_pick", "_law_most"] (sp__law_part K)) (m_range : mg "range" = none) :
    FnOk P w K mg base CX0 2 f fd ["_law_cell", "_law_place", "_law_most"] (sp__law_train K) := by
  refine F.ok sc__law_train (fun vs H Q E h => ?_) (fun cdv A outer s H vs Q E hr h => ?_)
  ·
    obtain ⟨cell, place, most, rfl, _⟩ := h
    rfl
  ·
    obtain ⟨cell, place, most, rfl, hp0, hp1, hm, q⟩ := h
    refine ⟨_, (pss_cons (ps_set (i := 3) sc__law_train.nd rfl (.inl rfl) (pe_lst pa_nil))
      (pss_cons (ps_set (i := 4) sc__law_train.nd rfl (.inl rfl) (pv 2))
      (pss_cons (ps_for PassesOwn.never rfl (pi_range1 (by rfl) m_range (pa_cons (pe_op op_add pe_int (pe_op op_mod (pe_call G__law_mix (hr.mono (by decide)) (by rfl) g__law_mix F__law_mix.kp b__law_mix .nil pass0 (pa_cons (pv 0) (pa_cons (pv 1) pa_nil))) pe_int)) pa_nil)) (pg_name (i := 5) sc__law_train.nd rfl (.inl rfl))
      (pss_cons (ps_expr (pe_bm PySem.F.plainAttrs_list PySem.F.slot_list_append PySem.F.type_list_append mt_append (pv 3) (pa_cons (pe_call G__law_part (hr.mono (by decide)) (by rfl) g__law_part F__law_part.kp b__law_part .nil pass0 (pa_cons (pe_call G__law_mix (hr.mono (by decide)) (by rfl) g__law_mix F__law_mix.kp b__law_mix .nil pass0 (pa_cons (pv 0) (pa_cons (pe_op op_add (pe_op op_add (pv 1) pe_int) (pv 5)) pa_nil))) (pa_cons (pv 4) pa_nil))) pa_nil)))
      (pss_one (ps_set (i := 4) sc__law_train.nd rfl (.inl rfl) (pe_op op_fdivW (pv 4) (pe_call G__law_places (hr.mono (by decide)) (by rfl) g__law_places F__law_places.kp b__law_places .nil pass0 (pa_cons (pe_ix (r := rIxL K) ix_list (pv 3) (pv 5) (fun _ _ => rfl)) pa_nil)))))))
      (pss_one (ps_ret (pv 3)))))), ?_⟩
    refine w_st (σ' := [some (.int cell), some (.int place), some (.int most), none, none, none]) rfl ?_
    walk_at "ct"
    refine ⟨len2 rfl, fun l nl => ?_⟩
    walk_at "ct"
    refine ⟨cell, place, rfl, hp0, by omega, fun n0 _ _ => ?_⟩
    walk_at "ct"
    refine w_mod (by decide) fun r r0 r1 => ?_
    walk_at "ct"
    refine w_RG1 (by omega) (by omega) ?_
    refine fb_range (fun n σ H' => ∃ (room : Int) (y : Option V) (ws : List V) (ps : List Part), σ = [some (.int cell), some (.int place), some (.int most), some (.ref l), some (.int room), y] ∧ Same H H' ∧ H' l = some (.lst ws) ∧ DpAll K H' ws (ps.map Part.data) ∧ (∀ p ∈ ps, p.ok) ∧ ps.length = n ∧ 1 ≤ room ∧ stands ps * room ≤ most)
      ⟨most, none, [], [], rfl, same_upd nl, upd_same, .nil, (fun p hp => by cases hp), rfl, hm, by show 1 * most ≤ most; omega⟩ ?_ ?_
    · rintro n σ H' hn ⟨room, y, ws, ps, rfl, sm, hl, hd, hok, hpl, hr0, hst⟩
      have hwl : ws.length = ps.length := by rw [dpAll_len hd, List.length_map]
      walk_at "ct"
      refine ⟨ty_list hl, ?_⟩
      walk_at "ct"
      refine ⟨cell, _, rfl, by omega, by omega, fun n1 _ _ => ?_⟩
      walk_at "ct"
      refine ⟨n1, room, rfl, hr0, fun v p H1 s1 hv ok pm p5 => ?_⟩
      walk_at "ct"
      refine w_append (s1 _ _ hl) (small1000 (by omega)) ?_
      walk_at "ct"
      have pw := ok.pos
      have s2 : Same H (upd H1 l (.lst (ws ++ [v]))) := same_new (sm.trans s1) nl
      have hl1 := s1 _ _ hl
      have hdv : DpAll K (upd H1 l (.lst (ws ++ [v]))) (ws ++ [v]) ((ps ++ [p]).map Part.data) := by
        rw [List.map_append]
        exact dpAll_app (parts_upd hl1 ps (dpAll_same s1 hd)) (.cons (part_upd hv hl1) .nil)
      refine w_ixL (.of upd_same) (at_of (j := n) (by omega) (by rw [List.getElem?_append_right (by omega), hwl, hpl, Nat.sub_self]; rfl)) ?_
      walk_at "ct"
      refine ⟨v, p, rfl, part_upd hv hl1, ?_⟩
      refine w_rI (div_ok (by omega) (by omega)) ?_
      walk_at "ct"
      have rs := room_step (stands_pos ps hok) pw.1 pm hst
      refine ⟨_, _, ws ++ [v], ps ++ [p], rfl, s2, upd_same, hdv, fun p' hp' => ?_, by rw [List.length_append, hpl]; rfl, rs.1, by rw [stands_app]; exact rs.2⟩
      rcases List.mem_append.mp hp' with hp' | hp'
      · exact hok p' hp'
      · rw [List.mem_singleton] at hp'
        rw [hp']
        exact ok
    · rintro σ H' ⟨room, y, ws, ps, rfl, sm, hl, hd, hok, hpl, hr0, hst⟩
      walk_at "ct"
      exact q ps l ws H' sm nl hl hd hok (by omega) (by omega) (room_end (stands_pos ps hok) hr0 hst)
abbrev S__law_stand : Stmt := topS 50
theorem sc__law_stand : FnScope ["_law_train_here", "_law_pick", "_law_told", "_law_part_here"] ["_law_train_here", "_law_pick"] (defScope S__law_stand) := ⟨rfl, rfl, rfl, by decide +kernel, rfl, by decide +kernel, by decide +kernel⟩
def sp__law_stand (K : PySem.W.Frag) : Sp := fun vs H Q _ => ∃ (a : Addr) (ps : List Part) (pick : Int), vs = [.ref a, .int pick] ∧ TrainAt K H a ps ∧ (∀ p ∈ ps, p.ok) ∧ ps.length ≤ 1000 ∧
  ∀ (xs : List Int) t H', Same H H' → H t = none → H' t = some (.tup (xs.map V.int)) → StandOk ps xs → Q (.ref t) H'
theorem ok__law_stand {f : Addr} {fd : FuncData} {f__law_places : Addr} {fd__law_places : FuncData} (F : Fun K "_law_stand" "_law_stand" S__law_stand f fd)
    (F__law_places : Fun K "_law_places" "_law_places" S__law_places f__law_places fd__law_places) (b__law_places : Binds K fd__law_places ["_law_part_here"] []) (g__law_places : mg "_law_places" = some (.ref f__law_places)) (G__law_places : FnOk P w K mg base CX0 1 f__law_places fd__law_places ["_law_part_here"] (sp__law_places K)) (m_tuple : mg "tuple" = none) :
    FnOk P w K mg base CX0 2 f fd ["_law_train_here", "_law_pick"] (sp__law_stand K) := by
  refine F.ok sc__law_stand (fun vs H Q E h => ?_) (fun cdv A outer s H vs Q E hr h => ?_)
  ·
    obtain ⟨a, ps, pick, rfl, _⟩ := h
    rfl
  ·
    obtain ⟨a, ps, pick, rfl, ⟨vs, hv, hd⟩, hok, hps, q⟩ := h
    refine ⟨_, (pss_cons (ps_set (i := 2) sc__law_stand.nd rfl (.inl rfl) (pe_lst pa_nil))
      (pss_cons (ps_for PassesOwn.never rfl (pi_list (pv 0)) (pg_name (i := 3) sc__law_stand.nd rfl (.inl rfl))
      (pss_cons (ps_expr (pe_bm PySem.F.plainAttrs_list PySem.F.slot_list_append PySem.F.type_list_append mt_append (pv 2) (pa_cons (pe_op op_mod (pv 1) (pe_call G__law_places (hr.mono (by decide)) (by rfl) g__law_places F__law_places.kp b__law_places .nil pass0 (pa_cons (pv 3) pa_nil))) pa_nil)))
      (pss_one (ps_set (i := 1) sc__law_stand.nd rfl (.inl rfl) (pe_op op_fdivW (pv 1) pe_int)))))
      (pss_one (ps_ret (pe_callTy call_tuple_of (by rfl) m_tuple (by decide +kernel) (pa_cons (pv 2) pa_nil)))))), ?_⟩
    refine w_st (σ' := [some (.ref a), some (.int pick), none, none]) rfl ?_
    have hvl : vs.length = ps.length := by rw [dpAll_len hd, List.length_map]
    walk_at "ct"
    refine ⟨len2 rfl, fun l nl => ?_⟩
    walk_at "ct"
    refine w_IL ((same_upd nl).seq hv) ?_
    refine fb_list vs (fun n σ H' => ∃ (k : Int) (y : Option V), σ = [some (.ref a), some (.int k), some (.ref l), y] ∧ Same H H' ∧ ∃ xs : List Int, H' l = some (.lst (xs.map V.int)) ∧ xs.length = n ∧ ∀ (i : Nat) (p : Part) (x : Int), ps[i]? = some p → xs[i]? = some x → 0 ≤ x ∧ x < p.places)
      ⟨pick, none, rfl, same_upd nl, [], upd_same, rfl, fun i p x _ h => by simp at h⟩ ?_ ?_ ?_
    · rintro n σ H' hn ⟨k, y, rfl, sm, _⟩
      exact sm.seq hv
    · rintro n v σ H' hx ⟨k, y, rfl, sm, xs, hl, xl, hxs⟩
      have hn : n < vs.length := (List.getElem?_eq_some_iff.mp hx).1
      obtain ⟨p, hp⟩ : ∃ p, ps[n]? = some p := ⟨_, List.getElem?_eq_getElem (by omega)⟩
      obtain ⟨v', hv1, hd1⟩ := TrainAt.at (a := a) hd hp
      cases Option.some.inj (hx.symm.trans hv1)
      have ok := (hok p (List.mem_of_getElem? hp)).pos
      walk_at "ct"
      refine ⟨ty_list hl, ?_⟩
      walk_at "ct"
      refine ⟨v, p, rfl, dp_same sm hd1, ?_⟩
      refine w_mod (by omega) fun r r0 r1 => ?_
      walk_at "ct"
      refine w_append hl (by rw [List.length_map]; exact small1000 (by omega)) ?_
      walk_at "ct"
      refine w_div (div_ok (by decide) (by decide)) fun r' => ?_
      walk_at "ct"
      refine ⟨r', some v, rfl, same_new sm nl, xs ++ [r], by rw [upd_same, List.map_append]; rfl, by rw [List.length_append, xl]; rfl, fun i p' x hp' hx' => ?_⟩
      by_cases hi : i < n
      · rw [List.getElem?_append_left (by omega)] at hx'
        exact hxs i p' x hp' hx'
      · have hi2 : i = n := by
          have z := (List.getElem?_eq_some_iff.mp hx').1
          rw [List.length_append, xl] at z
          have z2 : i < n + 1 := z
          omega
        subst hi2
        cases Option.some.inj (hp.symm.trans hp')
        rw [List.getElem?_append_right (by omega), xl, Nat.sub_self] at hx'
        cases Option.some.inj hx'
        exact ⟨r0, r1⟩
    · rintro σ H' ⟨k, y, rfl, sm, xs, hl, xl, hxs⟩
      walk_at "ct"
      refine ⟨l, _, rfl, .inl ⟨.of hl, fun u nu => ?_⟩⟩
      exact q xs u _ (same_new sm (sm.free nu)) (sm.free nu) upd_same ⟨by omega, hxs⟩
abbrev S__law_doubled : Stmt := topS 51
theorem sc__law_doubled : FnScope ["_law_train_here", "_law_stand_here", "_law_pick", "_law_at", "_law_part_here", "_law_z", "_law_marks", "_law_wide", "_law_mark"] ["_law_train_here", "_law_stand_here", "_law_pick"] (defScope S__law_doubled) := ⟨rfl, rfl, rfl, by decide +kernel, rfl, by decide +kernel, by decide +kernel⟩
def sp__law_doubled (K : PySem.W.Frag) : Sp := fun vs H Q _ => ∃ (a t : Addr) (ps : List Part) (xs : List Int) (ws : List V) (pick : Int), vs = [.ref a, .ref t, .int pick] ∧ TrS K H a t ps xs ws ∧ ps.length ≤ 100 ∧ stands ps ≤ 200 ∧
  ∀ (ps' : List Part) (xs' : List Int) a' t' g ws' H', Same H H' → TrS K H' a' t' ps' xs' ws' → ps'.length ≤ ps.length + 1 → (stands ps' ≤ stands ps ∨ stands ps' ≤ 2 * stands ps ∧ Tied ps ps' xs xs') → H' g = some (.tup [.ref a', .ref t']) → Q (.ref g) H'
theorem ok__law_doubled {f : Addr} {fd : FuncData} (F : Fun K "_law_doubled" "_law_doubled" S__law_doubled f fd) (m_len : mg "len" = none) (m_tuple : mg "tuple" = none) :
    FnOk P w K mg base CX0 1 f fd ["_law_train_here", "_law_stand_here", "_law_pick"] (sp__law_doubled K) := by
  refine F.ok sc__law_doubled (fun vs H Q E h => ?_) (fun cdv A outer s H vs Q E hr h => ?_)
  ·
    obtain ⟨a, t, ps, xs, ws, pick, rfl, _⟩ := h
    rfl
  ·
    obtain ⟨a, t, ps, xs, ws, pick, rfl, T, l1, few, q⟩ := h
    refine ⟨_, (pss_cons (ps_set (i := 3) sc__law_doubled.nd rfl (.inl rfl) (pe_op op_mod (pv 2) (pe_callB call_len_seq (by rfl) m_len (by decide +kernel) (pa_cons (pv 0) pa_nil))))
      (pss_cons (ps_set (i := 4) sc__law_doubled.nd rfl (.inl rfl) (pe_ix (r := rIxL K) ix_list (pv 0) (pv 3) (fun _ _ => rfl)))
      (pss_cons (ps_if (pt_cmpR op_ne (pe_ix (r := rIxT K) ix_tup (pv 4) pe_int (fun _ _ => rfl)) pe_str (nomark _)) (pss_one (ps_ret (pe_tup (pa_cons (pe_op op_cat (pe_op op_cat (pe_slice (r := rSlL K) sl_list (pv 0) po_none (po_some (pv 3))) (pe_lst (pa_cons (pe_tup (pa_cons pe_str (pa_cons pe_int (pa_cons (pe_tup (pa_cons pe_int pa_nil)) pa_nil)))) pa_nil))) (pe_slice (r := rSlL K) sl_list (pv 0) (po_some (pv 3)) po_none)) (pa_cons (pe_op (r := rCatA K) op_catA (pe_op (r := rCatA K) op_catA (pe_slice (r := rSlA K) sl_tupA (pv 1) po_none (po_some (pv 3))) (pe_tup (pa_cons pe_int pa_nil))) (pe_slice (r := rSlA K) sl_tupA (pv 1) (po_some (pv 3)) po_none)) pa_nil))))) pss_nil)
      (pss_cons (ps_asg (pe_slice (r := rSlA K) sl_tupA (pv 4) (po_some pe_int) po_none) (pg_tup rfl (pgs_cons (pg_name (i := 5) sc__law_doubled.nd rfl (.inr rfl)) (pgs_cons (pg_name (i := 6) sc__law_doubled.nd rfl (.inl rfl)) pgs_nil))))
      (pss_cons (ps_set (i := 7) sc__law_doubled.nd rfl (.inl rfl) (pe_tup (pa_cons pe_str (pa_cons (pe_op op_mulW pe_int (pv 5)) (pa_cons (pe_op (r := rCatA K) op_catA (pv 6) (pe_callTy call_tuple_of (by rfl) m_tuple (by decide +kernel) (pa_cons (pe_lc (own := [("_law_mark", 8)]) (g := gName 8)  rfl sc__law_doubled.nd  (pi_tup (pv 6)) (blkOk_by (own := [("_law_mark", 8)]) (N := ["_law_train_here", "_law_stand_here", "_law_pick", "_law_at", "_law_part_here", "_law_z", "_law_marks", "_law_wide", "_law_mark"]) (sc := defScope S__law_doubled) (by decide +kernel)) (fun _ _ _ _ _ => pg_name (i := 8) sc__law_doubled.nd rfl (Or.inl rfl)) (fun _ _ _ _ _ => pts_nil) (fun _ _ _ _ _ => (pe_op op_add (pv 8) (pv 5)))) pa_nil))) pa_nil)))))
      (pss_one (ps_ret (pe_tup (pa_cons (pe_op op_cat (pe_op op_cat (pe_slice (r := rSlL K) sl_list (pv 0) po_none (po_some (pv 3))) (pe_lst (pa_cons (pv 7) pa_nil))) (pe_slice (r := rSlL K) sl_list (pv 0) (po_some (pe_op op_add (pv 3) pe_int)) po_none)) (pa_cons (pe_op (r := rCatA K) op_catA (pe_op (r := rCatA K) op_catA (pe_slice (r := rSlA K) sl_tupA (pv 1) po_none (po_some (pv 3))) (pe_tup (pa_cons (pe_op op_add (pe_ix (r := rIxT K) ix_tup (pv 1) (pv 3) (fun _ _ => rfl)) (pe_op op_mulW (pv 5) (pe_op op_mod (pe_op op_fdivW (pv 2) pe_int) pe_int))) pa_nil))) (pe_slice (r := rSlA K) sl_tupA (pv 1) (po_some (pe_op op_add (pv 3) pe_int)) po_none)) pa_nil)))))))))), ?_⟩
    refine w_st (σ' := [some (.ref a), some (.ref t), some (.int pick), none, none, none, none, none, none]) rfl ?_
    have wl : ws.length = ps.length := by rw [dpAll_len T.dp, List.length_map]
    have xl : xs.length = ps.length := T.sl.len
    have pl := T.l1
    have T_at := T.at_
    walk_at "ct"
    refine ⟨a, ws, rfl, .inl (by walk_at "mv"), ?_⟩
    walk_at "ct"
    refine w_mod (by omega) fun at_ at0 at1 => ?_
    obtain ⟨k, rfl⟩ : ∃ k : Nat, at_ = k := ⟨at_.toNat, by omega⟩
    obtain ⟨pk, hpk⟩ : ∃ pk, ps[k]? = some pk := ⟨_, List.getElem?_eq_getElem (by omega)⟩
    obtain ⟨vk, hvk, dvk⟩ := dpAll_get T.dp (i := k) (d := pk.data) (by rw [List.getElem?_map, hpk]; rfl)
    obtain ⟨xk, hxk⟩ : ∃ xk, xs[k]? = some xk := ⟨_, List.getElem?_eq_getElem (by omega)⟩
    walk_at "ct"
    refine w_ixL (by walk_at "mv") (at_of (j := k) rfl hvk) ?_
    walk_at "ct"
    have kl : k < ps.length := by omega
    have big : pk.places ≤ 200 := by have := place_leS T.ok pk (List.mem_of_getElem? hpk); omega
    have okp := T.ok pk (List.mem_of_getElem? hpk)
    have l2 : ws.length ≤ 100 := by omega
    have st := T.st
    have two : (∃ z ms, pk = .wheel z ms) ∨ ∃ b0 s r, vk = .ref b0 ∧ SqT K H b0 (.str s :: r) ∧ (!decide (V.str s = V.str "wheel")) = true := by
      cases pk with
      | wheel z ms => exact .inl ⟨z, ms, rfl⟩
      | click =>
        obtain ⟨b0, rfl, hb0⟩ := click_inv dvk
        exact .inr ⟨b0, _, _, rfl, hb0, by decide +kernel⟩
      | rocker =>
        obtain ⟨b0, rfl, hb0⟩ := rocker_inv dvk
        exact .inr ⟨b0, _, _, rfl, hb0, by decide +kernel⟩
      | spring z =>
        obtain ⟨b0, rfl, hb0⟩ := spring_inv dvk
        exact .inr ⟨b0, _, _, rfl, hb0, by decide +kernel⟩
    rcases two with ⟨z, ms, rfl⟩ | ⟨b0, nm, nr, rfl, hb0, hne⟩
    · obtain ⟨b0, b, rfl, hb0, hb⟩ := wheel_inv dvk
      have rs := okp.2.2.1
      have z1 := okp.1
      have z2 : z ≤ 200 := big
      have ml := rise_few rs (by omega)
      walk_at "ct"
      refine w_rNs (c := false) (by decide +kernel) ?_
      walk_at "ct"
      refine ⟨b0, _, rfl, hb0, fun whole => absurd whole.1 (show ¬ HT.sIx 3 0 (some 1) = 0 by decide), fun _ r0 n_r0 => ?_⟩
      generalize h_G1 : upd _ r0 _ = G1
      obtain ⟨s_G1, e_r0⟩ := Ct.upd_new h_G1 n_r0
      clear h_G1
      have e_r1 : G1 r0 = some (.tup [.int z, .ref b]) := e_r0
      refine w_gtup (.of e_r1) rfl ?_
      walk_at "ct"
      refine w_rI (mul_ok (by omega) (by omega) (by omega) (by omega)) ?_
      walk_at "ct"
      refine w_IT (xs := ms.map V.int) (by walk_at "mv") ?_
      refine lb_tup (ms.map V.int) (fun D i J => Same G1 J ∧ J D = some (.lst (((ms.take i).map (· + z)).map V.int))) (fun D nD => ⟨same_upd nD, upd_same⟩) (fun D nD i J _ h => Same.tup (Same.trans s_G1 h.1) hb) ?_ ?_
      · rintro D nD i x J hx ⟨sJ, hD⟩
        rw [List.getElem?_map] at hx
        obtain ⟨m, hm, rfl⟩ := Option.map_eq_some_iff.mp hx
        have hi := (List.getElem?_eq_some_iff.mp hm).1
        walk_at "ct"
        refine ⟨rfl, ?_⟩
        walk_at "ct"
        refine ⟨_, hD, by rw [List.length_map, List.length_map, List.length_take]; exact small1000 (by omega), same_new sJ nD, ?_⟩
        rw [upd_same, List.take_add_one, hm, List.map_append, List.map_append]
        rfl
      rintro D nD J ⟨sJ, hD⟩
      rw [List.length_map, List.take_of_length_le (Nat.le_refl _)] at hD
      walk_at "ct"
      refine ⟨D, _, rfl, .inl ⟨.of hD, fun mt n_mt => ?_⟩⟩
      generalize h_G2 : upd _ mt _ = G2
      obtain ⟨s_G2, e_mt⟩ := Ct.upd_new h_G2 n_mt
      clear h_G2
      refine w_catA (by walk_at "mv") (by walk_at "mv") (by rw [List.length_map, List.length_map, List.length_map]; omega) fun mw G3 s_G3 e_mw => ?_
      rw [← List.map_append] at e_mw
      walk_at "ct"
      refine ⟨len2 rfl, fun gw n_gw => ?_⟩
      generalize h_G4 : upd _ gw _ = G4
      obtain ⟨s_G4, e_gw⟩ := Ct.upd_new h_G4 n_gw
      clear h_G4
      have sA : Same H G4 := by walk_at "sm"
      have okw : (Part.wheel (2 * z) (ms ++ ms.map (· + z))).ok := ⟨by omega, by omega, rise_dbl rs, by rw [List.length_append, List.length_map]; omega⟩
      have dw : Dp K G4 (.ref gw) (Part.wheel (2 * z) (ms ++ ms.map (· + z))).data := wheel_dp (.of (by walk_at "mv")) (by walk_at "mv")
      have hx0 := T.sl.ok.2 _ _ _ hpk hxk
      have hx1 : xk < z := hx0.2
      walk_at "ct"
      refine w_slLu (by walk_at "mv") (by omega) fun p1 G5 n_p1 s_G5 e_p1 => ?_
      walk_at "ct"
      refine ⟨len2 rfl, fun l1 n_l1 => ?_⟩
      generalize h_G6 : upd _ l1 _ = G6
      obtain ⟨s_G6, e_l1⟩ := Ct.upd_new h_G6 n_l1
      clear h_G6
      refine w_cat (by walk_at "mv") (by walk_at "mv") (by rw [List.length_take]; exact Nat.le_of_lt (small1000 (show min k ws.length + 1 ≤ 1000 by omega))) fun p2 G7 n_p2 s_G7 e_p2 => ?_
      walk_at "ct"
      rw [show (k : Int) + 1 = ((k + 1 : Nat) : Int) by omega]
      refine w_slLf (by walk_at "mv") (by omega) fun p3 G8 n_p3 s_G8 e_p3 => ?_
      refine w_cat (by walk_at "mv") (by walk_at "mv") (by rw [List.length_append, List.length_take, List.length_drop]; exact Nat.le_of_lt (small1000 (show min k ws.length + 1 + (ws.length - (k + 1)) ≤ 1000 by omega))) fun a5 G9 n_a5 s_G9 e_a5 => ?_
      walk_at "ct"
      refine w_slAu (by walk_at "mv") (by omega) fun c1 G10 s_G10 e_c1 => ?_
      walk_at "ct"
      refine w_ixT (by walk_at "mv") (at_of (j := k) rfl (by rw [List.getElem?_map, hxk]; rfl)) ?_
      walk_at "ct"
      refine w_div (div_ok (by decide) (by decide)) fun n8 => ?_
      walk_at "ct"
      refine w_mod (by decide) fun bit bit0 bit1 => ?_
      obtain ⟨y, hy, y0, y1⟩ : ∃ y : Int, xk + z * bit = y ∧ 0 ≤ y ∧ y < 2 * z := by
        have : bit = 0 ∨ bit = 1 := by omega
        rcases this with rfl | rfl
        · exact ⟨xk, by omega, by omega, by omega⟩
        · exact ⟨xk + z, by omega, by omega, by omega⟩
      have ye : y % z = xk := by rw [← hy, Int.add_mul_emod_self_left, Int.emod_eq_of_lt (by omega) hx1]
      refine w_rI (mul_ok (by omega) (by omega) (by omega) (by omega)) ?_
      walk_at "ct"
      rw [hy]
      refine ⟨len2 rfl, fun c2 n_c2 => ?_⟩
      generalize h_G11 : upd _ c2 _ = G11
      obtain ⟨s_G11, e_c2⟩ := Ct.upd_new h_G11 n_c2
      clear h_G11
      refine w_catA (by walk_at "mv") (by walk_at "mv") (by rw [List.length_map, List.length_take]; show min k xs.length + 1 ≤ 1000; omega) fun c3 G12 s_G12 e_c3 => ?_
      walk_at "ct"
      rw [show (k : Int) + 1 = ((k + 1 : Nat) : Int) by omega]
      refine w_slAf (by walk_at "mv") (by omega) fun c4 G13 s_G13 e_c4 => ?_
      refine w_catA (by walk_at "mv") (by walk_at "mv") (by rw [List.length_append, List.length_map, List.length_map, List.length_take, List.length_drop]; show min k xs.length + 1 + (xs.length - (k + 1)) ≤ 1000; omega) fun c5 G14 s_G14 e_c5 => ?_
      walk_at "ct"
      refine ⟨len2 rfl, fun g n_g => ?_⟩
      generalize h_G15 : upd _ g _ = G15
      obtain ⟨s_G15, e_g⟩ := Ct.upd_new h_G15 n_g
      clear h_G15
      have sp := stands_rep (.wheel (2 * z) (ms ++ ms.map (· + z))) hpk
      have sq : stands (repI ps k (.wheel (2 * z) (ms ++ ms.map (· + z)))) = 2 * stands ps := by
        have e1 : (Part.wheel z ms).places = z := rfl
        have e2 : (Part.wheel (2 * z) (ms ++ ms.map (· + z))).places = 2 * z := rfl
        rw [e1, e2, ← Int.mul_assoc, Int.mul_comm (stands ps)] at sp
        exact Int.eq_of_mul_eq_mul_right (by omega) sp
      have sB : Same H G15 := by walk_at "sm"
      refine q (repI ps k (.wheel (2 * z) (ms ++ ms.map (· + z)))) (repI xs k y) a5 c5 g (ws.take k ++ [.ref gw] ++ ws.drop (k + 1)) G15 sB ⟨by walk_at "mv", dp_repI k (dpAll_same sB T.dp) (by walk_at "mv"), fun p hp => (repI_mem hp).elim (fun e => e ▸ okw) (T.ok p), ?_, ?_, ?_, ?_, standL_rep okw y0 y1 k kl T.sl⟩ ?_ ?_ (by walk_at "mv")
      · rw [repI_len _ kl]; omega
      · rw [repI_len _ kl]; omega
      · omega
      · rw [show ((repI xs k y).map V.int) = (xs.take k).map V.int ++ [V.int y] ++ (xs.drop (k + 1)).map V.int by unfold repI; rw [List.map_append, List.map_append]; rfl]
        walk_at "mv"
      · rw [repI_len _ kl]; omega
      · exact .inr ⟨by omega, tied_dbl hpk okp hxk ye⟩
    · walk_at "ct"
      refine w_rNs hne ?_
      walk_at "ct"
      refine w_slLu (by walk_at "mv") (by omega) fun p1 G1 n_p1 s_G1 e_p1 => ?_
      walk_at "ct"
      refine ⟨len2 rfl, fun m0 n_m0 => ?_⟩
      generalize h_G2 : upd _ m0 _ = G2
      obtain ⟨s_G2, e_m0⟩ := Ct.upd_new h_G2 n_m0
      clear h_G2
      walk_at "ct"
      refine ⟨len2 rfl, fun g0 n_g0 => ?_⟩
      generalize h_G3 : upd _ g0 _ = G3
      obtain ⟨s_G3, e_g0⟩ := Ct.upd_new h_G3 n_g0
      clear h_G3
      walk_at "ct"
      refine ⟨len2 rfl, fun l1 n_l1 => ?_⟩
      generalize h_G4 : upd _ l1 _ = G4
      obtain ⟨s_G4, e_l1⟩ := Ct.upd_new h_G4 n_l1
      clear h_G4
      refine w_cat (by walk_at "mv") (by walk_at "mv") (by rw [List.length_take]; exact Nat.le_of_lt (small1000 (show min k ws.length + 1 ≤ 1000 by omega))) fun p2 G5 n_p2 s_G5 e_p2 => ?_
      walk_at "ct"
      refine w_slLf (by walk_at "mv") (by omega) fun p3 G6 n_p3 s_G6 e_p3 => ?_
      refine w_cat (by walk_at "mv") (by walk_at "mv") (by rw [List.length_append, List.length_take, List.length_drop]; exact Nat.le_of_lt (small1000 (show min k ws.length + 1 + (ws.length - k) ≤ 1000 by omega))) fun a5 G7 n_a5 s_G7 e_a5 => ?_
      walk_at "ct"
      refine w_slAu (by walk_at "mv") (by omega) fun c1 G8 s_G8 e_c1 => ?_
      walk_at "ct"
      refine ⟨len2 rfl, fun c2 n_c2 => ?_⟩
      generalize h_G9 : upd _ c2 _ = G9
      obtain ⟨s_G9, e_c2⟩ := Ct.upd_new h_G9 n_c2
      clear h_G9
      refine w_catA (by walk_at "mv") (by walk_at "mv") (by rw [List.length_map, List.length_take]; show min k xs.length + 1 ≤ 1000; omega) fun c3 G10 s_G10 e_c3 => ?_
      walk_at "ct"
      refine w_slAf (by walk_at "mv") (by omega) fun c4 G11 s_G11 e_c4 => ?_
      refine w_catA (by walk_at "mv") (by walk_at "mv") (by rw [List.length_append, List.length_map, List.length_map, List.length_take, List.length_drop]; show min k xs.length + 1 + (xs.length - k) ≤ 1000; omega) fun c5 G12 s_G12 e_c5 => ?_
      walk_at "ct"
      refine ⟨len2 rfl, fun g n_g => ?_⟩
      generalize h_G13 : upd _ g _ = G13
      obtain ⟨s_G13, e_g⟩ := Ct.upd_new h_G13 n_g
      clear h_G13
      have sp := stands_insI (.wheel 1 [0]) ps k
      have okw : (Part.wheel 1 [0]).ok := ⟨by decide, by decide, ⟨List.pairwise_singleton _ _, fun m hm => by rw [List.mem_singleton.mp hm]; decide⟩, by decide⟩
      have sA : Same H G13 := by walk_at "sm"
      have k1 : G13 a5 = some (.lst (ws.take k ++ [.ref g0] ++ ws.drop k)) := by walk_at "mv"
      have k2 : G13 g0 = some (.tup [.str "wheel", .int 1, .ref m0]) := by walk_at "mv"
      have k3 : G13 m0 = some (.tup [.int 0]) := by walk_at "mv"
      refine q (insI ps k (.wheel 1 [0])) (insI xs k 0) a5 c5 g (ws.take k ++ [.ref g0] ++ ws.drop k) G13 sA ⟨by walk_at "mv", dp_insI k (dpAll_same sA T.dp) (wheel_dp (b := m0) (.of (by walk_at "mv")) (.of (by walk_at "mv"))), fun p hp => (insI_mem hp).elim (fun e => e ▸ okw) (T.ok p), ?_, ?_, ?_, ?_, standL_ins okw (by decide) (by decide) k T.sl⟩ ?_ ?_ (by walk_at "mv")
      · rw [insI_len]; omega
      · rw [insI_len]; omega
      · rw [sp, show (Part.wheel 1 [0]).places = 1 from rfl]; omega
      · rw [show ((insI xs k 0).map V.int) = (xs.take k).map V.int ++ [V.int 0] ++ (xs.drop k).map V.int by unfold insI; rw [List.map_append, List.map_append]; rfl]
        walk_at "mv"
      · rw [insI_len]; exact Nat.le_refl _
      · exact .inl (by rw [sp, show (Part.wheel 1 [0]).places = 1 from rfl]; omega)
abbrev S__law_other : Stmt := topS 52
theorem sc__law_other : FnScope ["_law_train_here", "_law_stand_here", "_law_cell", "_law_place", "_law_most", "_law_pick", "_law_way", "_law_other_here", "_law_many", "_law_part_here", "_law_at", "_law_new", "_law_told"] ["_law_train_here", "_law_stand_here", "_law_cell", "_law_place", "_law_most"] (defScope S__law_other) := ⟨rfl, rfl, rfl, by decide +kernel, rfl, by decide +kernel, by decide +kernel⟩
def sp__law_other (K : PySem.W.Frag) : Sp := fun vs H Q _ => ∃ (a t : Addr) (ps : List Part) (xs : List Int) (ws : List V) (cell place most : Int), vs = [.ref a, .ref t, .int cell, .int place, .int most] ∧ TrS K H a t ps xs ws ∧ ps.length ≤ 6 ∧ stands ps ≤ 80 ∧ 0 ≤ place ∧ place ≤ 100 ∧
  ∀ (ps' : List Part) (xs' : List Int) a' t' g ws' H', Same H H' → TrS K H' a' t' ps' xs' ws' → (ps'.length ≤ 5 ∨ ps'.length ≤ ps.length + 1) → ((stands ps' ≤ stands ps ∨ stands ps' ≤ 12) ∨ stands ps' ≤ 2 * stands ps ∧ Tied ps ps' xs xs') → H' g = some (.tup [.ref a', .ref t']) → Q (.ref g) H'
theorem ok__law_other {f : Addr} {fd : FuncData} {f__law_places : Addr} {fd__law_places : FuncData} {f__law_mix : Addr} {fd__law_mix : FuncData} {f__law_part : Addr} {fd__law_part : FuncData} {f__law_doubled : Addr} {fd__law_doubled : FuncData} {f__law_stand : Addr} {fd__law_stand : FuncData} {f__law_train : Addr} {fd__law_train : FuncData} (F : Fun K "_law_other" "_law_other" S__law_other f fd)
    (F__law_places : Fun K "_law_places" "_law_places" S__law_places f__law_places fd__law_places) (b__law_places : Binds K fd__law_places ["_law_part_here"] []) (g__law_places : mg "_law_places" = some (.ref f__law_places)) (G__law_places : FnOk P w K mg base CX0 1 f__law_places fd__law_places ["_law_part_here"] (sp__law_places K))
    (F__law_mix : Fun K "_law_mix" "_law_mix" S__law_mix f__law_mix fd__law_mix) (b__law_mix : Binds K fd__law_mix ["_law_cell", "_law_k"] []) (g__law_mix : mg "_law_mix" = some (.ref f__law_mix)) (G__law_mix : FnOk P w K mg base CX0 1 f__law_mix fd__law_mix ["_law_cell", "_law_k"] (sp__law_mix K))
    (F__law_part : Fun K "_law_part" "_law_part" S__law_part f__law_part fd__law_part) (b__law_part : Binds K fd__law_part ["_law_pick", "_law_most"] []) (g__law_part : mg "_law_part" = some (.ref f__law_part)) (G__law_part : FnOk P w K mg base CX0 1 f__law_part fd__law_part ["_law_pick", "_law_most"] (sp__law_part K))
    (F__law_doubled : Fun K "_law_doubled" "_law_doubled" S__law_doubled f__law_doubled fd__law_doubled) (b__law_doubled : Binds K fd__law_doubled ["_law_train_here", "_law_stand_here", "_law_pick"] []) (g__law_doubled : mg "_law_doubled" = some (.ref f__law_doubled)) (G__law_doubled : FnOk P w K mg base CX0 1 f__law_doubled fd__law_doubled ["_law_train_here", "_law_stand_here", "_law_pick"] (sp__law_doubled K))
    (F__law_stand : Fun K "_law_stand" "_law_stand" S__law_stand f__law_stand fd__law_stand) (b__law_stand : Binds K fd__law_stand ["_law_train_here", "_law_pick"] []) (g__law_stand : mg "_law_stand" = some (.ref f__law_stand)) (G__law_stand : FnOk P w K mg base CX0 2 f__law_stand fd__law_stand ["_law_train_here", "_law_pick"] (sp__law_stand K))
    (F__law_train : Fun K "_law_train" "_law_train" S__law_train f__law_train fd__law_train) (b__law_train : Binds K fd__law_train ["_law_cell", "_law_place", "_law_most"] []) (g__law_train : mg "_law_train" = some (.ref f__law_train)) (G__law_train : FnOk P w K mg base CX0 2 f__law_train fd__law_train ["_law_cell", "_law_place", "_law_most"] (sp__law_train K)) (m_len : mg "len" = none) (m_tuple : mg "tuple" = none) (m_list : mg "list" = none) (m_zip : mg "zip" = none) :
    FnOk P w K mg base CX0 3 f fd ["_law_train_here", "_law_stand_here", "_law_cell", "_law_place", "_law_most"] (sp__law_other K) := by
  refine F.ok sc__law_other (fun vs H Q E h => ?_) (fun cdv A outer s H vs Q E hr h => ?_)
  ·
    obtain ⟨a, t, ps, xs, ws, cell, place, most, rfl, _⟩ := h
    rfl
  ·
    obtain ⟨a, t, ps, xs, ws, cell, place, most, rfl, T, l5, few, pl0, pl1, q⟩ := h
    refine ⟨_, (pss_cons (ps_set (i := 5) sc__law_other.nd rfl (.inl rfl) (pe_call G__law_mix (hr.mono (by decide)) (by rfl) g__law_mix F__law_mix.kp b__law_mix .nil pass0 (pa_cons (pv 2) (pa_cons (pv 3) pa_nil))))
      (pss_cons (ps_set (i := 6) sc__law_other.nd rfl (.inl rfl) (pe_op op_mod (pv 5) pe_int))
      (pss_cons (ps_if (pt_cmpR op_eq (pv 6) pe_int (nomark _)) (pss_cons (ps_set (i := 7) sc__law_other.nd rfl (.inl rfl) (pe_call G__law_train (hr.mono (by decide)) (by rfl) g__law_train F__law_train.kp b__law_train .nil pass0 (pa_cons (pv 2) (pa_cons (pe_op op_add (pv 3) pe_int) (pa_cons pe_int pa_nil)))))
      (pss_one (ps_ret (pe_tup (pa_cons (pv 7) (pa_cons (pe_call G__law_stand (hr.mono (by decide)) (by rfl) g__law_stand F__law_stand.kp b__law_stand .nil pass0 (pa_cons (pv 7) (pa_cons (pe_call G__law_mix (hr.mono (by decide)) (by rfl) g__law_mix F__law_mix.kp b__law_mix .nil pass0 (pa_cons (pv 2) (pa_cons (pe_op op_add (pv 3) pe_int) pa_nil))) pa_nil))) pa_nil)))))) pss_nil)
      (pss_cons (ps_if (pt_cmpR op_lt (pv 6) pe_int (nomark _)) (pss_one (ps_ret (pe_call G__law_doubled (hr.mono (by decide)) (by rfl) g__law_doubled F__law_doubled.kp b__law_doubled .nil pass0 (pa_cons (pv 0) (pa_cons (pv 1) (pa_cons (pe_op op_fdivW (pv 5) pe_int) pa_nil)))))) pss_nil)
      (pss_cons (ps_set (i := 8) sc__law_other.nd rfl (.inl rfl) pe_int)
      (pss_cons (ps_for PassesOwn.never rfl (pi_list (pv 0)) (pg_name (i := 9) sc__law_other.nd rfl (.inl rfl))
      (pss_one (ps_set (i := 8) sc__law_other.nd rfl (.inl rfl) (pe_op op_mulW (pv 8) (pe_call G__law_places (hr.mono (by decide)) (by rfl) g__law_places F__law_places.kp b__law_places .nil pass0 (pa_cons (pv 9) pa_nil))))))
      (pss_cons (ps_if (PW.pt (pw_and (pt_cmpR op_eq (pv 6) pe_int (nomark _)) (pw_and1 (pt_cmpR op_le (pv 8) pe_int (nomark _))))) (pss_one (ps_ret (pe_tup (pa_cons (pe_callTy call_list_of (by rfl) m_list (by decide +kernel) (pa_cons (pv 0) pa_nil)) (pa_cons (pe_call G__law_stand (hr.mono (by decide)) (by rfl) g__law_stand F__law_stand.kp b__law_stand .nil pass0 (pa_cons (pv 0) (pa_cons (pe_op op_fdivW (pv 5) pe_int) pa_nil))) pa_nil))))) pss_nil)
      (pss_cons (ps_if (pt_cmpR op_eq (pv 6) pe_int (nomark _)) (pss_one (ps_ret (pe_call G__law_doubled (hr.mono (by decide)) (by rfl) g__law_doubled F__law_doubled.kp b__law_doubled .nil pass0 (pa_cons (pv 0) (pa_cons (pv 1) (pa_cons (pe_op op_fdivW (pv 5) pe_int) pa_nil)))))) pss_nil)
      (pss_cons (ps_if (pt_cmpR op_eq (pv 6) pe_int (nomark _)) (pss_one (ps_ret (pe_tup (pa_cons (pe_op op_cat (pv 0) (pe_lst (pa_cons (pe_tup (pa_cons pe_str (pa_cons pe_int (pa_cons (pe_tup (pa_cons pe_int pa_nil)) pa_nil)))) pa_nil))) (pa_cons (pe_op (r := rCatA K) op_catA (pv 1) (pe_tup (pa_cons pe_int pa_nil))) pa_nil))))) pss_nil)
      (pss_cons (ps_set (i := 10) sc__law_other.nd rfl (.inl rfl) (pe_op op_mod (pe_op op_fdivW (pv 5) pe_int) (pe_callB call_len_seq (by rfl) m_len (by decide +kernel) (pa_cons (pv 0) pa_nil))))
      (pss_cons (ps_set (i := 11) sc__law_other.nd rfl (.inl rfl) (pe_call G__law_part (hr.mono (by decide)) (by rfl) g__law_part F__law_part.kp b__law_part .nil pass0 (pa_cons (pe_call G__law_mix (hr.mono (by decide)) (by rfl) g__law_mix F__law_mix.kp b__law_mix .nil pass0 (pa_cons (pv 2) (pa_cons (pe_op op_add (pv 3) pe_int) pa_nil))) (pa_cons (pe_call G__law_places (hr.mono (by decide)) (by rfl) g__law_places F__law_places.kp b__law_places .nil pass0 (pa_cons (pe_ix (r := rIxL K) ix_list (pv 0) (pv 10) (fun _ _ => rfl)) pa_nil)) pa_nil))))
      (pss_cons (ps_set (i := 12) sc__law_other.nd rfl (.inl rfl) (pe_op op_cat (pe_op op_cat (pe_slice (r := rSlL K) sl_list (pv 0) po_none (po_some (pv 10))) (pe_lst (pa_cons (pv 11) pa_nil))) (pe_slice (r := rSlL K) sl_list (pv 0) (po_some (pe_op op_add (pv 10) pe_int)) po_none)))
      (pss_one (ps_ret (pe_tup (pa_cons (pv 12) (pa_cons (pe_callTy call_tuple_of (by rfl) m_tuple (by decide +kernel) (pa_cons (pe_lc (own := [("_law_part_here", 9), ("_law_place", 3)]) (g := gTup K 2 (gCons (gName 9) (gCons (gName 3) gNil)))  rfl sc__law_other.nd  (pi_zipM (by rfl) m_zip (pa_cons (pv 12) (pa_cons (pv 1) pa_nil))) (blkOk_by (own := [("_law_part_here", 9), ("_law_place", 3)]) (N := ["_law_train_here", "_law_stand_here", "_law_cell", "_law_place", "_law_most", "_law_pick", "_law_way", "_law_other_here", "_law_many", "_law_part_here", "_law_at", "_law_new", "_law_told"]) (sc := defScope S__law_other) (by decide +kernel)) (fun _ _ _ _ _ => pg_tup rfl (pgs_cons (pg_name (i := 9) sc__law_other.nd rfl (Or.inl rfl)) (pgs_cons (pg_name (i := 3) sc__law_other.nd rfl (Or.inl rfl)) pgs_nil))) (fun _ _ _ _ _ => pts_nil) (fun _ _ _ _ _ => (pe_op op_mod (pv 3) (pe_call G__law_places (hr.mono (by decide)) (by rfl) g__law_places F__law_places.kp b__law_places .nil pass0 (pa_cons (pv 9) pa_nil))))) pa_nil)) pa_nil))))))))))))))))), ?_⟩
    refine w_st (σ' := [some (.ref a), some (.ref t), some (.int cell), some (.int place), some (.int most), none, none, none, none, none, none, none, none]) rfl ?_
    have wl : ws.length = ps.length := by rw [dpAll_len T.dp, List.length_map]
    have xl : xs.length = ps.length := T.sl.len
    have pl := T.l1
    have T_at := T.at_
    have st := T.st
    have sp := stands_pos ps T.ok
    have tr : TrainAt K H a ps := ⟨ws, .of T.at_, T.dp⟩
    walk_at "ct"
    refine ⟨cell, place, rfl, pl0, by omega, fun pick _ _ => ?_⟩
    walk_at "ct"
    refine w_mod (by decide) fun way w0 w1 => ?_
    walk_at "ct"
    refine w_ite (fun e0 => ?_) (fun e0 => ?_)
    · walk_at "ct"
      refine ⟨cell, place + 1, 12, rfl, by omega, by omega, by decide, fun ps' a' ws' G1 s_G1 na' ha' dws' ok' l1' l5' few' => ?_⟩
      walk_at "ct"
      refine ⟨cell, place + 7, rfl, by omega, by omega, fun n7 _ _ => ?_⟩
      walk_at "ct"
      refine ⟨a', ps', n7, rfl, ⟨ws', .of ha', dws'⟩, ok', by omega, fun xs' t' G2 s_G2 nt' ht' so' => ?_⟩
      walk_at "ct"
      refine ⟨len2 rfl, fun g n_g => ?_⟩
      generalize h_G3 : upd _ g _ = G3
      obtain ⟨s_G3, e_g⟩ := Ct.upd_new h_G3 n_g
      clear h_G3
      refine q ps' xs' a' t' g ws' G3 (by walk_at "sm") ⟨(by walk_at "mv"), dpAll_same (H := G2) (by walk_at "sm") (dpAll_same s_G2 dws'), ok', l1', by omega, by omega, .of (by walk_at "mv"), standL_of ok' so'⟩ (.inl (by omega)) (.inl (.inr (by omega))) (by walk_at "mv")
    walk_at "ct"
    refine w_ite (fun e1 => ?_) (fun e1 => ?_)
    · walk_at "ct"
      refine w_div (div_ok (by decide) (by decide)) fun n8 => ?_
      walk_at "ct"
      refine ⟨a, t, ps, xs, ws, n8, rfl, T, by omega, by omega, fun ps' xs' a' t' g ws' G1 s_G1 T1 l1' few' hg => ?_⟩
      exact q ps' xs' a' t' g ws' G1 s_G1 T1 (.inr (by omega)) (few'.elim (fun z => .inl (.inl z)) .inr) hg
    walk_at "ct"
    refine w_IL (xs := ws) (.of T_at) ?_
    refine fb_list ws (fun i σ J => ∃ (m : Int) (y : Option V), σ = [some (.ref a), some (.ref t), some (.int cell), some (.int place), some (.int most), some (.int pick), some (.int way), none, some (.int m), y, none, none, none] ∧ Same H J ∧ 1 ≤ m ∧ m * stands (ps.drop i) = stands ps) ⟨1, _, rfl, Same.refl _, by decide, by rw [Int.one_mul]; rfl⟩ ?_ ?_ ?_
    · rintro i σ J _ ⟨m, y, rfl, s_J, _⟩
      exact (by walk_at "mv")
    · rintro i x σ J hx ⟨m, y, rfl, s_J, m1, me⟩
      have hi : i < ps.length := by have := (List.getElem?_eq_some_iff.mp hx).1; omega
      obtain ⟨pi, hpi⟩ : ∃ pi, ps[i]? = some pi := ⟨_, List.getElem?_eq_getElem hi⟩
      obtain ⟨x', hx', dx⟩ := dpAll_get T.dp (i := i) (d := pi.data) (by rw [List.getElem?_map, hpi]; rfl)
      cases Option.some.inj (hx.symm.trans hx')
      have pp1 := (T.ok pi (List.mem_of_getElem? hpi)).pos.1
      have de : stands (ps.drop i) = pi.places * stands (ps.drop (i + 1)) := by
        rw [List.drop_eq_getElem_cons hi, (List.getElem?_eq_some_iff.mp hpi).2]
        rfl
      have rest := stands_pos (ps.drop (i + 1)) fun p hp => T.ok p (List.mem_of_mem_drop hp)
      have rest0 := stands_pos (ps.drop i) fun p hp => T.ok p (List.mem_of_mem_drop hp)
      have ple := place_leS T.ok pi (List.mem_of_getElem? hpi)
      have mle : m ≤ stands ps := by
        rw [← me]
        have := Int.mul_le_mul_of_nonneg_left (show (1 : Int) ≤ stands (ps.drop i) from rest0) (show 0 ≤ m by omega)
        omega
      walk_at "ct"
      refine ⟨x, pi, rfl, dp_same s_J dx, ?_⟩
      refine w_rI (mul_ok (by omega) (by omega) (by omega) (by omega)) ?_
      walk_at "ct"
      refine ⟨m * pi.places, _, rfl, s_J, ?_, ?_⟩
      · have := Int.mul_pos (show 0 < m by omega) (show 0 < pi.places by omega)
        omega
      · rw [Int.mul_assoc, ← de, me]
    rintro σ J ⟨m, y, rfl, s_J, m1, me⟩
    have T0 := T
    have T := T0.same s_J
    have T_at := T.at_
    have st := T.st
    have tr := tr.same s_J
    have q : ∀ (ps' : List Part) (xs' : List Int) a' t' g ws' H', Same J H' → TrS K H' a' t' ps' xs' ws' → (ps'.length ≤ 5 ∨ ps'.length ≤ ps.length + 1) → ((stands ps' ≤ stands ps ∨ stands ps' ≤ 12) ∨ stands ps' ≤ 2 * stands ps ∧ Tied ps ps' xs xs') → H' g = some (.tup [.ref a', .ref t']) → Q (.ref g) H' := fun ps' xs' a' t' g ws' H' s => q ps' xs' a' t' g ws' H' (s_J.trans s)
    walk_at "ct"
    refine w_ite (fun e2 => ?_) (fun e2 => ?_)
    · walk_at "ct"
      refine w_ite (fun e5 => ?_) (fun e5 => ?_)
      · walk_at "ct"
        refine ⟨a, ws, rfl, .inl (by walk_at "mv"), fun l1 n_l1 => ?_⟩
        generalize h_G1 : upd _ l1 _ = G1
        obtain ⟨s_G1, e_l1⟩ := Ct.upd_new h_G1 n_l1
        clear h_G1
        walk_at "ct"
        refine w_div (div_ok (by decide) (by decide)) fun n8 => ?_
        walk_at "ct"
        refine ⟨a, ps, n8, rfl, (by walk_at "mv"), T.ok, by omega, fun xs' t' G2 s_G2 nt' ht' so' => ?_⟩
        walk_at "ct"
        refine ⟨len2 rfl, fun g n_g => ?_⟩
        generalize h_G3 : upd _ g _ = G3
        obtain ⟨s_G3, e_g⟩ := Ct.upd_new h_G3 n_g
        clear h_G3
        have sA : Same J G3 := (by walk_at "sm")
        refine q ps xs' l1 t' g ws G3 sA ⟨(by walk_at "mv"), dpAll_same sA T.dp, T.ok, T.l1, by omega, by omega, .of (by walk_at "mv"), standL_of T.ok so'⟩ (.inr (by omega)) (.inl (.inl (by omega))) (by walk_at "mv")
      · walk_at "ct"
        refine w_ite (fun e4 => ?_) (fun e4 => (e4 e2).elim)
        walk_at "ct"
        refine w_div (div_ok (by decide) (by decide)) fun n8 => ?_
        walk_at "ct"
        refine ⟨a, t, ps, xs, ws, n8, rfl, T, by omega, by omega, fun ps' xs' a' t' g ws' G1 s_G1 T1 l1' few' hg => ?_⟩
        exact q ps' xs' a' t' g ws' G1 s_G1 T1 (.inr (by omega)) (few'.elim (fun z => .inl (.inl z)) .inr) hg
    walk_at "ct"
    refine w_ite (fun e4 => (e2 e4).elim) (fun e4 => ?_)
    walk_at "ct"
    refine w_ite (fun e3 => ?_) (fun e3 => ?_)
    · walk_at "ct"
      refine ⟨len2 rfl, fun m0 n_m0 => ?_⟩
      generalize h_G1 : upd _ m0 _ = G1
      obtain ⟨s_G1, e_m0⟩ := Ct.upd_new h_G1 n_m0
      clear h_G1
      walk_at "ct"
      refine ⟨len2 rfl, fun g0 n_g0 => ?_⟩
      generalize h_G2 : upd _ g0 _ = G2
      obtain ⟨s_G2, e_g0⟩ := Ct.upd_new h_G2 n_g0
      clear h_G2
      walk_at "ct"
      refine ⟨len2 rfl, fun l1 n_l1 => ?_⟩
      generalize h_G3 : upd _ l1 _ = G3
      obtain ⟨s_G3, e_l1⟩ := Ct.upd_new h_G3 n_l1
      clear h_G3
      refine w_cat (by walk_at "mv") (by walk_at "mv") (by rw [wl]; exact Nat.le_of_lt (small1000 (show ps.length + 1 ≤ 1000 by omega))) fun l2 G4 n_l2 s_G4 e_l2 => ?_
      walk_at "ct"
      refine ⟨len2 rfl, fun c1 n_c1 => ?_⟩
      generalize h_G5 : upd _ c1 _ = G5
      obtain ⟨s_G5, e_c1⟩ := Ct.upd_new h_G5 n_c1
      clear h_G5
      refine w_catA (H := G5) (a := t) (b := c1) (xs := xs.map V.int) (ys := [V.int 0]) (by walk_at "mv") (by walk_at "mv") (by rw [List.length_map]; show xs.length + 1 ≤ 1000; omega) fun c2 G6 s_G6 e_c2 => ?_
      walk_at "ct"
      refine ⟨len2 rfl, fun g n_g => ?_⟩
      generalize h_G7 : upd _ g _ = G7
      obtain ⟨s_G7, e_g⟩ := Ct.upd_new h_G7 n_g
      clear h_G7
      have sA : Same J G7 := (by walk_at "sm")
      have okw : (Part.wheel 1 [0]).ok := ⟨by decide, by decide, ⟨List.pairwise_singleton _ _, fun m hm => by rw [List.mem_singleton.mp hm]; decide⟩, by decide⟩
      have d1 : Dp K G7 (.ref g0) (Part.wheel 1 [0]).data := wheel_dp (b := m0) (.of (by walk_at "mv")) (.of (show G7 m0 = some (.tup [.int 0]) from (by walk_at "mv")))
      have e1 : stands (ps ++ [.wheel 1 [0]]) = stands ps := by rw [stands_app]; show stands ps * 1 = _; omega
      refine q (ps ++ [.wheel 1 [0]]) (xs ++ [0]) l2 c2 g (ws ++ [.ref g0]) G7 sA ⟨(by walk_at "mv"), ?_, fun p hp => ?_, ?_, ?_, ?_, ?_, standL_app T.sl ⟨okw, by decide, by decide, trivial⟩⟩ ?_ ?_ (by walk_at "mv")
      · rw [List.map_append]; exact dpAll_app (dpAll_same sA T.dp) (.cons d1 .nil)
      · rcases List.mem_append.mp hp with hp | hp
        · exact T.ok p hp
        · rw [List.mem_singleton.mp hp]; exact okw
      · rw [List.length_append]; omega
      · rw [List.length_append]; show ps.length + 1 ≤ 101; omega
      · omega
      · rw [List.map_append]; exact (by walk_at "mv")
      · exact .inr (by rw [List.length_append]; exact Nat.le_refl _)
      · exact .inl (.inl (by omega))
    walk_at "ct"
    refine w_div (div_ok (by decide) (by decide)) fun n8 => ?_
    walk_at "ct"
    refine ⟨a, ws, rfl, .inl (by walk_at "mv"), ?_⟩
    walk_at "ct"
    refine w_mod (by omega) fun at_ at0 at1 => ?_
    obtain ⟨k, rfl⟩ : ∃ k : Nat, at_ = k := ⟨at_.toNat, by omega⟩
    obtain ⟨pk, hpk⟩ : ∃ pk, ps[k]? = some pk := ⟨_, List.getElem?_eq_getElem (by omega)⟩
    obtain ⟨vk, hvk, dvk⟩ := dpAll_get T.dp (i := k) (d := pk.data) (by rw [List.getElem?_map, hpk]; rfl)
    have okk := T.ok pk (List.mem_of_getElem? hpk)
    have pk1 := okk.pos.1
    walk_at "ct"
    refine ⟨cell, place + 1, rfl, by omega, by omega, fun n1 _ _ => ?_⟩
    walk_at "ct"
    refine w_ixL (by walk_at "mv") (at_of (j := k) rfl hvk) ?_
    walk_at "ct"
    refine ⟨vk, pk, rfl, dvk, ?_⟩
    walk_at "ct"
    refine ⟨n1, pk.places, rfl, pk1, fun v p G1 s_G1 dv pok pm p500 => ?_⟩
    walk_at "ct"
    refine w_slLu (by walk_at "mv") (by omega) fun p1 G2 n_p1 s_G2 e_p1 => ?_
    walk_at "ct"
    refine ⟨len2 rfl, fun l1 n_l1 => ?_⟩
    generalize h_G3 : upd _ l1 _ = G3
    obtain ⟨s_G3, e_l1⟩ := Ct.upd_new h_G3 n_l1
    clear h_G3
    refine w_cat (by walk_at "mv") (by walk_at "mv") (by rw [List.length_take]; exact Nat.le_of_lt (small1000 (show min k ws.length + 1 ≤ 1000 by omega))) fun p2 G4 n_p2 s_G4 e_p2 => ?_
    walk_at "ct"
    rw [show (k : Int) + 1 = ((k + 1 : Nat) : Int) by omega]
    refine w_slLf (by walk_at "mv") (by omega) fun p3 G5 n_p3 s_G5 e_p3 => ?_
    refine w_cat (by walk_at "mv") (by walk_at "mv") (by rw [List.length_append, List.length_take, List.length_drop]; exact Nat.le_of_lt (small1000 (show min k ws.length + 1 + (ws.length - (k + 1)) ≤ 1000 by omega))) fun a5 G6 n_a5 s_G6 e_a5 => ?_
    have kl : k < ps.length := by omega
    have s06 : Same J G6 := (by walk_at "sm")
    have d6 : DpAll K G6 (ws.take k ++ [v] ++ ws.drop (k + 1)) ((repI ps k p).map Part.data) := dp_repI k (dpAll_same s06 T.dp) (dp_same (H := G1) (by walk_at "sm") dv)
    have ok6 : ∀ r ∈ repI ps k p, r.ok := fun r hr => (repI_mem hr).elim (fun e => e ▸ pok) (T.ok r)
    have l6 := repI_len p kl
    have few6 : stands (repI ps k p) ≤ stands ps := by
      have e := stands_rep p hpk
      have p1 := pok.pos.1
      have : stands (repI ps k p) * pk.places ≤ stands ps * pk.places := by rw [e]; exact Int.mul_le_mul_of_nonneg_left pm (by omega)
      exact Int.le_of_mul_le_mul_right this (by omega)
    have wl6 : (ws.take k ++ [v] ++ ws.drop (k + 1)).length = ps.length := by rw [dpAll_len d6, List.length_map, l6]
    generalize ws.take k ++ [v] ++ ws.drop (k + 1) = vs6 at *
    generalize repI ps k p = qs at *
    walk_at "ct"
    refine w_IM (xs := vs6) (ys := xs.map V.int) (by walk_at "mv") (by walk_at "mv") ?_
    refine lb_zipM vs6 (xs.map V.int) (by rw [List.length_map]; omega) (fun D i J => Same G6 J ∧ ∃ zs : List Int, J D = some (.lst (zs.map V.int)) ∧ zs.length = i ∧ ∀ (j : Nat) (p : Part) (z : Int), qs[j]? = some p → zs[j]? = some z → 0 ≤ z ∧ z < p.places) (fun D nD => ⟨same_upd nD, [], upd_same, rfl, fun j p z _ h => by simp at h⟩) (fun D nD i J _ h => by
      obtain ⟨s_J, _⟩ := h
      exact ⟨(by walk_at "mv"), (by walk_at "mv")⟩) ?_ ?_
    · rintro D nD i x y Tp J J2 hx hy ⟨s_J, zs, hD, zl, hz⟩ nT s_J2 e_T
      have hi := (List.getElem?_eq_some_iff.mp hx).1
      obtain ⟨p', hp'⟩ : ∃ p', qs[i]? = some p' := ⟨_, List.getElem?_eq_getElem (by omega)⟩
      obtain ⟨x', hx', dx⟩ := dpAll_get d6 (i := i) (d := p'.data) (by rw [List.getElem?_map, hp']; rfl)
      cases Option.some.inj (hx.symm.trans hx')
      rw [List.getElem?_map] at hy
      obtain ⟨m, hm, rfl⟩ := Option.map_eq_some_iff.mp hy
      have pp1 := (ok6 p' (List.mem_of_getElem? hp')).pos.1
      refine w_gtup (.of e_T) rfl ?_
      walk_at "ct"
      refine ⟨rfl, ?_⟩
      walk_at "ct"
      refine ⟨x, p', rfl, dp_same (H := G6) (by walk_at "sm") dx, ?_⟩
      refine w_mod (by omega) fun r r0 r1 => ?_
      refine ⟨zs.map V.int, (by walk_at "mv"), by rw [List.length_map]; exact small1000 (by omega), same_new (show Same G6 J2 from (by walk_at "sm")) nD, zs ++ [r], by rw [upd_same, List.map_append]; rfl, by rw [List.length_append, zl]; rfl, fun j p z hp hz' => ?_⟩
      by_cases c : j < zs.length
      · rw [List.getElem?_append_left c] at hz'
        exact hz j p z hp hz'
      · have c2 : j = zs.length := by
          have := (List.getElem?_eq_some_iff.mp hz').1
          rw [List.length_append] at this
          have : j < zs.length + 1 := this
          omega
        subst c2
        rw [List.getElem?_append_right (Nat.le_refl _), Nat.sub_self] at hz'
        cases Option.some.inj hz'
        rw [zl, hp'] at hp
        cases Option.some.inj hp
        exact ⟨r0, r1⟩
    rintro D nD J ⟨s_J, zs, hD, zl, hz⟩
    walk_at "ct"
    refine ⟨D, _, rfl, .inl ⟨.of hD, fun u n_u => ?_⟩⟩
    generalize h_G7 : upd _ u _ = G7
    obtain ⟨s_G7, e_u⟩ := Ct.upd_new h_G7 n_u
    clear h_G7
    walk_at "ct"
    refine ⟨len2 rfl, fun g n_g => ?_⟩
    generalize h_G8 : upd _ g _ = G8
    obtain ⟨s_G8, e_g⟩ := Ct.upd_new h_G8 n_g
    clear h_G8
    have sA : Same G6 G8 := (by walk_at "sm")
    refine q qs zs a5 u g vs6 G8 (by walk_at "sm") ⟨(by walk_at "mv"), dpAll_same sA d6, ok6, by omega, by omega, by omega, .of (by walk_at "mv"), standL_of ok6 ⟨by omega, hz⟩⟩ (.inr (by omega)) (.inl (.inl (by omega))) (by walk_at "mv")
abbrev S__law_shows : Stmt := topS 53
theorem sc__law_shows : FnScope ["_law_train_here", "_law_stand_here", "_law_pushes", "_law_told", "_law_way", "_law_shown"] ["_law_train_here", "_law_stand_here", "_law_pushes"] (defScope S__law_shows) := ⟨rfl, rfl, rfl, by decide +kernel, rfl, by decide +kernel, by decide +kernel⟩
def sp__law_shows (K : PySem.W.Frag) : Sp := fun vs H Q _ => ∃ (a t l : Addr) (ps : List Part) (xs zs : List Int), vs = [.ref a, .ref t, .ref l] ∧ TrainAt K H a ps ∧ (∀ p ∈ ps, p.ok) ∧ 1 ≤ ps.length ∧ ps.length ≤ 1000 ∧ SqT K H t (xs.map V.int) ∧ StandL ps xs ∧ SqL K H l (zs.map V.int) ∧ (∀ z ∈ zs, Sign z) ∧ zs.length ≤ 14000000 ∧
  ∀ l2 H', Same H H' → H l2 = none → H' l2 = some (.lst (((List.range zs.length).map fun j => (goP ps ((zs.map fun z => (0, z)).take (j + 1)) (xs, 0)).2).map V.int)) → Q (.ref l2) H'
theorem ok__law_shows {f : Addr} {fd : FuncData} {f_pushed : Addr} {fd_pushed : FuncData} (F : Fun K "_law_shows" "_law_shows" S__law_shows f fd)
    (F_pushed : Fun K "pushed" "pushed" S_pushed f_pushed fd_pushed) (b_pushed : Binds K fd_pushed ["train", "stand", "i", "way"] []) (g_pushed : mg "pushed" = some (.ref f_pushed)) (G_pushed : FnOk P w K mg base CX0 3 f_pushed fd_pushed ["train", "stand", "i", "way"] (sp_pushed K)) :
    FnOk P w K mg base CX0 4 f fd ["_law_train_here", "_law_stand_here", "_law_pushes"] (sp__law_shows K) := by
  refine F.ok sc__law_shows (fun vs H Q E h => ?_) (fun cdv A outer s H vs Q E hr h => ?_)
  ·
    obtain ⟨a, t, l, ps, xs, zs, rfl, _⟩ := h
    rfl
  ·
    obtain ⟨a, t, l, ps, xs, zs, rfl, hA, ok, l1, l1', ht, sx, hL, sgn, zl, q⟩ := h
    refine ⟨_, (pss_cons (ps_set (i := 3) sc__law_shows.nd rfl (.inl rfl) (pe_lst pa_nil))
      (pss_cons (ps_for PassesOwn.never rfl (pi_list (pv 2)) (pg_name (i := 4) sc__law_shows.nd rfl (.inl rfl))
      (pss_cons (ps_asg (pe_call G_pushed (hr.mono (by decide)) (by rfl) g_pushed F_pushed.kp b_pushed .nil pass0 (pa_cons (pv 0) (pa_cons (pv 1) (pa_cons pe_int (pa_cons (pv 4) pa_nil))))) (pg_tup rfl (pgs_cons (pg_name (i := 1) sc__law_shows.nd rfl (.inl rfl)) (pgs_cons (pg_name (i := 5) sc__law_shows.nd rfl (.inl rfl)) pgs_nil))))
      (pss_one (ps_expr (pe_bm PySem.F.plainAttrs_list PySem.F.slot_list_append PySem.F.type_list_append mt_append (pv 3) (pa_cons (pv 5) pa_nil))))))
      (pss_one (ps_ret (pv 3))))), ?_⟩
    refine w_st (σ' := [some (.ref a), some (.ref t), some (.ref l), none, none, none]) rfl ?_
    walk_at "ct"
    refine ⟨len2 rfl, fun D n_D => ?_⟩
    generalize h_G : upd _ D _ = G
    obtain ⟨s_G, e_D⟩ := Ct.upd_new h_G n_D
    clear h_G
    walk_at "ct"
    refine w_IL (s_G.seq hL) ?_
    refine fb_list (zs.map V.int) (fun i σ J => ∃ (t : Addr) (y4 y5 : Option V), σ = [some (.ref a), some (.ref t), some (.ref l), some (.ref D), y4, y5] ∧ Same H J ∧ SqT K J t ((goP ps ((zs.map fun z => (0, z)).take i) (xs, 0)).1.map V.int) ∧ J D = some (.lst (((List.range i).map fun j => (goP ps ((zs.map fun z => (0, z)).take (j + 1)) (xs, 0)).2).map V.int))) ⟨t, _, _, rfl, s_G, Same.tup s_G (by rw [List.take_zero]; exact ht), e_D⟩ ?_ ?_ ?_
    · rintro i σ J _ ⟨t, y4, y5, rfl, s, _⟩
      exact s.seq hL
    · rintro i x σ J hx ⟨t, y4, y5, rfl, s_J, htJ, hDJ⟩
      rw [List.getElem?_map] at hx
      obtain ⟨z, hz, rfl⟩ := Option.map_eq_some_iff.mp hx
      have hi := (List.getElem?_eq_some_iff.mp hz).1
      have sz := sgn z (List.mem_of_getElem? hz)
      have sx2 := goP_stand ((zs.map fun z => (0, z)).take i) (xs, 0) sx fun p hp => by
        obtain ⟨y, hy, rfl⟩ := List.mem_map.mp (List.mem_of_mem_take hp)
        exact ⟨l1, sgn y hy⟩
      have e1 : goP ps ((zs.map fun z => (0, z)).take (i + 1)) (xs, 0) = Ct.run ps (goP ps ((zs.map fun z => (0, z)).take i) (xs, 0)).1 0 z := by
        rw [List.take_add_one, List.getElem?_map, hz]
        exact goP_snoc ps _ (0, z) _
      walk_at "ct"
      refine ⟨a, t, ps, _, 0, z, rfl, hA.same s_J, ok, htJ, sx2.ok, Nat.zero_le _, l1', sz, fun r1 u1 J1 s1 nu1 nr1 hu1 hr1 => ?_⟩
      refine w_gtup (.of hr1) rfl ?_
      walk_at "ct"
      have hD1 := s1 _ _ hDJ
      refine ⟨ty_list hD1, ?_⟩
      walk_at "ct"
      refine w_append hD1 (by rw [List.length_map, List.length_map, List.length_range]; exact Nat.lt_of_le_of_lt (show i ≤ 14000000 by omega) (by decide)) ?_
      walk_at "ct"
      refine ⟨u1, _, _, rfl, same_new (s_J.trans s1) n_D, by rw [e1]; exact sqT_upd (.of hu1) hD1, ?_⟩
      rw [upd_same, List.range_succ, List.map_append, List.map_append, ← e1]
      rfl
    rintro σ J ⟨t, y4, y5, rfl, s, _, hD⟩
    rw [List.length_map] at hD
    walk_at "ct"
    exact q D J s n_D hD
abbrev S__law_right : Stmt := topS 54
theorem sc__law_right : FnScope ["_law_train_here", "_law_stand_here", "_law_other_here", "_law_there", "_law_row", "_law_word", "_law_told", "_law_back", "_law_one", "_law_two", "_law_first", "_law_second"] ["_law_train_here", "_law_stand_here", "_law_other_here", "_law_there", "_law_row"] (defScope S__law_right) := ⟨rfl, rfl, rfl, by decide +kernel, rfl, by decide +kernel, by decide +kernel⟩
def sp__law_right (K : PySem.W.Frag) (T : List Addr) (c_Mover : Addr) (c_Search : Addr) : Sp := fun vs H Q _ => ∃ (a t b u r : Addr) (ps qs : List Part) (xs ys : List Int) (ws us : List V) (ds : List Deed), vs = [.ref a, .ref t, .ref b, .ref u, .ref r] ∧ TrS K H a t ps xs ws ∧ TrS K H b u qs ys us ∧ RowAt K H r ds ∧ (∀ d ∈ ds, (d.i = 0 ∧ Sign d.w) ∧ d.t < 2 ^ 200) ∧ FewP ps qs xs ys ∧ Tb T H ∧ ∀ H', Same H H' → Q (.bl true) H'
theorem ok__law_right {f : Addr} {fd : FuncData} {f__law_shows : Addr} {fd__law_shows : FuncData} {f_shows_alike : Addr} {fd_shows_alike : FuncData} {f_left : Addr} {fd_left : FuncData} {f_trains_alike : Addr} {fd_trains_alike : FuncData} {c_Mover : Addr} {c_Search : Addr} {T : List Addr} (F : Fun K "_law_right" "_law_right" S__law_right f fd)
    (F__law_shows : Fun K "_law_shows" "_law_shows" S__law_shows f__law_shows fd__law_shows) (b__law_shows : Binds K fd__law_shows ["_law_train_here", "_law_stand_here", "_law_pushes"] []) (g__law_shows : mg "_law_shows" = some (.ref f__law_shows)) (G__law_shows : FnOk P w K mg base CX0 4 f__law_shows fd__law_shows ["_law_train_here", "_law_stand_here", "_law_pushes"] (sp__law_shows K))
    (F_shows_alike : Fun K "shows_alike" "shows_alike" S_shows_alike f_shows_alike fd_shows_alike) (b_shows_alike : Binds K fd_shows_alike ["train", "stand", "other", "there", "thing"] []) (g_shows_alike : mg "shows_alike" = some (.ref f_shows_alike)) (G_shows_alike : FnOk P w K mg base CX0 7 f_shows_alike fd_shows_alike ["train", "stand", "other", "there", "thing"] (sp_shows_alike K T c_Mover))
    (F_left : Fun K "left" "left" S_left f_left fd_left) (b_left : Binds K fd_left ["train", "stand", "row"] []) (g_left : mg "left" = some (.ref f_left)) (G_left : FnOk P w K mg base CX0 6 f_left fd_left ["train", "stand", "row"] (sp_left K))
    (F_trains_alike : Fun K "trains_alike" "trains_alike" S_trains_alike f_trains_alike fd_trains_alike) (b_trains_alike : Binds K fd_trains_alike ["train", "stand", "other", "there"] []) (g_trains_alike : mg "trains_alike" = some (.ref f_trains_alike)) (G_trains_alike : FnOk P w K mg base CX0 6 f_trains_alike fd_trains_alike ["train", "stand", "other", "there"] (sp_trains_alike K c_Mover c_Search)) (m_sorted : mg "sorted" = none) :
    FnOk P w K mg base CX0 8 f fd ["_law_train_here", "_law_stand_here", "_law_other_here", "_law_there", "_law_row"] (sp__law_right K T c_Mover c_Search) := by
  refine F.ok sc__law_right (fun vs H Q E h => ?_) (fun cdv A outer s H vs Q E hr h => ?_)
  ·
    obtain ⟨a, t, b, u, r, ps, qs, xs, ys, ws, us, ds, rfl, _⟩ := h
    rfl
  ·
    obtain ⟨a, t, b, u, r, ps, qs, xs, ys, ws0, us0, ds, rfl, T1, T2, hR, hds, few, hTb, q⟩ := h
    refine ⟨_, (pss_cons (ps_asg (pe_call G_trains_alike (hr.mono (by decide)) (by rfl) g_trains_alike F_trains_alike.kp b_trains_alike .nil pass0 (pa_cons (pv 0) (pa_cons (pv 1) (pa_cons (pv 2) (pa_cons (pv 3) pa_nil))))) (pg_tup rfl (pgs_cons (pg_name (i := 5) sc__law_right.nd rfl (.inl rfl)) (pgs_cons (pg_name (i := 6) sc__law_right.nd rfl (.inl rfl)) pgs_nil))))
      (pss_cons (ps_if (pt_cmpR op_notBl (pe_call G_shows_alike (hr.mono (by decide)) (by rfl) g_shows_alike F_shows_alike.kp b_shows_alike .nil pass0 (pa_cons (pv 0) (pa_cons (pv 1) (pa_cons (pv 2) (pa_cons (pv 3) (pa_cons (pe_tup (pa_cons (pv 5) (pa_cons (pv 6) pa_nil))) pa_nil)))))) pe_bl (nomark _)) (pss_one (ps_ret pe_bl)) pss_nil)
      (pss_cons (ps_if (pt_cmpR op_eq (pv 5) pe_str (nomark _)) (pss_cons (ps_set (i := 7) sc__law_right.nd rfl (.inl rfl) (pe_callB (r := rSortD K) (cr_sortD (units65 hr)) (by rfl) m_sorted (by decide +kernel) (pa_cons (pe_lc (own := [("_law_first", 10), ("_law_second", 11)]) (g := gTup K 2 (gCons (gName 10) (gCons (gName 11) gNil)))  rfl sc__law_right.nd  (pi_list (pv 6)) (blkOk_by (own := [("_law_first", 10), ("_law_second", 11)]) (N := ["_law_train_here", "_law_stand_here", "_law_other_here", "_law_there", "_law_row", "_law_word", "_law_told", "_law_back", "_law_one", "_law_two", "_law_first", "_law_second"]) (sc := defScope S__law_right) (by decide +kernel)) (fun _ _ _ _ _ => pg_tup rfl (pgs_cons (pg_name (i := 10) sc__law_right.nd rfl (Or.inl rfl)) (pgs_cons (pg_name (i := 11) sc__law_right.nd rfl (Or.inl rfl)) pgs_nil))) (fun _ _ _ _ _ => pts_nil) (fun _ _ _ _ _ => (pe_tup (pa_cons (pv 11) (pa_cons (pv 10) pa_nil))))) pa_nil)))
      (pss_cons (ps_if (pt_cmpR op_notBl (pe_call G_shows_alike (hr.mono (by decide)) (by rfl) g_shows_alike F_shows_alike.kp b_shows_alike .nil pass0 (pa_cons (pv 2) (pa_cons (pv 3) (pa_cons (pv 0) (pa_cons (pv 1) (pa_cons (pe_tup (pa_cons pe_str (pa_cons (pv 7) pa_nil))) pa_nil)))))) pe_bl (nomark _)) (pss_one (ps_ret pe_bl)) pss_nil)
      (pss_one (ps_ret (pe_cmpR op_eq (pe_ix (r := rIxT K) ix_tup (pe_call G_left (hr.mono (by decide)) (by rfl) g_left F_left.kp b_left .nil pass0 (pa_cons (pv 0) (pa_cons (pv 1) (pa_cons (pv 4) pa_nil)))) pe_int (fun _ _ => rfl)) (pe_ix (r := rIxT K) ix_tup (pe_call G_left (hr.mono (by decide)) (by rfl) g_left F_left.kp b_left .nil pass0 (pa_cons (pv 2) (pa_cons (pv 3) (pa_cons (pv 4) pa_nil)))) pe_int (fun _ _ => rfl)) (nomark _)))))) pss_nil)
      (pss_cons (ps_if (pt_cmpR op_notBl (pe_call G_shows_alike (hr.mono (by decide)) (by rfl) g_shows_alike F_shows_alike.kp b_shows_alike .nil pass0 (pa_cons (pv 2) (pa_cons (pv 3) (pa_cons (pv 0) (pa_cons (pv 1) (pa_cons (pe_tup (pa_cons (pv 5) (pa_cons (pv 6) pa_nil))) pa_nil)))))) pe_bl (nomark _)) (pss_one (ps_ret pe_bl)) pss_nil)
      (pss_cons (ps_set (i := 8) sc__law_right.nd rfl (.inl rfl) (pe_call G__law_shows (hr.mono (by decide)) (by rfl) g__law_shows F__law_shows.kp b__law_shows .nil pass0 (pa_cons (pv 0) (pa_cons (pv 1) (pa_cons (pv 6) pa_nil)))))
      (pss_cons (ps_set (i := 9) sc__law_right.nd rfl (.inl rfl) (pe_call G__law_shows (hr.mono (by decide)) (by rfl) g__law_shows F__law_shows.kp b__law_shows .nil pass0 (pa_cons (pv 2) (pa_cons (pv 3) (pa_cons (pv 6) pa_nil)))))
      (pss_one (ps_ret (pe_and (pe_cmpR (r := rEqD K) (op_eqD hr.units) (pe_slice (r := rSlL K) sl_list (pv 8) po_none (po_some (pe_un un_neg pe_int))) (pe_slice (r := rSlL K) sl_list (pv 9) po_none (po_some (pe_un un_neg pe_int))) (nomark _)) (pe_one (pe_cmpR op_ne (pe_ix (r := rIxL K) ix_list (pv 8) (pe_un un_neg pe_int) (fun _ _ => rfl)) (pe_ix (r := rIxL K) ix_list (pv 9) (pe_un un_neg pe_int) (fun _ _ => rfl)) (nomark _)))))))))))), ?_⟩
    refine w_st (σ' := [some (.ref a), some (.ref t), some (.ref b), some (.ref u), some (.ref r), none, none, none, none, none, none, none]) rfl ?_
    have hA : TrainAt K H a ps := ⟨ws0, .of T1.at_, T1.dp⟩
    have hB : TrainAt K H b qs := ⟨us0, .of T2.at_, T2.dp⟩
    have ht := T1.st
    have hu := T2.st
    have sx := T1.sl
    have sy := T2.sl
    have l1 := T1.l1
    have l2 := T2.l1
    have l1' : ps.length ≤ 1000 := Nat.le_trans T1.l2 (by decide)
    have l2' : qs.length ≤ 1000 := Nat.le_trans T2.l2 (by decide)
    have f1 : stands ps ≤ 13000000 := Int.le_trans T1.few (by decide)
    have f2 : stands qs ≤ 13000000 := Int.le_trans T2.few (by decide)
    have ff : (stands ps).toNat * (stands qs).toNat ≤ 13500000 := by
      have g1 := T1.few
      have g2 := T2.few
      have := Nat.mul_le_mul (show (stands ps).toNat ≤ 2000 by omega) (show (stands qs).toNat ≤ 2000 by omega)
      omega
    walk_at "ct"
    refine ⟨a, t, b, u, ps, qs, xs, ys, rfl, hA, hB, T1.ok, T2.ok, l1, l1', l2, l2', ht, sx, hu, sy, ff, fun g0 l ws x H1 s_H1 bf nl hl dl wl hg0 => ?_⟩
    refine w_gtup (.of hg0) rfl ?_
    walk_at "ct"
    refine ⟨len2 rfl, fun g n_g => ?_⟩
    generalize h_G1 : upd _ g _ = G1
    obtain ⟨s_G1, e_g⟩ := Ct.upd_new h_G1 n_g
    clear h_G1
    have s1 : Same H G1 := s_H1.trans s_G1
    have hl1 := s_G1 _ _ hl
    have dl1 := dpAll_same s_G1 dl
    cases x with
    | ok rs =>
      have cl := bfs_closed bf
      have nodes := bfs_nodes bf (ways2_ok l1 l2) (nodes_start sx sy) rs rfl
      have okK : PairsOk ps qs (keysS rs) := fun k hk => nodes k (keysS_mem.mp hk)
      have nd : (keysS rs).Nodup := (List.mergeSort_perm _ _).nodup_iff.mpr (bfs_nodup bf start_nodup rs rfl)
      have klen : (keysS rs).length = rs.length := by unfold keysS keysR; rw [List.length_mergeSort, List.length_map]
      have kfew : (keysS rs).length < 8900 := by have := few rs bf; omega
      have kcl : ClosedN ps qs ways2 (keysS rs) := fun us vs h qq hq => by
        have c := cl.2 us vs (keysS_mem.mp h) qq hq
        exact ⟨c.1, keysS_mem.mpr c.2⟩
      have kst : pkey xs ys ∈ keysS rs := keysS_mem.mpr cl.1
      have dK : DpAll K G1 ws ((keysS rs).map nkD) := by rw [keysS_data]; exact dl1
      have so : sortD ((keysS rs).map nkD) = (keysS rs).map nkD := by rw [keysS_data]; exact sortD_twice _
      refine ⟨a, t, b, u, g, l, ps, qs, xs, ys, ws, "alike", rfl, hA.same s1, hB.same s1, T1.ok, T2.ok, l1, l1', l2, l2', Same.tup s1 ht, sx, Same.tup s1 hu, sy, f1, f2, e_g, hl1, hTb.same s1, .inl ⟨rfl, keysS rs, dK, okK, nd, kfew, so, kst, kcl⟩, fun H2 s2 => ?_⟩
      refine ⟨true, true, rfl, rfl, ⟨false, rfl, ?_⟩⟩
      walk_at "ct"
      refine w_rEqS (b := true) (show decide (V.str "alike" = V.str "alike") = true by decide +kernel) ?_
      walk_at "ct"
      have hl2 := s2 _ _ hl1
      have dK2 := dpAll_same s2 dK
      have wlk : ws.length = (keysS rs).length := by rw [dpAll_len dK, List.length_map]
      refine w_IL (.of hl2) ?_
      refine lb_list ws (fun D i G => ∃ vs, Same H2 G ∧ G D = some (.lst vs) ∧ vs.length = i ∧ DpAll K G vs ((((keysS rs).take i).map swpK).map nkD)) (fun D nD => ⟨[], same_upd nD, upd_same, rfl, by rw [List.take_zero]; exact .nil⟩) (fun D nD i G _ h => by obtain ⟨vs, sG, _⟩ := h; exact .of (sG _ _ hl2)) ?_ ?_
      · rintro D nD i x G hx ⟨vs, s_G, hD, vl, dvs⟩
        have hi : i < ws.length := (List.getElem?_eq_some_iff.mp hx).1
        obtain ⟨k, hk⟩ : ∃ k, (keysS rs)[i]? = some k := ⟨_, List.getElem?_eq_getElem (by omega)⟩
        obtain ⟨x', hx', dx⟩ := dpAll_get dK2 (i := i) (d := nkD k) (by rw [List.getElem?_map, hk]; rfl)
        cases Option.some.inj (hx.symm.trans hx')
        obtain ⟨as, bs, rfl, _, _⟩ := okK k (List.mem_of_getElem? hk)
        rw [pkey_D] at dx
        obtain ⟨c, e1, e2, rfl, hc, d1, d2⟩ := dp2_inv dx
        refine w_gtup (Same.tup s_G hc) rfl ?_
        walk_at "ct"
        refine ⟨rfl, ?_⟩
        walk_at "ct"
        refine ⟨len2 rfl, fun c2 n_c2 => ?_⟩
        generalize h_G5 : upd _ c2 _ = G5
        obtain ⟨s_G5, e_c2⟩ := Ct.upd_new h_G5 n_c2
        clear h_G5
        have s25 := s_G.trans s_G5
        have tk : TupK G5 (upd G5 D (.lst (vs ++ [.ref c2]))) := tupK_upd (s_G5 _ _ hD) rfl
        have dn : DpAll K G5 (vs ++ [.ref c2]) ((((keysS rs).take (i + 1)).map swpK).map nkD) := by
          rw [List.take_add_one, hk, List.map_append, List.map_append]
          refine dpAll_app (dpAll_same s_G5 dvs) (.cons ?_ .nil)
          show Dp K G5 (.ref c2) (nkD (pkey bs as))
          rw [pkey_D]
          exact .tup (.of e_c2) (.cons (dp_same s25 d2) (.cons (dp_same s25 d1) .nil))
        exact ⟨vs, s_G5 _ _ hD, Nat.lt_of_lt_of_le (show vs.length < 14000000 by omega) (by decide), vs ++ [.ref c2], same_new s25 nD, upd_same, by rw [List.length_append, vl]; rfl, dpAll_td tk (tds_all fun d hd => by
          obtain ⟨k9, _, rfl⟩ := List.mem_map.mp hd
          exact td_nk _) dn⟩
      · rintro D nD G ⟨vs, s_G, hD, vl, dvs⟩
        rw [List.take_of_length_le (by omega)] at dvs
        walk_at "ct"
        have srt := pairs_sortable (swp_pairs okK)
        refine ⟨D, vs, ((keysS rs).map swpK).map nkD, rfl, .of hD, dvs, srt.1, srt.2.1, srt.2.2, fun zs p3 zl dz n_p3 => ?_⟩
        rw [← keysB_data] at dz
        generalize h_G3 : upd _ p3 _ = G3
        obtain ⟨s_G3, e_p3⟩ := Ct.upd_new h_G3 n_p3
        clear h_G3
        walk_at "ct"
        refine ⟨len2 rfl, fun g3 n_g3 => ?_⟩
        generalize h_G4 : upd _ g3 _ = G4
        obtain ⟨s_G4, e_g3⟩ := Ct.upd_new h_G4 n_g3
        clear h_G4
        have s24 : Same H2 G4 := (s_G.trans s_G3).trans s_G4
        have s4 : Same H G4 := (s1.trans s2).trans s24
        refine ⟨b, u, a, t, g3, p3, qs, ps, ys, xs, zs, "alike", rfl, hB.same s4, hA.same s4, T2.ok, T1.ok, l2, l2', l1, l1', Same.tup s4 hu, sy, Same.tup s4 ht, sx, f2, f1, e_g3, s_G4 _ _ e_p3, hTb.same s4, .inl ⟨rfl, keysB (keysS rs), dpAll_same (s_G3.trans s_G4) dz, keysB_ok okK, keysB_nodup okK nd, by rw [keysB_len]; exact kfew, by rw [keysB_data]; exact sortD_twice _, (keysB_pk okK).mpr kst, keysB_closed okK kcl⟩, fun H5 s5 => ?_⟩
        walk_at "ct"
        refine ⟨true, true, rfl, rfl, ⟨false, rfl, ?_⟩⟩
        walk_at "ct"
        have s05 := s4.trans s5
        refine ⟨a, t, r, ps, xs, ds, rfl, hA.same s05, sx, l1, l1', Same.tup s05 ht, hR.same s05, fun d hd => ⟨⟨by have := (hds d hd).1.1; omega, (hds d hd).1.2⟩, (hds d hd).2⟩, fun q1 u1 H6 s6 _ _ hu1 hq1 => ?_⟩
        walk_at "ct"
        refine w_ixT (.of hq1) at1 ?_
        walk_at "ct"
        have s06 := s05.trans s6
        refine ⟨b, u, r, qs, ys, ds, rfl, hB.same s06, sy, l2, l2', Same.tup s06 hu, hR.same s06, fun d hd => ⟨⟨by have := (hds d hd).1.1; omega, (hds d hd).1.2⟩, (hds d hd).2⟩, fun q2 u2 H7 s7 _ _ hu2 hq2 => ?_⟩
        walk_at "ct"
        refine w_ixT (.of hq2) at1 ?_
        walk_at "ct"
        have e : (rowL ps ds (xs, 0)).2 = (rowL qs ds (ys, 0)).2 := closed_row kcl l1 l2 ds xs ys 0 (fun d hd => (hds d hd).1) kst sx sy
        rw [e, decide_eq_true rfl]
        exact q H7 (s06.trans s7)
    | error p =>
      obtain ⟨zs, z, ep, sgn, al, ne⟩ := apart_ways (bfs_apart bf)
      obtain rfl : ws = (zs ++ [z]).map V.int := dpAll_ints_inv (zs ++ [z]) (by rw [← ep]; exact dl1)
      refine ⟨a, t, b, u, g, l, ps, qs, xs, ys, (zs ++ [z]).map V.int, "apart", rfl, hA.same s1, hB.same s1, T1.ok, T2.ok, l1, l1', l2, l2', Same.tup s1 ht, sx, Same.tup s1 hu, sy, f1, f2, e_g, hl1, hTb.same s1, .inr ⟨rfl, zs ++ [z], rfl, sgn, by rw [List.length_map] at wl; omega, ne⟩, fun H2 s2 => ?_⟩
      refine ⟨true, true, rfl, rfl, ⟨false, rfl, ?_⟩⟩
      walk_at "ct"
      refine w_rEqS (b := false) (show decide (V.str "apart" = V.str "alike") = false by decide +kernel) ?_
      walk_at "ct"
      refine ⟨len2 rfl, fun g2 n_g2 => ?_⟩
      generalize h_G3 : upd _ g2 _ = G3
      obtain ⟨s_G3, e_g2⟩ := Ct.upd_new h_G3 n_g2
      clear h_G3
      have s3 : Same H G3 := (s1.trans s2).trans s_G3
      have s13 := s2.trans s_G3
      refine ⟨b, u, a, t, g2, l, qs, ps, ys, xs, (zs ++ [z]).map V.int, "apart", rfl, hB.same s3, hA.same s3, T2.ok, T1.ok, l2, l2', l1, l1', Same.tup s3 hu, sy, Same.tup s3 ht, sx, f2, f1, e_g2, s13 _ _ hl1, hTb.same s3, .inr ⟨rfl, zs ++ [z], rfl, sgn, by rw [List.length_map] at wl; omega, ne.symm⟩, fun H4 s4 => ?_⟩
      walk_at "ct"
      refine ⟨true, true, rfl, rfl, ⟨false, rfl, ?_⟩⟩
      have s14 := s3.trans s4
      have hl4 := s4 _ _ (s13 _ _ hl1)
      walk_at "ct"
      have hl4' : SqL K H4 l ((zs ++ [z]).map V.int) := .of hl4
      have lz : (zs ++ [z]).length ≤ 14000000 := by rw [List.length_map] at wl; omega
      refine ⟨a, t, l, ps, xs, zs ++ [z], rfl, hA.same s14, T1.ok, l1, l1', Same.tup s14 ht, sx, hl4', sgn, lz, fun m1 H5 s5 nm1 hm1 => ?_⟩
      walk_at "ct"
      have s15 := s14.trans s5
      refine ⟨b, u, l, qs, ys, zs ++ [z], rfl, hB.same s15, T2.ok, l2, l2', Same.tup s15 hu, sy, .of (s5 _ _ hl4), sgn, lz, fun m2 H6 s6 nm2 hm2 => ?_⟩
      walk_at "ct"
      have zl : (zs ++ [z]).length = zs.length + 1 := by rw [List.length_append]; rfl
      have hm1' : H6 m1 = some (.lst ((shL ps (zs ++ [z]) xs).map V.int)) := s6 _ _ hm1
      have hm2' : H6 m2 = some (.lst ((shL qs (zs ++ [z]) ys).map V.int)) := hm2
      have fr : (shL ps (zs ++ [z]) xs).take zs.length = (shL qs (zs ++ [z]) ys).take zs.length := shL_front al
      refine w_slL (.of hm1') fun p1 n_p1 => ?_
      generalize h_G7 : upd _ p1 _ = G7
      obtain ⟨s_G7, e_p1⟩ := Ct.upd_new h_G7 n_p1
      clear h_G7
      rw [cut_lastJ _ ((shL_len _ _ _).trans zl), fr] at e_p1
      walk_at "ct"
      refine w_slL (.of (s_G7 _ _ hm2')) fun p2 n_p2 => ?_
      generalize h_G8 : upd _ p2 _ = G8
      obtain ⟨s_G8, e_p2⟩ := Ct.upd_new h_G8 n_p2
      clear h_G8
      rw [cut_lastJ _ ((shL_len _ _ _).trans zl)] at e_p2
      refine w_eqInts (.of (s_G8 _ _ e_p1)) (.of e_p2) ?_
      walk_at "ct"
      refine w_ixL (.of ((s_G7.trans s_G8) _ _ hm1')) (at_last (n := zs.length) (by rw [List.length_map, shL_len, zl]) (by rw [List.getElem?_map, shL_last]; rfl)) ?_
      walk_at "ct"
      refine w_ixL (.of ((s_G7.trans s_G8) _ _ hm2')) (at_last (n := zs.length) (by rw [List.length_map, shL_len, zl]) (by rw [List.getElem?_map, shL_last]; rfl)) ?_
      walk_at "ct"
      rw [decide_eq_false ne]
      exact q G8 (((s15.trans s6).trans s_G7).trans s_G8)
abbrev S__law_cut : Stmt := topS 55
theorem sc__law_cut : FnScope ["_law_script", "_law_most", "_law_cell"] ["_law_script"] (defScope S__law_cut) := ⟨rfl, rfl, rfl, by decide +kernel, rfl, by decide +kernel, by decide +kernel⟩
def sp__law_cut (K : PySem.W.Frag) : Sp := fun vs H Q _ => ∃ (a : Addr) (ns : List Int), vs = [.ref a] ∧ SqL K H a (ns.map V.int) ∧ ns.length ≤ 1000 ∧ ∀ (ms : List Int) D H', Same H H' → H D = none → ms.length = ns.length → H' D = some (.lst (ms.map V.int)) → Q (.ref D) H'
theorem ok__law_cut {f : Addr} {fd : FuncData} (F : Fun K "_law_cut" "_law_cut" S__law_cut f fd) (m_int : mg "int" = none) :
    FnOk P w K mg base CX0 1 f fd ["_law_script"] (sp__law_cut K) := by
  refine F.ok sc__law_cut (fun vs H Q E h => ?_) (fun cdv A outer s H vs Q E hr h => ?_)
  ·
    obtain ⟨a, ns, rfl, _⟩ := h
    rfl
  ·
    obtain ⟨a, ns, rfl, hS, hlen, q⟩ := h
    refine ⟨_, (pss_cons (ps_set (i := 1) sc__law_cut.nd rfl (.inr rfl) (pe_op op_powB (pe_op op_powB pe_int pe_int) pe_int))
      (pss_one (ps_ret (pe_lc (own := [("_law_cell", 2)]) (g := gName 2)  rfl sc__law_cut.nd  (pi_list (pv 0)) (blkOk_by (own := [("_law_cell", 2)]) (N := ["_law_script", "_law_most", "_law_cell"]) (sc := defScope S__law_cut) (by decide +kernel)) (fun _ _ _ _ _ => pg_name (i := 2) sc__law_cut.nd rfl (Or.inl rfl)) (fun _ _ _ _ _ => pts_nil) (fun _ _ _ _ _ => (pe_ix (r := rIxL K) ix_list (pe_lst (pa_cons (pv 2) (pa_cons (pe_op op_add (pv 1) (pe_op op_mod (pv 2) (pv 1))) pa_nil))) (pe_callTy call_int1 (by rfl) m_int (by decide +kernel) (pa_cons (pe_cmpR op_ge (pv 2) (pv 1) (nomark _)) pa_nil)) (fun _ _ => rfl))))))), ?_⟩
    refine w_st (σ' := [some (.ref a), none, none]) rfl ?_
    walk_at "ct"
    refine w_rI ⟨by decide, by decide⟩ ?_
    walk_at "ct"
    refine w_rI ⟨by decide, by decide +kernel⟩ ?_
    obtain ⟨M, hM, M0⟩ : ∃ M : Int, ((10 : Int) ^ (60 : Int).toNat) ^ (60 : Int).toNat = M ∧ 0 < M := ⟨_, rfl, by decide +kernel⟩
    rw [hM]
    walk_at "ct"
    refine w_IL hS ?_
    refine lb_list (ns.map V.int) (fun D i H1 => Same H H1 ∧ ∃ ms : List Int, ms.length = i ∧ H1 D = some (.lst (ms.map V.int))) (fun D hD => ⟨same_upd hD, [], rfl, upd_same⟩) (fun D hD i H1 _ h => h.1.seq hS) ?_ ?_
    · rintro D hD i x H1 hx ⟨sm, ms, ml, hm⟩
      have hi : i < ns.length := by
        have z := (List.getElem?_eq_some_iff.mp hx).1
        rw [List.length_map] at z
        exact z
      obtain ⟨c, rfl⟩ : ∃ c : Int, x = .int c := by
        obtain ⟨k, _, rfl⟩ := List.mem_map.mp (List.mem_of_getElem? hx)
        exact ⟨k, rfl⟩
      walk_at "ct"
      refine ⟨rfl, ?_⟩
      walk_at "ct"
      refine w_rI M0 ?_
      walk_at "ct"
      refine ⟨len2 rfl, fun p np => ?_⟩
      walk_at "ct"
      refine .inr ⟨_, rfl, ?_⟩
      have fin : ∀ z : Int, ∃ acc, (upd H1 p (.lst [.int c, .int (M + c % M)])) D = some (.lst acc) ∧ acc.length < sizeLine ∧ (Same H (upd (upd H1 p (.lst [.int c, .int (M + c % M)])) D (.lst (acc ++ [.int z]))) ∧ ∃ ms : List Int, ms.length = i + 1 ∧ (upd (upd H1 p (.lst [.int c, .int (M + c % M)])) D (.lst (acc ++ [.int z]))) D = some (.lst (ms.map V.int))) := fun z => by
        refine ⟨ms.map V.int, ?_, ?_, same_new (same_new sm (sm.free np)) hD, ms ++ [z], ?_, ?_⟩
        · rw [upd_ne (ne_of_none hm np)]
          exact hm
        · rw [List.length_map]
          exact small1000 (by omega)
        · rw [List.length_append, ml]
          rfl
        · rw [upd_same, List.map_append]
          rfl
      by_cases e : M ≤ c
      · rw [decide_eq_true e]
        refine w_ixL (.of upd_same) (v := .int (M + c % M)) rfl ?_
        exact fin _
      · rw [decide_eq_false e]
        refine w_ixL (.of upd_same) (v := .int c) rfl ?_
        exact fin _
    · rintro D hD H1 ⟨sm, ms, ml, hm⟩
      exact q ms D H1 sm hD (by rw [ml, List.length_map]) hm
abbrev S_law : Stmt := topS 56
theorem sc_law : FnScope ["_law_script", "_law_cell", "_law_train_here", "_law_stand_here", "_law_other_here", "_law_there", "_law_third", "_law_beyond", "_law_row", "_law_k", "_law_pick", "_law_words"] ["_law_script"] (defScope S_law) := ⟨rfl, rfl, rfl, by decide +kernel, rfl, by decide +kernel, by decide +kernel⟩
def sp_law (K : PySem.W.Frag) (T : List Addr) : Sp := fun vs H Q _ => ∃ (a : Addr) (ns : List Int), vs = [.ref a] ∧ SqL K H a (ns.map V.int) ∧ ns.length ≤ 63 ∧ Tb T H ∧ ∀ H', Same H H' → Q (.bl true) H'
theorem ok_law {f : Addr} {fd : FuncData} {f_trains_alike : Addr} {fd_trains_alike : FuncData} {f__law_right : Addr} {fd__law_right : FuncData} {f__law_mix : Addr} {fd__law_mix : FuncData} {f__law_other : Addr} {fd__law_other : FuncData} {f__law_stand : Addr} {fd__law_stand : FuncData} {f__law_train : Addr} {fd__law_train : FuncData} {f__law_cut : Addr} {fd__law_cut : FuncData} {c_Mover : Addr} {c_Search : Addr} {T : List Addr} (F : Fun K "law" "law" S_law f fd)
    (F_trains_alike : Fun K "trains_alike" "trains_alike" S_trains_alike f_trains_alike fd_trains_alike) (b_trains_alike : Binds K fd_trains_alike ["train", "stand", "other", "there"] []) (g_trains_alike : mg "trains_alike" = some (.ref f_trains_alike)) (G_trains_alike : FnOk P w K mg base CX0 6 f_trains_alike fd_trains_alike ["train", "stand", "other", "there"] (sp_trains_alike K c_Mover c_Search))
    (F__law_right : Fun K "_law_right" "_law_right" S__law_right f__law_right fd__law_right) (b__law_right : Binds K fd__law_right ["_law_train_here", "_law_stand_here", "_law_other_here", "_law_there", "_law_row"] []) (g__law_right : mg "_law_right" = some (.ref f__law_right)) (G__law_right : FnOk P w K mg base CX0 8 f__law_right fd__law_right ["_law_train_here", "_law_stand_here", "_law_other_here", "_law_there", "_law_row"] (sp__law_right K T c_Mover c_Search))
    (F__law_mix : Fun K "_law_mix" "_law_mix" S__law_mix f__law_mix fd__law_mix) (b__law_mix : Binds K fd__law_mix ["_law_cell", "_law_k"] []) (g__law_mix : mg "_law_mix" = some (.ref f__law_mix)) (G__law_mix : FnOk P w K mg base CX0 1 f__law_mix fd__law_mix ["_law_cell", "_law_k"] (sp__law_mix K))
    (F__law_other : Fun K "_law_other" "_law_other" S__law_other f__law_other fd__law_other) (b__law_other : Binds K fd__law_other ["_law_train_here", "_law_stand_here", "_law_cell", "_law_place", "_law_most"] []) (g__law_other : mg "_law_other" = some (.ref f__law_other)) (G__law_other : FnOk P w K mg base CX0 3 f__law_other fd__law_other ["_law_train_here", "_law_stand_here", "_law_cell", "_law_place", "_law_most"] (sp__law_other K))
    (F__law_stand : Fun K "_law_stand" "_law_stand" S__law_stand f__law_stand fd__law_stand) (b__law_stand : Binds K fd__law_stand ["_law_train_here", "_law_pick"] []) (g__law_stand : mg "_law_stand" = some (.ref f__law_stand)) (G__law_stand : FnOk P w K mg base CX0 2 f__law_stand fd__law_stand ["_law_train_here", "_law_pick"] (sp__law_stand K))
    (F__law_train : Fun K "_law_train" "_law_train" S__law_train f__law_train fd__law_train) (b__law_train : Binds K fd__law_train ["_law_cell", "_law_place", "_law_most"] []) (g__law_train : mg "_law_train" = some (.ref f__law_train)) (G__law_train : FnOk P w K mg base CX0 2 f__law_train fd__law_train ["_law_cell", "_law_place", "_law_most"] (sp__law_train K))
    (F__law_cut : Fun K "_law_cut" "_law_cut" S__law_cut f__law_cut fd__law_cut) (b__law_cut : Binds K fd__law_cut ["_law_script"] []) (g__law_cut : mg "_law_cut" = some (.ref f__law_cut)) (G__law_cut : FnOk P w K mg base CX0 1 f__law_cut fd__law_cut ["_law_script"] (sp__law_cut K)) (m_range : mg "range" = none) :
    FnOk P w K mg base CX0 9 f fd ["_law_script"] (sp_law K T) := by
  refine F.ok sc_law (fun vs H Q E h => ?_) (fun cdv A outer s H vs Q E hr h => ?_)
  ·
    obtain ⟨a, ns, rfl, _⟩ := h
    rfl
  ·
    obtain ⟨a, ns, rfl, hS, hlen, hTb, q⟩ := h
    refine ⟨_, (pss_cons (ps_set (i := 0) sc_law.nd rfl (.inl rfl) (pe_call G__law_cut (hr.mono (by decide)) (by rfl) g__law_cut F__law_cut.kp b__law_cut .nil pass0 (pa_cons (pv 0) pa_nil)))
      (pss_cons (ps_for PassesOwn.never rfl (pi_list (pe_op op_cat (pe_slice (r := rSlL K) sl_list (pv 0) po_none (po_some pe_int)) (pe_lst (pa_cons pe_int pa_nil)))) (pg_name (i := 1) sc_law.nd rfl (.inl rfl))
      (pss_cons (ps_set (i := 2) sc_law.nd rfl (.inl rfl) (pe_call G__law_train (hr.mono (by decide)) (by rfl) g__law_train F__law_train.kp b__law_train .nil pass0 (pa_cons (pv 1) (pa_cons pe_int (pa_cons pe_int pa_nil)))))
      (pss_cons (ps_set (i := 3) sc_law.nd rfl (.inl rfl) (pe_call G__law_stand (hr.mono (by decide)) (by rfl) g__law_stand F__law_stand.kp b__law_stand .nil pass0 (pa_cons (pv 2) (pa_cons (pe_call G__law_mix (hr.mono (by decide)) (by rfl) g__law_mix F__law_mix.kp b__law_mix .nil pass0 (pa_cons (pv 1) (pa_cons pe_int pa_nil))) pa_nil))))
      (pss_cons (ps_asg (pe_call G__law_other (hr.mono (by decide)) (by rfl) g__law_other F__law_other.kp b__law_other .nil pass0 (pa_cons (pv 2) (pa_cons (pv 3) (pa_cons (pv 1) (pa_cons pe_int (pa_cons pe_int pa_nil)))))) (pg_tup rfl (pgs_cons (pg_name (i := 4) sc_law.nd rfl (.inl rfl)) (pgs_cons (pg_name (i := 5) sc_law.nd rfl (.inl rfl)) pgs_nil))))
      (pss_cons (ps_asg (pe_call G__law_other (hr.mono (by decide)) (by rfl) g__law_other F__law_other.kp b__law_other .nil pass0 (pa_cons (pv 4) (pa_cons (pv 5) (pa_cons (pv 1) (pa_cons pe_int (pa_cons pe_int pa_nil)))))) (pg_tup rfl (pgs_cons (pg_name (i := 6) sc_law.nd rfl (.inl rfl)) (pgs_cons (pg_name (i := 7) sc_law.nd rfl (.inl rfl)) pgs_nil))))
      (pss_cons (ps_set (i := 8) sc_law.nd rfl (.inl rfl) (pe_lst pa_nil))
      (pss_cons (ps_for PassesOwn.never rfl (pi_range1 (by rfl) m_range (pa_cons (pe_op op_mod (pe_call G__law_mix (hr.mono (by decide)) (by rfl) g__law_mix F__law_mix.kp b__law_mix .nil pass0 (pa_cons (pv 1) (pa_cons pe_int pa_nil))) pe_int) pa_nil)) (pg_name (i := 9) sc_law.nd rfl (.inl rfl))
      (pss_cons (ps_set (i := 10) sc_law.nd rfl (.inl rfl) (pe_call G__law_mix (hr.mono (by decide)) (by rfl) g__law_mix F__law_mix.kp b__law_mix .nil pass0 (pa_cons (pv 1) (pa_cons (pe_op op_add pe_int (pv 9)) pa_nil))))
      (pss_one (ps_expr (pe_bm PySem.F.plainAttrs_list PySem.F.slot_list_append PySem.F.type_list_append mt_append (pv 8) (pa_cons (pe_tup (pa_cons pe_int (pa_cons (pe_op op_sub pe_int (pe_op op_mulW pe_int (pe_op op_mod (pv 10) pe_int))) (pa_cons (pe_op op_mod (pe_op op_fdivW (pv 10) pe_int) pe_int) pa_nil)))) pa_nil))))))
      (pss_cons (ps_if (PW.pt (pw_or (pt_not (pt_val (pe_call G__law_right (hr.mono (by decide)) (by rfl) g__law_right F__law_right.kp b__law_right .nil pass0 (pa_cons (pv 2) (pa_cons (pv 3) (pa_cons (pv 4) (pa_cons (pv 5) (pa_cons (pv 8) pa_nil)))))))) (pw_or1 (pt_not (pt_val (pe_call G__law_right (hr.mono (by decide)) (by rfl) g__law_right F__law_right.kp b__law_right .nil pass0 (pa_cons (pv 4) (pa_cons (pv 5) (pa_cons (pv 6) (pa_cons (pv 7) (pa_cons (pv 8) pa_nil))))))))))) (pss_one (ps_ret pe_bl)) pss_nil)
      (pss_cons (ps_if (pt_cmpR op_ne (pe_ix (r := rIxT K) ix_tup (pe_call G_trains_alike (hr.mono (by decide)) (by rfl) g_trains_alike F_trains_alike.kp b_trains_alike .nil pass0 (pa_cons (pv 2) (pa_cons (pv 3) (pa_cons (pv 2) (pa_cons (pv 3) pa_nil))))) pe_int (fun _ _ => rfl)) pe_str (nomark _)) (pss_one (ps_ret pe_bl)) pss_nil)
      (pss_cons (ps_set (i := 11) sc_law.nd rfl (.inl rfl) (pe_lst (pa_cons (pe_ix (r := rIxT K) ix_tup (pe_call G_trains_alike (hr.mono (by decide)) (by rfl) g_trains_alike F_trains_alike.kp b_trains_alike .nil pass0 (pa_cons (pv 2) (pa_cons (pv 3) (pa_cons (pv 4) (pa_cons (pv 5) pa_nil))))) pe_int (fun _ _ => rfl)) (pa_cons (pe_ix (r := rIxT K) ix_tup (pe_call G_trains_alike (hr.mono (by decide)) (by rfl) g_trains_alike F_trains_alike.kp b_trains_alike .nil pass0 (pa_cons (pv 4) (pa_cons (pv 5) (pa_cons (pv 6) (pa_cons (pv 7) pa_nil))))) pe_int (fun _ _ => rfl)) pa_nil))))
      (pss_one (ps_if (PW.pt (pw_and (pt_cmpR (r := rEqD K) (op_eqD hr.units) (pv 11) (pe_lst (pa_cons pe_str (pa_cons pe_str pa_nil))) (nomark _)) (pw_and1 (pt_cmpR op_ne (pe_ix (r := rIxT K) ix_tup (pe_call G_trains_alike (hr.mono (by decide)) (by rfl) g_trains_alike F_trains_alike.kp b_trains_alike .nil pass0 (pa_cons (pv 2) (pa_cons (pv 3) (pa_cons (pv 6) (pa_cons (pv 7) pa_nil))))) pe_int (fun _ _ => rfl)) pe_str (nomark _))))) (pss_one (ps_ret pe_bl)) pss_nil))))))))))))
      (pss_one (ps_ret pe_bl)))), ?_⟩
    refine w_st (σ' := [some (.ref a), none, none, none, none, none, none, none, none, none, none, none]) rfl ?_
    walk_at "ct"
    refine ⟨a, ns, rfl, hS, by omega, fun ms D H1 s1 nD ml hD => ?_⟩
    walk_at "ct"
    refine w_slL (.of hD) fun z5 n_z5 => ?_
    generalize h_G7 : upd _ z5 _ = G7
    obtain ⟨s_G7, e_z5⟩ := Ct.upd_new h_G7 n_z5
    clear h_G7
    walk_at "ct"
    refine ⟨len2 rfl, fun z6 n_z6 => ?_⟩
    generalize h_G8 : upd _ z6 _ = G8
    obtain ⟨s_G8, e_z6⟩ := Ct.upd_new h_G8 n_z6
    clear h_G8
    obtain ⟨cs, hcs, cl⟩ : ∃ cs : List Int, cutV (ms.map V.int) none (some 4) = cs.map V.int ∧ cs.length ≤ 63 := by
      refine ⟨_, cutV_map ms none (some 4), ?_⟩
      have := cutV_length (ms.map V.int) none (some 4)
      rw [cutV_map, List.length_map, List.length_map] at this
      omega
    rw [hcs] at e_z5
    refine w_cat (show G8 z5 = some (.lst (cs.map V.int)) from (by walk_at "mv")) e_z6 (by rw [List.length_map]; exact Nat.le_of_lt (small1000 (show cs.length + 1 ≤ 1000 by omega))) fun z7 G9 n_z7 s_G9 e_z7 => ?_
    rw [show (cs.map V.int ++ [V.int 0]) = (cs ++ [0]).map V.int by rw [List.map_append]; rfl] at e_z7
    have sH9 : Same H G9 := ((s1.trans s_G7).trans s_G8).trans s_G9
    walk_at "ct"
    refine w_IL (.of e_z7) ?_
    refine fb_list ((cs ++ [0]).map V.int) (fun n σ J => ∃ y1 y2 y3 y4 y5 y6 y7 y8 y9 y10 y11, σ = [some (.ref D), y1, y2, y3, y4, y5, y6, y7, y8, y9, y10, y11] ∧ Same G9 J) ⟨_, _, _, _, _, _, _, _, _, _, _, rfl, Same.refl _⟩ ?_ ?_ ?_
    · rintro n σ J hn ⟨y1, y2, y3, y4, y5, y6, y7, y8, y9, y10, y11, rfl, sm⟩
      exact .of (sm _ _ e_z7)
    · rintro n x σ J hx ⟨y1, y2, y3, y4, y5, y6, y7, y8, y9, y10, y11, rfl, s_J⟩
      obtain ⟨c, rfl⟩ : ∃ c : Int, x = .int c := by
        obtain ⟨k, _, rfl⟩ := List.mem_map.mp (List.mem_of_getElem? hx)
        exact ⟨k, rfl⟩
      walk_at "ct"
      refine ⟨c, 0, 40, rfl, by decide, by decide, by decide, fun ps ta ws J1 s_J1 nta hta dta ok l1 l5 few => ?_⟩
      walk_at "ct"
      refine ⟨c, 7, rfl, by decide, by decide, fun n7 _ _ => ?_⟩
      walk_at "ct"
      refine ⟨ta, ps, n7, rfl, ⟨ws, .of hta, dta⟩, ok, by omega, fun xs t J2 s_J2 nt ht so => ?_⟩
      have T1 : TrS K J2 ta t ps xs ws := ⟨s_J2 _ _ hta, dpAll_same s_J2 dta, ok, l1, by omega, by omega, .of ht, standL_of ok so⟩
      walk_at "ct"
      refine ⟨ta, t, ps, xs, ws, c, 8, 40, rfl, T1, by omega, by omega, by decide, by decide, fun qs ys tb u g us J3 s_J3 T2 l6 few2 hg => ?_⟩
      have T1 := T1.same s_J3
      refine w_gtup (.of hg) rfl ?_
      have fq : stands qs ≤ 80 := by
        rcases few2 with (z | z) | ⟨z, _⟩
        · omega
        · omega
        · omega
      walk_at "ct"
      refine ⟨tb, u, qs, ys, us, c, 17, 40, rfl, T2, by omega, fq, by decide, by decide, fun rs zs tc v g2 vs0 J4 s_J4 T3 l7 few3 hg2 => ?_⟩
      have T1 := T1.same s_J4
      have T2 := T2.same s_J4
      refine w_gtup (.of hg2) rfl ?_
      have p1 := stands_pos ps T1.ok
      have p2 := stands_pos qs T2.ok
      have p3 := stands_pos rs T3.ok
      have F1 : FewP ps qs xs ys := fewP_prod T1.l1 T2.l1 T1.sl T2.sl (Nat.le_trans (Nat.mul_le_mul (show (stands ps).toNat ≤ 40 by omega) (show (stands qs).toNat ≤ 80 by omega)) (by decide))
      have F2 : FewP qs rs ys zs := by
        rcases few3 with z | ⟨z, td⟩
        · exact fewP_prod T2.l1 T3.l1 T2.sl T3.sl (Nat.le_trans (Nat.mul_le_mul (show (stands qs).toNat ≤ 80 by omega) (show (stands rs).toNat ≤ 80 by omega)) (by decide))
        · exact fewP_tied td T3.l1 T3.sl (by omega)
      walk_at "ct"
      refine ⟨len2 rfl, fun R n_R => ?_⟩
      generalize h_G10 : upd _ R _ = G10
      obtain ⟨s_G10, e_R⟩ := Ct.upd_new h_G10 n_R
      clear h_G10
      walk_at "ct"
      refine ⟨c, 30, rfl, by decide, by decide, fun n30 _ _ => ?_⟩
      walk_at "ct"
      refine w_mod (by decide) fun m m0 m1 => ?_
      walk_at "ct"
      refine w_RG1 (by omega) (by omega) ?_
      have T1' := T1
      have T2' := T2
      have T3' := T3
      refine fb_range (fun n σ J => ∃ (k9 k10 : Option V) (vs : List V) (ds : List Deed), σ = [some (.ref D), some (.int c), some (.ref ta), some (.ref t), some (.ref tb), some (.ref u), some (.ref tc), some (.ref v), some (.ref R), k9, k10, y11] ∧ Same J4 J ∧ J R = some (.lst vs) ∧ DpAll K J vs (ds.map Deed.data) ∧ (∀ d ∈ ds, (d.i = 0 ∧ Sign d.w) ∧ d.t < 2 ^ 200) ∧ ds.length = n) ⟨_, _, [], [], rfl, s_G10, e_R, .nil, (fun d hd => by cases hd), rfl⟩ ?_ ?_
      · rintro n σ J hn ⟨k9, k10, vs, ds, rfl, sm, hl, hdd, hok, hdl⟩
        have hwl : vs.length = ds.length := by rw [dpAll_len hdd, List.length_map]
        walk_at "ct"
        refine ⟨c, _, rfl, by omega, by omega, fun n1 _ _ => ?_⟩
        walk_at "ct"
        refine ⟨ty_list hl, ?_⟩
        walk_at "ct"
        refine w_mod (by decide) fun b b0 b1 => ?_
        walk_at "ct"
        refine w_rI (mul_ok (by omega) (by omega) (by omega) (by omega)) ?_
        walk_at "ct"
        refine w_div (div_ok (by decide) (by decide)) fun n2 => ?_
        walk_at "ct"
        refine w_mod (by decide) fun t9 t0 t1 => ?_
        walk_at "ct"
        refine ⟨len2 rfl, fun p np => ?_⟩
        walk_at "ct"
        have hlp : R ≠ p := ne_of_none hl np
        refine w_append (xs := vs) (by rw [upd_ne hlp]; exact hl) (small1000 (by omega)) ?_
        walk_at "ct"
        have s1 := same_upd (o := .tup [.int 0, .int (1 - 2 * b), .int t9]) np
        refine ⟨_, _, vs ++ [.ref p], ds ++ [⟨0, 1 - 2 * b, t9.toNat⟩], rfl, same_new (sm.trans s1) n_R, upd_same, ?_, fun d hd => ?_, by rw [List.length_append, hdl]; rfl⟩
        · rw [List.map_append]
          refine dpAll_app (deeds_upd (by rw [upd_ne hlp]; exact hl) ds (dpAll_same s1 hdd)) (.cons (deed_dp (.of ?_)) .nil)
          rw [upd_ne hlp.symm, upd_same]
          show some (HO.tup [.int 0, .int (1 - 2 * b), .int t9]) = some (HO.tup [.int ((0 : Nat) : Int), .int (1 - 2 * b), .int (t9.toNat : Int)])
          rw [Int.toNat_of_nonneg t0]
          rfl
        · rcases List.mem_append.mp hd with hd | hd
          · exact hok d hd
          · rw [List.mem_singleton] at hd
            subst hd
            refine ⟨⟨rfl, ?_⟩, show t9.toNat < 2 ^ 200 by omega⟩
            show 1 - 2 * b = 1 ∨ 1 - 2 * b = -1
            omega
      · rintro σ J ⟨k9, k10, vs, ds, rfl, sm, hl, hdd, hok, hdl⟩
        walk_at "ct"
        have hR : RowAt K J R ds := ⟨vs, .of hl, hdd⟩
        have U1 := T1'.same sm
        have U2 := T2'.same sm
        have U3 := T3'.same sm
        have sHJ : Same H J := (((((sH9.trans s_J).trans s_J1).trans s_J2).trans s_J3).trans s_J4).trans sm
        refine ⟨ta, t, tb, u, R, ps, qs, xs, ys, ws, us, ds, rfl, U1, U2, hR, hok, F1, hTb.same sHJ, fun K1 z1 => ?_⟩
        walk_at "ct"
        refine ⟨tb, u, tc, v, R, qs, rs, ys, zs, us, vs0, ds, rfl, U2.same z1, U3.same z1, hR.same z1, hok, F2, hTb.same (sHJ.trans z1), fun K2 z2 => ?_⟩
        walk_at "ct"
        have A1 := U1.same (z1.trans z2)
        have A2 := U2.same (z1.trans z2)
        have A3 := U3.same (z1.trans z2)
        have tr : ∀ {G : Hp} {a b : Addr} {ps : List Part} {xs : List Int} {ws : List V}, TrS K G a b ps xs ws → TrainAt K G a ps := fun h => ⟨_, .of h.at_, h.dp⟩
        have ff : ∀ {ps qs : List Part}, stands ps ≤ 2000 → stands qs ≤ 2000 → (stands ps).toNat * (stands qs).toNat ≤ 13500000 := fun {ps qs} h1 h2 => Nat.le_trans (Nat.mul_le_mul (show (stands ps).toNat ≤ 2000 by omega) (show (stands qs).toNat ≤ 2000 by omega)) (by decide)
        have ln : ∀ {n : Nat}, n ≤ 101 → n ≤ 1000 := fun h => Nat.le_trans h (by decide)
        refine ⟨ta, t, ta, t, ps, ps, xs, xs, rfl, tr A1, tr A1, A1.ok, A1.ok, A1.l1, ln A1.l2, A1.l1, ln A1.l2, A1.st, A1.sl, A1.st, A1.sl, ff A1.few A1.few, fun q0 l0 w0 x0 K3 z3 b0 _ _ _ _ h0 => ?_⟩
        have w0 : heldW x0 = "alike" := by
          obtain ⟨rr, rfl⟩ := (bfs_sim b0).mpr (sim_refl _ _)
          rfl
        rw [w0] at h0
        walk_at "ct"
        refine w_ixT (.of h0) at0 ?_
        walk_at "ct"
        refine w_rNs (c := false) (by decide +kernel) ?_
        walk_at "ct"
        have B1 := A1.same z3
        have B2 := A2.same z3
        have B3 := A3.same z3
        refine ⟨ta, t, tb, u, ps, qs, xs, ys, rfl, tr B1, tr B2, B1.ok, B2.ok, B1.l1, ln B1.l2, B2.l1, ln B2.l2, B1.st, B1.sl, B2.st, B2.sl, ff B1.few B2.few, fun q1 l1 w1 x1 K4 z4 b1 _ _ _ _ h1 => ?_⟩
        walk_at "ct"
        refine w_ixT (.of h1) at0 ?_
        walk_at "ct"
        have C1 := B1.same z4
        have C2 := B2.same z4
        have C3 := B3.same z4
        refine ⟨tb, u, tc, v, qs, rs, ys, zs, rfl, tr C2, tr C3, C2.ok, C3.ok, C2.l1, ln C2.l2, C3.l1, ln C3.l2, C2.st, C2.sl, C3.st, C3.sl, ff C2.few C3.few, fun q2 l2 w2 x2 K5 z5 b2 _ _ _ _ h2 => ?_⟩
        walk_at "ct"
        refine w_ixT (.of h2) at0 ?_
        walk_at "ct"
        refine ⟨len2 rfl, fun g5 n_g5 => ?_⟩
        generalize h_K6 : upd _ g5 _ = K6
        obtain ⟨s_K6, e_g5⟩ := Ct.upd_new h_K6 n_g5
        clear h_K6
        walk_at "ct"
        refine ⟨len2 rfl, fun g6 n_g6 => ?_⟩
        generalize h_K7 : upd _ g6 _ = K7
        obtain ⟨s_K7, e_g6⟩ := Ct.upd_new h_K7 n_g6
        clear h_K7
        have z7 := s_K6.trans s_K7
        have e_g5' := s_K7 _ _ e_g5
        have sJ7 : Same J K7 := ((((z1.trans z2).trans z3).trans z4).trans z5).trans z7
        have s97 : Same G9 K7 := (((((s_J.trans s_J1).trans s_J2).trans s_J3).trans s_J4).trans sm).trans sJ7
        rcases held_word b1 with ⟨e1, S1⟩ | e1
        · rcases held_word b2 with ⟨e2, S2⟩ | e2
          · rw [e1, e2] at e_g5'
            refine w_eqWords e_g5' e_g6 (c := true) (by decide +kernel) ?_
            walk_at "ct"
            have E1 := C1.same (z5.trans z7)
            have E3 := C3.same (z5.trans z7)
            refine ⟨ta, t, tc, v, ps, rs, xs, zs, rfl, tr E1, tr E3, E1.ok, E3.ok, E1.l1, ln E1.l2, E3.l1, ln E3.l2, E1.st, E1.sl, E3.st, E3.sl, ff E1.few E3.few, fun q3 l3 w3 x3 K8 z8 b3 _ _ _ _ h3 => ?_⟩
            have e3 : heldW x3 = "alike" := by
              obtain ⟨rr, rfl⟩ := (bfs_sim b3).mpr (sim_trans S1 S2)
              rfl
            rw [e3] at h3
            walk_at "ct"
            refine w_ixT (.of h3) at0 ?_
            walk_at "ct"
            refine w_rNs (c := false) (by decide +kernel) ?_
            walk_at "ct"
            exact ⟨_, _, _, _, _, _, _, _, _, _, _, rfl, s97.trans z8⟩
          · rw [e1, e2] at e_g5'
            refine w_eqWords e_g5' e_g6 (c := false) (by decide +kernel) ?_
            walk_at "ct"
            exact ⟨_, _, _, _, _, _, _, _, _, _, _, rfl, s97⟩
        · rcases held_word b2 with ⟨e2, S2⟩ | e2
          · rw [e1, e2] at e_g5'
            refine w_eqWords e_g5' e_g6 (c := false) (by decide +kernel) ?_
            walk_at "ct"
            exact ⟨_, _, _, _, _, _, _, _, _, _, _, rfl, s97⟩
          · rw [e1, e2] at e_g5'
            refine w_eqWords e_g5' e_g6 (c := false) (by decide +kernel) ?_
            walk_at "ct"
            exact ⟨_, _, _, _, _, _, _, _, _, _, _, rfl, s97⟩
    rintro σ J ⟨y1, y2, y3, y4, y5, y6, y7, y8, y9, y10, y11, rfl, sm⟩
    walk_at "ct"
    exact q J (sH9.trans sm)
end
theorem all_mk {l : PySem.W.OpenLaw} {w : World} {K : PySem.W.Frag} {h : Heap} {mg : Str → Option Value} {fa : Addr} (X : K.In h) (G : h.Ns mainGlobals mg) (hfa : mg "law" = some (.ref fa))
    {c_Search : Addr} (y_Search : PySem.W.nsIn K mainGlobals "Search" = some (some (.ref c_Search)))
    {c_Mover : Addr} (y_Mover : PySem.W.nsIn K mainGlobals "Mover" = some (some (.ref c_Mover)))
    {f_Search____init__ : Addr} {od0 an0 : Option Addr} {sl0 : Array (Option Value)} {oc0 kV0 dc0 pm0 cd0 ct0 : Value}
    (a0 : PySem.W.findIn K (.ref c_Search) "__init__" = some (some (.ref f_Search____init__))) (i0 : PySem.W.isFn K (.ref f_Search____init__) = true) (l0 : K.lookup f_Search____init__ = some ⟨oc0, od0, .func (PySem.W.fnOf "__init__" "Search.__init__" (defArgs S_Search____init__) (defBody S_Search____init__) (defScope S_Search____init__) .none kV0 dc0 pm0 an0 cd0 ct0), sl0⟩) (c0 : PySem.W.codeIn K cd0 "Search.__init__" = true) (k0 : PySem.W.keepIn K (.ref f_Search____init__) = true)
    {f_Search__meet : Addr} {od1 an1 : Option Addr} {sl1 : Array (Option Value)} {oc1 kV1 dc1 pm1 cd1 ct1 : Value}
    (a1 : PySem.W.findIn K (.ref c_Search) "meet" = some (some (.ref f_Search__meet))) (i1 : PySem.W.isFn K (.ref f_Search__meet) = true) (l1 : K.lookup f_Search__meet = some ⟨oc1, od1, .func (PySem.W.fnOf "meet" "Search.meet" (defArgs S_Search__meet) (defBody S_Search__meet) (defScope S_Search__meet) .none kV1 dc1 pm1 an1 cd1 ct1), sl1⟩) (c1 : PySem.W.codeIn K cd1 "Search.meet" = true) (k1 : PySem.W.keepIn K (.ref f_Search__meet) = true)
    {f_Search__path : Addr} {od2 an2 : Option Addr} {sl2 : Array (Option Value)} {oc2 kV2 dc2 pm2 cd2 ct2 : Value}
    (a2 : PySem.W.findIn K (.ref c_Search) "path" = some (some (.ref f_Search__path))) (i2 : PySem.W.isFn K (.ref f_Search__path) = true) (l2 : K.lookup f_Search__path = some ⟨oc2, od2, .func (PySem.W.fnOf "path" "Search.path" (defArgs S_Search__path) (defBody S_Search__path) (defScope S_Search__path) .none kV2 dc2 pm2 an2 cd2 ct2), sl2⟩) (c2 : PySem.W.codeIn K cd2 "Search.path" = true) (k2 : PySem.W.keepIn K (.ref f_Search__path) = true)
    {f_is_whole : Addr} {od3 an3 : Option Addr} {sl3 : Array (Option Value)} {oc3 kV3 dc3 pm3 cd3 ct3 : Value}
    (a3 : PySem.W.nsIn K mainGlobals "is_whole" = some (some (.ref f_is_whole))) (l3 : K.lookup f_is_whole = some ⟨oc3, od3, .func (PySem.W.fnOf "is_whole" "is_whole" (defArgs S_is_whole) (defBody S_is_whole) (defScope S_is_whole) .none kV3 dc3 pm3 an3 cd3 ct3), sl3⟩) (c3 : PySem.W.codeIn K cd3 "is_whole" = true) (k3 : PySem.W.keepIn K (.ref f_is_whole) = true)
    {f_are_marks : Addr} {od4 an4 : Option Addr} {sl4 : Array (Option Value)} {oc4 kV4 dc4 pm4 cd4 ct4 : Value}
    (a4 : PySem.W.nsIn K mainGlobals "are_marks" = some (some (.ref f_are_marks))) (l4 : K.lookup f_are_marks = some ⟨oc4, od4, .func (PySem.W.fnOf "are_marks" "are_marks" (defArgs S_are_marks) (defBody S_are_marks) (defScope S_are_marks) .none kV4 dc4 pm4 an4 cd4 ct4), sl4⟩) (c4 : PySem.W.codeIn K cd4 "are_marks" = true) (k4 : PySem.W.keepIn K (.ref f_are_marks) = true)
    {f_is_part : Addr} {od5 an5 : Option Addr} {sl5 : Array (Option Value)} {oc5 kV5 dc5 pm5 cd5 ct5 : Value}
    (a5 : PySem.W.nsIn K mainGlobals "is_part" = some (some (.ref f_is_part))) (l5 : K.lookup f_is_part = some ⟨oc5, od5, .func (PySem.W.fnOf "is_part" "is_part" (defArgs S_is_part) (defBody S_is_part) (defScope S_is_part) .none kV5 dc5 pm5 an5 cd5 ct5), sl5⟩) (c5 : PySem.W.codeIn K cd5 "is_part" = true) (k5 : PySem.W.keepIn K (.ref f_is_part) = true)
    {f_check_train : Addr} {od6 an6 : Option Addr} {sl6 : Array (Option Value)} {oc6 kV6 dc6 pm6 cd6 ct6 : Value}
    (a6 : PySem.W.nsIn K mainGlobals "check_train" = some (some (.ref f_check_train))) (l6 : K.lookup f_check_train = some ⟨oc6, od6, .func (PySem.W.fnOf "check_train" "check_train" (defArgs S_check_train) (defBody S_check_train) (defScope S_check_train) .none kV6 dc6 pm6 an6 cd6 ct6), sl6⟩) (c6 : PySem.W.codeIn K cd6 "check_train" = true) (k6 : PySem.W.keepIn K (.ref f_check_train) = true)
    {f_place_count : Addr} {od7 an7 : Option Addr} {sl7 : Array (Option Value)} {oc7 kV7 dc7 pm7 cd7 ct7 : Value}
    (a7 : PySem.W.nsIn K mainGlobals "place_count" = some (some (.ref f_place_count))) (l7 : K.lookup f_place_count = some ⟨oc7, od7, .func (PySem.W.fnOf "place_count" "place_count" (defArgs S_place_count) (defBody S_place_count) (defScope S_place_count) .none kV7 dc7 pm7 an7 cd7 ct7), sl7⟩) (c7 : PySem.W.codeIn K cd7 "place_count" = true) (k7 : PySem.W.keepIn K (.ref f_place_count) = true)
    {f_is_stand : Addr} {od8 an8 : Option Addr} {sl8 : Array (Option Value)} {oc8 kV8 dc8 pm8 cd8 ct8 : Value}
    (a8 : PySem.W.nsIn K mainGlobals "is_stand" = some (some (.ref f_is_stand))) (l8 : K.lookup f_is_stand = some ⟨oc8, od8, .func (PySem.W.fnOf "is_stand" "is_stand" (defArgs S_is_stand) (defBody S_is_stand) (defScope S_is_stand) .none kV8 dc8 pm8 an8 cd8 ct8), sl8⟩) (c8 : PySem.W.codeIn K cd8 "is_stand" = true) (k8 : PySem.W.keepIn K (.ref f_is_stand) = true)
    {f_check_stand : Addr} {od9 an9 : Option Addr} {sl9 : Array (Option Value)} {oc9 kV9 dc9 pm9 cd9 ct9 : Value}
    (a9 : PySem.W.nsIn K mainGlobals "check_stand" = some (some (.ref f_check_stand))) (l9 : K.lookup f_check_stand = some ⟨oc9, od9, .func (PySem.W.fnOf "check_stand" "check_stand" (defArgs S_check_stand) (defBody S_check_stand) (defScope S_check_stand) .none kV9 dc9 pm9 an9 cd9 ct9), sl9⟩) (c9 : PySem.W.codeIn K cd9 "check_stand" = true) (k9 : PySem.W.keepIn K (.ref f_check_stand) = true)
    {f_is_way : Addr} {od10 an10 : Option Addr} {sl10 : Array (Option Value)} {oc10 kV10 dc10 pm10 cd10 ct10 : Value}
    (a10 : PySem.W.nsIn K mainGlobals "is_way" = some (some (.ref f_is_way))) (l10 : K.lookup f_is_way = some ⟨oc10, od10, .func (PySem.W.fnOf "is_way" "is_way" (defArgs S_is_way) (defBody S_is_way) (defScope S_is_way) .none kV10 dc10 pm10 an10 cd10 ct10), sl10⟩) (c10 : PySem.W.codeIn K cd10 "is_way" = true) (k10 : PySem.W.keepIn K (.ref f_is_way) = true)
    {f_wheel_pushed : Addr} {od11 an11 : Option Addr} {sl11 : Array (Option Value)} {oc11 kV11 dc11 pm11 cd11 ct11 : Value}
    (a11 : PySem.W.nsIn K mainGlobals "wheel_pushed" = some (some (.ref f_wheel_pushed))) (l11 : K.lookup f_wheel_pushed = some ⟨oc11, od11, .func (PySem.W.fnOf "wheel_pushed" "wheel_pushed" (defArgs S_wheel_pushed) (defBody S_wheel_pushed) (defScope S_wheel_pushed) .none kV11 dc11 pm11 an11 cd11 ct11), sl11⟩) (c11 : PySem.W.codeIn K cd11 "wheel_pushed" = true) (k11 : PySem.W.keepIn K (.ref f_wheel_pushed) = true)
    {f_rocker_pushed : Addr} {od12 an12 : Option Addr} {sl12 : Array (Option Value)} {oc12 kV12 dc12 pm12 cd12 ct12 : Value}
    (a12 : PySem.W.nsIn K mainGlobals "rocker_pushed" = some (some (.ref f_rocker_pushed))) (l12 : K.lookup f_rocker_pushed = some ⟨oc12, od12, .func (PySem.W.fnOf "rocker_pushed" "rocker_pushed" (defArgs S_rocker_pushed) (defBody S_rocker_pushed) (defScope S_rocker_pushed) .none kV12 dc12 pm12 an12 cd12 ct12), sl12⟩) (c12 : PySem.W.codeIn K cd12 "rocker_pushed" = true) (k12 : PySem.W.keepIn K (.ref f_rocker_pushed) = true)
    {f_spring_pushed : Addr} {od13 an13 : Option Addr} {sl13 : Array (Option Value)} {oc13 kV13 dc13 pm13 cd13 ct13 : Value}
    (a13 : PySem.W.nsIn K mainGlobals "spring_pushed" = some (some (.ref f_spring_pushed))) (l13 : K.lookup f_spring_pushed = some ⟨oc13, od13, .func (PySem.W.fnOf "spring_pushed" "spring_pushed" (defArgs S_spring_pushed) (defBody S_spring_pushed) (defScope S_spring_pushed) .none kV13 dc13 pm13 an13 cd13 ct13), sl13⟩) (c13 : PySem.W.codeIn K cd13 "spring_pushed" = true) (k13 : PySem.W.keepIn K (.ref f_spring_pushed) = true)
    {f_part_pushed : Addr} {od14 an14 : Option Addr} {sl14 : Array (Option Value)} {oc14 kV14 dc14 pm14 cd14 ct14 : Value}
    (a14 : PySem.W.nsIn K mainGlobals "part_pushed" = some (some (.ref f_part_pushed))) (l14 : K.lookup f_part_pushed = some ⟨oc14, od14, .func (PySem.W.fnOf "part_pushed" "part_pushed" (defArgs S_part_pushed) (defBody S_part_pushed) (defScope S_part_pushed) .none kV14 dc14 pm14 an14 cd14 ct14), sl14⟩) (c14 : PySem.W.codeIn K cd14 "part_pushed" = true) (k14 : PySem.W.keepIn K (.ref f_part_pushed) = true)
    {f_pushed : Addr} {od15 an15 : Option Addr} {sl15 : Array (Option Value)} {oc15 kV15 dc15 pm15 cd15 ct15 : Value}
    (a15 : PySem.W.nsIn K mainGlobals "pushed" = some (some (.ref f_pushed))) (l15 : K.lookup f_pushed = some ⟨oc15, od15, .func (PySem.W.fnOf "pushed" "pushed" (defArgs S_pushed) (defBody S_pushed) (defScope S_pushed) .none kV15 dc15 pm15 an15 cd15 ct15), sl15⟩) (c15 : PySem.W.codeIn K cd15 "pushed" = true) (k15 : PySem.W.keepIn K (.ref f_pushed) = true)
    {f_Mover____init__ : Addr} {od16 an16 : Option Addr} {sl16 : Array (Option Value)} {oc16 kV16 dc16 pm16 cd16 ct16 : Value}
    (a16 : PySem.W.findIn K (.ref c_Mover) "__init__" = some (some (.ref f_Mover____init__))) (i16 : PySem.W.isFn K (.ref f_Mover____init__) = true) (l16 : K.lookup f_Mover____init__ = some ⟨oc16, od16, .func (PySem.W.fnOf "__init__" "Mover.__init__" (defArgs S_Mover____init__) (defBody S_Mover____init__) (defScope S_Mover____init__) .none kV16 dc16 pm16 an16 cd16 ct16), sl16⟩) (c16 : PySem.W.codeIn K cd16 "Mover.__init__" = true) (k16 : PySem.W.keepIn K (.ref f_Mover____init__) = true)
    {f_Mover__moves : Addr} {od17 an17 : Option Addr} {sl17 : Array (Option Value)} {oc17 kV17 dc17 pm17 cd17 ct17 : Value}
    (a17 : PySem.W.findIn K (.ref c_Mover) "moves" = some (some (.ref f_Mover__moves))) (i17 : PySem.W.isFn K (.ref f_Mover__moves) = true) (l17 : K.lookup f_Mover__moves = some ⟨oc17, od17, .func (PySem.W.fnOf "moves" "Mover.moves" (defArgs S_Mover__moves) (defBody S_Mover__moves) (defScope S_Mover__moves) .none kV17 dc17 pm17 an17 cd17 ct17), sl17⟩) (c17 : PySem.W.codeIn K cd17 "Mover.moves" = true) (k17 : PySem.W.keepIn K (.ref f_Mover__moves) = true)
    {f_held_against : Addr} {od18 an18 : Option Addr} {sl18 : Array (Option Value)} {oc18 kV18 dc18 pm18 cd18 ct18 : Value}
    (a18 : PySem.W.nsIn K mainGlobals "held_against" = some (some (.ref f_held_against))) (l18 : K.lookup f_held_against = some ⟨oc18, od18, .func (PySem.W.fnOf "held_against" "held_against" (defArgs S_held_against) (defBody S_held_against) (defScope S_held_against) .none kV18 dc18 pm18 an18 cd18 ct18), sl18⟩) (c18 : PySem.W.codeIn K cd18 "held_against" = true) (k18 : PySem.W.keepIn K (.ref f_held_against) = true)
    {f_trains_alike : Addr} {od19 an19 : Option Addr} {sl19 : Array (Option Value)} {oc19 kV19 dc19 pm19 cd19 ct19 : Value}
    (a19 : PySem.W.nsIn K mainGlobals "trains_alike" = some (some (.ref f_trains_alike))) (l19 : K.lookup f_trains_alike = some ⟨oc19, od19, .func (PySem.W.fnOf "trains_alike" "trains_alike" (defArgs S_trains_alike) (defBody S_trains_alike) (defScope S_trains_alike) .none kV19 dc19 pm19 an19 cd19 ct19), sl19⟩) (c19 : PySem.W.codeIn K cd19 "trains_alike" = true) (k19 : PySem.W.keepIn K (.ref f_trains_alike) = true)
    {f_are_pairs : Addr} {od20 an20 : Option Addr} {sl20 : Array (Option Value)} {oc20 kV20 dc20 pm20 cd20 ct20 : Value}
    (a20 : PySem.W.nsIn K mainGlobals "are_pairs" = some (some (.ref f_are_pairs))) (l20 : K.lookup f_are_pairs = some ⟨oc20, od20, .func (PySem.W.fnOf "are_pairs" "are_pairs" (defArgs S_are_pairs) (defBody S_are_pairs) (defScope S_are_pairs) .none kV20 dc20 pm20 an20 cd20 ct20), sl20⟩) (c20 : PySem.W.codeIn K cd20 "are_pairs" = true) (k20 : PySem.W.keepIn K (.ref f_are_pairs) = true)
    {f_pairs_hold : Addr} {od21 an21 : Option Addr} {sl21 : Array (Option Value)} {oc21 kV21 dc21 pm21 cd21 ct21 : Value}
    (a21 : PySem.W.nsIn K mainGlobals "pairs_hold" = some (some (.ref f_pairs_hold))) (l21 : K.lookup f_pairs_hold = some ⟨oc21, od21, .func (PySem.W.fnOf "pairs_hold" "pairs_hold" (defArgs S_pairs_hold) (defBody S_pairs_hold) (defScope S_pairs_hold) .none kV21 dc21 pm21 an21 cd21 ct21), sl21⟩) (c21 : PySem.W.codeIn K cd21 "pairs_hold" = true) (k21 : PySem.W.keepIn K (.ref f_pairs_hold) = true)
    {f_unlike_at_last : Addr} {od22 an22 : Option Addr} {sl22 : Array (Option Value)} {oc22 kV22 dc22 pm22 cd22 ct22 : Value}
    (a22 : PySem.W.nsIn K mainGlobals "unlike_at_last" = some (some (.ref f_unlike_at_last))) (l22 : K.lookup f_unlike_at_last = some ⟨oc22, od22, .func (PySem.W.fnOf "unlike_at_last" "unlike_at_last" (defArgs S_unlike_at_last) (defBody S_unlike_at_last) (defScope S_unlike_at_last) .none kV22 dc22 pm22 an22 cd22 ct22), sl22⟩) (c22 : PySem.W.codeIn K cd22 "unlike_at_last" = true) (k22 : PySem.W.keepIn K (.ref f_unlike_at_last) = true)
    {f_tells_alike : Addr} {od23 an23 : Option Addr} {sl23 : Array (Option Value)} {oc23 kV23 dc23 pm23 cd23 ct23 : Value}
    (a23 : PySem.W.nsIn K mainGlobals "tells_alike" = some (some (.ref f_tells_alike))) (l23 : K.lookup f_tells_alike = some ⟨oc23, od23, .func (PySem.W.fnOf "tells_alike" "tells_alike" (defArgs S_tells_alike) (defBody S_tells_alike) (defScope S_tells_alike) .none kV23 dc23 pm23 an23 cd23 ct23), sl23⟩) (c23 : PySem.W.codeIn K cd23 "tells_alike" = true) (k23 : PySem.W.keepIn K (.ref f_tells_alike) = true)
    {f_tells_apart : Addr} {od24 an24 : Option Addr} {sl24 : Array (Option Value)} {oc24 kV24 dc24 pm24 cd24 ct24 : Value}
    (a24 : PySem.W.nsIn K mainGlobals "tells_apart" = some (some (.ref f_tells_apart))) (l24 : K.lookup f_tells_apart = some ⟨oc24, od24, .func (PySem.W.fnOf "tells_apart" "tells_apart" (defArgs S_tells_apart) (defBody S_tells_apart) (defScope S_tells_apart) .none kV24 dc24 pm24 an24 cd24 ct24), sl24⟩) (c24 : PySem.W.codeIn K cd24 "tells_apart" = true) (k24 : PySem.W.keepIn K (.ref f_tells_apart) = true)
    {f_shows_alike : Addr} {od25 an25 : Option Addr} {sl25 : Array (Option Value)} {oc25 kV25 dc25 pm25 cd25 ct25 : Value}
    (a25 : PySem.W.nsIn K mainGlobals "shows_alike" = some (some (.ref f_shows_alike))) (l25 : K.lookup f_shows_alike = some ⟨oc25, od25, .func (PySem.W.fnOf "shows_alike" "shows_alike" (defArgs S_shows_alike) (defBody S_shows_alike) (defScope S_shows_alike) .none kV25 dc25 pm25 an25 cd25 ct25), sl25⟩) (c25 : PySem.W.codeIn K cd25 "shows_alike" = true) (k25 : PySem.W.keepIn K (.ref f_shows_alike) = true)
    {f_is_deed : Addr} {od26 an26 : Option Addr} {sl26 : Array (Option Value)} {oc26 kV26 dc26 pm26 cd26 ct26 : Value}
    (a26 : PySem.W.nsIn K mainGlobals "is_deed" = some (some (.ref f_is_deed))) (l26 : K.lookup f_is_deed = some ⟨oc26, od26, .func (PySem.W.fnOf "is_deed" "is_deed" (defArgs S_is_deed) (defBody S_is_deed) (defScope S_is_deed) .none kV26 dc26 pm26 an26 cd26 ct26), sl26⟩) (c26 : PySem.W.codeIn K cd26 "is_deed" = true) (k26 : PySem.W.keepIn K (.ref f_is_deed) = true)
    {f_check_row : Addr} {od27 an27 : Option Addr} {sl27 : Array (Option Value)} {oc27 kV27 dc27 pm27 cd27 ct27 : Value}
    (a27 : PySem.W.nsIn K mainGlobals "check_row" = some (some (.ref f_check_row))) (l27 : K.lookup f_check_row = some ⟨oc27, od27, .func (PySem.W.fnOf "check_row" "check_row" (defArgs S_check_row) (defBody S_check_row) (defScope S_check_row) .none kV27 dc27 pm27 an27 cd27 ct27), sl27⟩) (c27 : PySem.W.codeIn K cd27 "check_row" = true) (k27 : PySem.W.keepIn K (.ref f_check_row) = true)
    {f_marks_up_to : Addr} {od28 an28 : Option Addr} {sl28 : Array (Option Value)} {oc28 kV28 dc28 pm28 cd28 ct28 : Value}
    (a28 : PySem.W.nsIn K mainGlobals "marks_up_to" = some (some (.ref f_marks_up_to))) (l28 : K.lookup f_marks_up_to = some ⟨oc28, od28, .func (PySem.W.fnOf "marks_up_to" "marks_up_to" (defArgs S_marks_up_to) (defBody S_marks_up_to) (defScope S_marks_up_to) .none kV28 dc28 pm28 an28 cd28 ct28), sl28⟩) (c28 : PySem.W.codeIn K cd28 "marks_up_to" = true) (k28 : PySem.W.keepIn K (.ref f_marks_up_to) = true)
    {f_marks_ahead : Addr} {od29 an29 : Option Addr} {sl29 : Array (Option Value)} {oc29 kV29 dc29 pm29 cd29 ct29 : Value}
    (a29 : PySem.W.nsIn K mainGlobals "marks_ahead" = some (some (.ref f_marks_ahead))) (l29 : K.lookup f_marks_ahead = some ⟨oc29, od29, .func (PySem.W.fnOf "marks_ahead" "marks_ahead" (defArgs S_marks_ahead) (defBody S_marks_ahead) (defScope S_marks_ahead) .none kV29 dc29 pm29 an29 cd29 ct29), sl29⟩) (c29 : PySem.W.codeIn K cd29 "marks_ahead" = true) (k29 : PySem.W.keepIn K (.ref f_marks_ahead) = true)
    {f_wheel_turned : Addr} {od30 an30 : Option Addr} {sl30 : Array (Option Value)} {oc30 kV30 dc30 pm30 cd30 ct30 : Value}
    (a30 : PySem.W.nsIn K mainGlobals "wheel_turned" = some (some (.ref f_wheel_turned))) (l30 : K.lookup f_wheel_turned = some ⟨oc30, od30, .func (PySem.W.fnOf "wheel_turned" "wheel_turned" (defArgs S_wheel_turned) (defBody S_wheel_turned) (defScope S_wheel_turned) .none kV30 dc30 pm30 an30 cd30 ct30), sl30⟩) (c30 : PySem.W.codeIn K cd30 "wheel_turned" = true) (k30 : PySem.W.keepIn K (.ref f_wheel_turned) = true)
    {f_rocker_turned : Addr} {od31 an31 : Option Addr} {sl31 : Array (Option Value)} {oc31 kV31 dc31 pm31 cd31 ct31 : Value}
    (a31 : PySem.W.nsIn K mainGlobals "rocker_turned" = some (some (.ref f_rocker_turned))) (l31 : K.lookup f_rocker_turned = some ⟨oc31, od31, .func (PySem.W.fnOf "rocker_turned" "rocker_turned" (defArgs S_rocker_turned) (defBody S_rocker_turned) (defScope S_rocker_turned) .none kV31 dc31 pm31 an31 cd31 ct31), sl31⟩) (c31 : PySem.W.codeIn K cd31 "rocker_turned" = true) (k31 : PySem.W.keepIn K (.ref f_rocker_turned) = true)
    {f_spring_turned : Addr} {od32 an32 : Option Addr} {sl32 : Array (Option Value)} {oc32 kV32 dc32 pm32 cd32 ct32 : Value}
    (a32 : PySem.W.nsIn K mainGlobals "spring_turned" = some (some (.ref f_spring_turned))) (l32 : K.lookup f_spring_turned = some ⟨oc32, od32, .func (PySem.W.fnOf "spring_turned" "spring_turned" (defArgs S_spring_turned) (defBody S_spring_turned) (defScope S_spring_turned) .none kV32 dc32 pm32 an32 cd32 ct32), sl32⟩) (c32 : PySem.W.codeIn K cd32 "spring_turned" = true) (k32 : PySem.W.keepIn K (.ref f_spring_turned) = true)
    {f_part_turned : Addr} {od33 an33 : Option Addr} {sl33 : Array (Option Value)} {oc33 kV33 dc33 pm33 cd33 ct33 : Value}
    (a33 : PySem.W.nsIn K mainGlobals "part_turned" = some (some (.ref f_part_turned))) (l33 : K.lookup f_part_turned = some ⟨oc33, od33, .func (PySem.W.fnOf "part_turned" "part_turned" (defArgs S_part_turned) (defBody S_part_turned) (defScope S_part_turned) .none kV33 dc33 pm33 an33 cd33 ct33), sl33⟩) (c33 : PySem.W.codeIn K cd33 "part_turned" = true) (k33 : PySem.W.keepIn K (.ref f_part_turned) = true)
    {f_row_left : Addr} {od34 an34 : Option Addr} {sl34 : Array (Option Value)} {oc34 kV34 dc34 pm34 cd34 ct34 : Value}
    (a34 : PySem.W.nsIn K mainGlobals "row_left" = some (some (.ref f_row_left))) (l34 : K.lookup f_row_left = some ⟨oc34, od34, .func (PySem.W.fnOf "row_left" "row_left" (defArgs S_row_left) (defBody S_row_left) (defScope S_row_left) .none kV34 dc34 pm34 an34 cd34 ct34), sl34⟩) (c34 : PySem.W.codeIn K cd34 "row_left" = true) (k34 : PySem.W.keepIn K (.ref f_row_left) = true)
    {f_left : Addr} {od35 an35 : Option Addr} {sl35 : Array (Option Value)} {oc35 kV35 dc35 pm35 cd35 ct35 : Value}
    (a35 : PySem.W.nsIn K mainGlobals "left" = some (some (.ref f_left))) (l35 : K.lookup f_left = some ⟨oc35, od35, .func (PySem.W.fnOf "left" "left" (defArgs S_left) (defBody S_left) (defScope S_left) .none kV35 dc35 pm35 an35 cd35 ct35), sl35⟩) (c35 : PySem.W.codeIn K cd35 "left" = true) (k35 : PySem.W.keepIn K (.ref f_left) = true)
    {f__law_mix : Addr} {od36 an36 : Option Addr} {sl36 : Array (Option Value)} {oc36 kV36 dc36 pm36 cd36 ct36 : Value}
    (a36 : PySem.W.nsIn K mainGlobals "_law_mix" = some (some (.ref f__law_mix))) (l36 : K.lookup f__law_mix = some ⟨oc36, od36, .func (PySem.W.fnOf "_law_mix" "_law_mix" (defArgs S__law_mix) (defBody S__law_mix) (defScope S__law_mix) .none kV36 dc36 pm36 an36 cd36 ct36), sl36⟩) (c36 : PySem.W.codeIn K cd36 "_law_mix" = true) (k36 : PySem.W.keepIn K (.ref f__law_mix) = true)
    {f__law_places : Addr} {od37 an37 : Option Addr} {sl37 : Array (Option Value)} {oc37 kV37 dc37 pm37 cd37 ct37 : Value}
    (a37 : PySem.W.nsIn K mainGlobals "_law_places" = some (some (.ref f__law_places))) (l37 : K.lookup f__law_places = some ⟨oc37, od37, .func (PySem.W.fnOf "_law_places" "_law_places" (defArgs S__law_places) (defBody S__law_places) (defScope S__law_places) .none kV37 dc37 pm37 an37 cd37 ct37), sl37⟩) (c37 : PySem.W.codeIn K cd37 "_law_places" = true) (k37 : PySem.W.keepIn K (.ref f__law_places) = true)
    {f__law_part : Addr} {od38 an38 : Option Addr} {sl38 : Array (Option Value)} {oc38 kV38 dc38 pm38 cd38 ct38 : Value}
    (a38 : PySem.W.nsIn K mainGlobals "_law_part" = some (some (.ref f__law_part))) (l38 : K.lookup f__law_part = some ⟨oc38, od38, .func (PySem.W.fnOf "_law_part" "_law_part" (defArgs S__law_part) (defBody S__law_part) (defScope S__law_part) .none kV38 dc38 pm38 an38 cd38 ct38), sl38⟩) (c38 : PySem.W.codeIn K cd38 "_law_part" = true) (k38 : PySem.W.keepIn K (.ref f__law_part) = true)
    {f__law_train : Addr} {od39 an39 : Option Addr} {sl39 : Array (Option Value)} {oc39 kV39 dc39 pm39 cd39 ct39 : Value}
    (a39 : PySem.W.nsIn K mainGlobals "_law_train" = some (some (.ref f__law_train))) (l39 : K.lookup f__law_train = some ⟨oc39, od39, .func (PySem.W.fnOf "_law_train" "_law_train" (defArgs S__law_train) (defBody S__law_train) (defScope S__law_train) .none kV39 dc39 pm39 an39 cd39 ct39), sl39⟩) (c39 : PySem.W.codeIn K cd39 "_law_train" = true) (k39 : PySem.W.keepIn K (.ref f__law_train) = true)
    {f__law_stand : Addr} {od40 an40 : Option Addr} {sl40 : Array (Option Value)} {oc40 kV40 dc40 pm40 cd40 ct40 : Value}
    (a40 : PySem.W.nsIn K mainGlobals "_law_stand" = some (some (.ref f__law_stand))) (l40 : K.lookup f__law_stand = some ⟨oc40, od40, .func (PySem.W.fnOf "_law_stand" "_law_stand" (defArgs S__law_stand) (defBody S__law_stand) (defScope S__law_stand) .none kV40 dc40 pm40 an40 cd40 ct40), sl40⟩) (c40 : PySem.W.codeIn K cd40 "_law_stand" = true) (k40 : PySem.W.keepIn K (.ref f__law_stand) = true)
    {f__law_doubled : Addr} {od41 an41 : Option Addr} {sl41 : Array (Option Value)} {oc41 kV41 dc41 pm41 cd41 ct41 : Value}
    (a41 : PySem.W.nsIn K mainGlobals "_law_doubled" = some (some (.ref f__law_doubled))) (l41 : K.lookup f__law_doubled = some ⟨oc41, od41, .func (PySem.W.fnOf "_law_doubled" "_law_doubled" (defArgs S__law_doubled) (defBody S__law_doubled) (defScope S__law_doubled) .none kV41 dc41 pm41 an41 cd41 ct41), sl41⟩) (c41 : PySem.W.codeIn K cd41 "_law_doubled" = true) (k41 : PySem.W.keepIn K (.ref f__law_doubled) = true)
    {f__law_other : Addr} {od42 an42 : Option Addr} {sl42 : Array (Option Value)} {oc42 kV42 dc42 pm42 cd42 ct42 : Value}
    (a42 : PySem.W.nsIn K mainGlobals "_law_other" = some (some (.ref f__law_other))) (l42 : K.lookup f__law_other = some ⟨oc42, od42, .func (PySem.W.fnOf "_law_other" "_law_other" (defArgs S__law_other) (defBody S__law_other) (defScope S__law_other) .none kV42 dc42 pm42 an42 cd42 ct42), sl42⟩) (c42 : PySem.W.codeIn K cd42 "_law_other" = true) (k42 : PySem.W.keepIn K (.ref f__law_other) = true)
    {f__law_shows : Addr} {od43 an43 : Option Addr} {sl43 : Array (Option Value)} {oc43 kV43 dc43 pm43 cd43 ct43 : Value}
    (a43 : PySem.W.nsIn K mainGlobals "_law_shows" = some (some (.ref f__law_shows))) (l43 : K.lookup f__law_shows = some ⟨oc43, od43, .func (PySem.W.fnOf "_law_shows" "_law_shows" (defArgs S__law_shows) (defBody S__law_shows) (defScope S__law_shows) .none kV43 dc43 pm43 an43 cd43 ct43), sl43⟩) (c43 : PySem.W.codeIn K cd43 "_law_shows" = true) (k43 : PySem.W.keepIn K (.ref f__law_shows) = true)
    {f__law_right : Addr} {od44 an44 : Option Addr} {sl44 : Array (Option Value)} {oc44 kV44 dc44 pm44 cd44 ct44 : Value}
    (a44 : PySem.W.nsIn K mainGlobals "_law_right" = some (some (.ref f__law_right))) (l44 : K.lookup f__law_right = some ⟨oc44, od44, .func (PySem.W.fnOf "_law_right" "_law_right" (defArgs S__law_right) (defBody S__law_right) (defScope S__law_right) .none kV44 dc44 pm44 an44 cd44 ct44), sl44⟩) (c44 : PySem.W.codeIn K cd44 "_law_right" = true) (k44 : PySem.W.keepIn K (.ref f__law_right) = true)
    {f__law_cut : Addr} {od45 an45 : Option Addr} {sl45 : Array (Option Value)} {oc45 kV45 dc45 pm45 cd45 ct45 : Value}
    (a45 : PySem.W.nsIn K mainGlobals "_law_cut" = some (some (.ref f__law_cut))) (l45 : K.lookup f__law_cut = some ⟨oc45, od45, .func (PySem.W.fnOf "_law_cut" "_law_cut" (defArgs S__law_cut) (defBody S__law_cut) (defScope S__law_cut) .none kV45 dc45 pm45 an45 cd45 ct45), sl45⟩) (c45 : PySem.W.codeIn K cd45 "_law_cut" = true) (k45 : PySem.W.keepIn K (.ref f__law_cut) = true)
    {f_law : Addr} {od46 an46 : Option Addr} {sl46 : Array (Option Value)} {oc46 kV46 dc46 pm46 cd46 ct46 : Value}
    (a46 : PySem.W.nsIn K mainGlobals "law" = some (some (.ref f_law))) (l46 : K.lookup f_law = some ⟨oc46, od46, .func (PySem.W.fnOf "law" "law" (defArgs S_law) (defBody S_law) (defScope S_law) .none kV46 dc46 pm46 an46 cd46 ct46), sl46⟩) (c46 : PySem.W.codeIn K cd46 "law" = true) (k46 : PySem.W.keepIn K (.ref f_law) = true)
    (z0 : PySem.W.nsIn K mainGlobals "isinstance" = some none)
    (z1 : PySem.W.nsIn K mainGlobals "int" = some none)
    (z2 : PySem.W.nsIn K mainGlobals "bool" = some none)
    (z3 : PySem.W.nsIn K mainGlobals "tuple" = some none)
    (z4 : PySem.W.nsIn K mainGlobals "len" = some none)
    (z5 : PySem.W.nsIn K mainGlobals "list" = some none)
    (z6 : PySem.W.nsIn K mainGlobals "zip" = some none)
    (z7 : PySem.W.nsIn K mainGlobals "max" = some none)
    (z8 : PySem.W.nsIn K mainGlobals "range" = some none)
    (z9 : PySem.W.nsIn K mainGlobals "sorted" = some none)
    (z10 : PySem.W.nsIn K mainGlobals "set" = some none)
    (z11 : PySem.W.nsIn K mainGlobals "all" = some none)
    (z12 : PySem.W.nsIn K mainGlobals "abs" = some none)
    (z13 : PySem.W.nsIn K mainGlobals "min" = some none)
    (pg_Search : PySem.W.plainGet K c_Search Str.empty = true) (hd_Search : PySem.W.hasDictIn K c_Search = true) (po_Search : PySem.W.plainOver K c_Search = true) (sa_Search : PySem.W.findIn K (.ref c_Search) "__setattr__" = some (some (.builtin "object.__setattr__"))) (mk_Search : PySem.W.makesIn K c_Search = true) (kc_Search : PySem.W.keepIn K (.ref c_Search) = true)
    (pg_Mover : PySem.W.plainGet K c_Mover Str.empty = true) (hd_Mover : PySem.W.hasDictIn K c_Mover = true) (po_Mover : PySem.W.plainOver K c_Mover = true) (sa_Mover : PySem.W.findIn K (.ref c_Mover) "__setattr__" = some (some (.builtin "object.__setattr__"))) (mk_Mover : PySem.W.makesIn K c_Mover = true) (kc_Mover : PySem.W.keepIn K (.ref c_Mover) = true)
    (na_Search_came : PySem.W.findIn K (.ref c_Search) "came" = some none)
    (na_Search_numbers : PySem.W.findIn K (.ref c_Search) "numbers" = some none)
    (na_Search_met : PySem.W.findIn K (.ref c_Search) "met" = some none)
    (na_Mover_known : PySem.W.findIn K (.ref c_Mover) "known" = some none)
    (na_Mover_pushes : PySem.W.findIn K (.ref c_Mover) "pushes" = some none)
    (na_Mover_train : PySem.W.findIn K (.ref c_Mover) "train" = some none)
    {q0_AT_FIRST_PART : Addr} {od_q0_AT_FIRST_PART : Option Addr} {sl_q0_AT_FIRST_PART : Array (Option Value)} {n_q0_AT_FIRST_PART : Nat}{q1_AT_FIRST_PART : Addr} {od_q1_AT_FIRST_PART : Option Addr} {sl_q1_AT_FIRST_PART : Array (Option Value)} {n_q1_AT_FIRST_PART : Nat} {tk1_0_AT_FIRST_PART : Tok} {tk1_1_AT_FIRST_PART : Tok}{q2_AT_FIRST_PART : Addr} {od_q2_AT_FIRST_PART : Option Addr} {sl_q2_AT_FIRST_PART : Array (Option Value)} {n_q2_AT_FIRST_PART : Nat} {tk2_0_AT_FIRST_PART : Tok} {tk2_1_AT_FIRST_PART : Tok} (v_AT_FIRST_PART : PySem.W.nsIn K mainGlobals "AT_FIRST_PART" = some (some (.ref q0_AT_FIRST_PART)))
    (t_q0_AT_FIRST_PART : K.lookup q0_AT_FIRST_PART = some ⟨.type "tuple", od_q0_AT_FIRST_PART, .seq #[.ref q1_AT_FIRST_PART, .ref q2_AT_FIRST_PART] n_q0_AT_FIRST_PART, sl_q0_AT_FIRST_PART⟩)
    (t_q1_AT_FIRST_PART : K.lookup q1_AT_FIRST_PART = some ⟨.type "tuple", od_q1_AT_FIRST_PART, .seq #[.int (0) tk1_0_AT_FIRST_PART, .int (1) tk1_1_AT_FIRST_PART] n_q1_AT_FIRST_PART, sl_q1_AT_FIRST_PART⟩)
    (t_q2_AT_FIRST_PART : K.lookup q2_AT_FIRST_PART = some ⟨.type "tuple", od_q2_AT_FIRST_PART, .seq #[.int (0) tk2_0_AT_FIRST_PART, .int (-1) tk2_1_AT_FIRST_PART] n_q2_AT_FIRST_PART, sl_q2_AT_FIRST_PART⟩)
    (tb_tells_apart : tabOkB K cd24 = true)
    : LawAtX l w K 63 "_law_script" mg fa ["tells_apart"] := by
  have e := hfa.symm.trans (PySem.W.mg_of X G a46)
  cases e
  have F_Search____init__ := fun_mk (st := S_Search____init__) l0 c0 k0
  have F_Search__meet := fun_mk (st := S_Search__meet) l1 c1 k1
  have F_Search__path := fun_mk (st := S_Search__path) l2 c2 k2
  have F_is_whole := fun_mk (st := S_is_whole) l3 c3 k3
  have F_are_marks := fun_mk (st := S_are_marks) l4 c4 k4
  have F_is_part := fun_mk (st := S_is_part) l5 c5 k5
  have F_check_train := fun_mk (st := S_check_train) l6 c6 k6
  have F_place_count := fun_mk (st := S_place_count) l7 c7 k7
  have F_is_stand := fun_mk (st := S_is_stand) l8 c8 k8
  have F_check_stand := fun_mk (st := S_check_stand) l9 c9 k9
  have F_is_way := fun_mk (st := S_is_way) l10 c10 k10
  have F_wheel_pushed := fun_mk (st := S_wheel_pushed) l11 c11 k11
  have F_rocker_pushed := fun_mk (st := S_rocker_pushed) l12 c12 k12
  have F_spring_pushed := fun_mk (st := S_spring_pushed) l13 c13 k13
  have F_part_pushed := fun_mk (st := S_part_pushed) l14 c14 k14
  have F_pushed := fun_mk (st := S_pushed) l15 c15 k15
  have F_Mover____init__ := fun_mk (st := S_Mover____init__) l16 c16 k16
  have F_Mover__moves := fun_mk (st := S_Mover__moves) l17 c17 k17
  have F_held_against := fun_mk (st := S_held_against) l18 c18 k18
  have F_trains_alike := fun_mk (st := S_trains_alike) l19 c19 k19
  have F_are_pairs := fun_mk (st := S_are_pairs) l20 c20 k20
  have F_pairs_hold := fun_mk (st := S_pairs_hold) l21 c21 k21
  have F_unlike_at_last := fun_mk (st := S_unlike_at_last) l22 c22 k22
  have F_tells_alike := fun_mk (st := S_tells_alike) l23 c23 k23
  have F_tells_apart := fun_mk (st := S_tells_apart) l24 c24 k24
  have F_shows_alike := fun_mk (st := S_shows_alike) l25 c25 k25
  have F_is_deed := fun_mk (st := S_is_deed) l26 c26 k26
  have F_check_row := fun_mk (st := S_check_row) l27 c27 k27
  have F_marks_up_to := fun_mk (st := S_marks_up_to) l28 c28 k28
  have F_marks_ahead := fun_mk (st := S_marks_ahead) l29 c29 k29
  have F_wheel_turned := fun_mk (st := S_wheel_turned) l30 c30 k30
  have F_rocker_turned := fun_mk (st := S_rocker_turned) l31 c31 k31
  have F_spring_turned := fun_mk (st := S_spring_turned) l32 c32 k32
  have F_part_turned := fun_mk (st := S_part_turned) l33 c33 k33
  have F_row_left := fun_mk (st := S_row_left) l34 c34 k34
  have F_left := fun_mk (st := S_left) l35 c35 k35
  have F__law_mix := fun_mk (st := S__law_mix) l36 c36 k36
  have F__law_places := fun_mk (st := S__law_places) l37 c37 k37
  have F__law_part := fun_mk (st := S__law_part) l38 c38 k38
  have F__law_train := fun_mk (st := S__law_train) l39 c39 k39
  have F__law_stand := fun_mk (st := S__law_stand) l40 c40 k40
  have F__law_doubled := fun_mk (st := S__law_doubled) l41 c41 k41
  have F__law_other := fun_mk (st := S__law_other) l42 c42 k42
  have F__law_shows := fun_mk (st := S__law_shows) l43 c43 k43
  have F__law_right := fun_mk (st := S__law_right) l44 c44 k44
  have F__law_cut := fun_mk (st := S__law_cut) l45 c45 k45
  have F_law := fun_mk (st := S_law) l46 c46 k46
  have m_isinstance := PySem.W.mg_none_of X G z0
  have m_int := PySem.W.mg_none_of X G z1
  have m_bool := PySem.W.mg_none_of X G z2
  have m_tuple := PySem.W.mg_none_of X G z3
  have m_len := PySem.W.mg_none_of X G z4
  have m_list := PySem.W.mg_none_of X G z5
  have m_zip := PySem.W.mg_none_of X G z6
  have m_max := PySem.W.mg_none_of X G z7
  have m_range := PySem.W.mg_none_of X G z8
  have m_sorted := PySem.W.mg_none_of X G z9
  have m_set := PySem.W.mg_none_of X G z10
  have m_all := PySem.W.mg_none_of X G z11
  have m_abs := PySem.W.mg_none_of X G z12
  have m_min := PySem.W.mg_none_of X G z13
  have g_Search := PySem.W.mg_of X G y_Search
  have g_Mover := PySem.W.mg_of X G y_Mover
  have g_AT_FIRST_PART := PySem.W.mg_of X G v_AT_FIRST_PART
  have D_AT_FIRST_PART : ∀ H : Hp, Dp K H (.ref q0_AT_FIRST_PART) (.tuple [.tuple [.int (0), .int (1)], .tuple [.int (0), .int (-1)]]) := fun H => (.tup (show SqT K H q0_AT_FIRST_PART [V.ref q1_AT_FIRST_PART, V.ref q2_AT_FIRST_PART] from .inr ⟨_, _, _, t_q0_AT_FIRST_PART, rfl, rfl, (show 2 ≤ sizeLine by decide), (.cons (show Value.ref q1_AT_FIRST_PART = Value.ref q1_AT_FIRST_PART from rfl) (.cons (show Value.ref q2_AT_FIRST_PART = Value.ref q2_AT_FIRST_PART from rfl) .nil))⟩) (.cons (.tup (show SqT K H q1_AT_FIRST_PART [V.int (0), V.int (1)] from .inr ⟨_, _, _, t_q1_AT_FIRST_PART, rfl, rfl, (show 2 ≤ sizeLine by decide), (.cons (show ∃ t, Value.int (0) tk1_0_AT_FIRST_PART = Value.int (0) t from ⟨_, rfl⟩) (.cons (show ∃ t, Value.int (1) tk1_1_AT_FIRST_PART = Value.int (1) t from ⟨_, rfl⟩) .nil))⟩) (.cons (.int _) (.cons (.int _) .nil))) (.cons (.tup (show SqT K H q2_AT_FIRST_PART [V.int (0), V.int (-1)] from .inr ⟨_, _, _, t_q2_AT_FIRST_PART, rfl, rfl, (show 2 ≤ sizeLine by decide), (.cons (show ∃ t, Value.int (0) tk2_0_AT_FIRST_PART = Value.int (0) t from ⟨_, rfl⟩) (.cons (show ∃ t, Value.int (-1) tk2_1_AT_FIRST_PART = Value.int (-1) t from ⟨_, rfl⟩) .nil))⟩) (.cons (.int _) (.cons (.int _) .nil))) .nil)))
  have CL_Search : Cls K c_Search := ⟨pg_Search, hd_Search, po_Search, sa_Search⟩
  have CL_Mover : Cls K c_Mover := ⟨pg_Mover, hd_Mover, po_Mover, sa_Mover⟩
  have NA_Search_came : NoAttr K c_Search "came" := na_Search_came
  have NA_Search_numbers : NoAttr K c_Search "numbers" := na_Search_numbers
  have NA_Search_met : NoAttr K c_Search "met" := na_Search_met
  have NA_Mover_known : NoAttr K c_Mover "known" := na_Mover_known
  have NA_Mover_pushes : NoAttr K c_Mover "pushes" := na_Mover_pushes
  have NA_Mover_train : NoAttr K c_Mover "train" := na_Mover_train
  have MK_Search : Mk K c_Search f_Search____init__ := ⟨mk_Search, a0, i0, kc_Search⟩
  have MT_Search__meet : Meth K c_Search "meet" f_Search__meet := ⟨a1, i1, k1⟩
  have MT_Search__path : Meth K c_Search "path" f_Search__path := ⟨a2, i2, k2⟩
  have MK_Mover : Mk K c_Mover f_Mover____init__ := ⟨mk_Mover, a16, i16, kc_Mover⟩
  have MT_Mover__moves : Meth K c_Mover "moves" f_Mover__moves := ⟨a17, i17, k17⟩
  have b_Search____init__ := F_Search____init__.binds (ps := ["self", "start"]) fun _ _ _ _ _ _ us hl => match us, hl with | [_, _], _ => rfl
  have b_Search__meet := F_Search__meet.binds (ps := ["self", "here", "move", "after"]) fun _ _ _ _ _ _ us hl => match us, hl with | [_, _, _, _], _ => rfl
  have b_Search__path := F_Search__path.binds (ps := ["self", "goal"]) fun _ _ _ _ _ _ us hl => match us, hl with | [_, _], _ => rfl
  have b_is_whole := F_is_whole.binds (ps := ["thing"]) fun _ _ _ _ _ _ us hl => match us, hl with | [_], _ => rfl
  have g_is_whole := PySem.W.mg_of X G a3
  have b_are_marks := F_are_marks.binds (ps := ["thing", "teeth"]) fun _ _ _ _ _ _ us hl => match us, hl with | [_, _], _ => rfl
  have g_are_marks := PySem.W.mg_of X G a4
  have b_is_part := F_is_part.binds (ps := ["thing"]) fun _ _ _ _ _ _ us hl => match us, hl with | [_], _ => rfl
  have g_is_part := PySem.W.mg_of X G a5
  have b_check_train := F_check_train.binds (ps := ["train"]) fun _ _ _ _ _ _ us hl => match us, hl with | [_], _ => rfl
  have g_check_train := PySem.W.mg_of X G a6
  have b_place_count := F_place_count.binds (ps := ["part"]) fun _ _ _ _ _ _ us hl => match us, hl with | [_], _ => rfl
  have g_place_count := PySem.W.mg_of X G a7
  have b_is_stand := F_is_stand.binds (ps := ["train", "thing"]) fun _ _ _ _ _ _ us hl => match us, hl with | [_, _], _ => rfl
  have g_is_stand := PySem.W.mg_of X G a8
  have b_check_stand := F_check_stand.binds (ps := ["train", "stand"]) fun _ _ _ _ _ _ us hl => match us, hl with | [_, _], _ => rfl
  have g_check_stand := PySem.W.mg_of X G a9
  have b_is_way := F_is_way.binds (ps := ["thing"]) fun _ _ _ _ _ _ us hl => match us, hl with | [_], _ => rfl
  have g_is_way := PySem.W.mg_of X G a10
  have b_wheel_pushed := F_wheel_pushed.binds (ps := ["part", "place", "way"]) fun _ _ _ _ _ _ us hl => match us, hl with | [_, _, _], _ => rfl
  have g_wheel_pushed := PySem.W.mg_of X G a11
  have b_rocker_pushed := F_rocker_pushed.binds (ps := ["place", "way"]) fun _ _ _ _ _ _ us hl => match us, hl with | [_, _], _ => rfl
  have g_rocker_pushed := PySem.W.mg_of X G a12
  have b_spring_pushed := F_spring_pushed.binds (ps := ["part", "place", "way"]) fun _ _ _ _ _ _ us hl => match us, hl with | [_, _, _], _ => rfl
  have g_spring_pushed := PySem.W.mg_of X G a13
  have b_part_pushed := F_part_pushed.binds (ps := ["part", "place", "way"]) fun _ _ _ _ _ _ us hl => match us, hl with | [_, _, _], _ => rfl
  have g_part_pushed := PySem.W.mg_of X G a14
  have b_pushed := F_pushed.binds (ps := ["train", "stand", "i", "way"]) fun _ _ _ _ _ _ us hl => match us, hl with | [_, _, _, _], _ => rfl
  have g_pushed := PySem.W.mg_of X G a15
  have b_Mover____init__ := F_Mover____init__.binds (ps := ["self", "train", "pushes"]) fun _ _ _ _ _ _ us hl => match us, hl with | [_, _, _], _ => rfl
  have b_Mover__moves := F_Mover__moves.binds (ps := ["self", "stand"]) fun _ _ _ _ _ _ us hl => match us, hl with | [_, _], _ => rfl
  have b_held_against := F_held_against.binds (ps := ["one", "here", "other", "there"]) fun _ _ _ _ _ _ us hl => match us, hl with | [_, _, _, _], _ => rfl
  have g_held_against := PySem.W.mg_of X G a18
  have b_trains_alike := F_trains_alike.binds (ps := ["train", "stand", "other", "there"]) fun _ _ _ _ _ _ us hl => match us, hl with | [_, _, _, _], _ => rfl
  have g_trains_alike := PySem.W.mg_of X G a19
  have b_are_pairs := F_are_pairs.binds (ps := ["train", "other", "thing"]) fun _ _ _ _ _ _ us hl => match us, hl with | [_, _, _], _ => rfl
  have g_are_pairs := PySem.W.mg_of X G a20
  have b_pairs_hold := F_pairs_hold.binds (ps := ["one", "other", "pairs", "start"]) fun _ _ _ _ _ _ us hl => match us, hl with | [_, _, _, _], _ => rfl
  have g_pairs_hold := PySem.W.mg_of X G a21
  have b_unlike_at_last := F_unlike_at_last.binds (ps := ["train", "stand", "other", "there", "pushes"]) fun _ _ _ _ _ _ us hl => match us, hl with | [_, _, _, _, _], _ => rfl
  have g_unlike_at_last := PySem.W.mg_of X G a22
  have b_tells_alike := F_tells_alike.binds (ps := ["train", "stand", "other", "there", "pairs"]) fun _ _ _ _ _ _ us hl => match us, hl with | [_, _, _, _, _], _ => rfl
  have g_tells_alike := PySem.W.mg_of X G a23
  have b_tells_apart := F_tells_apart.binds (ps := ["train", "stand", "other", "there", "ways"]) fun _ _ _ _ _ _ us hl => match us, hl with | [_, _, _, _, _], _ => rfl
  have g_tells_apart := PySem.W.mg_of X G a24
  have b_shows_alike := F_shows_alike.binds (ps := ["train", "stand", "other", "there", "thing"]) fun _ _ _ _ _ _ us hl => match us, hl with | [_, _, _, _, _], _ => rfl
  have g_shows_alike := PySem.W.mg_of X G a25
  have b_is_deed := F_is_deed.binds (ps := ["thing", "parts"]) fun _ _ _ _ _ _ us hl => match us, hl with | [_, _], _ => rfl
  have g_is_deed := PySem.W.mg_of X G a26
  have b_check_row := F_check_row.binds (ps := ["train", "row"]) fun _ _ _ _ _ _ us hl => match us, hl with | [_, _], _ => rfl
  have g_check_row := PySem.W.mg_of X G a27
  have b_marks_up_to := F_marks_up_to.binds (ps := ["marks", "place"]) fun _ _ _ _ _ _ us hl => match us, hl with | [_, _], _ => rfl
  have g_marks_up_to := PySem.W.mg_of X G a28
  have b_marks_ahead := F_marks_ahead.binds (ps := ["part", "tooth"]) fun _ _ _ _ _ _ us hl => match us, hl with | [_, _], _ => rfl
  have g_marks_ahead := PySem.W.mg_of X G a29
  have b_wheel_turned := F_wheel_turned.binds (ps := ["part", "place", "way", "times"]) fun _ _ _ _ _ _ us hl => match us, hl with | [_, _, _, _], _ => rfl
  have g_wheel_turned := PySem.W.mg_of X G a30
  have b_rocker_turned := F_rocker_turned.binds (ps := ["place", "way", "times"]) fun _ _ _ _ _ _ us hl => match us, hl with | [_, _, _], _ => rfl
  have g_rocker_turned := PySem.W.mg_of X G a31
  have b_spring_turned := F_spring_turned.binds (ps := ["part", "place", "way", "times"]) fun _ _ _ _ _ _ us hl => match us, hl with | [_, _, _, _], _ => rfl
  have g_spring_turned := PySem.W.mg_of X G a32
  have b_part_turned := F_part_turned.binds (ps := ["part", "place", "way", "times"]) fun _ _ _ _ _ _ us hl => match us, hl with | [_, _, _, _], _ => rfl
  have g_part_turned := PySem.W.mg_of X G a33
  have b_row_left := F_row_left.binds (ps := ["train", "stand", "row"]) fun _ _ _ _ _ _ us hl => match us, hl with | [_, _, _], _ => rfl
  have g_row_left := PySem.W.mg_of X G a34
  have b_left := F_left.binds (ps := ["train", "stand", "row"]) fun _ _ _ _ _ _ us hl => match us, hl with | [_, _, _], _ => rfl
  have g_left := PySem.W.mg_of X G a35
  have b__law_mix := F__law_mix.binds (ps := ["_law_cell", "_law_k"]) fun _ _ _ _ _ _ us hl => match us, hl with | [_, _], _ => rfl
  have g__law_mix := PySem.W.mg_of X G a36
  have b__law_places := F__law_places.binds (ps := ["_law_part_here"]) fun _ _ _ _ _ _ us hl => match us, hl with | [_], _ => rfl
  have g__law_places := PySem.W.mg_of X G a37
  have b__law_part := F__law_part.binds (ps := ["_law_pick", "_law_most"]) fun _ _ _ _ _ _ us hl => match us, hl with | [_, _], _ => rfl
  have g__law_part := PySem.W.mg_of X G a38
  have b__law_train := F__law_train.binds (ps := ["_law_cell", "_law_place", "_law_most"]) fun _ _ _ _ _ _ us hl => match us, hl with | [_, _, _], _ => rfl
  have g__law_train := PySem.W.mg_of X G a39
  have b__law_stand := F__law_stand.binds (ps := ["_law_train_here", "_law_pick"]) fun _ _ _ _ _ _ us hl => match us, hl with | [_, _], _ => rfl
  have g__law_stand := PySem.W.mg_of X G a40
  have b__law_doubled := F__law_doubled.binds (ps := ["_law_train_here", "_law_stand_here", "_law_pick"]) fun _ _ _ _ _ _ us hl => match us, hl with | [_, _, _], _ => rfl
  have g__law_doubled := PySem.W.mg_of X G a41
  have b__law_other := F__law_other.binds (ps := ["_law_train_here", "_law_stand_here", "_law_cell", "_law_place", "_law_most"]) fun _ _ _ _ _ _ us hl => match us, hl with | [_, _, _, _, _], _ => rfl
  have g__law_other := PySem.W.mg_of X G a42
  have b__law_shows := F__law_shows.binds (ps := ["_law_train_here", "_law_stand_here", "_law_pushes"]) fun _ _ _ _ _ _ us hl => match us, hl with | [_, _, _], _ => rfl
  have g__law_shows := PySem.W.mg_of X G a43
  have b__law_right := F__law_right.binds (ps := ["_law_train_here", "_law_stand_here", "_law_other_here", "_law_there", "_law_row"]) fun _ _ _ _ _ _ us hl => match us, hl with | [_, _, _, _, _], _ => rfl
  have g__law_right := PySem.W.mg_of X G a44
  have b__law_cut := F__law_cut.binds (ps := ["_law_script"]) fun _ _ _ _ _ _ us hl => match us, hl with | [_], _ => rfl
  have g__law_cut := PySem.W.mg_of X G a45
  refine ⟨PySem.W.fnOf "law" "law" (defArgs S_law) (defBody S_law) (defScope S_law) .none kV46 dc46 pm46 an46 cd46 ct46, [("tells_apart", cd24)], sp_law K [tabOf K cd24], fun p hp => ?_, fun s v => .of_eq rfl, fun H a ns hlen hT hS => ?_, fun base _ _ hTB => ?_⟩
  · rcases List.mem_cons.mp hp with rfl | hp
    · exact ⟨by simp, f_tells_apart, _, _, _, _, g_tells_apart, l24, rfl, tb_tells_apart⟩
    cases hp
  · exact ⟨a, ns, rfl, hS, hlen, fun P hP => (by
      obtain ⟨p, hp, rfl⟩ := List.mem_map.mp (show P ∈ ([("tells_apart", cd24)] : List (Str × Value)).map (fun p => tabOf K p.2) from hP)
      exact hT p hp), fun H2 s2 => ⟨rfl, s2⟩⟩
  have G_Search____init__ : FnOk l.prog w K mg base CX0 1 _ _ ["self", "start"] (sp_Search____init__ w K c_Search) := ok_Search____init__ F_Search____init__ CL_Search NA_Search_came NA_Search_numbers NA_Search_met     
  have G_Search__meet : FnOk l.prog w K mg base CX0 1 _ _ ["self", "here", "move", "after"] (sp_Search__meet w K c_Search) := ok_Search__meet F_Search__meet CL_Search NA_Search_numbers NA_Search_came NA_Search_met     
  have G_Search__path : FnOk l.prog w K mg base CX0 1 _ _ ["self", "goal"] (sp_Search__path w K c_Search) := ok_Search__path F_Search__path CL_Search NA_Search_came     
  have G_is_whole : FnOk l.prog w K mg base CX0 1 _ _ ["thing"] (sp_is_whole K) := ok_is_whole F_is_whole   m_isinstance m_int m_bool   
  have G_are_marks : FnOk l.prog w K mg base CX0 2 _ _ ["thing", "teeth"] (sp_are_marks K) := ok_are_marks F_are_marks  F_is_whole b_is_whole g_is_whole G_is_whole m_isinstance m_tuple   
  have G_is_part : FnOk l.prog w K mg base CX0 3 _ _ ["thing"] (sp_is_part K) := ok_is_part F_is_part  F_is_whole b_is_whole g_is_whole G_is_whole F_are_marks b_are_marks g_are_marks G_are_marks m_isinstance m_tuple m_len   
  have G_check_train : FnOk l.prog w K mg base CX0 4 _ _ ["train"] (sp_check_train K) := ok_check_train F_check_train  F_is_part b_is_part g_is_part G_is_part m_isinstance m_list m_len   
  have G_place_count : FnOk l.prog w K mg base CX0 1 _ _ ["part"] (sp_place_count K) := ok_place_count F_place_count      
  have G_is_stand : FnOk l.prog w K mg base CX0 2 _ _ ["train", "thing"] (sp_is_stand K) := ok_is_stand F_is_stand  F_place_count b_place_count g_place_count G_place_count F_is_whole b_is_whole g_is_whole G_is_whole m_zip m_isinstance m_tuple m_len   
  have G_check_stand : FnOk l.prog w K mg base CX0 5 _ _ ["train", "stand"] (sp_check_stand K) := ok_check_stand F_check_stand  F_is_stand b_is_stand g_is_stand G_is_stand F_check_train b_check_train g_check_train G_check_train    
  have G_is_way : FnOk l.prog w K mg base CX0 2 _ _ ["thing"] (sp_is_way K) := ok_is_way F_is_way  F_is_whole b_is_whole g_is_whole G_is_whole    
  have G_wheel_pushed : FnOk l.prog w K mg base CX0 1 _ _ ["part", "place", "way"] (sp_wheel_pushed K) := ok_wheel_pushed F_wheel_pushed      
  have G_rocker_pushed : FnOk l.prog w K mg base CX0 1 _ _ ["place", "way"] (sp_rocker_pushed K) := ok_rocker_pushed F_rocker_pushed      
  have G_spring_pushed : FnOk l.prog w K mg base CX0 1 _ _ ["part", "place", "way"] (sp_spring_pushed K) := ok_spring_pushed F_spring_pushed   m_max   
  have G_part_pushed : FnOk l.prog w K mg base CX0 2 _ _ ["part", "place", "way"] (sp_part_pushed K) := ok_part_pushed F_part_pushed  F_spring_pushed b_spring_pushed g_spring_pushed G_spring_pushed F_rocker_pushed b_rocker_pushed g_rocker_pushed G_rocker_pushed F_wheel_pushed b_wheel_pushed g_wheel_pushed G_wheel_pushed    
  have G_pushed : FnOk l.prog w K mg base CX0 3 _ _ ["train", "stand", "i", "way"] (sp_pushed K) := ok_pushed F_pushed  F_part_pushed b_part_pushed g_part_pushed G_part_pushed m_list m_range m_len m_tuple   
  have G_Mover____init__ : FnOk l.prog w K mg base CX0 1 _ _ ["self", "train", "pushes"] (sp_Mover____init__ w K c_Mover) := ok_Mover____init__ F_Mover____init__ CL_Mover NA_Mover_known NA_Mover_pushes NA_Mover_train     
  have G_Mover__moves : FnOk l.prog w K mg base CX0 4 _ _ ["self", "stand"] (sp_Mover__moves w K c_Mover) := ok_Mover__moves F_Mover__moves CL_Mover NA_Mover_known NA_Mover_pushes NA_Mover_train F_pushed b_pushed g_pushed G_pushed    
  have G_held_against : FnOk l.prog w K mg base CX0 5 _ _ ["one", "here", "other", "there"] (sp_held_against w K c_Mover c_Search) := ok_held_against F_held_against CL_Search NA_Search_met CL_Mover NA_Mover_pushes F_Mover__moves b_Mover__moves MT_Mover__moves G_Mover__moves F_Search__meet b_Search__meet MT_Search__meet G_Search__meet F_Search__path b_Search__path MT_Search__path G_Search__path F_Search____init__ b_Search____init__ MK_Search G_Search____init__ m_len m_zip m_sorted g_Search  
  have G_trains_alike : FnOk l.prog w K mg base CX0 6 _ _ ["train", "stand", "other", "there"] (sp_trains_alike K c_Mover c_Search) := ok_trains_alike F_trains_alike CL_Mover F_Mover____init__ b_Mover____init__ MK_Mover G_Mover____init__ F_held_against b_held_against g_held_against G_held_against F_check_stand b_check_stand g_check_stand G_check_stand  g_Mover g_AT_FIRST_PART D_AT_FIRST_PART 
  have G_are_pairs : FnOk l.prog w K mg base CX0 3 _ _ ["train", "other", "thing"] (sp_are_pairs K) := ok_are_pairs F_are_pairs  F_is_stand b_is_stand g_is_stand G_is_stand m_set m_isinstance m_list m_tuple m_len   
  have G_pairs_hold : FnOk l.prog w K mg base CX0 5 _ _ ["one", "other", "pairs", "start"] (sp_pairs_hold w K c_Mover) := ok_pairs_hold F_pairs_hold CL_Mover F_Mover__moves b_Mover__moves MT_Mover__moves G_Mover__moves m_zip   
  have G_unlike_at_last : FnOk l.prog w K mg base CX0 4 _ _ ["train", "stand", "other", "there", "pushes"] (sp_unlike_at_last K) := ok_unlike_at_last F_unlike_at_last  F_pushed b_pushed g_pushed G_pushed    
  have G_tells_alike : FnOk l.prog w K mg base CX0 6 _ _ ["train", "stand", "other", "there", "pairs"] (sp_tells_alike K c_Mover) := ok_tells_alike F_tells_alike CL_Mover F_Mover____init__ b_Mover____init__ MK_Mover G_Mover____init__ F_pairs_hold b_pairs_hold g_pairs_hold G_pairs_hold F_are_pairs b_are_pairs g_are_pairs G_are_pairs m_sorted g_Mover g_AT_FIRST_PART D_AT_FIRST_PART 
  have G_tells_apart : FnOk l.prog w K mg base CX0 6 _ _ ["train", "stand", "other", "there", "ways"] (sp_tells_apart K [tabOf K cd24]) := ok_tells_apart F_tells_apart  F_unlike_at_last b_unlike_at_last g_unlike_at_last G_unlike_at_last F_is_way b_is_way g_is_way G_is_way m_isinstance m_list m_all    (hTB ("tells_apart", cd24) (by simp)) (by obtain ⟨_, _, _, _, h, _⟩ := tab_inv tb_tells_apart; exact h) (by simp)
  have G_shows_alike : FnOk l.prog w K mg base CX0 7 _ _ ["train", "stand", "other", "there", "thing"] (sp_shows_alike K [tabOf K cd24] c_Mover) := ok_shows_alike F_shows_alike  F_tells_apart b_tells_apart g_tells_apart G_tells_apart F_tells_alike b_tells_alike g_tells_alike G_tells_alike F_check_stand b_check_stand g_check_stand G_check_stand m_isinstance m_tuple m_len   
  have G_is_deed : FnOk l.prog w K mg base CX0 3 _ _ ["thing", "parts"] (sp_is_deed K) := ok_is_deed F_is_deed  F_is_whole b_is_whole g_is_whole G_is_whole F_is_way b_is_way g_is_way G_is_way m_isinstance m_tuple m_len   
  have G_check_row : FnOk l.prog w K mg base CX0 4 _ _ ["train", "row"] (sp_check_row K) := ok_check_row F_check_row  F_is_deed b_is_deed g_is_deed G_is_deed m_isinstance m_list m_len   
  have G_marks_up_to : FnOk l.prog w K mg base CX0 1 _ _ ["marks", "place"] (sp_marks_up_to K) := ok_marks_up_to F_marks_up_to   m_len   
  have G_marks_ahead : FnOk l.prog w K mg base CX0 2 _ _ ["part", "tooth"] (sp_marks_ahead K) := ok_marks_ahead F_marks_ahead  F_marks_up_to b_marks_up_to g_marks_up_to G_marks_up_to m_len   
  have G_wheel_turned : FnOk l.prog w K mg base CX0 3 _ _ ["part", "place", "way", "times"] (sp_wheel_turned K) := ok_wheel_turned F_wheel_turned  F_marks_ahead b_marks_ahead g_marks_ahead G_marks_ahead m_abs   
  have G_rocker_turned : FnOk l.prog w K mg base CX0 1 _ _ ["place", "way", "times"] (sp_rocker_turned K) := ok_rocker_turned F_rocker_turned      
  have G_spring_turned : FnOk l.prog w K mg base CX0 1 _ _ ["part", "place", "way", "times"] (sp_spring_turned K) := ok_spring_turned F_spring_turned   m_max   
  have G_part_turned : FnOk l.prog w K mg base CX0 4 _ _ ["part", "place", "way", "times"] (sp_part_turned K) := ok_part_turned F_part_turned  F_spring_turned b_spring_turned g_spring_turned G_spring_turned F_rocker_turned b_rocker_turned g_rocker_turned G_rocker_turned F_wheel_turned b_wheel_turned g_wheel_turned G_wheel_turned    
  have G_row_left : FnOk l.prog w K mg base CX0 5 _ _ ["train", "stand", "row"] (sp_row_left K) := ok_row_left F_row_left  F_part_turned b_part_turned g_part_turned G_part_turned m_list m_range m_tuple m_len   
  have G_left : FnOk l.prog w K mg base CX0 6 _ _ ["train", "stand", "row"] (sp_left K) := ok_left F_left  F_row_left b_row_left g_row_left G_row_left F_check_row b_check_row g_check_row G_check_row F_check_stand b_check_stand g_check_stand G_check_stand    
  have G__law_mix : FnOk l.prog w K mg base CX0 1 _ _ ["_law_cell", "_law_k"] (sp__law_mix K) := ok__law_mix F__law_mix   m_range   
  have G__law_places : FnOk l.prog w K mg base CX0 1 _ _ ["_law_part_here"] (sp__law_places K) := ok__law_places F__law_places   m_int   
  have G__law_part : FnOk l.prog w K mg base CX0 1 _ _ ["_law_pick", "_law_most"] (sp__law_part K) := ok__law_part F__law_part   m_max m_tuple m_min m_range   
  have G__law_train : FnOk l.prog w K mg base CX0 2 _ _ ["_law_cell", "_law_place", "_law_most"] (sp__law_train K) := ok__law_train F__law_train  F__law_mix b__law_mix g__law_mix G__law_mix F__law_places b__law_places g__law_places G__law_places F__law_part b__law_part g__law_part G__law_part m_range   
  have G__law_stand : FnOk l.prog w K mg base CX0 2 _ _ ["_law_train_here", "_law_pick"] (sp__law_stand K) := ok__law_stand F__law_stand  F__law_places b__law_places g__law_places G__law_places m_tuple   
  have G__law_doubled : FnOk l.prog w K mg base CX0 1 _ _ ["_law_train_here", "_law_stand_here", "_law_pick"] (sp__law_doubled K) := ok__law_doubled F__law_doubled   m_len m_tuple   
  have G__law_other : FnOk l.prog w K mg base CX0 3 _ _ ["_law_train_here", "_law_stand_here", "_law_cell", "_law_place", "_law_most"] (sp__law_other K) := ok__law_other F__law_other  F__law_places b__law_places g__law_places G__law_places F__law_mix b__law_mix g__law_mix G__law_mix F__law_part b__law_part g__law_part G__law_part F__law_doubled b__law_doubled g__law_doubled G__law_doubled F__law_stand b__law_stand g__law_stand G__law_stand F__law_train b__law_train g__law_train G__law_train m_len m_tuple m_list m_zip   
  have G__law_shows : FnOk l.prog w K mg base CX0 4 _ _ ["_law_train_here", "_law_stand_here", "_law_pushes"] (sp__law_shows K) := ok__law_shows F__law_shows  F_pushed b_pushed g_pushed G_pushed    
  have G__law_right : FnOk l.prog w K mg base CX0 8 _ _ ["_law_train_here", "_law_stand_here", "_law_other_here", "_law_there", "_law_row"] (sp__law_right K [tabOf K cd24] c_Mover c_Search) := ok__law_right F__law_right  F__law_shows b__law_shows g__law_shows G__law_shows F_shows_alike b_shows_alike g_shows_alike G_shows_alike F_left b_left g_left G_left F_trains_alike b_trains_alike g_trains_alike G_trains_alike m_sorted   
  have G__law_cut : FnOk l.prog w K mg base CX0 1 _ _ ["_law_script"] (sp__law_cut K) := ok__law_cut F__law_cut   m_int   
  exact RunOk.of (k := 9) ⟨rfl, by decide, by decide⟩ (ok_law F_law  F_trains_alike b_trains_alike g_trains_alike G_trains_alike F__law_right b__law_right g__law_right G__law_right F__law_mix b__law_mix g__law_mix G__law_mix F__law_other b__law_other g__law_other G__law_other F__law_stand b__law_stand g__law_stand G__law_stand F__law_train b__law_train g__law_train G__law_train F__law_cut b__law_cut g__law_cut G__law_cut m_range   )
end My
open PySem PySem.W PyProof.Rows
set_option maxHeartbeats 0 in
theorem PySem.Challenge.cw_clicktrain_k18_whole_trains_alike_holds : PySem.Challenge.rw_clicktrain_k18_whole_trains_alike.Holds := by
  w_on; o_law; k_head; (case hw => w_witness2)
  k_fill
  refine Ct.walk_ofX (l := PySem.Challenge.rw_clicktrain_k18_whole_trains_alike) (n := 63) (x := "_law_script") (defs := ["tells_apart"]) rfl (by decide) rfl (by decide +kernel) (fun w h Y => PySem.W.kIn_of Y) ?F
  case F =>
    intro w mg fa h KX G hmg
    refine' My.all_mk KX G hmg ?y_Search ?y_Mover ?i0 ?a0 ?l0 ?c0 ?k0 ?i1 ?a1 ?l1 ?c1 ?k1 ?i2 ?a2 ?l2 ?c2 ?k2 ?a3 ?l3 ?c3 ?k3 ?a4 ?l4 ?c4 ?k4 ?a5 ?l5 ?c5 ?k5 ?a6 ?l6 ?c6 ?k6 ?a7 ?l7 ?c7 ?k7 ?a8 ?l8 ?c8 ?k8 ?a9 ?l9 ?c9 ?k9 ?a10 ?l10 ?c10 ?k10 ?a11 ?l11 ?c11 ?k11 ?a12 ?l12 ?c12 ?k12 ?a13 ?l13 ?c13 ?k13 ?a14 ?l14 ?c14 ?k14 ?a15 ?l15 ?c15 ?k15 ?i16 ?a16 ?l16 ?c16 ?k16 ?i17 ?a17 ?l17 ?c17 ?k17 ?a18 ?l18 ?c18 ?k18 ?a19 ?l19 ?c19 ?k19 ?a20 ?l20 ?c20 ?k20 ?a21 ?l21 ?c21 ?k21 ?a22 ?l22 ?c22 ?k22 ?a23 ?l23 ?c23 ?k23 ?a24 ?l24 ?c24 ?k24 ?a25 ?l25 ?c25 ?k25 ?a26 ?l26 ?c26 ?k26 ?a27 ?l27 ?c27 ?k27 ?a28 ?l28 ?c28 ?k28 ?a29 ?l29 ?c29 ?k29 ?a30 ?l30 ?c30 ?k30 ?a31 ?l31 ?c31 ?k31 ?a32 ?l32 ?c32 ?k32 ?a33 ?l33 ?c33 ?k33 ?a34 ?l34 ?c34 ?k34 ?a35 ?l35 ?c35 ?k35 ?a36 ?l36 ?c36 ?k36 ?a37 ?l37 ?c37 ?k37 ?a38 ?l38 ?c38 ?k38 ?a39 ?l39 ?c39 ?k39 ?a40 ?l40 ?c40 ?k40 ?a41 ?l41 ?c41 ?k41 ?a42 ?l42 ?c42 ?k42 ?a43 ?l43 ?c43 ?k43 ?a44 ?l44 ?c44 ?k44 ?a45 ?l45 ?c45 ?k45 ?a46 ?l46 ?c46 ?k46 ?z0 ?z1 ?z2 ?z3 ?z4 ?z5 ?z6 ?z7 ?z8 ?z9 ?z10 ?z11 ?z12 ?z13 ?pg_Search ?hd_Search ?po_Search ?sa_Search ?mk_Search ?kc_Search ?pg_Mover ?hd_Mover ?po_Mover ?sa_Mover ?mk_Mover ?kc_Mover ?na_Search_came ?na_Search_numbers ?na_Search_met ?na_Mover_known ?na_Mover_pushes ?na_Mover_train ?v_AT_FIRST_PART ?t_q0_AT_FIRST_PART ?t_q1_AT_FIRST_PART ?t_q2_AT_FIRST_PART ?tb_tells_apart
    (case y_Search => k_is)
    (case y_Mover => k_is)
    (case i0 => k_is)
    (case a0 => k_is)
    (case l0 => k_is)
    (case c0 => k_is)
    (case k0 => k_is)
    (case i1 => k_is)
    (case a1 => k_is)
    (case l1 => k_is)
    (case c1 => k_is)
    (case k1 => k_is)
    (case i2 => k_is)
    (case a2 => k_is)
    (case l2 => k_is)
    (case c2 => k_is)
    (case k2 => k_is)
    (case a3 => k_is)
    (case l3 => k_is)
    (case c3 => k_is)
    (case k3 => k_is)
    (case a4 => k_is)
    (case l4 => k_is)
    (case c4 => k_is)
    (case k4 => k_is)
    (case a5 => k_is)
    (case l5 => k_is)
    (case c5 => k_is)
    (case k5 => k_is)
    (case a6 => k_is)
    (case l6 => k_is)
    (case c6 => k_is)
    (case k6 => k_is)
    (case a7 => k_is)
    (case l7 => k_is)
    (case c7 => k_is)
    (case k7 => k_is)
    (case a8 => k_is)
    (case l8 => k_is)
    (case c8 => k_is)
    (case k8 => k_is)
    (case a9 => k_is)
    (case l9 => k_is)
    (case c9 => k_is)
    (case k9 => k_is)
    (case a10 => k_is)
    (case l10 => k_is)
    (case c10 => k_is)
    (case k10 => k_is)
    (case a11 => k_is)
    (case l11 => k_is)
    (case c11 => k_is)
    (case k11 => k_is)
    (case a12 => k_is)
    (case l12 => k_is)
    (case c12 => k_is)
    (case k12 => k_is)
    (case a13 => k_is)
    (case l13 => k_is)
    (case c13 => k_is)
    (case k13 => k_is)
    (case a14 => k_is)
    (case l14 => k_is)
    (case c14 => k_is)
    (case k14 => k_is)
    (case a15 => k_is)
    (case l15 => k_is)
    (case c15 => k_is)
    (case k15 => k_is)
    (case i16 => k_is)
    (case a16 => k_is)
    (case l16 => k_is)
    (case c16 => k_is)
    (case k16 => k_is)
    (case i17 => k_is)
    (case a17 => k_is)
    (case l17 => k_is)
    (case c17 => k_is)
    (case k17 => k_is)
    (case a18 => k_is)
    (case l18 => k_is)
    (case c18 => k_is)
    (case k18 => k_is)
    (case a19 => k_is)
    (case l19 => k_is)
    (case c19 => k_is)
    (case k19 => k_is)
    (case a20 => k_is)
    (case l20 => k_is)
    (case c20 => k_is)
    (case k20 => k_is)
    (case a21 => k_is)
    (case l21 => k_is)
    (case c21 => k_is)
    (case k21 => k_is)
    (case a22 => k_is)
    (case l22 => k_is)
    (case c22 => k_is)
    (case k22 => k_is)
    (case a23 => k_is)
    (case l23 => k_is)
    (case c23 => k_is)
    (case k23 => k_is)
    (case a24 => k_is)
    (case l24 => k_is)
    (case c24 => k_is)
    (case k24 => k_is)
    (case a25 => k_is)
    (case l25 => k_is)
    (case c25 => k_is)
    (case k25 => k_is)
    (case a26 => k_is)
    (case l26 => k_is)
    (case c26 => k_is)
    (case k26 => k_is)
    (case a27 => k_is)
    (case l27 => k_is)
    (case c27 => k_is)
    (case k27 => k_is)
    (case a28 => k_is)
    (case l28 => k_is)
    (case c28 => k_is)
    (case k28 => k_is)
    (case a29 => k_is)
    (case l29 => k_is)
    (case c29 => k_is)
    (case k29 => k_is)
    (case a30 => k_is)
    (case l30 => k_is)
    (case c30 => k_is)
    (case k30 => k_is)
    (case a31 => k_is)
    (case l31 => k_is)
    (case c31 => k_is)
    (case k31 => k_is)
    (case a32 => k_is)
    (case l32 => k_is)
    (case c32 => k_is)
    (case k32 => k_is)
    (case a33 => k_is)
    (case l33 => k_is)
    (case c33 => k_is)
    (case k33 => k_is)
    (case a34 => k_is)
    (case l34 => k_is)
    (case c34 => k_is)
    (case k34 => k_is)
    (case a35 => k_is)
    (case l35 => k_is)
    (case c35 => k_is)
    (case k35 => k_is)
    (case a36 => k_is)
    (case l36 => k_is)
    (case c36 => k_is)
    (case k36 => k_is)
    (case a37 => k_is)
    (case l37 => k_is)
    (case c37 => k_is)
    (case k37 => k_is)
    (case a38 => k_is)
    (case l38 => k_is)
    (case c38 => k_is)
    (case k38 => k_is)
    (case a39 => k_is)
    (case l39 => k_is)
    (case c39 => k_is)
    (case k39 => k_is)
    (case a40 => k_is)
    (case l40 => k_is)
    (case c40 => k_is)
    (case k40 => k_is)
    (case a41 => k_is)
    (case l41 => k_is)
    (case c41 => k_is)
    (case k41 => k_is)
    (case a42 => k_is)
    (case l42 => k_is)
    (case c42 => k_is)
    (case k42 => k_is)
    (case a43 => k_is)
    (case l43 => k_is)
    (case c43 => k_is)
    (case k43 => k_is)
    (case a44 => k_is)
    (case l44 => k_is)
    (case c44 => k_is)
    (case k44 => k_is)
    (case a45 => k_is)
    (case l45 => k_is)
    (case c45 => k_is)
    (case k45 => k_is)
    (case a46 => k_is)
    (case l46 => k_is)
    (case c46 => k_is)
    (case k46 => k_is)
    (case z0 => k_is)
    (case z1 => k_is)
    (case z2 => k_is)
    (case z3 => k_is)
    (case z4 => k_is)
    (case z5 => k_is)
    (case z6 => k_is)
    (case z7 => k_is)
    (case z8 => k_is)
    (case z9 => k_is)
    (case z10 => k_is)
    (case z11 => k_is)
    (case z12 => k_is)
    (case z13 => k_is)
    (case pg_Search => k_is)
    (case hd_Search => k_is)
    (case po_Search => k_is)
    (case sa_Search => k_is)
    (case mk_Search => k_is)
    (case kc_Search => k_is)
    (case pg_Mover => k_is)
    (case hd_Mover => k_is)
    (case po_Mover => k_is)
    (case sa_Mover => k_is)
    (case mk_Mover => k_is)
    (case kc_Mover => k_is)
    (case na_Search_came => k_is)
    (case na_Search_numbers => k_is)
    (case na_Search_met => k_is)
    (case na_Mover_known => k_is)
    (case na_Mover_pushes => k_is)
    (case na_Mover_train => k_is)
    (case v_AT_FIRST_PART => k_is)
    (case t_q0_AT_FIRST_PART => k_is)
    (case t_q1_AT_FIRST_PART => k_is)
    (case t_q2_AT_FIRST_PART => k_is)
    (case tb_tells_apart => first | kernel_rfl | rfl)
