import PyProof.Rows.All
import Wide.All
import OpenK.AllK
import Wide.FinOn
import KE.KStateDown
import Lean
import HandS.ForMost
import HandS.Wide
import HandS.FStr
import HandS.IsInst
import HandS.Flow
import HandS.Style
import HandS.Zip
import HandS.Conv
import HandS.Defaults
import HandS.Walk
import HandS.More
import HandS.WordsExc
import HandS.Head0
import HandS.Head1
import HandS.Head2
import HandS.HeadEnd
import HandS.HeadHook1
import HandS.HeadHook2
import PySem.Challenge.RW_fewmirrors_k07_written
set_option Elab.async false
set_option linter.all false
set_option maxRecDepth 100000
set_option maxHeartbeats 4000000
namespace Fm
open PySem PySem.Spec PyProof.Rows L2
def CDivZ (_ j : Int) : Prop := j ≠ 0 ∧ j.natAbs.log2 < 9000
theorem op_fdivZ {X : Cx} : OpR X (binaryOp .FloorDiv) (rI CDivZ fun i j => .int (i.fdiv j)) := opI fun _ _ _ _ _ _ _ hc q => floordiv_int hc.1 q (.inl (PyProof.noPylong_of_log2 hc.2))
theorem divZ_small {i j : Int} (h : 0 < j) (h2 : j < 4294967296) : CDivZ i j := ⟨by omega, Nat.lt_of_lt_of_le (PySem.Flt.log2_lt_of (n := j.natAbs) (k := 32) (by decide) (by omega)) (by decide)⟩
theorem divZ_of {i j : Int} {b : Nat} (h : j ≠ 0) (hb : j.natAbs < 2 ^ b) (h0 : 0 < b) (h9 : b ≤ 9000) : CDivZ i j := ⟨h, Nat.lt_of_lt_of_le (PySem.Flt.log2_lt_of h0 hb) h9⟩
theorem fmod_pos (a : Int) {b : Int} (h : 0 < b) : a.fmod b = a % b := Int.fmod_eq_emod_of_nonneg a (by omega)
theorem fdiv_pos (a : Int) {b : Int} (h : 0 < b) : a.fdiv b = a / b := Int.fdiv_eq_ediv_of_nonneg a (by omega)
abbrev FnP (K : PySem.W.Frag) (x : Str) (st : Stmt) (f : Addr) (fd : FuncData) : Prop := FunD K x x (defArgs st) (defBody st) (defScope st) [] [] f fd
/-! ### steps of a reading -/
section
variable {K : PySem.W.Frag} {σ : L2.St} {H : Hp} {Q : VK} {ta tb tc te : TE} {t u : TS} {D : Ends} {g : TG} {i : Nat} {v x y : V} {c : TT} {r : R2} {cA cB : TT} {as : TA}
theorem w_var (h : σ[i]? = some (some v)) (q : Q v H) : tVar i σ H Q := ⟨v, h, q⟩
theorem w_c (q : Q v H) : tC v σ H Q := q
theorem w_seq (h : t { D with nx := u D } σ H) : tSeq t u D σ H := h
theorem w_next (h : D.nx σ H) : tNext D σ H := h
theorem w_asg (h : te σ H fun x H1 => g x σ H1 D.nx) : tAsg te g D σ H := h
theorem w_ret (h : te σ H D.rt) : tRet te D σ H := h
theorem w_drop (h : te σ H fun _ H1 => D.nx σ H1) : tDrop te D σ H := h
theorem w_ifs (h : c σ H fun b H1 => if b = true then t D σ H1 else u D σ H1) : tIfS c t u D σ H := h
theorem w_op (h : ta σ H fun x H1 => tb σ H1 fun y H2 => r x y H2 Q) : tOp r ta tb σ H Q := h
theorem w_un {r : V → Hp → VK → Prop} (h : ta σ H fun x H1 => r x H1 Q) : tUn r ta σ H Q := h
theorem w_name {R : L2.St → Hp → Prop} (h : R (σ.set i (some v)) H) : gName i v σ H R := h
theorem w_sub {to ti : TE} {ts : TSet} {R : L2.St → Hp → Prop} (h : to σ H fun o H1 => ti σ H1 fun i H2 => ts o i v H2 fun H3 => R σ H3) : gSub to ti ts v σ H R := h
theorem w_test {R : Bool → Hp → Prop} (h : te σ H fun x H' => ∃ k, x = .bl k ∧ R k H') : tTest te σ H R := h
theorem w_B {R : Bool → Hp → Prop} (h : te σ H fun x H' => ∃ k, x = .bl k ∧ R k H') : tB te σ H R := h
theorem w_exb {b : Bool} {R : Bool → Prop} (h : R b) : ∃ k, V.bl b = .bl k ∧ R k := ⟨b, rfl, h⟩
theorem w_and {R : Bool → Hp → Prop} (h : cA σ H fun c H1 => if c = true then cB σ H1 R else R false H1) : tAnd cA cB σ H R := h
theorem w_or {R : Bool → Hp → Prop} (h : cA σ H fun c H1 => if c = true then R true H1 else cB σ H1 R) : tOr cA cB σ H R := h
theorem w_not {R : Bool → Hp → Prop} (h : cA σ H fun c H1 => R (!c) H1) : tNot cA σ H R := h
theorem w_andV (h : ta σ H fun x H1 => ∃ c, x = .bl c ∧ if c = true then tb σ H1 Q else Q (.bl false) H1) : tAndV ta tb σ H Q := h
theorem w_orV (h : ta σ H fun x H1 => ∃ c, x = .bl c ∧ if c = true then Q (.bl true) H1 else tb σ H1 Q) : tOrV ta tb σ H Q := h
theorem w_notV (h : ta σ H fun x H1 => ∃ c, x = .bl c ∧ Q (.bl (!c)) H1) : tNotV ta σ H Q := h
theorem w_if (h : c σ H fun b H1 => if b = true then ta σ H1 Q else tb σ H1 Q) : tIf c ta tb σ H Q := h
theorem w_I0 {g : Int → Int → V} {a b : Int} (q : Q (g a b) H) : rI0 g (.int a) (.int b) H Q := ⟨a, b, rfl, rfl, q⟩
theorem w_I {C : Int → Int → Prop} {g : Int → Int → V} {a b : Int} (hc : C a b) (q : Q (g a b) H) : rI C g (.int a) (.int b) H Q := ⟨a, b, rfl, rfl, hc, q⟩
theorem w_U {g : Int → V} {a : Int} (q : Q (g a) H) : rU g (.int a) H Q := ⟨a, rfl, q⟩
theorem w_eqI {a b : Int} (q : Q (.bl (decide (a = b))) H) : rEq (.int a) (.int b) H Q := ⟨rfl, by
  have e : decide (V.int a = V.int b) = decide (a = b) := by
    by_cases h : a = b
    · rw [decide_eq_true h, decide_eq_true (by rw [h])]
    · rw [decide_eq_false h, decide_eq_false (fun z => h (V.int.inj z))]
  rw [e]
  exact q⟩
theorem w_neI {a b : Int} (q : Q (.bl (!decide (a = b))) H) : rNe (.int a) (.int b) H Q := ⟨rfl, by
  have e : decide (V.int a = V.int b) = decide (a = b) := by
    by_cases h : a = b
    · rw [decide_eq_true h, decide_eq_true (by rw [h])]
    · rw [decide_eq_false h, decide_eq_false (fun z => h (V.int.inj z))]
  rw [e]
  exact q⟩
theorem w_nil {R : List V → Hp → Prop} (h : R [] H) : tNil σ H R := h
theorem w_cons {R : List V → Hp → Prop} (h : ta σ H fun x H1 => as σ H1 fun xs H2 => R (x :: xs) H2) : tCons ta as σ H R := h
def NewO (o : HO) (H : Hp) (Q : VK) : Prop := ∀ p, H p = none → Q (.ref p) (upd H p o)
def NewS (mk : List V → HO) (xs : List V) (H : Hp) (Q : VK) : Prop := xs.length ≤ sizeLine ∧ NewO (mk xs) H Q
theorem w_tup (h : as σ H fun xs H1 => NewS .tup xs H1 Q) : tTup as σ H Q := h
theorem w_lst (h : as σ H fun xs H1 => NewS .lst xs H1 Q) : tLst as σ H Q := h
theorem w_for {wi : TI} {tb : TS} (hh : wi σ H fun it h1 => ∃ Inv : Nat → Nat → L2.St → Hp → Prop, (∃ left, Inv 0 left σ h1) ∧ ∀ turn left slots hp, Inv turn left slots hp →
    (it.stop turn hp ∧ D.nx slots hp) ∨ (it.go turn hp ∧ ∃ Nxt : L2.St → Hp → Prop, (∀ slots' hp', Nxt slots' hp' → ∃ left', left' < left ∧ Inv (turn + 1) left' slots' hp') ∧
      ∀ item hp', it.yld turn hp item hp' → g item slots hp' fun slots2 h2 => tb { D with nx := Nxt, ct := Nxt, bk := D.nx } slots2 h2)) : tFor wi g tb D σ H := hh
theorem w_rng1 {ta : TA} {R : It → Hp → Prop} (h : ta σ H fun vs H1 => ∃ j : Int, vs = [.int j] ∧ -(2 ^ 62) ≤ j ∧ j < 2 ^ 62 ∧ R (Itr 0 j.toNat) H1) : iRng1 ta σ H R := h
theorem same_upd {p : Addr} {o : HO} (h : H p = none) : Same H (upd H p o) := fun b x e => by
  rw [upd_ne (ne_of_none e h)]
  exact e
theorem w_new {mk : List V → HO} {xs : List V} (hz : xs.length ≤ 1000) (h : ∀ p H', H p = none → Same H H' → H' p = some (mk xs) → Q (.ref p) H') : NewS mk xs H Q := ⟨Nat.le_of_lt (small1000 hz), fun p hp => h p _ hp (same_upd hp) upd_same⟩
theorem w_newO {o : HO} (h : ∀ p H', H p = none → Same H H' → H' p = some o → Q (.ref p) H') : NewO o H Q := fun p hp => h p _ hp (same_upd hp) upd_same
theorem w_cb {r : List V → Hp → VK → Prop} (h : as σ H fun vs H1 => r vs H1 Q) : tCB r as σ H Q := h
theorem w_call {sp : Sp} {dvs : List V} {E : XK} (h : as σ H fun vs H1 => sp (vs ++ dvs) H1 Q E) : tCall sp dvs E as σ H Q := h
theorem w_ixL {p : Addr} {xs : List V} {i : Int} (h : H p = some (.lst xs)) (e : atI xs i = some v) (q : Q v H) : rIxL K (.ref p) (.int i) H Q := ⟨p, xs, i, v, rfl, rfl, SqL.of h, e, q⟩
theorem w_ixLs {p : Addr} {xs : List V} {i : Int} (h : SqL K H p xs) (e : atI xs i = some v) (q : Q v H) : rIxL K (.ref p) (.int i) H Q := ⟨p, xs, i, v, rfl, rfl, h, e, q⟩
theorem w_ixT {p : Addr} {xs : List V} {i : Int} (h : H p = some (.tup xs)) (e : atI xs i = some v) (q : Q v H) : rIxT K (.ref p) (.int i) H Q := ⟨p, xs, i, v, rfl, rfl, SqT.of h, e, q⟩
theorem w_setL {p : Addr} {xs : List V} {k : Int} {j : Nat} {R : Hp → Prop} (h : H p = some (.lst xs)) (e : ixN xs.length k = some j) (q : R (upd H p (.lst (xs.set j v)))) : rSetL (.ref p) (.int k) v H R := ⟨p, xs, k, j, rfl, rfl, h, e, q⟩
theorem w_par {i j : Nat} (h : as σ H fun vs H1 => ∃ v w, vs = [v, w] ∧ D.nx ((σ.set i (some v)).set j (some w)) H1) : tPar i j as D σ H := h
theorem w_ex2 {a b : V} {R : V → V → Prop} (h : R a b) : ∃ v w, [a, b] = [v, w] ∧ R v w := ⟨a, b, rfl, h⟩
theorem w_ite {p : Prop} [Decidable p] {A B : Prop} (h1 : p → A) (h2 : ¬ p → B) : if decide p = true then A else B := by
  by_cases h : p
  · rw [decide_eq_true h]; exact h1 h
  · rw [decide_eq_false h]; exact h2 h
theorem w_iteN {p : Prop} [Decidable p] {A B : Prop} (h1 : ¬ p → A) (h2 : p → B) : if (!decide p) = true then A else B := by
  by_cases h : p
  · rw [decide_eq_true h]; exact h2 h
  · rw [decide_eq_false h]; exact h1 h
theorem w_t {A B : Prop} (h : A) : if true = true then A else B := h
theorem w_f {A B : Prop} (h : B) : if false = true then A else B := h
end
section
variable {K : PySem.W.Frag} {σ : L2.St} {H : Hp} {Q : VK} {te : TE} {g : TG} {tt : TT} {vs : List Nat}
theorem w_lc {wi : TI} (hh : wi σ H fun it h1 => ∀ new, h1 new = none → ∃ Inv : Nat → Nat → Hp → Prop, (∃ left, Inv 0 left (upd h1 new (.lst []))) ∧ ∀ turn left hp, Inv turn left hp →
    (it.stop turn hp ∧ Q (.ref new) hp) ∨ (it.go turn hp ∧ ∃ Nxt : Hp → Prop, (∀ hp', Nxt hp' → ∃ left', left' < left ∧ Inv (turn + 1) left' hp') ∧
      ∀ item hp', it.yld turn hp item hp' → g item (wipe σ vs) hp' fun slots h2 => wipe slots vs = wipe σ vs ∧ tt slots h2 fun kept h3 =>
        if kept = true then te slots h3 fun made h4 => ∃ sofar, h4 new = some (.lst sofar) ∧ sofar.length < sizeLine ∧ Nxt (upd h4 new (.lst (sofar ++ [made]))) else Nxt h3)) : tLc wi g tt te vs σ H Q := hh
theorem w_yes {R : Bool → Hp → Prop} (h : R true H) : tYes σ H R := h
theorem w_zipA {ta : TA} {R : It → Hp → Prop} (h : ta σ H fun vs H1 => ∃ a b xs ys, vs = [.ref a, .ref b] ∧ ((SqL K H1 a xs ∧ SqL K H1 b ys ∧ R (Itz K a b) H1) ∨ (SqT K H1 a xs ∧ SqT K H1 b ys ∧ R (RZ.ItzT K a b) H1))) : RZ.iZipA K ta σ H R := h
theorem w_itup {tl : TE} {R : It → Hp → Prop} (h : tl σ H fun x H1 => ∃ a, x = .ref a ∧ (∃ xs, SqT K H1 a xs) ∧ R (Itt K a) H1) : iTup K tl σ H R := h
theorem w_ilist {tl : TE} {R : It → Hp → Prop} (h : tl σ H fun x H1 => ∃ a, x = .ref a ∧ (∃ xs, SqL K H1 a xs) ∧ R (Itl K a) H1) : iList K tl σ H R := h
theorem w_gtup {n : Nat} {t : TGs} {a : Addr} {xs : List V} {R : L2.St → Hp → Prop} (h : H a = some (.tup xs)) (hn : xs.length = n) (q : t xs σ H R) : gTup K n t (.ref a) σ H R := ⟨a, xs, rfl, SqT.of h, hn, q⟩
theorem w_gcons {t : TG} {u : TGs} {v : V} {r : List V} {R : L2.St → Hp → Prop} (h : t v σ H fun σ' H' => u r σ' H' R) : gCons t u (v :: r) σ H R := ⟨v, r, rfl, h⟩
theorem w_gnil {R : L2.St → Hp → Prop} (h : R σ H) : gNil [] σ H R := ⟨rfl, h⟩
end
theorem walk_zipT {K : PySem.W.Frag} {a b : Addr} {xs ys : List V} {n : Nat} (hn : n = min xs.length ys.length) : Walk (RZ.ItzT K a b) n (fun H => SqT K H a xs ∧ SqT K H b ys) (YPair (fun i => xs[i]?) (fun i => ys[i]?)) where
  goes := fun turn hp ht both => by
    have lx : turn < xs.length := by omega
    have ly : turn < ys.length := by omega
    exact ⟨xs, ys, _, _, both.1, both.2, List.getElem?_eq_getElem lx, List.getElem?_eq_getElem ly⟩
  stops := fun hp both => ⟨xs, ys, both.1, both.2, by omega⟩
  yields := fun turn hp v hp' ht both got => by
    obtain ⟨pair, one, two, e1, e2, e3, f1, f2⟩ := got
    exact ⟨pair, one, two, e1, e2, e3, f1 _ both.1, f2 _ both.2⟩
section
variable {H : Hp} {Q : VK}
theorem w_e1 {a : Int} {R : Int → Prop} (h : R a) : ∃ i, [V.int a] = [V.int i] ∧ R i := ⟨a, rfl, h⟩
theorem w_e2 {a b : Int} {R : Int → Int → Prop} (h : R a b) : ∃ i j, [V.int a, V.int b] = [V.int i, V.int j] ∧ R i j := ⟨a, b, rfl, h⟩
theorem w_Iv {C : Int → Int → Prop} {g : Int → Int → V} {a b : Int} {z : V} (hc : C a b) (e : g a b = z) (q : Q z H) : rI C g (.int a) (.int b) H Q := ⟨a, b, rfl, rfl, hc, by
  rw [e]
  exact q⟩
end
/-! ### heaps -/
def Mv (b : Addr) (H H' : Hp) : Prop := ∀ p o, p ≠ b → H p = some o → H' p = some o
def Kt (H H' : Hp) : Prop := ∀ p xs, H p = some (.tup xs) → H' p = some (.tup xs)
theorem Kt.refl (H : Hp) : Kt H H := fun _ _ h => h
theorem Kt.trans {H H1 H2 : Hp} (a : Kt H H1) (b : Kt H1 H2) : Kt H H2 := fun p xs h => b p xs (a p xs h)
theorem Kt.of {H H' : Hp} (s : Same H H') : Kt H H' := fun p xs h => s p _ h
theorem Mv.refl (b : Addr) (H : Hp) : Mv b H H := fun _ _ _ h => h
theorem Mv.trans {b : Addr} {H H1 H2 : Hp} (m1 : Mv b H H1) (m2 : Mv b H1 H2) : Mv b H H2 := fun p o n h => m2 p o n (m1 p o n h)
theorem Mv.same {b : Addr} {H H1 : Hp} (s : Same H H1) : Mv b H H1 := fun p o _ h => s p o h
theorem Mv.upd {b : Addr} {H : Hp} {o : HO} : Mv b H (upd H b o) := fun p u n h => by
  rw [upd_ne n]
  exact h
def Bag (H : Hp) (b : Addr) : Prop := ∃ A B : Int, H b = some (.lst [.int A, .int B]) ∧ 0 ≤ A ∧ 0 ≤ B ∧ B < 2147483647
theorem Mv.kt {b : Addr} {H H' : Hp} (m : Mv b H H') (hb : Bag H b) : Kt H H' := fun p xs h => m p _ (fun e => by
  subst e
  obtain ⟨A, B, h2, _⟩ := hb
  rw [h] at h2
  cases h2) h
theorem Bag.same {b : Addr} {H H' : Hp} (hb : Bag H b) (s : Same H H') : Bag H' b := by
  obtain ⟨A, B, h, r⟩ := hb
  exact ⟨A, B, s _ _ h, r⟩
/-- a number: a tuple of two whole numbers, of less than k bits, the second not 0 -/
def NumB (H : Hp) (v : V) (k : Nat) : Prop := ∃ (p : Addr) (x y : Int), v = .ref p ∧ H p = some (.tup [.int x, .int y]) ∧ x.natAbs < 2 ^ k ∧ y.natAbs < 2 ^ k ∧ y ≠ 0
theorem NumB.kt {H H' : Hp} {v : V} {k : Nat} (h : NumB H v k) (s : Kt H H') : NumB H' v k := by
  obtain ⟨p, x, y, e, hp, r⟩ := h
  exact ⟨p, x, y, e, s _ _ hp, r⟩
theorem NumB.mono {H : Hp} {v : V} {k l : Nat} (h : NumB H v k) (hl : k ≤ l) : NumB H v l := by
  obtain ⟨p, x, y, e, hp, h1, h2, h3⟩ := h
  exact ⟨p, x, y, e, hp, Nat.lt_of_lt_of_le h1 (Nat.pow_le_pow_right (by decide) hl), Nat.lt_of_lt_of_le h2 (Nat.pow_le_pow_right (by decide) hl), h3⟩
theorem Kt.updL {H : Hp} {D : Addr} {xs : List V} {o : HO} (h : H D = some (.lst xs)) : Kt H (upd H D o) := fun p ys hp => by
  have n : p ≠ D := fun e => by
    subst e
    rw [h] at hp
    cases hp
  rw [upd_ne n]
  exact hp
theorem bag_ne {H : Hp} {b p : Addr} (hb : Bag H b) (hp : H p = none) : p ≠ b := fun e => by
  subst e
  obtain ⟨A, B, h2, _⟩ := hb
  rw [hp] at h2
  cases h2
theorem Bag.upd {H : Hp} {b D : Addr} {o : HO} (hb : Bag H b) (n : D ≠ b) : Bag (upd H D o) b := by
  obtain ⟨A, B, h, r⟩ := hb
  exact ⟨A, B, (upd_ne n.symm).trans h, r⟩
theorem Mv.updD {b D : Addr} {H H' : Hp} {o : HO} (m : Mv b H H') (hD : H D = none) : Mv b H (L2.upd H' D o) := fun p u n h => by
  rw [upd_ne (ne_of_none h hD)]
  exact m p u n h
theorem Same.updD {D : Addr} {H H' : Hp} {o : HO} (m : Same H H') (hD : H D = none) : Same H (L2.upd H' D o) := fun p u h => by
  rw [upd_ne (ne_of_none h hD)]
  exact m p u h
/-- a row of n numbers -/
def RowB (H : Hp) (v : V) (n k : Nat) : Prop := ∃ (p : Addr) (xs : List V), v = .ref p ∧ H p = some (.tup xs) ∧ xs.length = n ∧ ∀ x ∈ xs, NumB H x k
theorem RowB.kt {H H' : Hp} {v : V} {n k : Nat} (h : RowB H v n k) (s : Kt H H') : RowB H' v n k := by
  obtain ⟨p, xs, e, hp, hl, r⟩ := h
  exact ⟨p, xs, e, s _ _ hp, hl, fun x hx => (r x hx).kt s⟩
theorem RowB.mono {H : Hp} {v : V} {n k l : Nat} (h : RowB H v n k) (hl : k ≤ l) : RowB H v n l := by
  obtain ⟨p, xs, e, hp, hn, r⟩ := h
  exact ⟨p, xs, e, hp, hn, fun x hx => (r x hx).mono hl⟩
/-- a table -/
def TabB (H : Hp) (v : V) (m n k : Nat) : Prop := ∃ (p : Addr) (xs : List V), v = .ref p ∧ H p = some (.tup xs) ∧ xs.length = m ∧ ∀ x ∈ xs, RowB H x n k
theorem TabB.kt {H H' : Hp} {v : V} {m n k : Nat} (h : TabB H v m n k) (s : Kt H H') : TabB H' v m n k := by
  obtain ⟨p, xs, e, hp, hl, r⟩ := h
  exact ⟨p, xs, e, s _ _ hp, hl, fun x hx => (r x hx).kt s⟩
/-! ### the number of two whole numbers -/
def lowI (g u d : Int) : Option Nat := if 0 < g then (List.range g.toNat).find? (fun i => decide (((i : Int) * d).fmod g = u.fmod g)) else none
def lowC (u d : Int) : Int := (Int.gcd u d : Int) * (if d < 0 then -1 else 1)
def lowF (g u d : Int) : Int × Int := match lowI g u d with
  | some i => ((i : Int), 1)
  | none => (u.fdiv (lowC u d), d.fdiv (lowC u d))
theorem lowC_ne {u d : Int} (h : d ≠ 0) : lowC u d ≠ 0 := by
  have h1 : Int.gcd u d ≠ 0 := fun z => h (Int.gcd_eq_zero_iff.mp z).2
  unfold lowC
  split <;> omega
theorem lowC_dvd {u d : Int} : (∃ q, u = lowC u d * q) ∧ ∃ q, d = lowC u d * q := by
  obtain ⟨q1, e1⟩ := Int.gcd_dvd_left u d
  obtain ⟨q2, e2⟩ := Int.gcd_dvd_right u d
  unfold lowC
  split
  · refine ⟨⟨-q1, ?_⟩, ⟨-q2, ?_⟩⟩
    · rw [Int.mul_assoc, Int.neg_mul_neg, Int.one_mul]; exact e1
    · rw [Int.mul_assoc, Int.neg_mul_neg, Int.one_mul]; exact e2
  · refine ⟨⟨q1, ?_⟩, ⟨q2, ?_⟩⟩
    · rw [Int.mul_one]; exact e1
    · rw [Int.mul_one]; exact e2
theorem natAbs_fac {c q : Int} (h : c ≠ 0) : q.natAbs ≤ (c * q).natAbs := by
  rw [Int.natAbs_mul]
  have : 1 ≤ c.natAbs := by omega
  exact Nat.le_mul_of_pos_left _ this
theorem lowC_le {u d : Int} (h : d ≠ 0) : (lowC u d).natAbs ≤ d.natAbs := by
  obtain ⟨_, q, e⟩ := lowC_dvd (u := u) (d := d)
  have hq : q ≠ 0 := fun z => h (by rw [e, z, Int.mul_zero])
  have : (lowC u d).natAbs ≤ (lowC u d * q).natAbs := by
    rw [Int.mul_comm]; exact natAbs_fac hq
  rw [← e] at this
  exact this
theorem low_bd {g u d : Int} {k : Nat} (hg : g ≤ 13) (hd : d ≠ 0) (hk : 4 ≤ k) (h1 : u.natAbs < 2 ^ k) (h2 : d.natAbs < 2 ^ k) : (lowF g u d).1.natAbs < 2 ^ k ∧ (lowF g u d).2.natAbs < 2 ^ k ∧ (lowF g u d).2 ≠ 0 := by
  have hk16 : 16 ≤ 2 ^ k := Nat.le_trans (by decide : 16 ≤ 2 ^ 4) (Nat.pow_le_pow_right (by decide) hk)
  unfold lowF
  cases e : lowI g u d with
  | some i =>
    have hi : i < 13 := by
      unfold lowI at e
      split at e
      · have := List.mem_of_find?_eq_some e
        have := List.mem_range.mp this
        omega
      · cases e
    refine ⟨?_, ?_, fun z => absurd (show (1 : Int) = 0 from z) (by decide)⟩
    · show ((i : Int)).natAbs < 2 ^ k
      omega
    · show (1 : Int).natAbs < 2 ^ k
      omega
  | none =>
    have hc := lowC_ne (u := u) hd
    obtain ⟨⟨q1, e1⟩, q2, e2⟩ := lowC_dvd (u := u) (d := d)
    have f1 : u.fdiv (lowC u d) = q1 := by
      conv => lhs; lhs; rw [e1]
      exact Int.mul_fdiv_cancel_left _ hc
    have f2 : d.fdiv (lowC u d) = q2 := by
      conv => lhs; lhs; rw [e2]
      exact Int.mul_fdiv_cancel_left _ hc
    show (u.fdiv (lowC u d)).natAbs < 2 ^ k ∧ (d.fdiv (lowC u d)).natAbs < 2 ^ k ∧ d.fdiv (lowC u d) ≠ 0
    rw [f1, f2]
    refine ⟨Nat.lt_of_le_of_lt ?_ h1, Nat.lt_of_le_of_lt ?_ h2, fun z => hd ?_⟩
    · have := natAbs_fac (q := q1) hc
      rw [← e1] at this
      exact this
    · have := natAbs_fac (q := q2) hc
      rw [← e2] at this
      exact this
    · rw [e2, z, Int.mul_zero]
end Fm

namespace Fm
open PySem PySem.Spec PyProof.Rows L2
theorem w_js {t : TE} {ts : List TE} {acc : Str} {σ : L2.St} {H : Hp} {R : Str → Hp → Prop} (h : t σ H fun x H1 => ∃ y : Str, x = .str y ∧ (acc ++ y).length ≤ sizeLine ∧ tJs ts (acc ++ y) σ H1 R) : tJs (t :: ts) acc σ H R := h
theorem w_js0 {acc : Str} {σ : L2.St} {H : Hp} {R : Str → Hp → Prop} (h : R acc H) : tJs [] acc σ H R := h
theorem w_fmt {te : TE} {σ : L2.St} {H : Hp} {Q : VK} (h : te σ H fun x H1 => (∃ y : Str, x = .str y ∧ y.length ≤ sizeLine ∧ Q (.str y) H1) ∨ ∃ i : Int, x = .int i ∧ i.natAbs.log2 < 1920 ∧ Q (.str (toString i)) H1) : tFmt te σ H Q := h
theorem w_rep {H : Hp} {Q : VK} {l : Addr} {k : Int} {xs : List V} (h : H l = some (.lst xs)) (h0 : 0 ≤ k) (h1 : k ≤ 100) (hx : xs.length ≤ 100) (q : NewO (.lst (List.replicate k.toNat xs).flatten) H Q) : rRep (.ref l) (.int k) H Q := by
  refine ⟨l, k, xs, rfl, rfl, h, by omega, by omega, ?_, q⟩
  have e : xs.length * k.toNat ≤ 100 * 100 := Nat.mul_le_mul hx (by omega)
  exact Nat.le_trans e (by decide)
theorem w_iteN' {p : Prop} [Decidable p] {A B : Prop} (h : B) (hn : ¬ p) : if decide p = true then A else B := by
  rw [decide_eq_false hn]
  exact h
theorem w_bm {K : PySem.W.Frag} {T : String} {r : V → List V → Hp → VK → Prop} {to : TE} {t : TA} {σ : L2.St} {H : Hp} {Q : VK} (h : to σ H fun x H1 => tyV K T x H1 ∧ t σ H1 fun xs H2 => r x xs H2 Q) : tBM K T r to t σ H Q := h
theorem w_append {H : Hp} {Q : VK} {l : Addr} {xs : List V} {y : V} (h : H l = some (.lst xs)) (hz : xs.length ≤ 1000) (q : Q .non (upd H l (.lst (xs ++ [y])))) : rAppend (.ref l) [y] H Q := ⟨l, xs, y, rfl, rfl, h, small1000 hz, q⟩
theorem w_cat {H : Hp} {Q : VK} {l b : Addr} {xs zs : List V} (h : H l = some (.lst xs)) (h2 : H b = some (.lst zs)) (hz : xs.length + zs.length ≤ 1000) (q : NewO (.lst (xs ++ zs)) H Q) : rCat (.ref l) (.ref b) H Q := ⟨l, b, xs, zs, rfl, rfl, h, h2, Nat.le_of_lt (small1000 hz), q⟩
theorem w_revL {K : PySem.W.Frag} {te : TE} {σ : L2.St} {H : Hp} {Q : VK} (h : te σ H fun x H1 => ∃ a xs, x = .ref a ∧ SqL K H1 a xs ∧ NewO (.lst xs.reverse) H1 Q) : tRevL K te σ H Q := h
theorem w_tupOf {K : PySem.W.Frag} {H : Hp} {Q : VK} {p : Addr} {ys : List V} (h : H p = some (.lst ys)) (q : NewO (.tup ys) H Q) : ∃ p' ys', [V.ref p] = [V.ref p'] ∧ ((SqL K H p' ys' ∧ ∀ l, H l = none → Q (.ref l) (upd H l (.tup ys'))) ∨ (SqT K H p' ys' ∧ Q (.ref p') H)) := ⟨p, ys, rfl, .inl ⟨SqL.of h, q⟩⟩
theorem Same.mv {b : Addr} {H0 H H' : Hp} (s : Same H0 H) (hb : H0 b = none) (m : Mv b H H') : Same H0 H' := fun p o h => m p o (ne_of_none h hb) (s p o h)
theorem Same.upd {b : Addr} {H0 H : Hp} {o : HO} (s : Same H0 H) (hb : H0 b = none) : Same H0 (upd H b o) := fun p u h => by
  rw [upd_ne (ne_of_none h hb)]
  exact s p u h
/-! ### data of any depth -/
def Dat (K : PySem.W.Frag) (H : Hp) (v : V) (n : Nat) : Prop := ∃ d, Dp K H v d ∧ d.canLay0 = true ∧ d.depth ≤ n
theorem dat_all {K : PySem.W.Frag} {H : Hp} {n : Nat} : ∀ {xs : List V}, (∀ x ∈ xs, Dat K H x n) → ∃ ds, DpAll K H xs ds ∧ PyData.canLayAll0 ds = true ∧ PyData.depthAll ds ≤ n ∧ ds.length = xs.length
  | [], _ => ⟨[], .nil, by simp [PyData.canLayAll0], by simp [PyData.depthAll], rfl⟩
  | x :: xs, h => by
    obtain ⟨d, h1, h2, h3⟩ := h x (List.mem_cons_self ..)
    obtain ⟨ds, g1, g2, g3, g4⟩ := dat_all (xs := xs) fun y hy => h y (List.mem_cons_of_mem _ hy)
    refine ⟨d :: ds, .cons h1 g1, ?_, ?_, by rw [List.length_cons, List.length_cons, g4]⟩
    · rw [PyData.canLayAll0, h2, g2]; rfl
    · rw [PyData.depthAll]; omega
theorem dat_int {K : PySem.W.Frag} {H : Hp} {i : Int} : Dat K H (.int i) 0 := ⟨.int i, .int i, by simp [PyData.canLay0], by simp [PyData.depth]⟩
theorem dat_tup {K : PySem.W.Frag} {H : Hp} {p : Addr} {xs : List V} {n : Nat} (h : H p = some (.tup xs)) (hx : ∀ x ∈ xs, Dat K H x n) : Dat K H (.ref p) (n + 1) := by
  obtain ⟨ds, g1, g2, g3, g4⟩ := dat_all hx
  exact ⟨.tuple ds, .tup (SqT.of h) g1, by rw [PyData.canLay0]; exact g2, by rw [PyData.depth]; omega⟩
theorem dat_lst {K : PySem.W.Frag} {H : Hp} {p : Addr} {xs : List V} {n : Nat} (h : H p = some (.lst xs)) (hx : ∀ x ∈ xs, Dat K H x n) : Dat K H (.ref p) (n + 1) := by
  obtain ⟨ds, g1, g2, g3, g4⟩ := dat_all hx
  exact ⟨.list ds, .lst (SqL.of h) g1, by rw [PyData.canLay0]; exact g2, by rw [PyData.depth]; omega⟩
theorem NumB.dat {K : PySem.W.Frag} {H : Hp} {v : V} {k : Nat} (h : NumB H v k) : Dat K H v 1 := by
  obtain ⟨p, x, y, rfl, hp, _⟩ := h
  refine dat_tup hp fun z hz => ?_
  rcases List.mem_cons.mp hz with rfl | hz
  · exact dat_int
  · rw [List.mem_singleton.mp hz]; exact dat_int
theorem RowB.dat {K : PySem.W.Frag} {H : Hp} {v : V} {n k : Nat} (h : RowB H v n k) : Dat K H v 2 := by
  obtain ⟨p, xs, rfl, hp, _, hx⟩ := h
  exact dat_tup hp fun z hz => (hx z hz).dat
theorem shaped_of {d : PyData} (h : d.canLay0 = true) (h2 : d.depth ≤ 64) : SeqAt.shaped d = true := by
  show (d.canLay0 && decide (d.depth ≤ 64)) = true
  rw [h, decide_eq_true h2]
  rfl
theorem w_neNil {K : PySem.W.Frag} {H : Hp} {Q : VK} {p r : Addr} {xs : List V} {n : Nat} (h : H p = some (.lst xs)) (h2 : H r = some (.lst [])) (hx : ∀ x ∈ xs, Dat K H x n) (hn : n ≤ 60) (q : Q (.bl (!decide (xs = []))) H) : rNeD K (.ref p) (.ref r) H Q := by
  obtain ⟨ds, g1, g2, g3, g4⟩ := dat_all hx
  refine ⟨.list ds, .list [], .lst (SqL.of h) g1, .lst (SqL.of h2) .nil, shaped_of (by rw [PyData.canLay0]; exact g2) (by rw [PyData.depth]; omega), shaped_of (by simp [PyData.canLay0, PyData.canLayAll0]) (by simp [PyData.depth, PyData.depthAll]), ?_⟩
  have e : PyData.eqv (.list ds) (.list []) = decide (xs = []) := by
    rw [PyData.eqv]
    cases xs with
    | nil =>
      have : ds = [] := List.length_eq_zero_iff.mp g4
      rw [this, decide_eq_true rfl]; rw [PyData.eqvAll]
    | cons x r =>
      cases ds with
      | nil => cases g4
      | cons d ds => rw [decide_eq_false (by simp)]; rw [PyData.eqvAll]
  rw [e]
  exact q
/-! ### texts -/
def TxtOk (z : Str) (n : Nat) : Prop := z.length ≤ n ∧ PyData.strOk z = true
theorem ok_str (s : String) : PyData.strOk (Str.ofString s) = true := by
  rw [Str.ofString_eq_toList]
  unfold PyData.strOk
  rw [Array.all_eq_true]
  intro i hi
  simp only [List.getElem_toArray, List.getElem_map, decide_eq_true_eq]
  have h := (s.toList[i]'(by simpa using hi)).valid
  simp only [Char.toNat]
  generalize (s.toList[i]'(by simpa using hi)).val = c at h
  rcases h with h | h
  · have : c.toNat < 55296 := h
    omega
  · exact h.2
theorem ok_int {i : Int} (h : i.natAbs.log2 < 1920) : TxtOk (Str.ofString (toString i)) 1921 := ⟨int_text_len_1921 h, ok_str _⟩
theorem ok_app {a b : Str} {n m : Nat} (h1 : TxtOk a n) (h2 : TxtOk b m) : TxtOk (a ++ b) (n + m) := by
  refine ⟨?_, ?_⟩
  · rw [Str.length_append]; exact Nat.add_le_add h1.1 h2.1
  · have e1 := h1.2
    have e2 := h2.2
    unfold PyData.strOk at e1 e2 ⊢
    rw [Str.cps_append, Array.all_append, e1, e2]
    rfl
theorem TxtOk.mono {a : Str} {n m : Nat} (h : TxtOk a n) (hl : n ≤ m) : TxtOk a m := ⟨Nat.le_trans h.1 hl, h.2⟩
theorem ok_empty : TxtOk Str.empty 0 := ⟨Nat.le_refl _, by decide +kernel⟩
theorem ok_join {sep : Str} {n m : Nat} (hs : TxtOk sep m) : ∀ {ys : List Str}, (∀ y ∈ ys, TxtOk y n) → TxtOk (Str.join sep ys) (ys.length * (n + m))
  | [], _ => ok_empty.mono (Nat.zero_le _)
  | [x], h => by
    refine (h x (List.mem_singleton_self x)).mono ?_
    show n ≤ 1 * (n + m)
    omega
  | x :: y :: r, h => by
    have h1 := h x (List.mem_cons_self ..)
    have h2 := ok_join hs (ys := y :: r) fun z hz => h z (List.mem_cons_of_mem _ hz)
    have h3 := ok_app (ok_app h1 hs) h2
    refine TxtOk.mono h3 ?_
    have e : (x :: y :: r).length * (n + m) = (y :: r).length * (n + m) + (n + m) := by rw [List.length_cons, Nat.succ_mul]
    omega
theorem sum_le {n : Nat} : ∀ {ys : List Str}, (∀ y ∈ ys, TxtOk y n) → (ys.map (·.length)).sum ≤ ys.length * n
  | [], _ => Nat.zero_le _
  | y :: r, h => by
    have h1 := (h y (List.mem_cons_self ..)).1
    have h2 := sum_le (ys := r) fun z hz => h z (List.mem_cons_of_mem _ hz)
    rw [List.map_cons, List.sum_cons, List.length_cons, Nat.succ_mul]
    omega
/-- a number's text -/
def numT (a : Int × Int) : Str := if a.2 = 1 then Str.ofString (toString a.1) else Str.ofString (toString a.1) ++ ("/" : Str) ++ Str.ofString (toString a.2)
def Sm (a : Int × Int) : Prop := a.1.natAbs.log2 < 1920 ∧ a.2.natAbs.log2 < 1920
theorem numT_ok {a : Int × Int} (h : Sm a) : TxtOk (numT a) 3900 := by
  unfold numT
  split
  · exact (ok_int h.1).mono (by decide)
  · exact (ok_app (ok_app (ok_int h.1) ⟨(by decide : ("/" : Str).length ≤ 1), by decide +kernel⟩) (ok_int h.2)).mono (by decide)
def rowT (r : List (Int × Int)) : Str := Txt.join (" " : Str) (r.map numT)
theorem rowT_ok {r : List (Int × Int)} (h : ∀ a ∈ r, Sm a) (hl : r.length ≤ 10) : TxtOk (rowT r) 40000 := by
  unfold rowT
  rw [TL.join_eq]
  refine (ok_join (n := 3900) (m := 1) ⟨by decide, by decide +kernel⟩ fun y hy => ?_).mono ?_
  · obtain ⟨a, ha, rfl⟩ := List.mem_map.mp hy
    exact numT_ok (h a ha)
  · rw [List.length_map]
    omega
def tabT (t : List (List (Int × Int))) : Str := Txt.join (" / " : Str) (t.map rowT)
theorem tabT_ok {t : List (List (Int × Int))} (h : ∀ r ∈ t, (∀ a ∈ r, Sm a) ∧ r.length ≤ 10) (hl : t.length ≤ 10) : TxtOk (tabT t) 500000 := by
  unfold tabT
  rw [TL.join_eq]
  refine (ok_join (n := 40000) (m := 3) ⟨by decide, by decide +kernel⟩ fun y hy => ?_).mono ?_
  · obtain ⟨a, ha, rfl⟩ := List.mem_map.mp hy
    exact rowT_ok (h a ha).1 (h a ha).2
  · rw [List.length_map]
    omega
/-! ### numbers, rows, tables by their values -/
def NumV (H : Hp) (v : V) (a : Int × Int) : Prop := ∃ p, v = .ref p ∧ H p = some (.tup [.int a.1, .int a.2])
def SqV {α : Type} (P : Hp → V → α → Prop) (H : Hp) (v : V) (as : List α) : Prop := ∃ p xs, v = .ref p ∧ H p = some (.tup xs) ∧ xs.length = as.length ∧ ∀ (i : Nat) (x : V) (a : α), xs[i]? = some x → as[i]? = some a → P H x a
abbrev RowV := SqV NumV
abbrev TabV := SqV RowV
theorem NumV.kt {H H' : Hp} {v : V} {a : Int × Int} (h : NumV H v a) (s : Kt H H') : NumV H' v a := by
  obtain ⟨p, e, hp⟩ := h
  exact ⟨p, e, s _ _ hp⟩
theorem RowV.kt {H H' : Hp} {v : V} {a : List (Int × Int)} (h : RowV H v a) (s : Kt H H') : RowV H' v a := by
  obtain ⟨p, xs, e, hp, hl, hx⟩ := h
  exact ⟨p, xs, e, s _ _ hp, hl, fun i x b h1 h2 => (hx i x b h1 h2).kt s⟩
theorem TabV.kt {H H' : Hp} {v : V} {a : List (List (Int × Int))} (h : TabV H v a) (s : Kt H H') : TabV H' v a := by
  obtain ⟨p, xs, e, hp, hl, hx⟩ := h
  exact ⟨p, xs, e, s _ _ hp, hl, fun i x b h1 h2 => RowV.kt (hx i x b h1 h2) s⟩
theorem sm_of {x : Int} {k : Nat} (h : x.natAbs < 2 ^ k) (hk : 0 < k) (hk2 : k ≤ 1000) : x.natAbs.log2 < 1920 := Nat.lt_of_lt_of_le (PySem.Flt.log2_lt_of hk h) (by omega)
theorem NumB.val {H : Hp} {v : V} {k : Nat} (h : NumB H v k) (hk : 0 < k) (hk2 : k ≤ 1000) : ∃ a, NumV H v a ∧ Sm a := by
  obtain ⟨p, x, y, e, hp, h1, h2, _⟩ := h
  exact ⟨(x, y), ⟨p, e, hp⟩, sm_of h1 hk hk2, sm_of h2 hk hk2⟩
theorem sq_val {α : Type} {P : Hp → V → α → Prop} {S : α → Prop} {H : Hp} : ∀ {xs : List V}, (∀ x ∈ xs, ∃ a, P H x a ∧ S a) → ∃ as : List α, xs.length = as.length ∧ (∀ a ∈ as, S a) ∧ ∀ (i : Nat) (x : V) (a : α), xs[i]? = some x → as[i]? = some a → P H x a
  | [], _ => ⟨[], rfl, (fun a ha => by cases ha), fun i x a h _ => by simp at h⟩
  | x :: xs, h => by
    obtain ⟨a, h1, h2⟩ := h x (List.mem_cons_self ..)
    obtain ⟨as, g1, g2, g3⟩ := sq_val (xs := xs) fun y hy => h y (List.mem_cons_of_mem _ hy)
    refine ⟨a :: as, by rw [List.length_cons, List.length_cons, g1], fun b hb => ?_, fun i y b e1 e2 => ?_⟩
    · rcases List.mem_cons.mp hb with rfl | hb
      · exact h2
      · exact g2 b hb
    · cases i with
      | zero =>
        cases Option.some.inj e1
        cases Option.some.inj e2
        exact h1
      | succ i => exact g3 i y b e1 e2
theorem RowB.val {H : Hp} {v : V} {n k : Nat} (h : RowB H v n k) (hk : 0 < k) (hk2 : k ≤ 1000) : ∃ r, RowV H v r ∧ r.length = n ∧ ∀ a ∈ r, Sm a := by
  obtain ⟨p, xs, e, hp, hl, hx⟩ := h
  obtain ⟨as, g1, g2, g3⟩ := sq_val (P := NumV) (S := Sm) (H := H) (xs := xs) fun x hx' => (hx x hx').val hk hk2
  exact ⟨as, ⟨p, xs, e, hp, g1, g3⟩, by omega, g2⟩
theorem TabB.val {H : Hp} {v : V} {m n k : Nat} (h : TabB H v m n k) (hk : 0 < k) (hk2 : k ≤ 1000) : ∃ t, TabV H v t ∧ t.length = m ∧ ∀ r ∈ t, (∀ a ∈ r, Sm a) ∧ r.length = n := by
  obtain ⟨p, xs, e, hp, hl, hx⟩ := h
  obtain ⟨as, g1, g2, g3⟩ := sq_val (P := RowV) (S := fun r => (∀ a ∈ r, Sm a) ∧ r.length = n) (H := H) (xs := xs) fun x hx' => by
    obtain ⟨r, h1, h2, h3⟩ := (hx x hx').val hk hk2
    exact ⟨r, h1, h3, h2⟩
  exact ⟨as, ⟨p, xs, e, hp, g1, g3⟩, by omega, g2⟩
/-! ### rows grown -/
def kk (i : Nat) : Nat := 2 ^ (i + 3) - 1
theorem kk_pos (i : Nat) : 7 ≤ kk i := by
  have : 2 ^ 3 ≤ 2 ^ (i + 3) := Nat.pow_le_pow_right (by decide) (by omega)
  unfold kk
  omega
theorem kk_succ (i : Nat) : 2 * kk i + 1 = kk (i + 1) := by
  have h : 2 ^ 3 ≤ 2 ^ (i + 3) := Nat.pow_le_pow_right (by decide) (by omega)
  have e : 2 ^ (i + 1 + 3) = 2 ^ (i + 3) * 2 := by rw [show i + 1 + 3 = (i + 3) + 1 by omega, Nat.pow_succ]
  unfold kk
  rw [e]
  generalize 2 ^ (i + 3) = z at h ⊢
  omega
theorem kk_le {i : Nat} (h : i ≤ 5) : kk i ≤ 255 := by
  have : 2 ^ (i + 3) ≤ 2 ^ 8 := Nat.pow_le_pow_right (by decide) (by omega)
  unfold kk
  omega
theorem rows_end {H Hn : Hp} {b F : Addr} {xs : List V} {row : V} {n i : Nat} (mv : Mv b H Hn) (hb : Bag Hn b) (hF0 : H F = none) (nF : F ≠ b) (hF : Hn F = some (.lst xs)) (hl : xs.length = i) (hx : ∀ x ∈ xs, RowB Hn x n (kk i)) (hr : RowB Hn row n (kk (i + 1))) :
    Mv b H (upd Hn F (.lst (xs ++ [row]))) ∧ Bag (upd Hn F (.lst (xs ++ [row]))) b ∧ ∃ ys : List V, (upd Hn F (.lst (xs ++ [row]))) F = some (.lst ys) ∧ ys.length = i + 1 ∧ ∀ x ∈ ys, RowB (upd Hn F (.lst (xs ++ [row]))) x n (kk (i + 1)) := by
  have kt : Kt Hn (upd Hn F (.lst (xs ++ [row]))) := Kt.updL hF
  refine ⟨mv.updD hF0, hb.upd nF, xs ++ [row], upd_same, by rw [List.length_append, hl]; rfl, fun x h => ?_⟩
  rcases List.mem_append.mp h with h | h
  · refine ((hx x h).kt kt).mono ?_
    have := kk_succ i
    omega
  · rw [List.mem_singleton.mp h]
    exact hr.kt kt
theorem RowB.zeros {H : Hp} {u : Addr} {l : Addr} {n : Nat} (hu : H u = some (.tup [.int 0, .int 1])) (hl : H l = some (.tup (List.replicate n [V.ref u]).flatten)) : RowB H (.ref l) n 7 := by
  rw [List.flatten_replicate_singleton] at hl
  refine ⟨l, _, rfl, hl, List.length_replicate, fun x hx => ?_⟩
  rw [(List.mem_replicate.mp hx).2]
  exact ⟨u, 0, 1, rfl, hu, by decide, by decide, by decide⟩
/-! ### what is looked at together -/
def Tri (H : Hp) (v : V) : Prop := ∃ (p : Addr) (x r t : V), v = .ref p ∧ H p = some (.tup [x, r, t]) ∧ (∃ a, NumV H x a ∧ Sm a) ∧ (∃ rs, RowV H r rs ∧ (∀ a ∈ rs, Sm a) ∧ rs.length ≤ 10) ∧ ∃ ts, TabV H t ts ∧ (∀ r ∈ ts, (∀ a ∈ r, Sm a) ∧ r.length ≤ 10) ∧ ts.length ≤ 10
theorem Tri.kt {H H' : Hp} {v : V} (h : Tri H v) (s : Kt H H') : Tri H' v := by
  obtain ⟨p, x, r, t, e, hp, ⟨a, h1, h2⟩, ⟨rs, h3, h4⟩, ts, h5, h6⟩ := h
  exact ⟨p, x, r, t, e, s _ _ hp, ⟨a, h1.kt s, h2⟩, ⟨rs, RowV.kt h3 s, h4⟩, ts, TabV.kt h5 s, h6⟩
theorem TabB.mono {H : Hp} {v : V} {m n k l : Nat} (h : TabB H v m n k) (hl : k ≤ l) : TabB H v m n l := by
  obtain ⟨p, xs, e, hp, hn, r⟩ := h
  exact ⟨p, xs, e, hp, hn, fun x hx => (r x hx).mono hl⟩
theorem tri_mk {H : Hp} {p : Addr} {x r t : V} {n n' m k : Nat} (hp : H p = some (.tup [x, r, t])) (hx : NumB H x k) (hr : RowB H r n k) (ht : TabB H t m n' k) (hk : 0 < k) (hk2 : k ≤ 1000) (hn : n ≤ 10) (hn' : n' ≤ 10) (hm : m ≤ 10) : Tri H (.ref p) := by
  obtain ⟨rs, h1, h2, h3⟩ := hr.val hk hk2
  obtain ⟨ts, g1, g2, g3⟩ := ht.val hk hk2
  exact ⟨p, x, r, t, rfl, hp, hx.val hk hk2, ⟨rs, h1, h3, by omega⟩, ts, g1, fun r hr => ⟨(g3 r hr).1, by have := (g3 r hr).2; omega⟩, by omega⟩
theorem sqv1 {α : Type} {P : Hp → V → α → Prop} {H : Hp} {p : Addr} {x : V} {a : α} (hp : H p = some (.tup [x])) (h1 : P H x a) : SqV P H (.ref p) [a] := ⟨p, [x], rfl, hp, rfl, fun i y b e1 e2 => by
  cases i with
  | zero => cases Option.some.inj e1; cases Option.some.inj e2; exact h1
  | succ i => simp at e1⟩
theorem sqv2 {α : Type} {P : Hp → V → α → Prop} {H : Hp} {p : Addr} {x y : V} {a b : α} (hp : H p = some (.tup [x, y])) (h1 : P H x a) (h2 : P H y b) : SqV P H (.ref p) [a, b] := ⟨p, [x, y], rfl, hp, rfl, fun i z c e1 e2 => by
  match i with
  | 0 => cases Option.some.inj e1; cases Option.some.inj e2; exact h1
  | 1 => cases Option.some.inj e1; cases Option.some.inj e2; exact h2
  | i + 2 => simp at e1⟩
theorem all_true (n : Nat) : (List.replicate n true).all id = true := by
  rw [List.all_eq_true]
  intro x hx
  rw [(List.mem_replicate.mp hx).2]
  rfl
theorem fresh_of {H : Hp} {p q : Addr} {o : HO} (h : H p = some o) (hq : H q = none) : p ≠ q := fun e => by
  subst e
  rw [h] at hq
  cases hq
end Fm

namespace Fm
open PySem PySem.Spec PyProof.Rows L2
def topS (i : Nat) : Stmt := PySem.Challenge.pw_fewmirrors_k07_written.main.body.getD i (.Pass ⟨0, 0, 0, 0⟩)
local macro_rules | `(tactic| walk_at "s1") => `(tactic| first
  | with_reducible refine w_seq ?_ | with_reducible refine w_asg ?_ | with_reducible refine w_ret ?_ | with_reducible refine w_drop ?_ | with_reducible refine w_ifs ?_ | with_reducible refine w_next ?_
  | with_reducible refine w_op ?_ | with_reducible refine w_un ?_ | with_reducible refine w_c ?_ | ((with_reducible refine' w_var ?h ?_); (case h => exact rfl)) | with_reducible refine w_name ?_ | with_reducible refine w_sub ?_
  | with_reducible refine w_test ?_ | with_reducible refine w_B ?_ | with_reducible refine w_exb ?_ | with_reducible refine w_and ?_ | with_reducible refine w_or ?_ | with_reducible refine w_not ?_
  | with_reducible refine w_andV ?_ | with_reducible refine w_orV ?_ | with_reducible refine w_notV ?_ | with_reducible refine w_if ?_
  | with_reducible refine w_I0 ?_ | with_reducible refine w_U ?_ | with_reducible refine w_eqI ?_ | with_reducible refine w_neI ?_
  | with_reducible refine w_nil ?_ | with_reducible refine w_cons ?_ | with_reducible refine w_tup ?_ | with_reducible refine w_lst ?_ | with_reducible refine w_cb ?_ | with_reducible refine w_call ?_
  | ((with_reducible refine' w_ixL ?h ?e ?_); (case h => assumption); (case e => exact rfl)) | ((with_reducible refine' w_ixT ?h ?e ?_); (case h => assumption); (case e => exact rfl))
  | with_reducible refine w_par ?_ | with_reducible refine w_ex2 ?_ | with_reducible refine w_t ?_ | with_reducible refine w_f ?_ | with_reducible refine w_for ?_ | with_reducible refine w_bm ?_ | with_reducible refine w_revL ?_ | with_reducible refine w_js ?_ | with_reducible refine w_js0 ?_ | with_reducible refine w_fmt ?_ | with_reducible refine w_lc ?_ | with_reducible refine w_yes ?_ | with_reducible refine w_zipA ?_ | with_reducible refine w_itup ?_ | with_reducible refine w_ilist ?_ | with_reducible refine w_gcons ?_ | with_reducible refine w_gnil ?_
  | ((with_reducible refine' w_gtup ?h ?e ?_); (case h => assumption); (case e => exact rfl)) | with_reducible refine w_rng1 ?_ | with_reducible refine w_e1 ?_ | with_reducible refine w_e2 ?_)
local macro_rules | `(tactic| walk_at "go") => `(tactic| repeat (walk_at "s1"))

abbrev s_show_number : Stmt := topS 1
theorem sc_show_number : FnScope ["x"] ["x"] (defScope s_show_number) := ⟨rfl, rfl, rfl, by decide +kernel, rfl, by decide +kernel, by decide +kernel⟩

abbrev s__law_text : Stmt := topS 6
theorem sc__law_text : FnScope ["_law_x"] ["_law_x"] (defScope s__law_text) := ⟨rfl, rfl, rfl, by decide +kernel, rfl, by decide +kernel, by decide +kernel⟩

abbrev s__law_bag : Stmt := topS 9
theorem sc__law_bag : FnScope ["_law_script", "_law_at", "_law_cell", "_law_great", "_law_primes", "_law_mixed"] ["_law_script", "_law_at"] (defScope s__law_bag) := ⟨rfl, rfl, rfl, by decide +kernel, rfl, by decide +kernel, by decide +kernel⟩

abbrev s__law_take : Stmt := topS 11
theorem sc__law_take : FnScope ["_law_bag_here", "_law_many", "_law_digit"] ["_law_bag_here", "_law_many"] (defScope s__law_take) := ⟨rfl, rfl, rfl, by decide +kernel, rfl, by decide +kernel, by decide +kernel⟩

abbrev s__law_shared : Stmt := topS 15
theorem sc__law_shared : FnScope ["_law_one", "_law_other"] ["_law_one", "_law_other"] (defScope s__law_shared) := ⟨rfl, rfl, rfl, by decide +kernel, rfl, by decide +kernel, by decide +kernel⟩

abbrev s_show_row : Stmt := topS 3
theorem sc_show_row : FnScope ["row", "x"] ["row"] (defScope s_show_row) := ⟨rfl, rfl, rfl, by decide +kernel, rfl, by decide +kernel, by decide +kernel⟩

abbrev s__law_row_text : Stmt := topS 7
theorem sc__law_row_text : FnScope ["_law_row_here", "_law_x"] ["_law_row_here"] (defScope s__law_row_text) := ⟨rfl, rfl, rfl, by decide +kernel, rfl, by decide +kernel, by decide +kernel⟩

abbrev s__law_ground : Stmt := topS 10
theorem sc__law_ground : FnScope ["_law_bag_here"] ["_law_bag_here"] (defScope s__law_ground) := ⟨rfl, rfl, rfl, by decide +kernel, rfl, by decide +kernel, by decide +kernel⟩

abbrev s__law_whole_draw : Stmt := topS 13
theorem sc__law_whole_draw : FnScope ["_law_bag_here", "_law_sign", "_law_way", "_law_found", "_law_turn"] ["_law_bag_here"] (defScope s__law_whole_draw) := ⟨rfl, rfl, rfl, by decide +kernel, rfl, by decide +kernel, by decide +kernel⟩

abbrev s__law_low : Stmt := topS 14
theorem sc__law_low : FnScope ["_law_g", "_law_up", "_law_down", "_law_one", "_law_common"] ["_law_g", "_law_up", "_law_down"] (defScope s__law_low) := ⟨rfl, rfl, rfl, by decide +kernel, rfl, by decide +kernel, by decide +kernel⟩

abbrev s_show_table : Stmt := topS 4
theorem sc_show_table : FnScope ["table", "row"] ["table"] (defScope s_show_table) := ⟨rfl, rfl, rfl, by decide +kernel, rfl, by decide +kernel, by decide +kernel⟩

abbrev s__law_table_text : Stmt := topS 8
theorem sc__law_table_text : FnScope ["_law_table", "_law_row_here"] ["_law_table"] (defScope s__law_table_text) := ⟨rfl, rfl, rfl, by decide +kernel, rfl, by decide +kernel, by decide +kernel⟩

abbrev s__law_any_number : Stmt := topS 12
theorem sc__law_any_number : FnScope ["_law_bag_here", "_law_g", "_law_down"] ["_law_bag_here", "_law_g"] (defScope s__law_any_number) := ⟨rfl, rfl, rfl, by decide +kernel, rfl, by decide +kernel, by decide +kernel⟩

abbrev s__law_number : Stmt := topS 18
theorem sc__law_number : FnScope ["_law_bag_here", "_law_g", "_law_wide", "_law_down"] ["_law_bag_here", "_law_g"] (defScope s__law_number) := ⟨rfl, rfl, rfl, by decide +kernel, rfl, by decide +kernel, by decide +kernel⟩

abbrev s__law_plus : Stmt := topS 20
theorem sc__law_plus : FnScope ["_law_g", "_law_x", "_law_y"] ["_law_g", "_law_x", "_law_y"] (defScope s__law_plus) := ⟨rfl, rfl, rfl, by decide +kernel, rfl, by decide +kernel, by decide +kernel⟩

abbrev s__law_row : Stmt := topS 17
theorem sc__law_row : FnScope ["_law_bag_here", "_law_g", "_law_many", "_law_k"] ["_law_bag_here", "_law_g", "_law_many"] (defScope s__law_row) := ⟨rfl, rfl, rfl, by decide +kernel, rfl, by decide +kernel, by decide +kernel⟩

abbrev s__law_added : Stmt := topS 19
theorem sc__law_added : FnScope ["_law_g", "_law_row_here", "_law_other", "_law_one", "_law_two"] ["_law_g", "_law_row_here", "_law_other"] (defScope s__law_added) := ⟨rfl, rfl, rfl, by decide +kernel, rfl, by decide +kernel, by decide +kernel⟩

abbrev s__law_is_told : Stmt := topS 21
theorem sc__law_is_told : FnScope ["_law_x", "_law_row_here", "_law_table", "_law_told", "_law_text_here"] ["_law_x", "_law_row_here", "_law_table"] (defScope s__law_is_told) := ⟨rfl, rfl, rfl, by decide +kernel, rfl, by decide +kernel, by decide +kernel⟩

abbrev s__law_rows : Stmt := topS 16
theorem sc__law_rows : FnScope ["_law_bag_here", "_law_g", "_law_high", "_law_wide", "_law_found", "_law_k", "_law_row_here", "_law_way"] ["_law_bag_here", "_law_g", "_law_high", "_law_wide"] (defScope s__law_rows) := ⟨rfl, rfl, rfl, by decide +kernel, rfl, by decide +kernel, by decide +kernel⟩

abbrev s_law : Stmt := topS 22
theorem sc_law : FnScope ["_law_script", "_law_some", "_law_k", "_law_bag_here", "_law_g", "_law_x", "_law_wide", "_law_table", "_law_row_here", "_law_one"] ["_law_script"] (defScope s_law) := ⟨rfl, rfl, rfl, by decide +kernel, rfl, by decide +kernel, by decide +kernel⟩

variable {P : Program} {w : World} {K : PySem.W.Frag} {mg : Str → Option Value} {base : Heap}
def sp_show_number (K : PySem.W.Frag) : Sp := fun vs H Q _ => ∃ (v : V) (a : Int × Int), vs = [v] ∧ NumV H v a ∧ Sm a ∧ Q (.str (numT a)) H

def sp__law_text (K : PySem.W.Frag) : Sp := fun vs H Q _ => ∃ (v : V) (a : Int × Int), vs = [v] ∧ NumV H v a ∧ Sm a ∧ Q (.str (numT a)) H

def sp__law_bag (K : PySem.W.Frag) : Sp := fun vs H Q _ => ∃ (a : Addr) (ns : List Int) (k : Int), vs = [.ref a, .int k] ∧ SqL K H a (ns.map V.int) ∧ 0 ≤ k ∧ k < 64 ∧ ∀ (p : Addr) (H' : Hp), H p = none → Same H H' → Bag H' p → Q (.ref p) H'
theorem bag_primes {i : Int} (h0 : 0 ≤ i) (h8 : i < 8) : ∃ m : Int, atI [V.int 2147483647, V.int 2147483629, V.int 2147483587, V.int 2147483579, V.int 2147483563, V.int 2147483549, V.int 2147483543, V.int 2147483497] i = some (.int m) ∧ 0 < m ∧ m ≤ 2147483647 := by
  rcases (by omega : i = 0 ∨ i = 1 ∨ i = 2 ∨ i = 3 ∨ i = 4 ∨ i = 5 ∨ i = 6 ∨ i = 7) with rfl | rfl | rfl | rfl | rfl | rfl | rfl | rfl <;> exact ⟨_, rfl, by decide, by decide⟩

def sp__law_take (K : PySem.W.Frag) : Sp := fun vs H Q _ => ∃ (b : Addr) (m : Int), vs = [.ref b, .int m] ∧ 0 < m ∧ m < 1073741824 ∧ Bag H b ∧ ∀ (H' : Hp) (d : Int), 0 ≤ d → d < m → Mv b H H' → Bag H' b → Q (.int d) H'

def sp__law_shared (K : PySem.W.Frag) : Sp := fun vs H Q _ => ∃ (a c : Int), vs = [.int a, .int c] ∧ Q (.int (Int.gcd a c : Int)) H
theorem abs_nat (a : Int) : (if a < 0 then -a else a) = ((a.natAbs : Nat) : Int) := by
  split <;> omega

def sp_show_row (K : PySem.W.Frag) : Sp := fun vs H Q _ => ∃ (v : V) (r : List (Int × Int)), vs = [v] ∧ RowV H v r ∧ (∀ a ∈ r, Sm a) ∧ r.length ≤ 10 ∧ ∀ H', Same H H' → Q (.str (rowT r)) H'

def sp__law_row_text (K : PySem.W.Frag) : Sp := fun vs H Q _ => ∃ (v : V) (r : List (Int × Int)), vs = [v] ∧ RowV H v r ∧ (∀ a ∈ r, Sm a) ∧ r.length ≤ 10 ∧ ∀ H', Same H H' → Q (.str (rowT r)) H'

def Gr (g : Int) : Prop := g = 0 ∨ g = 3 ∨ g = 5 ∨ g = 7 ∨ g = 11 ∨ g = 13
def sp__law_ground (K : PySem.W.Frag) : Sp := fun vs H Q _ => ∃ (b : Addr), vs = [.ref b] ∧ Bag H b ∧ ∀ (H' : Hp) (g : Int), Gr g → Mv b H H' → Bag H' b → Q (.int g) H'
theorem gr_three {i : Int} (h0 : 0 ≤ i) (h3 : i < 3) : ∃ m : Int, atI [V.int 7, V.int 11, V.int 13] i = some (.int m) ∧ Gr m := by
  rcases (by omega : i = 0 ∨ i = 1 ∨ i = 2) with rfl | rfl | rfl <;> exact ⟨_, rfl, by unfold Gr; decide⟩
theorem gr_eight {i m : Int} (h0 : 0 ≤ i) (h8 : i < 8) (hm : Gr m) : ∃ g : Int, atI [V.int 0, V.int 0, V.int 0, V.int 0, V.int 3, V.int 3, V.int 5, V.int m] i = some (.int g) ∧ Gr g := by
  rcases (by omega : i = 0 ∨ i = 1 ∨ i = 2 ∨ i = 3 ∨ i = 4 ∨ i = 5 ∨ i = 6 ∨ i = 7) with rfl | rfl | rfl | rfl | rfl | rfl | rfl | rfl
  · exact ⟨_, rfl, by unfold Gr; decide⟩
  · exact ⟨_, rfl, by unfold Gr; decide⟩
  · exact ⟨_, rfl, by unfold Gr; decide⟩
  · exact ⟨_, rfl, by unfold Gr; decide⟩
  · exact ⟨_, rfl, by unfold Gr; decide⟩
  · exact ⟨_, rfl, by unfold Gr; decide⟩
  · exact ⟨_, rfl, by unfold Gr; decide⟩
  · exact ⟨_, rfl, hm⟩

def sp__law_whole_draw (K : PySem.W.Frag) : Sp := fun vs H Q _ => ∃ (b : Addr), vs = [.ref b] ∧ Bag H b ∧ ∀ (H' : Hp) (n : Int), n.natAbs < 2 ^ 320 → Mv b H H' → Bag H' b → Q (.int n) H'
theorem wd_five {i : Int} (h0 : 0 ≤ i) (h5 : i < 5) : ∃ m : Int, atI [V.int 3, V.int 7, V.int 20, V.int 20, V.int 1000] i = some (.int m) ∧ 0 < m ∧ m ≤ 1000 := by
  rcases (by omega : i = 0 ∨ i = 1 ∨ i = 2 ∨ i = 3 ∨ i = 4) with rfl | rfl | rfl | rfl | rfl <;> exact ⟨_, rfl, by decide, by decide⟩
theorem wd_three {i : Int} (h0 : 0 ≤ i) (h3 : i < 3) : ∃ m : Int, atI [V.int 2, V.int 8, V.int 16] i = some (.int m) ∧ 0 < m ∧ m ≤ 16 := by
  rcases (by omega : i = 0 ∨ i = 1 ∨ i = 2) with rfl | rfl | rfl <;> exact ⟨_, rfl, by decide, by decide⟩
theorem wd_bound {s f : Int} {j : Nat} (hs : s = 1 ∨ s = -1) (h0 : 0 ≤ f) (h1 : f < 1000000 ^ j) (hj : j ≤ 16) : (s * f).natAbs < 2 ^ 320 := by
  have e : (s * f).natAbs = f.natAbs := by
    rcases hs with rfl | rfl
    · rw [Int.one_mul]
    · rw [Int.neg_mul, Int.one_mul, Int.natAbs_neg]
  rw [e]
  have h2 : f.natAbs < 1000000 ^ j := by
    have : ((f.natAbs : Nat) : Int) < ((1000000 ^ j : Nat) : Int) := by
      rw [Int.natAbs_of_nonneg h0, Int.natCast_pow]
      exact h1
    exact Int.ofNat_lt.mp this
  exact Nat.lt_of_lt_of_le h2 (Nat.le_trans (Nat.pow_le_pow_right (by decide) hj) (by decide +kernel))
theorem wd_next {f d : Int} {i : Nat} (h0 : 0 ≤ f) (h1 : f < 1000000 ^ i) (d0 : 0 ≤ d) (d1 : d < 1000000) : 0 ≤ f * 1000000 + d ∧ f * 1000000 + d < 1000000 ^ (i + 1) := by
  have e : (1000000 : Int) ^ (i + 1) = 1000000 ^ i * 1000000 := Int.pow_succ _ _
  rw [e]
  omega

def sp__law_low (K : PySem.W.Frag) : Sp := fun vs H Q _ => ∃ (g u d : Int), vs = [.int g, .int u, .int d] ∧ 0 ≤ g ∧ g ≤ 13 ∧ d ≠ 0 ∧ d.natAbs < 2 ^ 8000 ∧ ∀ (p : Addr) (H' : Hp), H p = none → Same H H' → H' p = some (.tup [.int (lowF g u d).1, .int (lowF g u d).2]) → Q (.ref p) H'
theorem lowI_some {g u d : Int} {i : Nat} (hi : i < g.toNat) (h : ((i : Int) * d).fmod g = u.fmod g) (hn : ∀ j : Nat, j < i → ¬ ((j : Int) * d).fmod g = u.fmod g) : lowI g u d = some i := by
  unfold lowI
  rw [if_pos (by omega)]
  refine List.find?_range_eq_some.mpr ⟨decide_eq_true h, List.mem_range.mpr hi, fun j hj => ?_⟩
  rw [decide_eq_false (hn j hj)]
  rfl
theorem lowI_none {g u d : Int} (hn : ∀ j : Nat, j < g.toNat → ¬ ((j : Int) * d).fmod g = u.fmod g) : lowI g u d = none := by
  unfold lowI
  split
  · refine List.find?_range_eq_none.mpr fun j hj => ?_
    rw [decide_eq_false (hn j hj)]
    rfl
  · rfl
theorem low_sign (d : Int) : atI [V.int 1, V.int (-1)] (if decide (d < 0) = true then 1 else 0) = some (.int (if d < 0 then -1 else 1)) := by
  by_cases h : d < 0
  · rw [decide_eq_true h, if_pos h]; rfl
  · rw [decide_eq_false h, if_neg h]; rfl
theorem low_cb {u d : Int} (hd : d ≠ 0) (hz : d.natAbs < 2 ^ 8000) (i : Int) : CDivZ i ((Int.gcd u d : Int) * (if d < 0 then -1 else 1)) :=
  divZ_of (b := 8000) (lowC_ne hd) (Nat.lt_of_le_of_lt (lowC_le hd) hz) (by decide) (by decide)

def sp_show_table (K : PySem.W.Frag) : Sp := fun vs H Q _ => ∃ (v : V) (t : List (List (Int × Int))), vs = [v] ∧ TabV H v t ∧ (∀ r ∈ t, (∀ a ∈ r, Sm a) ∧ r.length ≤ 10) ∧ t.length ≤ 10 ∧ ∀ H', Same H H' → Q (.str (tabT t)) H'

def sp__law_table_text (K : PySem.W.Frag) : Sp := fun vs H Q _ => ∃ (v : V) (t : List (List (Int × Int))), vs = [v] ∧ TabV H v t ∧ (∀ r ∈ t, (∀ a ∈ r, Sm a) ∧ r.length ≤ 10) ∧ t.length ≤ 10 ∧ ∀ H', Same H H' → Q (.str (tabT t)) H'

def sp__law_any_number (K : PySem.W.Frag) : Sp := fun vs H Q _ => ∃ (b : Addr) (g : Int), vs = [.ref b, .int g] ∧ 0 ≤ g ∧ g ≤ 13 ∧ Bag H b ∧ ∀ (H' : Hp) (v : V), NumB H' v 320 → Mv b H H' → Bag H' b → Q v H'

def sp__law_number (K : PySem.W.Frag) : Sp := fun vs H Q _ => ∃ (b : Addr) (g : Int), vs = [.ref b, .int g] ∧ 0 ≤ g ∧ g ≤ 13 ∧ Bag H b ∧ ∀ (H' : Hp) (v : V), NumB H' v 7 → Mv b H H' → Bag H' b → Q v H'
theorem nu_six {i : Int} (h0 : 0 ≤ i) (h6 : i < 6) : ∃ m : Int, atI [V.int 3, V.int 5, V.int 5, V.int 9, V.int 19, V.int 99] i = some (.int m) ∧ 3 ≤ m ∧ m ≤ 99 := by
  rcases (by omega : i = 0 ∨ i = 1 ∨ i = 2 ∨ i = 3 ∨ i = 4 ∨ i = 5) with rfl | rfl | rfl | rfl | rfl | rfl <;> exact ⟨_, rfl, by decide, by decide⟩
theorem nu_four {i d : Int} (h0 : 0 ≤ i) (h4 : i < 4) (d0 : 0 ≤ d) (d8 : d < 8) : ∃ m : Int, atI [V.int 1, V.int 1, V.int 1, V.int (2 + d)] i = some (.int m) ∧ 1 ≤ m ∧ m ≤ 9 := by
  rcases (by omega : i = 0 ∨ i = 1 ∨ i = 2 ∨ i = 3) with rfl | rfl | rfl | rfl
  · exact ⟨_, rfl, by decide, by decide⟩
  · exact ⟨_, rfl, by decide, by decide⟩
  · exact ⟨_, rfl, by decide, by decide⟩
  · exact ⟨_, rfl, by omega, by omega⟩

def sp__law_plus (K : PySem.W.Frag) : Sp := fun vs H Q _ => ∃ (g : Int) (x y : V) (k : Nat), vs = [.int g, x, y] ∧ 0 ≤ g ∧ g ≤ 13 ∧ NumB H x k ∧ NumB H y k ∧ 4 ≤ k ∧ k ≤ 3000 ∧ ∀ (H' : Hp) (v : V), NumB H' v (2 * k + 1) → Same H H' → Q v H'
theorem mulW_of {a c : Int} {k : Nat} (h1 : a.natAbs < 2 ^ k) (h2 : c.natAbs < 2 ^ k) (hk : 4 ≤ k) (hk2 : k ≤ 3000) : CMulW a c := wide_mul h1 h2 (by omega) (by omega) (by omega)
theorem add_lt {a c : Int} {k : Nat} (h1 : a.natAbs < 2 ^ k) (h2 : c.natAbs < 2 ^ k) : (a + c).natAbs < 2 ^ (k + 1) := by
  rw [Nat.pow_succ]
  generalize 2 ^ k = z at h1 h2 ⊢
  omega

def sp__law_row (K : PySem.W.Frag) : Sp := fun vs H Q _ => ∃ (b : Addr) (g m : Int), vs = [.ref b, .int g, .int m] ∧ 0 ≤ g ∧ g ≤ 13 ∧ 0 ≤ m ∧ m ≤ 10 ∧ Bag H b ∧ ∀ (H' : Hp) (v : V), RowB H' v m.toNat 7 → Mv b H H' → Bag H' b → Q v H'

def sp__law_added (K : PySem.W.Frag) : Sp := fun vs H Q _ => ∃ (g : Int) (x y : V) (n k : Nat), vs = [.int g, x, y] ∧ 0 ≤ g ∧ g ≤ 13 ∧ RowB H x n k ∧ RowB H y n k ∧ n ≤ 10 ∧ 4 ≤ k ∧ k ≤ 3000 ∧ ∀ (H' : Hp) (v : V), RowB H' v n (2 * k + 1) → Same H H' → Q v H'

def sp__law_is_told (K : PySem.W.Frag) : Sp := fun vs H Q _ => ∃ (x r t : V), vs = [x, r, t] ∧ (∃ a, NumV H x a ∧ Sm a) ∧ (∃ rs, RowV H r rs ∧ (∀ a ∈ rs, Sm a) ∧ rs.length ≤ 10) ∧ (∃ ts, TabV H t ts ∧ (∀ r ∈ ts, (∀ a ∈ r, Sm a) ∧ r.length ≤ 10) ∧ ts.length ≤ 10) ∧ ∀ H', Same H H' → Q (.bl true) H'

def sp__law_rows (K : PySem.W.Frag) : Sp := fun vs H Q _ => ∃ (b : Addr) (g hi wi : Int), vs = [.ref b, .int g, .int hi, .int wi] ∧ 0 ≤ g ∧ g ≤ 13 ∧ 1 ≤ hi ∧ hi ≤ 5 ∧ 1 ≤ wi ∧ wi ≤ 5 ∧ Bag H b ∧ ∀ (H' : Hp) (v : V), TabB H' v hi.toNat wi.toNat 255 → Mv b H H' → Bag H' b → Q v H'

def sp_law (K : PySem.W.Frag) : Sp := fun vs H Q _ => ∃ (a : Addr) (ns : List Int), vs = [.ref a] ∧ SqL K H a (ns.map V.int) ∧ ∀ H', Q (.bl true) H'

theorem ok_show_number {f : Addr} {fd : FuncData} (F : FnP K "show_number" s_show_number f fd) (m_str : mg "str" = none) :
    FnOk P w K mg base CX0 1 f fd ["x"] (sp_show_number K) := by
  refine F.ok sc_show_number (fun vs H Q E h => ?_) (fun cdv A outer s H vs Q E hr h => ?_)
  · obtain ⟨v, a, rfl, hv, ha, q⟩ := h
    rfl
  · obtain ⟨v, a, rfl, hv, ha, q⟩ := h
    refine ⟨_, PSs.nox (pss_cons (ps_if (pt_cmpR op_eq (pe_ix ix_tup (pv 0) pe_int (fun _ _ => rfl)) pe_int (nomark _)) (pss_one (ps_ret (pe_callTy call_str_int (by rfl) m_str (by decide +kernel) (pa_cons (pe_ix ix_tup (pv 0) pe_int (fun _ _ => rfl)) pa_nil)))) pss_nil)
        (pss_one (ps_ret (pe_joined (.cons (pe_fmt (pe_ix ix_tup (pv 0) pe_int (fun _ _ => rfl))) (.cons pe_str (.cons (pe_fmt (pe_ix ix_tup (pv 0) pe_int (fun _ _ => rfl))) .nil))))))), ?_⟩
    obtain ⟨p, rfl, hp⟩ := hv
    walk_at "go"
    refine w_ite (fun hc => ?_) (fun hc => ?_)
    · walk_at "go"
      refine ⟨ha.1, ?_⟩
      have e : numT a = Str.ofString (toString a.1) := if_pos hc
      rw [e] at q
      exact q
    · walk_at "go"
      have e : numT a = Str.ofString (toString a.1) ++ ("/" : Str) ++ Str.ofString (toString a.2) := if_neg hc
      have l1 := (ok_int ha.1).1
      have l2 := (ok_int ha.2).1
      have l3 : ("/" : Str).length = 1 := by decide
      have z : (10000 : Nat) ≤ sizeLine := by decide
      walk_at "go"
      refine .inr ⟨_, rfl, ha.1, ?_⟩
      refine ⟨_, rfl, ?_, ?_⟩
      · rw [Str.length_append]; exact Nat.le_trans (by rw [show Str.empty.length = 0 from rfl]; omega) z
      walk_at "go"
      refine ⟨_, rfl, ?_, ?_⟩
      · rw [Str.length_append, Str.length_append]; exact Nat.le_trans (by rw [show Str.empty.length = 0 from rfl]; omega) z
      walk_at "go"
      refine .inr ⟨_, rfl, ha.2, ?_⟩
      refine ⟨_, rfl, ?_, ?_⟩
      · rw [Str.length_append, Str.length_append, Str.length_append]; exact Nat.le_trans (by rw [show Str.empty.length = 0 from rfl]; omega) z
      walk_at "go"
      rw [e] at q
      rw [Str.empty_append]
      exact q
theorem ok__law_text {f : Addr} {fd : FuncData} (F : FnP K "_law_text" s__law_text f fd) (m_str : mg "str" = none) :
    FnOk P w K mg base CX0 1 f fd ["_law_x"] (sp__law_text K) := by
  refine F.ok sc__law_text (fun vs H Q E h => ?_) (fun cdv A outer s H vs Q E hr h => ?_)
  · obtain ⟨v, a, rfl, hv, ha, q⟩ := h
    rfl
  · obtain ⟨v, a, rfl, hv, ha, q⟩ := h
    refine ⟨_, PSs.nox (pss_one (ps_ret (pe_ifExp (pt_cmpR op_eq (pe_ix ix_tup (pv 0) pe_int (fun _ _ => rfl)) pe_int (nomark _)) (pe_callTy call_str_int (by rfl) m_str (by decide +kernel) (pa_cons (pe_ix ix_tup (pv 0) pe_int (fun _ _ => rfl)) pa_nil)) (pe_op op_add_str (pe_op op_add_str (pe_callTy call_str_int (by rfl) m_str (by decide +kernel) (pa_cons (pe_ix ix_tup (pv 0) pe_int (fun _ _ => rfl)) pa_nil)) pe_str) (pe_callTy call_str_int (by rfl) m_str (by decide +kernel) (pa_cons (pe_ix ix_tup (pv 0) pe_int (fun _ _ => rfl)) pa_nil)))))), ?_⟩
    obtain ⟨p, rfl, hp⟩ := hv
    walk_at "go"
    refine w_ite (fun hc => ?_) (fun hc => ?_)
    · walk_at "go"
      refine ⟨ha.1, ?_⟩
      have e : numT a = Str.ofString (toString a.1) := if_pos hc
      rw [e] at q
      exact q
    · walk_at "go"
      have e : numT a = Str.ofString (toString a.1) ++ ("/" : Str) ++ Str.ofString (toString a.2) := if_neg hc
      have l1 := (ok_int ha.1).1
      have l2 := (ok_int ha.2).1
      have l3 : ("/" : Str).length = 1 := by decide
      have z : (10000 : Nat) ≤ sizeLine := by decide
      refine ⟨ha.1, ?_⟩
      walk_at "go"
      refine ⟨_, _, rfl, rfl, Nat.le_trans (by omega) z, ?_⟩
      walk_at "go"
      refine ⟨ha.2, ?_⟩
      refine ⟨_, _, rfl, rfl, Nat.le_trans (by rw [Str.length_append]; omega) z, ?_⟩
      rw [e] at q
      exact q
theorem ok__law_bag {f : Addr} {fd : FuncData} (F : FnP K "_law_bag" s__law_bag f fd) (m_len : mg "len" = none) (m_abs : mg "abs" = none) :
    FnOk P w K mg base CX0 1 f fd ["_law_script", "_law_at"] (sp__law_bag K) := by
  refine F.ok sc__law_bag (fun vs H Q E h => ?_) (fun cdv A outer s H vs Q E hr h => ?_)
  · obtain ⟨a, ns, k, rfl, hS, hk0, hk, q⟩ := h
    rfl
  · obtain ⟨a, ns, k, rfl, hS, hk0, hk, q⟩ := h
    refine ⟨_, PSs.nox (pss_cons (ps_set (i := 2) sc__law_bag.nd rfl (.inl rfl) pe_int)
        (pss_cons (ps_if (pt_cmpR op_lt (pv 1) (pe_callB call_len_seq (by rfl) m_len (by decide +kernel) (pa_cons (pv 0) pa_nil)) (nomark _)) (pss_one (ps_set (i := 2) sc__law_bag.nd rfl (.inl rfl) (pe_ix ix_list (pv 0) (pv 1) (fun _ _ => rfl)))) pss_nil)
        (pss_cons (ps_set (i := 3) sc__law_bag.nd rfl (.inl rfl) pe_int)
        (pss_cons (ps_if (pt_cmpR op_ge (pe_callB call_abs (by rfl) m_abs (by decide +kernel) (pa_cons (pv 2) pa_nil)) (pe_op op_pow pe_int pe_int) (nomark _)) (pss_one (ps_set (i := 3) sc__law_bag.nd rfl (.inl rfl) (pe_callB call_abs (by rfl) m_abs (by decide +kernel) (pa_cons (pv 2) pa_nil)))) pss_nil)
        (pss_cons (ps_set (i := 4) sc__law_bag.nd rfl (.inl rfl) (pe_lst (pa_cons pe_int (pa_cons pe_int (pa_cons pe_int (pa_cons pe_int (pa_cons pe_int (pa_cons pe_int (pa_cons pe_int (pa_cons pe_int pa_nil))))))))))
        (pss_cons (ps_set (i := 5) sc__law_bag.nd rfl (.inl rfl) (pe_op op_add (pe_op op_add (pe_op op_add (pe_op op_mul (pe_op op_modN (pv 2) pe_int) pe_int) (pe_op op_mul (pe_op op_mul pe_int (pv 1)) (pv 1))) (pe_op op_mul pe_int (pv 1))) pe_int))
        (pss_one (ps_ret (pe_lst (pa_cons (pv 3) (pa_cons (pe_op op_modN (pv 5) (pe_ix ix_list (pv 4) (pe_op op_modN (pv 1) pe_int) (fun _ _ => rfl))) pa_nil))))))))))), ?_⟩
    walk_at "go"
    refine ⟨a, _, rfl, .inl hS, ?_⟩
    walk_at "go"
    refine w_ite (fun hc => ?a) (fun hc => ?b)
    case' a =>
      have hlt : k.toNat < ns.length := by
        rw [List.length_map] at hc
        omega
      obtain ⟨cl, hcl⟩ : ∃ cl, ns[k.toNat]? = some cl := ⟨_, List.getElem?_eq_getElem hlt⟩
      have hat : atI (ns.map V.int) ((k.toNat : Nat) : Int) = some (.int cl) := atI_nat (by rw [List.getElem?_map, hcl]; rfl)
      rw [show ((k.toNat : Nat) : Int) = k by omega] at hat
      walk_at "go"
      refine w_ixLs hS hat ?_
    all_goals
      walk_at "go"
      refine w_Iv ⟨by decide, by decide, by decide⟩ rfl ?_
      walk_at "go"
      refine w_ite (fun hc2 => ?_) (fun hc2 => ?_)
    all_goals
      walk_at "go"
      refine w_new (by simp) fun p1 H1 hp1 s1 h1 => ?_
      walk_at "go"
      refine w_I (by decide) ?_
      walk_at "go"
      refine w_I (.inr ⟨by decide, by decide⟩) ?_
      walk_at "go"
      refine w_I (.inl ⟨by decide, by decide⟩) ?_
      walk_at "go"
      refine w_I (.inr ⟨by omega, by omega⟩) ?_
      walk_at "go"
      refine w_I (.inl ⟨by decide, by decide⟩) ?_
      walk_at "go"
      refine w_I (by decide) ?_
      obtain ⟨m, em, hm0, hm1⟩ := bag_primes (i := k.fmod 8) (by rw [fmod_pos _ (by decide)]; exact Int.emod_nonneg _ (by decide)) (by rw [fmod_pos _ (by decide)]; exact Int.emod_lt_of_pos _ (by decide))
      refine w_ixL h1 em ?_
      refine w_I (by omega) ?_
      walk_at "go"
      refine w_new (by simp) fun p2 H2 hp2 s2 h2 => ?_
      refine q p2 H2 (s1.free hp2) (s1.trans s2) ⟨_, _, h2, ?_, ?_, ?_⟩
      · first | decide | omega
      · rw [fmod_pos _ hm0]
        exact Int.emod_nonneg _ (by omega)
      · rw [fmod_pos _ hm0]
        exact Int.lt_of_lt_of_le (Int.emod_lt_of_pos _ hm0) hm1
theorem ok__law_take {f : Addr} {fd : FuncData} (F : FnP K "_law_take" s__law_take f fd) :
    FnOk P w K mg base CX0 1 f fd ["_law_bag_here", "_law_many"] (sp__law_take K) := by
  refine F.ok sc__law_take (fun vs H Q E h => ?_) (fun cdv A outer s H vs Q E hr h => ?_)
  · obtain ⟨b, m, rfl, hm, hm2, hb, q⟩ := h
    rfl
  · obtain ⟨b, m, rfl, hm, hm2, hb, q⟩ := h
    refine ⟨_, PSs.nox (pss_cons (ps_if (pt_cmpR op_gt (pe_ix ix_list (pv 0) pe_int (fun _ _ => rfl)) pe_int (nomark _)) (pss_cons (ps_set (i := 2) sc__law_take.nd rfl (.inl rfl) (pe_op op_modN (pe_ix ix_list (pv 0) pe_int (fun _ _ => rfl)) (pv 1)))
        (pss_cons (ps_asg (pe_op op_fdivZ (pe_ix ix_list (pv 0) pe_int (fun _ _ => rfl)) (pv 1)) (pg_sub (pv 0) pe_int set_list))
        (pss_one (ps_ret (pv 2))))) pss_nil)
        (pss_cons (ps_asg (pe_op op_modN (pe_op op_add (pe_op op_mul (pe_ix ix_list (pv 0) pe_int (fun _ _ => rfl)) pe_int) pe_int) pe_int) (pg_sub (pv 0) pe_int set_list))
        (pss_one (ps_ret (pe_op op_modN (pe_op op_fdivZ (pe_op op_modN (pe_op op_pow (pe_ix ix_list (pv 0) pe_int (fun _ _ => rfl)) pe_int) pe_int) pe_int) (pv 1)))))), ?_⟩
    obtain ⟨A, B, hb, hA, hB, hB2⟩ := hb
    walk_at "go"
    refine w_ite (fun hc => ?_) (fun hc => ?_)
    · walk_at "go"
      refine w_I (by omega) ?_
      walk_at "go"
      refine w_I (divZ_small hm (by omega)) ?_
      walk_at "go"
      refine w_setL hb rfl ?_
      walk_at "go"
      refine q _ _ ?_ ?_ Mv.upd ⟨_, _, upd_same, ?_, hB, hB2⟩
      · rw [fmod_pos _ hm]
        exact Int.emod_nonneg _ (by omega)
      · rw [fmod_pos _ hm]
        exact Int.emod_lt_of_pos _ hm
      · rw [fdiv_pos _ hm]
        exact Int.ediv_nonneg hA (by omega)
    · walk_at "go"
      refine w_I (.inr ⟨by decide, by decide⟩) ?_
      walk_at "go"
      refine w_I (by decide) ?_
      walk_at "go"
      refine w_setL hb rfl ?_
      walk_at "go"
      have hb' : (upd H b (.lst ([V.int A, V.int B].set 1 (V.int ((B * 48271 + 2531011).fmod 2147483647))))) b = some (.lst [.int A, .int ((B * 48271 + 2531011).fmod 2147483647)]) := upd_same
      have hx : 0 ≤ (B * 48271 + 2531011).fmod 2147483647 ∧ (B * 48271 + 2531011).fmod 2147483647 < 2147483647 := by
        rw [fmod_pos _ (by decide)]
        exact ⟨Int.emod_nonneg _ (by decide), Int.emod_lt_of_pos _ (by decide)⟩
      generalize (B * 48271 + 2531011).fmod 2147483647 = x at hb' hx ⊢
      refine w_ixL hb' rfl ?_
      walk_at "go"
      refine w_I ⟨by decide, by decide, by omega⟩ ?_
      walk_at "go"
      refine w_I (by decide) ?_
      walk_at "go"
      refine w_I (divZ_small (by decide) (by decide)) ?_
      walk_at "go"
      refine w_I (by omega) ?_
      refine q _ _ ?_ ?_ Mv.upd ⟨_, _, hb', hA, hx.1, hx.2⟩
      · rw [fmod_pos _ hm]
        exact Int.emod_nonneg _ (by omega)
      · rw [fmod_pos _ hm]
        exact Int.emod_lt_of_pos _ hm
theorem ok__law_shared {f : Addr} {fd : FuncData} (F : FnP K "_law_shared" s__law_shared f fd) (m_abs : mg "abs" = none) :
    FnOk P w K mg base CX0 1 f fd ["_law_one", "_law_other"] (sp__law_shared K) := by
  refine F.ok sc__law_shared (fun vs H Q E h => ?_) (fun cdv A outer s H vs Q E hr h => ?_)
  · obtain ⟨a, c, rfl, q⟩ := h
    rfl
  · obtain ⟨a, c, rfl, q⟩ := h
    refine ⟨_, PSs.nox (pss_cons (ps_par (i := 0) (j := 1) (by rfl) sc__law_shared.nd rfl rfl (by decide) rfl rfl (pa_cons (pe_callB call_abs (by rfl) m_abs (by decide +kernel) (pa_cons (pv 0) pa_nil)) (pa_cons (pe_callB call_abs (by rfl) m_abs (by decide +kernel) (pa_cons (pv 1) pa_nil)) pa_nil)) (by rfl))
        (pss_cons (ps_while PassesOwn.never (pt_cmpR op_gt (pv 1) pe_int (nomark _)) (pss_one (ps_par (i := 0) (j := 1) (by rfl) sc__law_shared.nd rfl rfl (by decide) rfl rfl (pa_cons (pv 1) (pa_cons (pe_op op_modN (pv 0) (pv 1)) pa_nil)) (by rfl))))
        (pss_one (ps_ret (pv 0))))), ?_⟩
    walk_at "go"
    rw [abs_nat, abs_nat]
    refine while_by (fun σ H' => ∃ x y : Nat, σ = [some (.int (x : Int)), some (.int (y : Int))] ∧ Nat.gcd x y = Int.gcd a c ∧ H' = H) (fun σ _ => match σ with | [_, some (.int y)] => y.toNat | _ => 0) ⟨a.natAbs, c.natAbs, rfl, rfl, rfl⟩ (fun σ H' hP => ?_) (fun σ H' Q1 Q2 f h => ?_)
    · obtain ⟨x, y, rfl, e, rfl⟩ := hP
      walk_at "go"
      refine w_ite (fun hc => ?_) (fun hc => ?_)
      · walk_at "go"
        refine w_I (by omega) ?_
        walk_at "go"
        have e1 : (x : Int).fmod (y : Int) = ((x % y : Nat) : Int) := by
          rw [fmod_pos _ hc]
          rfl
        rw [e1]
        refine ⟨⟨y, x % y, rfl, ?_, rfl⟩, ?_⟩
        · rw [← e, Nat.gcd_comm y, ← Nat.gcd_rec, Nat.gcd_comm]
        · show ((x % y : Nat) : Int).toNat < ((y : Nat) : Int).toNat
          have := Nat.mod_lt x (by omega : y > 0)
          omega
      · walk_at "go"
        have e0 : y = 0 := by omega
        subst e0
        rw [Nat.gcd_zero_right] at e
        rw [e]
        exact q
    · obtain ⟨v, hv, i, j, e1, e2, k, ek, qq⟩ := h
      exact ⟨v, hv, i, j, e1, e2, k, ek, f _ _ qq⟩
theorem ok_show_row {f : Addr} {fd : FuncData} (F : FnP K "show_row" s_show_row f fd)
    {f_show_number : Addr} {fd_show_number : FuncData} (F_show_number : FnP K "show_number" s_show_number f_show_number fd_show_number) (b_show_number : Binds K fd_show_number ["x"] []) (g_show_number : mg "show_number" = some (.ref f_show_number)) (G_show_number : FnOk P w K mg base CX0 1 f_show_number fd_show_number ["x"] (sp_show_number K)) :
    FnOk P w K mg base CX0 2 f fd ["row"] (sp_show_row K) := by
  refine F.ok sc_show_row (fun vs H Q E h => ?_) (fun cdv A outer s H vs Q E hr h => ?_)
  · obtain ⟨v, r, rfl, hv, hs, hl, q⟩ := h
    rfl
  · obtain ⟨v, r, rfl, hv, hs, hl, q⟩ := h
    refine ⟨_, PSs.nox (pss_one (ps_ret (pe_join pe_str (pe_lc (own := [("x", 1)]) (g := gName 1) (tt := tYes) (by rfl) sc_show_row.nd (pi_tup (pv 0)) (blkOk_by (own := [("x", 1)]) (N := ["row", "x"]) (sc := defScope s_show_row) (by decide +kernel)) (fun _ _ _ _ _ => (pg_name (i := 1) sc_show_row.nd rfl (.inl rfl))) (fun _ _ _ _ _ => pts_nil) (fun _ _ _ _ _ => (pe_call G_show_number hr (by rfl) g_show_number F_show_number.kp b_show_number .nil pass0 (pa_cons (pv 1) pa_nil))))))), ?_⟩
    obtain ⟨p, xs, rfl, hp, hlx, hx⟩ := hv
    walk_at "go"
    refine ⟨⟨_, rfl⟩, ?_⟩
    walk_at "go"
    refine ⟨p, rfl, ⟨xs, SqT.of hp⟩, fun D hD => ?_⟩
    refine lc_tup (xs := xs) (fun i H' => Same H H' ∧ H' D = some (.lst (((r.take i).map numT).map V.str))) ⟨Same.updD (Same.refl H) hD, upd_same⟩ (fun i H' _ hP => SqT.of (hP.1 _ _ hp)) (fun i x H' hxi hP => ?_) (fun H' hP => ?_)
    · obtain ⟨sm, hD'⟩ := hP
      have hi : i < r.length := by
        have := (List.getElem?_eq_some_iff.mp hxi).1
        omega
      have hri : r[i]? = some r[i] := List.getElem?_eq_getElem hi
      walk_at "go"
      refine ⟨rfl, ?_⟩
      walk_at "go"
      refine ⟨x, r[i], rfl, (hx i x _ hxi hri).kt (Kt.of sm), hs _ (List.getElem_mem hi), ?_⟩
      refine ⟨_, hD', ?_, Same.updD sm hD, ?_⟩
      · rw [List.length_map, List.length_map, List.length_take]
        exact small1000 (by omega)
      · rw [upd_same, List.take_add_one, hri, List.map_append, List.map_append]
        rfl
    · obtain ⟨sm, hD'⟩ := hP
      have e : r.take xs.length = r := List.take_of_length_le (by omega)
      rw [e] at hD'
      refine ⟨_, D, r.map numT, rfl, rfl, .inl (SqL.of hD'), ?_, q _ sm⟩
      have h1 := sum_le (n := 3900) (ys := r.map numT) fun y hy => by
        obtain ⟨a, ha, rfl⟩ := List.mem_map.mp hy
        exact numT_ok (hs a ha)
      have h2 : (" " : Str).length = 1 := by decide
      rw [List.length_map] at h1 ⊢
      rw [h2]
      omega
theorem ok__law_row_text {f : Addr} {fd : FuncData} (F : FnP K "_law_row_text" s__law_row_text f fd)
    {f__law_text : Addr} {fd__law_text : FuncData} (F__law_text : FnP K "_law_text" s__law_text f__law_text fd__law_text) (b__law_text : Binds K fd__law_text ["_law_x"] []) (g__law_text : mg "_law_text" = some (.ref f__law_text)) (G__law_text : FnOk P w K mg base CX0 1 f__law_text fd__law_text ["_law_x"] (sp__law_text K)) :
    FnOk P w K mg base CX0 2 f fd ["_law_row_here"] (sp__law_row_text K) := by
  refine F.ok sc__law_row_text (fun vs H Q E h => ?_) (fun cdv A outer s H vs Q E hr h => ?_)
  · obtain ⟨v, r, rfl, hv, hs, hl, q⟩ := h
    rfl
  · obtain ⟨v, r, rfl, hv, hs, hl, q⟩ := h
    refine ⟨_, PSs.nox (pss_one (ps_ret (pe_join pe_str (pe_lc (own := [("_law_x", 1)]) (g := gName 1) (tt := tYes) (by rfl) sc__law_row_text.nd (pi_tup (pv 0)) (blkOk_by (own := [("_law_x", 1)]) (N := ["_law_row_here", "_law_x"]) (sc := defScope s__law_row_text) (by decide +kernel)) (fun _ _ _ _ _ => (pg_name (i := 1) sc__law_row_text.nd rfl (.inl rfl))) (fun _ _ _ _ _ => pts_nil) (fun _ _ _ _ _ => (pe_call G__law_text hr (by rfl) g__law_text F__law_text.kp b__law_text .nil pass0 (pa_cons (pv 1) pa_nil))))))), ?_⟩
    obtain ⟨p, xs, rfl, hp, hlx, hx⟩ := hv
    walk_at "go"
    refine ⟨⟨_, rfl⟩, ?_⟩
    walk_at "go"
    refine ⟨p, rfl, ⟨xs, SqT.of hp⟩, fun D hD => ?_⟩
    refine lc_tup (xs := xs) (fun i H' => Same H H' ∧ H' D = some (.lst (((r.take i).map numT).map V.str))) ⟨Same.updD (Same.refl H) hD, upd_same⟩ (fun i H' _ hP => SqT.of (hP.1 _ _ hp)) (fun i x H' hxi hP => ?_) (fun H' hP => ?_)
    · obtain ⟨sm, hD'⟩ := hP
      have hi : i < r.length := by
        have := (List.getElem?_eq_some_iff.mp hxi).1
        omega
      have hri : r[i]? = some r[i] := List.getElem?_eq_getElem hi
      walk_at "go"
      refine ⟨rfl, ?_⟩
      walk_at "go"
      refine ⟨x, r[i], rfl, (hx i x _ hxi hri).kt (Kt.of sm), hs _ (List.getElem_mem hi), ?_⟩
      refine ⟨_, hD', ?_, Same.updD sm hD, ?_⟩
      · rw [List.length_map, List.length_map, List.length_take]
        exact small1000 (by omega)
      · rw [upd_same, List.take_add_one, hri, List.map_append, List.map_append]
        rfl
    · obtain ⟨sm, hD'⟩ := hP
      have e : r.take xs.length = r := List.take_of_length_le (by omega)
      rw [e] at hD'
      refine ⟨_, D, r.map numT, rfl, rfl, .inl (SqL.of hD'), ?_, q _ sm⟩
      have h1 := sum_le (n := 3900) (ys := r.map numT) fun y hy => by
        obtain ⟨a, ha, rfl⟩ := List.mem_map.mp hy
        exact numT_ok (hs a ha)
      have h2 : (" " : Str).length = 1 := by decide
      rw [List.length_map] at h1 ⊢
      rw [h2]
      omega
theorem ok__law_ground {f : Addr} {fd : FuncData} (F : FnP K "_law_ground" s__law_ground f fd)
    {f__law_take : Addr} {fd__law_take : FuncData} (F__law_take : FnP K "_law_take" s__law_take f__law_take fd__law_take) (b__law_take : Binds K fd__law_take ["_law_bag_here", "_law_many"] []) (g__law_take : mg "_law_take" = some (.ref f__law_take)) (G__law_take : FnOk P w K mg base CX0 1 f__law_take fd__law_take ["_law_bag_here", "_law_many"] (sp__law_take K)) :
    FnOk P w K mg base CX0 2 f fd ["_law_bag_here"] (sp__law_ground K) := by
  refine F.ok sc__law_ground (fun vs H Q E h => ?_) (fun cdv A outer s H vs Q E hr h => ?_)
  · obtain ⟨b, rfl, hb, q⟩ := h
    rfl
  · obtain ⟨b, rfl, hb, q⟩ := h
    refine ⟨_, PSs.nox (pss_one (ps_ret (pe_ix ix_list (pe_lst (pa_cons pe_int (pa_cons pe_int (pa_cons pe_int (pa_cons pe_int (pa_cons pe_int (pa_cons pe_int (pa_cons pe_int (pa_cons (pe_ix ix_list (pe_lst (pa_cons pe_int (pa_cons pe_int (pa_cons pe_int pa_nil)))) (pe_call G__law_take hr (by rfl) g__law_take F__law_take.kp b__law_take .nil pass0 (pa_cons (pv 0) (pa_cons pe_int pa_nil))) (fun _ _ => rfl)) pa_nil))))))))) (pe_call G__law_take hr (by rfl) g__law_take F__law_take.kp b__law_take .nil pass0 (pa_cons (pv 0) (pa_cons pe_int pa_nil))) (fun _ _ => rfl)))), ?_⟩
    walk_at "go"
    refine w_new (by simp) fun p1 H1 hp1 s1 h1 => ?_
    walk_at "go"
    refine ⟨b, 3, rfl, by decide, by decide, hb.same s1, fun H2 d hd0 hd1 mv2 hb2 => ?_⟩
    obtain ⟨m, em, hm⟩ := gr_three hd0 hd1
    have n1 : p1 ≠ b := fun e => by
      subst e
      obtain ⟨A, B, h2, _⟩ := hb
      rw [hp1] at h2
      cases h2
    refine w_ixL (mv2 _ _ n1 h1) em ?_
    walk_at "go"
    refine w_new (by simp) fun p3 H3 hp3 s3 h3 => ?_
    walk_at "go"
    refine ⟨b, 8, rfl, by decide, by decide, hb2.same s3, fun H4 e he0 he1 mv4 hb4 => ?_⟩
    obtain ⟨g, eg, hg⟩ := gr_eight he0 he1 hm
    have n3 : p3 ≠ b := fun e => by
      subst e
      obtain ⟨A, B, h2, _⟩ := hb2
      rw [hp3] at h2
      cases h2
    refine w_ixL (mv4 _ _ n3 h3) eg ?_
    exact q _ _ hg ((Mv.same s1).trans (mv2.trans ((Mv.same s3).trans mv4))) hb4
theorem ok__law_whole_draw {f : Addr} {fd : FuncData} (F : FnP K "_law_whole_draw" s__law_whole_draw f fd)
    {f__law_take : Addr} {fd__law_take : FuncData} (F__law_take : FnP K "_law_take" s__law_take f__law_take fd__law_take) (b__law_take : Binds K fd__law_take ["_law_bag_here", "_law_many"] []) (g__law_take : mg "_law_take" = some (.ref f__law_take)) (G__law_take : FnOk P w K mg base CX0 1 f__law_take fd__law_take ["_law_bag_here", "_law_many"] (sp__law_take K)) (m_range : mg "range" = none) :
    FnOk P w K mg base CX0 2 f fd ["_law_bag_here"] (sp__law_whole_draw K) := by
  refine F.ok sc__law_whole_draw (fun vs H Q E h => ?_) (fun cdv A outer s H vs Q E hr h => ?_)
  · obtain ⟨b, rfl, hb, q⟩ := h
    rfl
  · obtain ⟨b, rfl, hb, q⟩ := h
    refine ⟨_, PSs.nox (pss_cons (ps_set (i := 1) sc__law_whole_draw.nd rfl (.inl rfl) (pe_op op_sub pe_int (pe_op op_mul pe_int (pe_call G__law_take hr (by rfl) g__law_take F__law_take.kp b__law_take .nil pass0 (pa_cons (pv 0) (pa_cons pe_int pa_nil))))))
        (pss_cons (ps_set (i := 2) sc__law_whole_draw.nd rfl (.inl rfl) (pe_call G__law_take hr (by rfl) g__law_take F__law_take.kp b__law_take .nil pass0 (pa_cons (pv 0) (pa_cons pe_int pa_nil))))
        (pss_cons (ps_if (pt_cmpR op_lt (pv 2) pe_int (nomark _)) (pss_one (ps_ret (pe_op op_mul (pv 1) (pe_call G__law_take hr (by rfl) g__law_take F__law_take.kp b__law_take .nil pass0 (pa_cons (pv 0) (pa_cons (pe_ix ix_list (pe_lst (pa_cons pe_int (pa_cons pe_int (pa_cons pe_int (pa_cons pe_int (pa_cons pe_int pa_nil)))))) (pv 2) (fun _ _ => rfl)) pa_nil)))))) pss_nil)
        (pss_cons (ps_set (i := 3) sc__law_whole_draw.nd rfl (.inl rfl) pe_int)
        (pss_cons (ps_for PassesOwn.never rfl (pi_range1 (by rfl) m_range (pa_cons (pe_ix ix_list (pe_lst (pa_cons pe_int (pa_cons pe_int (pa_cons pe_int pa_nil)))) (pe_op op_sub (pv 2) pe_int) (fun _ _ => rfl)) pa_nil)) (pg_name (i := 4) sc__law_whole_draw.nd rfl (.inl rfl)) (pss_one (ps_set (i := 3) sc__law_whole_draw.nd rfl (.inl rfl) (pe_op op_add (pe_op op_mul (pv 3) (pe_op op_pow pe_int pe_int)) (pe_call G__law_take hr (by rfl) g__law_take F__law_take.kp b__law_take .nil pass0 (pa_cons (pv 0) (pa_cons (pe_op op_pow pe_int pe_int) pa_nil)))))))
        (pss_one (ps_ret (pe_op op_mul (pv 1) (pv 3))))))))), ?_⟩
    walk_at "go"
    refine ⟨b, 2, rfl, by decide, by decide, hb, fun H1 d1 h10 h11 m1 hb1 => ?_⟩
    refine w_I (.inl ⟨by decide, by decide⟩) ?_
    walk_at "go"
    have hs : (1 - 2 * d1 = 1 ∨ 1 - 2 * d1 = -1) := by omega
    generalize 1 - 2 * d1 = sg at hs ⊢
    refine ⟨b, 8, rfl, by decide, by decide, hb1, fun H2 wy h20 h21 m2 hb2 => ?_⟩
    walk_at "go"
    refine w_ite (fun hc => ?_) (fun hc => ?_)
    · walk_at "go"
      refine w_new (by simp) fun p1 H3 hp1 s3 h3 => ?_
      walk_at "go"
      obtain ⟨m, em, hm0, hm1⟩ := wd_five h20 hc
      refine w_ixL h3 em ?_
      walk_at "go"
      refine ⟨b, m, rfl, hm0, by omega, hb2.same s3, fun H4 d hd0 hd1 m4 hb4 => ?_⟩
      refine w_I (.inl ⟨by omega, by omega⟩) ?_
      exact q _ _ (wd_bound (j := 1) hs hd0 (by rw [Int.pow_succ, Int.pow_zero]; omega) (by decide)) (m1.trans (m2.trans ((Mv.same s3).trans m4))) hb4
    · walk_at "go"
      refine w_new (by simp) fun p1 H3 hp1 s3 h3 => ?_
      walk_at "go"
      obtain ⟨m, em, hm0, hm1⟩ := wd_three (i := wy - 5) (by omega) (by omega)
      refine w_ixL h3 em ?_
      walk_at "go"
      refine ⟨by omega, by omega, ?_⟩
      have hb3 := hb2.same s3
      have mv3 : Mv b H H3 := m1.trans (m2.trans (Mv.same s3))
      refine for_range (fun i σ H' => Mv b H H' ∧ Bag H' b ∧ ∃ (f : Int) (y : Option V), σ = [some (.ref b), some (.int sg), some (.int wy), some (.int f), y] ∧ 0 ≤ f ∧ f < 1000000 ^ i) ⟨mv3, hb3, 0, none, rfl, by decide, by decide⟩ (fun i σ H' hi hP => ?_) (fun σ H' hP => ?_)
      · obtain ⟨mv, hbi, f, y, rfl, hf0, hf1⟩ := hP
        walk_at "go"
        refine w_Iv ⟨by decide, by decide, by decide⟩ rfl ?_
        refine w_I (.inr ⟨by decide, by decide⟩) ?_
        walk_at "go"
        refine w_Iv ⟨by decide, by decide, by decide⟩ rfl ?_
        walk_at "go"
        refine ⟨b, 1000000, rfl, by decide, by decide, hbi, fun H5 d hd0 hd1 m5 hb5 => ?_⟩
        walk_at "go"
        exact ⟨mv.trans m5, hb5, _, _, rfl, (wd_next hf0 hf1 hd0 hd1).1, (wd_next hf0 hf1 hd0 hd1).2⟩
      · obtain ⟨mv, hbi, f, y, rfl, hf0, hf1⟩ := hP
        walk_at "go"
        refine w_I (.inl ⟨by omega, by omega⟩) ?_
        exact q _ _ (wd_bound hs hf0 hf1 (by omega)) mv hbi
theorem ok__law_low {f : Addr} {fd : FuncData} (F : FnP K "_law_low" s__law_low f fd)
    {f__law_shared : Addr} {fd__law_shared : FuncData} (F__law_shared : FnP K "_law_shared" s__law_shared f__law_shared fd__law_shared) (b__law_shared : Binds K fd__law_shared ["_law_one", "_law_other"] []) (g__law_shared : mg "_law_shared" = some (.ref f__law_shared)) (G__law_shared : FnOk P w K mg base CX0 1 f__law_shared fd__law_shared ["_law_one", "_law_other"] (sp__law_shared K)) (m_range : mg "range" = none) (m_int : mg "int" = none) :
    FnOk P w K mg base CX0 2 f fd ["_law_g", "_law_up", "_law_down"] (sp__law_low K) := by
  refine F.ok sc__law_low (fun vs H Q E h => ?_) (fun cdv A outer s H vs Q E hr h => ?_)
  · obtain ⟨g, u, d, rfl, hg0, hg, hd, hz, q⟩ := h
    rfl
  · obtain ⟨g, u, d, rfl, hg0, hg, hd, hz, q⟩ := h
    refine ⟨_, PSs.nox (pss_cons (ps_if (pt_cmpR op_gt (pv 0) pe_int (nomark _)) (pss_one (ps_for PassesOwn.never rfl (pi_range1 (by rfl) m_range (pa_cons (pv 0) pa_nil)) (pg_name (i := 3) sc__law_low.nd rfl (.inl rfl)) (pss_one (ps_if (pt_cmpR op_eq (pe_op op_modN (pe_op op_mul (pv 3) (pv 2)) (pv 0)) (pe_op op_modN (pv 1) (pv 0)) (nomark _)) (pss_one (ps_ret (pe_tup (pa_cons (pv 3) (pa_cons pe_int pa_nil))))) pss_nil)))) pss_nil)
        (pss_cons (ps_set (i := 4) sc__law_low.nd rfl (.inl rfl) (pe_op op_mul (pe_call G__law_shared hr (by rfl) g__law_shared F__law_shared.kp b__law_shared .nil pass0 (pa_cons (pv 1) (pa_cons (pv 2) pa_nil))) (pe_ix ix_list (pe_lst (pa_cons pe_int (pa_cons (pe_un un_neg pe_int) pa_nil))) (pe_callTy call_int1 (by rfl) m_int (by decide +kernel) (pa_cons (pe_cmpR op_lt (pv 2) pe_int (nomark _)) pa_nil)) (fun _ _ => rfl))))
        (pss_one (ps_ret (pe_tup (pa_cons (pe_op op_fdivZ (pv 1) (pv 4)) (pa_cons (pe_op op_fdivZ (pv 2) (pv 4)) pa_nil))))))), ?_⟩
    walk_at "go"
    refine w_ite (fun hc => ?a) (fun hc => ?b)
    case' a =>
      walk_at "go"
      refine ⟨by omega, by omega, ?_⟩
      refine for_range (fun i σ H' => H' = H ∧ (∃ y y2, σ = [some (.int g), some (.int u), some (.int d), y, y2]) ∧ ∀ j : Nat, j < i → ¬ ((j : Int) * d).fmod g = u.fmod g) ⟨rfl, ⟨none, none, rfl⟩, fun j hj => absurd hj (Nat.not_lt_zero _)⟩ (fun i σ H' hi hP => ?s1) (fun σ H' hP => ?s2)
    case' s1 =>
      obtain ⟨rfl, ⟨y, y2, rfl⟩, hn⟩ := hP
      walk_at "go"
      rw [Int.zero_add]
      refine w_I (.inl ⟨by omega, by omega⟩) ?_
      walk_at "go"
      refine w_I (by omega) ?_
      walk_at "go"
      refine w_I (by omega) ?_
      walk_at "go"
      refine w_ite (fun hc2 => ?_) (fun hc2 => ?_)
      · walk_at "go"
        refine w_new (by simp) fun p1 H1 hp1 s1 h1 => ?_
        refine q p1 H1 hp1 s1 ?_
        have e : lowF g u d = ((i : Int), 1) := by
          unfold lowF
          rw [lowI_some hi hc2 hn]
        rw [e]
        exact h1
      · walk_at "go"
        refine ⟨rfl, ⟨_, _, rfl⟩, fun j hj => ?_⟩
        by_cases e : j = i
        · rw [e]; exact hc2
        · exact hn j (by omega)
    case' s2 =>
      obtain ⟨rfl, ⟨y, y2, rfl⟩, hn⟩ := hP
      have hI : lowI g u d = none := lowI_none hn
    case' b =>
      have hI : lowI g u d = none := lowI_none (fun j hj => by omega)
    all_goals
      walk_at "go"
      refine ⟨u, d, rfl, ?_⟩
      walk_at "go"
      refine w_new (by simp) fun p1 H1 hp1 s1 h1 => ?_
      walk_at "go"
      refine .inr ⟨_, rfl, ?_⟩
      refine w_ixL h1 (low_sign d) ?_
      refine w_I (.inr (by split <;> decide)) ?_
      walk_at "go"
      refine w_I (low_cb hd hz _) ?_
      walk_at "go"
      refine w_I (low_cb hd hz _) ?_
      walk_at "go"
      refine w_new (by simp) fun p2 H2 hp2 s2 h2 => ?_
      refine q p2 H2 (s1.free hp2) (s1.trans s2) ?_
      have e : lowF g u d = (u.fdiv (lowC u d), d.fdiv (lowC u d)) := by
        unfold lowF
        rw [hI]
      rw [e]
      exact h2
theorem ok_show_table {f : Addr} {fd : FuncData} (F : FnP K "show_table" s_show_table f fd)
    {f_show_row : Addr} {fd_show_row : FuncData} (F_show_row : FnP K "show_row" s_show_row f_show_row fd_show_row) (b_show_row : Binds K fd_show_row ["row"] []) (g_show_row : mg "show_row" = some (.ref f_show_row)) (G_show_row : FnOk P w K mg base CX0 2 f_show_row fd_show_row ["row"] (sp_show_row K)) :
    FnOk P w K mg base CX0 3 f fd ["table"] (sp_show_table K) := by
  refine F.ok sc_show_table (fun vs H Q E h => ?_) (fun cdv A outer s H vs Q E hr h => ?_)
  · obtain ⟨v, t, rfl, hv, hs, hl, q⟩ := h
    rfl
  · obtain ⟨v, t, rfl, hv, hs, hl, q⟩ := h
    refine ⟨_, PSs.nox (pss_one (ps_ret (pe_join pe_str (pe_lc (own := [("row", 1)]) (g := gName 1) (tt := tYes) (by rfl) sc_show_table.nd (pi_tup (pv 0)) (blkOk_by (own := [("row", 1)]) (N := ["table", "row"]) (sc := defScope s_show_table) (by decide +kernel)) (fun _ _ _ _ _ => (pg_name (i := 1) sc_show_table.nd rfl (.inl rfl))) (fun _ _ _ _ _ => pts_nil) (fun _ _ _ _ _ => (pe_call G_show_row hr (by rfl) g_show_row F_show_row.kp b_show_row .nil pass0 (pa_cons (pv 1) pa_nil))))))), ?_⟩
    obtain ⟨p, xs, rfl, hp, hlx, hx⟩ := hv
    walk_at "go"
    refine ⟨⟨_, rfl⟩, ?_⟩
    walk_at "go"
    refine ⟨p, rfl, ⟨xs, SqT.of hp⟩, fun D hD => ?_⟩
    refine lc_tup (xs := xs) (fun i H' => Same H H' ∧ H' D = some (.lst (((t.take i).map rowT).map V.str))) ⟨Same.updD (Same.refl H) hD, upd_same⟩ (fun i H' _ hP => SqT.of (hP.1 _ _ hp)) (fun i x H' hxi hP => ?_) (fun H' hP => ?_)
    · obtain ⟨sm, hD'⟩ := hP
      have hi : i < t.length := by
        have := (List.getElem?_eq_some_iff.mp hxi).1
        omega
      have hri : t[i]? = some t[i] := List.getElem?_eq_getElem hi
      walk_at "go"
      refine ⟨rfl, ?_⟩
      walk_at "go"
      refine ⟨x, t[i], rfl, RowV.kt (hx i x _ hxi hri) (Kt.of sm), (hs _ (List.getElem_mem hi)).1, (hs _ (List.getElem_mem hi)).2, fun H2 s2 => ?_⟩
      refine ⟨_, s2 _ _ hD', ?_, Same.updD (sm.trans s2) hD, ?_⟩
      · rw [List.length_map, List.length_map, List.length_take]
        exact small1000 (by omega)
      · rw [upd_same, List.take_add_one, hri, List.map_append, List.map_append]
        rfl
    · obtain ⟨sm, hD'⟩ := hP
      have e : t.take xs.length = t := List.take_of_length_le (by omega)
      rw [e] at hD'
      refine ⟨_, D, t.map rowT, rfl, rfl, .inl (SqL.of hD'), ?_, q _ sm⟩
      have h1 := sum_le (n := 40000) (ys := t.map rowT) fun y hy => by
        obtain ⟨a, ha, rfl⟩ := List.mem_map.mp hy
        exact rowT_ok (hs a ha).1 (hs a ha).2
      have h2 : (" / " : Str).length = 3 := by decide
      rw [List.length_map] at h1 ⊢
      rw [h2]
      omega
theorem ok__law_table_text {f : Addr} {fd : FuncData} (F : FnP K "_law_table_text" s__law_table_text f fd)
    {f__law_row_text : Addr} {fd__law_row_text : FuncData} (F__law_row_text : FnP K "_law_row_text" s__law_row_text f__law_row_text fd__law_row_text) (b__law_row_text : Binds K fd__law_row_text ["_law_row_here"] []) (g__law_row_text : mg "_law_row_text" = some (.ref f__law_row_text)) (G__law_row_text : FnOk P w K mg base CX0 2 f__law_row_text fd__law_row_text ["_law_row_here"] (sp__law_row_text K)) :
    FnOk P w K mg base CX0 3 f fd ["_law_table"] (sp__law_table_text K) := by
  refine F.ok sc__law_table_text (fun vs H Q E h => ?_) (fun cdv A outer s H vs Q E hr h => ?_)
  · obtain ⟨v, t, rfl, hv, hs, hl, q⟩ := h
    rfl
  · obtain ⟨v, t, rfl, hv, hs, hl, q⟩ := h
    refine ⟨_, PSs.nox (pss_one (ps_ret (pe_join pe_str (pe_lc (own := [("_law_row_here", 1)]) (g := gName 1) (tt := tYes) (by rfl) sc__law_table_text.nd (pi_tup (pv 0)) (blkOk_by (own := [("_law_row_here", 1)]) (N := ["_law_table", "_law_row_here"]) (sc := defScope s__law_table_text) (by decide +kernel)) (fun _ _ _ _ _ => (pg_name (i := 1) sc__law_table_text.nd rfl (.inl rfl))) (fun _ _ _ _ _ => pts_nil) (fun _ _ _ _ _ => (pe_call G__law_row_text hr (by rfl) g__law_row_text F__law_row_text.kp b__law_row_text .nil pass0 (pa_cons (pv 1) pa_nil))))))), ?_⟩
    obtain ⟨p, xs, rfl, hp, hlx, hx⟩ := hv
    walk_at "go"
    refine ⟨⟨_, rfl⟩, ?_⟩
    walk_at "go"
    refine ⟨p, rfl, ⟨xs, SqT.of hp⟩, fun D hD => ?_⟩
    refine lc_tup (xs := xs) (fun i H' => Same H H' ∧ H' D = some (.lst (((t.take i).map rowT).map V.str))) ⟨Same.updD (Same.refl H) hD, upd_same⟩ (fun i H' _ hP => SqT.of (hP.1 _ _ hp)) (fun i x H' hxi hP => ?_) (fun H' hP => ?_)
    · obtain ⟨sm, hD'⟩ := hP
      have hi : i < t.length := by
        have := (List.getElem?_eq_some_iff.mp hxi).1
        omega
      have hri : t[i]? = some t[i] := List.getElem?_eq_getElem hi
      walk_at "go"
      refine ⟨rfl, ?_⟩
      walk_at "go"
      refine ⟨x, t[i], rfl, RowV.kt (hx i x _ hxi hri) (Kt.of sm), (hs _ (List.getElem_mem hi)).1, (hs _ (List.getElem_mem hi)).2, fun H2 s2 => ?_⟩
      refine ⟨_, s2 _ _ hD', ?_, Same.updD (sm.trans s2) hD, ?_⟩
      · rw [List.length_map, List.length_map, List.length_take]
        exact small1000 (by omega)
      · rw [upd_same, List.take_add_one, hri, List.map_append, List.map_append]
        rfl
    · obtain ⟨sm, hD'⟩ := hP
      have e : t.take xs.length = t := List.take_of_length_le (by omega)
      rw [e] at hD'
      refine ⟨_, D, t.map rowT, rfl, rfl, .inl (SqL.of hD'), ?_, q _ sm⟩
      have h1 := sum_le (n := 40000) (ys := t.map rowT) fun y hy => by
        obtain ⟨a, ha, rfl⟩ := List.mem_map.mp hy
        exact rowT_ok (hs a ha).1 (hs a ha).2
      have h2 : (" / " : Str).length = 3 := by decide
      rw [List.length_map] at h1 ⊢
      rw [h2]
      omega
theorem ok__law_any_number {f : Addr} {fd : FuncData} (F : FnP K "_law_any_number" s__law_any_number f fd)
    {f__law_whole_draw : Addr} {fd__law_whole_draw : FuncData} (F__law_whole_draw : FnP K "_law_whole_draw" s__law_whole_draw f__law_whole_draw fd__law_whole_draw) (b__law_whole_draw : Binds K fd__law_whole_draw ["_law_bag_here"] []) (g__law_whole_draw : mg "_law_whole_draw" = some (.ref f__law_whole_draw)) (G__law_whole_draw : FnOk P w K mg base CX0 2 f__law_whole_draw fd__law_whole_draw ["_law_bag_here"] (sp__law_whole_draw K))
    {f__law_low : Addr} {fd__law_low : FuncData} (F__law_low : FnP K "_law_low" s__law_low f__law_low fd__law_low) (b__law_low : Binds K fd__law_low ["_law_g", "_law_up", "_law_down"] []) (g__law_low : mg "_law_low" = some (.ref f__law_low)) (G__law_low : FnOk P w K mg base CX0 2 f__law_low fd__law_low ["_law_g", "_law_up", "_law_down"] (sp__law_low K)) :
    FnOk P w K mg base CX0 3 f fd ["_law_bag_here", "_law_g"] (sp__law_any_number K) := by
  refine F.ok sc__law_any_number (fun vs H Q E h => ?_) (fun cdv A outer s H vs Q E hr h => ?_)
  · obtain ⟨b, g, rfl, hg0, hg, hb, q⟩ := h
    rfl
  · obtain ⟨b, g, rfl, hg0, hg, hb, q⟩ := h
    refine ⟨_, PSs.nox (pss_cons (ps_set (i := 2) sc__law_any_number.nd rfl (.inl rfl) (pe_call G__law_whole_draw hr (by rfl) g__law_whole_draw F__law_whole_draw.kp b__law_whole_draw .nil pass0 (pa_cons (pv 0) pa_nil)))
        (pss_cons (ps_if (PW.pt (pw_or (pt_cmpR op_eq (pv 2) pe_int (nomark _)) (pw_or1 (PW.pt (pw_and (pt_cmpR op_gt (pv 1) pe_int (nomark _)) (pw_and1 (pt_cmpR op_eq (pe_op op_modN (pv 2) (pv 1)) pe_int (nomark _)))))))) (pss_one (ps_set (i := 2) sc__law_any_number.nd rfl (.inl rfl) pe_int)) pss_nil)
        (pss_one (ps_ret (pe_call G__law_low hr (by rfl) g__law_low F__law_low.kp b__law_low .nil pass0 (pa_cons (pv 1) (pa_cons (pe_call G__law_whole_draw hr (by rfl) g__law_whole_draw F__law_whole_draw.kp b__law_whole_draw .nil pass0 (pa_cons (pv 0) pa_nil)) (pa_cons (pv 2) pa_nil)))))))), ?_⟩
    walk_at "go"
    refine ⟨b, rfl, hb, fun H1 dn hdn m1 hb1 => ?_⟩
    walk_at "go"
    refine w_ite (fun hc => ?a) (fun hc => ?b)
    case' a =>
      walk_at "go"
      have hx : (1 : Int) ≠ 0 ∧ (1 : Int).natAbs < 2 ^ 320 := ⟨by decide, by decide +kernel⟩
      generalize (1 : Int) = dd at hx ⊢
    case' b =>
      walk_at "go"
      refine w_ite (fun hc2 => ?c) (fun hc2 => ?d)
    case' c =>
      walk_at "go"
      refine w_I (by omega) ?_
      walk_at "go"
      refine w_ite (fun hc3 => ?e) (fun hc3 => ?f)
    case' e =>
      walk_at "go"
      have hx : (1 : Int) ≠ 0 ∧ (1 : Int).natAbs < 2 ^ 320 := ⟨by decide, by decide +kernel⟩
      generalize (1 : Int) = dd at hx ⊢
    case' f =>
      walk_at "go"
      have hx : dn ≠ 0 ∧ dn.natAbs < 2 ^ 320 := ⟨hc, hdn⟩
      generalize hdd : dn = dd at hx ⊢
    case' d =>
      walk_at "go"
      have hx : dn ≠ 0 ∧ dn.natAbs < 2 ^ 320 := ⟨hc, hdn⟩
      generalize hdd : dn = dd at hx ⊢
    all_goals
      walk_at "go"
      refine ⟨b, rfl, hb1, fun H2 up hup m2 hb2 => ?_⟩
      walk_at "go"
      refine ⟨g, up, _, rfl, hg0, hg, hx.1, Nat.lt_of_lt_of_le hx.2 (Nat.pow_le_pow_right (by decide) (by decide)), fun p H3 hp s3 h3 => ?_⟩
      have hl := low_bd (g := g) (u := up) hg hx.1 (by decide) hup hx.2
      exact q _ _ ⟨p, _, _, rfl, h3, hl.1, hl.2.1, hl.2.2⟩ (m1.trans (m2.trans (Mv.same s3))) (hb2.same s3)
theorem ok__law_number {f : Addr} {fd : FuncData} (F : FnP K "_law_number" s__law_number f fd)
    {f__law_low : Addr} {fd__law_low : FuncData} (F__law_low : FnP K "_law_low" s__law_low f__law_low fd__law_low) (b__law_low : Binds K fd__law_low ["_law_g", "_law_up", "_law_down"] []) (g__law_low : mg "_law_low" = some (.ref f__law_low)) (G__law_low : FnOk P w K mg base CX0 2 f__law_low fd__law_low ["_law_g", "_law_up", "_law_down"] (sp__law_low K))
    {f__law_take : Addr} {fd__law_take : FuncData} (F__law_take : FnP K "_law_take" s__law_take f__law_take fd__law_take) (b__law_take : Binds K fd__law_take ["_law_bag_here", "_law_many"] []) (g__law_take : mg "_law_take" = some (.ref f__law_take)) (G__law_take : FnOk P w K mg base CX0 1 f__law_take fd__law_take ["_law_bag_here", "_law_many"] (sp__law_take K)) :
    FnOk P w K mg base CX0 3 f fd ["_law_bag_here", "_law_g"] (sp__law_number K) := by
  refine F.ok sc__law_number (fun vs H Q E h => ?_) (fun cdv A outer s H vs Q E hr h => ?_)
  · obtain ⟨b, g, rfl, hg0, hg, hb, q⟩ := h
    rfl
  · obtain ⟨b, g, rfl, hg0, hg, hb, q⟩ := h
    refine ⟨_, PSs.nox (pss_cons (ps_if (pt_cmpR op_gt (pv 1) pe_int (nomark _)) (pss_one (ps_ret (pe_tup (pa_cons (pe_call G__law_take (hr.mono (by decide)) (by rfl) g__law_take F__law_take.kp b__law_take .nil pass0 (pa_cons (pv 0) (pa_cons (pv 1) pa_nil))) (pa_cons pe_int pa_nil))))) pss_nil)
        (pss_cons (ps_set (i := 2) sc__law_number.nd rfl (.inl rfl) (pe_ix ix_list (pe_lst (pa_cons pe_int (pa_cons pe_int (pa_cons pe_int (pa_cons pe_int (pa_cons pe_int (pa_cons pe_int pa_nil))))))) (pe_call G__law_take (hr.mono (by decide)) (by rfl) g__law_take F__law_take.kp b__law_take .nil pass0 (pa_cons (pv 0) (pa_cons pe_int pa_nil))) (fun _ _ => rfl)))
        (pss_cons (ps_set (i := 3) sc__law_number.nd rfl (.inl rfl) (pe_ix ix_list (pe_lst (pa_cons pe_int (pa_cons pe_int (pa_cons pe_int (pa_cons (pe_op op_add pe_int (pe_call G__law_take (hr.mono (by decide)) (by rfl) g__law_take F__law_take.kp b__law_take .nil pass0 (pa_cons (pv 0) (pa_cons pe_int pa_nil)))) pa_nil))))) (pe_call G__law_take (hr.mono (by decide)) (by rfl) g__law_take F__law_take.kp b__law_take .nil pass0 (pa_cons (pv 0) (pa_cons pe_int pa_nil))) (fun _ _ => rfl)))
        (pss_one (ps_ret (pe_call G__law_low hr (by rfl) g__law_low F__law_low.kp b__law_low .nil pass0 (pa_cons pe_int (pa_cons (pe_op op_sub (pe_call G__law_take (hr.mono (by decide)) (by rfl) g__law_take F__law_take.kp b__law_take .nil pass0 (pa_cons (pv 0) (pa_cons (pv 2) pa_nil))) (pe_op op_fdivZ (pv 2) pe_int)) (pa_cons (pv 3) pa_nil))))))))), ?_⟩
    walk_at "go"
    refine w_ite (fun hc => ?_) (fun hc => ?_)
    · walk_at "go"
      refine ⟨b, g, rfl, hc, by omega, hb, fun H1 d hd0 hd1 m1 hb1 => ?_⟩
      walk_at "go"
      refine w_new (by simp) fun p H2 hp s2 h2 => ?_
      refine q _ _ ⟨p, d, 1, rfl, h2, ?_, ?_, by decide⟩ (m1.trans (Mv.same s2)) (hb1.same s2)
      · omega
      · decide
    · walk_at "go"
      refine w_new (by simp) fun p1 H1 hp1 s1 h1 => ?_
      walk_at "go"
      refine ⟨b, 6, rfl, by decide, by decide, hb.same s1, fun H2 d2 h20 h21 m2 hb2 => ?_⟩
      obtain ⟨wd, ew, hw0, hw1⟩ := nu_six h20 h21
      refine w_ixL (m2 _ _ (bag_ne hb hp1) h1) ew ?_
      walk_at "go"
      refine ⟨b, 8, rfl, by decide, by decide, hb2, fun H3 d3 h30 h31 m3 hb3 => ?_⟩
      walk_at "go"
      refine w_new (by simp) fun p4 H4 hp4 s4 h4 => ?_
      walk_at "go"
      refine ⟨b, 4, rfl, by decide, by decide, hb3.same s4, fun H5 d5 h50 h51 m5 hb5 => ?_⟩
      obtain ⟨dn, ed, hdn0, hdn1⟩ := nu_four h50 h51 h30 h31
      refine w_ixL (m5 _ _ (bag_ne hb3 hp4) h4) ed ?_
      walk_at "go"
      refine ⟨b, wd, rfl, by omega, by omega, hb5, fun H6 d6 h60 h61 m6 hb6 => ?_⟩
      walk_at "go"
      refine w_I (divZ_small (by decide) (by decide)) ?_
      walk_at "go"
      refine ⟨0, _, dn, rfl, by decide, by decide, by omega, Nat.lt_of_lt_of_le (show dn.natAbs < 2 ^ 7 by omega) (Nat.pow_le_pow_right (by decide) (by decide)), fun p H7 hp s7 h7 => ?_⟩
      have hu : (d6 - wd.fdiv 2).natAbs < 2 ^ 7 := by
        rw [fdiv_pos _ (by decide)]
        omega
      have hl := low_bd (g := 0) (k := 7) (u := d6 - wd.fdiv 2) (d := dn) (by decide) (by omega) (by decide) hu (by omega)
      exact q _ _ ⟨p, _, _, rfl, h7, hl.1, hl.2.1, hl.2.2⟩ ((Mv.same s1).trans (m2.trans (m3.trans ((Mv.same s4).trans (m5.trans (m6.trans (Mv.same s7))))))) (hb6.same s7)
theorem ok__law_plus {f : Addr} {fd : FuncData} (F : FnP K "_law_plus" s__law_plus f fd)
    {f__law_low : Addr} {fd__law_low : FuncData} (F__law_low : FnP K "_law_low" s__law_low f__law_low fd__law_low) (b__law_low : Binds K fd__law_low ["_law_g", "_law_up", "_law_down"] []) (g__law_low : mg "_law_low" = some (.ref f__law_low)) (G__law_low : FnOk P w K mg base CX0 2 f__law_low fd__law_low ["_law_g", "_law_up", "_law_down"] (sp__law_low K)) :
    FnOk P w K mg base CX0 3 f fd ["_law_g", "_law_x", "_law_y"] (sp__law_plus K) := by
  refine F.ok sc__law_plus (fun vs H Q E h => ?_) (fun cdv A outer s H vs Q E hr h => ?_)
  · obtain ⟨g, x, y, k, rfl, hg0, hg, hx, hy, hk, hk2, q⟩ := h
    rfl
  · obtain ⟨g, x, y, k, rfl, hg0, hg, hx, hy, hk, hk2, q⟩ := h
    refine ⟨_, PSs.nox (pss_one (ps_ret (pe_call G__law_low hr (by rfl) g__law_low F__law_low.kp b__law_low .nil pass0 (pa_cons (pv 0) (pa_cons (pe_op op_add (pe_op op_mulW (pe_ix ix_tup (pv 1) pe_int (fun _ _ => rfl)) (pe_ix ix_tup (pv 2) pe_int (fun _ _ => rfl))) (pe_op op_mulW (pe_ix ix_tup (pv 2) pe_int (fun _ _ => rfl)) (pe_ix ix_tup (pv 1) pe_int (fun _ _ => rfl)))) (pa_cons (pe_op op_mulW (pe_ix ix_tup (pv 1) pe_int (fun _ _ => rfl)) (pe_ix ix_tup (pv 2) pe_int (fun _ _ => rfl))) pa_nil)))))), ?_⟩
    obtain ⟨px, x0, x1, rfl, hpx, hx0, hx1, hxn⟩ := hx
    obtain ⟨py, y0, y1, rfl, hpy, hy0, hy1, hyn⟩ := hy
    walk_at "go"
    refine w_I (mulW_of hx0 hy1 hk hk2) ?_
    walk_at "go"
    refine w_I (mulW_of hy0 hx1 hk hk2) ?_
    walk_at "go"
    refine w_I (mulW_of hx1 hy1 hk hk2) ?_
    walk_at "go"
    have hn : x1 * y1 ≠ 0 := Int.mul_ne_zero hxn hyn
    have hb1 : (x0 * y1 + y0 * x1).natAbs < 2 ^ (2 * k + 1) := by
      have := add_lt (wide_lt hx0 hy1) (wide_lt hy0 hx1)
      rw [show k + k = 2 * k by omega] at this
      exact this
    have hb2 : (x1 * y1).natAbs < 2 ^ (2 * k + 1) := Nat.lt_of_lt_of_le (wide_lt hx1 hy1) (Nat.pow_le_pow_right (by decide) (by omega))
    refine ⟨g, _, _, rfl, hg0, hg, hn, Nat.lt_of_lt_of_le hb2 (Nat.pow_le_pow_right (by decide) (by omega)), fun p H1 hp s1 h1 => ?_⟩
    have hl := low_bd (g := g) hg hn (by omega) hb1 hb2
    exact q _ _ ⟨p, _, _, rfl, h1, hl.1, hl.2.1, hl.2.2⟩ s1
theorem ok__law_row {f : Addr} {fd : FuncData} (F : FnP K "_law_row" s__law_row f fd)
    {f__law_number : Addr} {fd__law_number : FuncData} (F__law_number : FnP K "_law_number" s__law_number f__law_number fd__law_number) (b__law_number : Binds K fd__law_number ["_law_bag_here", "_law_g"] []) (g__law_number : mg "_law_number" = some (.ref f__law_number)) (G__law_number : FnOk P w K mg base CX0 3 f__law_number fd__law_number ["_law_bag_here", "_law_g"] (sp__law_number K)) (m_tuple : mg "tuple" = none) (m_range : mg "range" = none) :
    FnOk P w K mg base CX0 4 f fd ["_law_bag_here", "_law_g", "_law_many"] (sp__law_row K) := by
  refine F.ok sc__law_row (fun vs H Q E h => ?_) (fun cdv A outer s H vs Q E hr h => ?_)
  · obtain ⟨b, g, m, rfl, hg0, hg, hm0, hm, hb, q⟩ := h
    rfl
  · obtain ⟨b, g, m, rfl, hg0, hg, hm0, hm, hb, q⟩ := h
    refine ⟨_, PSs.nox (pss_one (ps_ret (pe_callTy call_tuple_of (by rfl) m_tuple (by decide +kernel) (pa_cons (pe_lc (own := [("_law_k", 3)]) (g := gName 3) (tt := tYes) (by rfl) sc__law_row.nd (pi_range1 (by rfl) m_range (pa_cons (pv 2) pa_nil)) (blkOk_by (own := [("_law_k", 3)]) (N := ["_law_bag_here", "_law_g", "_law_many", "_law_k"]) (sc := defScope s__law_row) (by decide +kernel)) (fun _ _ _ _ _ => (pg_name (i := 3) sc__law_row.nd rfl (.inl rfl))) (fun _ _ _ _ _ => pts_nil) (fun _ _ _ _ _ => (pe_call G__law_number hr (by rfl) g__law_number F__law_number.kp b__law_number .nil pass0 (pa_cons (pv 0) (pa_cons (pv 1) pa_nil))))) pa_nil)))), ?_⟩
    walk_at "go"
    refine ⟨by omega, by omega, fun D hD => ?_⟩
    have nD := bag_ne hb hD
    refine lc_range (fun i H' => Mv b H H' ∧ Bag H' b ∧ ∃ xs : List V, H' D = some (.lst xs) ∧ xs.length = i ∧ ∀ x ∈ xs, NumB H' x 7) ⟨(Mv.refl b H).updD hD, hb.upd nD, [], upd_same, rfl, fun x hx => nomatch hx⟩ (fun i H' hi hP => ?_) (fun H' hP => ?_)
    · obtain ⟨mv, hbi, xs, hxs, hl, hx⟩ := hP
      walk_at "go"
      refine ⟨rfl, ?_⟩
      walk_at "go"
      refine ⟨b, g, rfl, hg0, hg, hbi, fun H2 v hv m2 hb2 => ?_⟩
      have h2D := m2 _ _ nD hxs
      refine ⟨xs, h2D, small1000 (by omega), (mv.trans m2).updD hD, hb2.upd nD, xs ++ [v], upd_same, by rw [List.length_append, hl]; rfl, fun x hx' => ?_⟩
      rcases List.mem_append.mp hx' with h | h
      · exact ((hx x h).kt (m2.kt hbi)).kt (Kt.updL h2D)
      · rw [List.mem_singleton.mp h]
        exact hv.kt (Kt.updL h2D)
    · obtain ⟨mv, hbi, xs, hxs, hl, hx⟩ := hP
      walk_at "go"
      refine ⟨D, xs, rfl, .inl ⟨SqL.of hxs, fun l hl' => ?_⟩⟩
      exact q _ _ ⟨l, xs, rfl, upd_same, hl, fun x h => (hx x h).kt (Kt.of (same_upd hl'))⟩ (mv.trans (Mv.same (same_upd hl'))) (hbi.same (same_upd hl'))
theorem ok__law_added {f : Addr} {fd : FuncData} (F : FnP K "_law_added" s__law_added f fd)
    {f__law_plus : Addr} {fd__law_plus : FuncData} (F__law_plus : FnP K "_law_plus" s__law_plus f__law_plus fd__law_plus) (b__law_plus : Binds K fd__law_plus ["_law_g", "_law_x", "_law_y"] []) (g__law_plus : mg "_law_plus" = some (.ref f__law_plus)) (G__law_plus : FnOk P w K mg base CX0 3 f__law_plus fd__law_plus ["_law_g", "_law_x", "_law_y"] (sp__law_plus K)) (m_tuple : mg "tuple" = none) (m_zip : mg "zip" = none) :
    FnOk P w K mg base CX0 4 f fd ["_law_g", "_law_row_here", "_law_other"] (sp__law_added K) := by
  refine F.ok sc__law_added (fun vs H Q E h => ?_) (fun cdv A outer s H vs Q E hr h => ?_)
  · obtain ⟨g, x, y, n, k, rfl, hg0, hg, hx, hy, hn, hk, hk2, q⟩ := h
    rfl
  · obtain ⟨g, x, y, n, k, rfl, hg0, hg, hx, hy, hn, hk, hk2, q⟩ := h
    refine ⟨_, PSs.nox (pss_one (ps_ret (pe_callTy call_tuple_of (by rfl) m_tuple (by decide +kernel) (pa_cons (pe_lc (own := [("_law_one", 3), ("_law_two", 4)]) (g := gTup K 2 (gCons (gName 3) (gCons (gName 4) (gNil)))) (tt := tYes) (by rfl) sc__law_added.nd (RZ.pi_zipA (by rfl) m_zip (pa_cons (pv 1) (pa_cons (pv 2) pa_nil))) (blkOk_by (own := [("_law_one", 3), ("_law_two", 4)]) (N := ["_law_g", "_law_row_here", "_law_other", "_law_one", "_law_two"]) (sc := defScope s__law_added) (by decide +kernel)) (fun _ _ _ _ _ => (pg_tup rfl (pgs_cons (pg_name (i := 3) sc__law_added.nd rfl (.inl rfl)) (pgs_cons (pg_name (i := 4) sc__law_added.nd rfl (.inl rfl)) pgs_nil)))) (fun _ _ _ _ _ => pts_nil) (fun _ _ _ _ _ => (pe_call G__law_plus hr (by rfl) g__law_plus F__law_plus.kp b__law_plus .nil pass0 (pa_cons (pv 0) (pa_cons (pv 3) (pa_cons (pv 4) pa_nil)))))) pa_nil)))), ?_⟩
    obtain ⟨px, xs, rfl, hpx, hlx, hxs⟩ := hx
    obtain ⟨py, ys, rfl, hpy, hly, hys⟩ := hy
    walk_at "go"
    refine ⟨px, py, xs, ys, rfl, .inr ⟨SqT.of hpx, SqT.of hpy, fun D hD => ?_⟩⟩
    refine lc_it (walk_zipT (xs := xs) (ys := ys) (n := n) (by omega)) (fun i H' => Same H H' ∧ ∃ zs : List V, H' D = some (.lst zs) ∧ zs.length = i ∧ ∀ x ∈ zs, NumB H' x (2 * k + 1)) ⟨Same.updD (Same.refl H) hD, [], upd_same, rfl, fun x hx => nomatch hx⟩ (fun i H' _ hP => ⟨SqT.of (hP.1 _ _ hpx), SqT.of (hP.1 _ _ hpy)⟩) (fun i v H1 H2 hi hP hY => ?_) (fun H' hP => ?_)
    · obtain ⟨sm, zs, hzs, hl, hz⟩ := hP
      obtain ⟨T, u, v', rfl, hT, rfl, hu, hv⟩ := hY
      have s2 : Same H1 (upd H1 T (.tup [u, v'])) := same_upd hT
      have hTT : (upd H1 T (.tup [u, v'])) T = some (.tup [u, v']) := upd_same
      generalize upd H1 T (.tup [u, v']) = H2 at s2 hTT ⊢
      walk_at "go"
      refine ⟨rfl, ?_⟩
      walk_at "go"
      have s02 := sm.trans s2
      refine ⟨g, u, v', k, rfl, hg0, hg, (hxs u (List.mem_of_getElem? hu)).kt (Kt.of s02), (hys v' (List.mem_of_getElem? hv)).kt (Kt.of s02), hk, hk2, fun H3 r hr3 s3 => ?_⟩
      have h3D := s3 _ _ (s2 _ _ hzs)
      refine ⟨zs, h3D, small1000 (by omega), Same.updD (s02.trans s3) hD, zs ++ [r], upd_same, by rw [List.length_append, hl]; rfl, fun x hx' => ?_⟩
      rcases List.mem_append.mp hx' with h | h
      · exact ((hz x h).kt (Kt.of (s2.trans s3))).kt (Kt.updL h3D)
      · rw [List.mem_singleton.mp h]
        exact hr3.kt (Kt.updL h3D)
    · obtain ⟨sm, zs, hzs, hl, hz⟩ := hP
      walk_at "go"
      refine ⟨D, zs, rfl, .inl ⟨SqL.of hzs, fun l hl' => ?_⟩⟩
      exact q _ _ ⟨l, zs, rfl, upd_same, hl, fun x h => (hz x h).kt (Kt.of (same_upd hl'))⟩ (sm.trans (same_upd hl'))
theorem ok__law_is_told {f : Addr} {fd : FuncData} (F : FnP K "_law_is_told" s__law_is_told f fd)
    {f_show_number : Addr} {fd_show_number : FuncData} (F_show_number : FnP K "show_number" s_show_number f_show_number fd_show_number) (b_show_number : Binds K fd_show_number ["x"] []) (g_show_number : mg "show_number" = some (.ref f_show_number)) (G_show_number : FnOk P w K mg base CX0 1 f_show_number fd_show_number ["x"] (sp_show_number K))
    {f_show_row : Addr} {fd_show_row : FuncData} (F_show_row : FnP K "show_row" s_show_row f_show_row fd_show_row) (b_show_row : Binds K fd_show_row ["row"] []) (g_show_row : mg "show_row" = some (.ref f_show_row)) (G_show_row : FnOk P w K mg base CX0 2 f_show_row fd_show_row ["row"] (sp_show_row K))
    {f_show_table : Addr} {fd_show_table : FuncData} (F_show_table : FnP K "show_table" s_show_table f_show_table fd_show_table) (b_show_table : Binds K fd_show_table ["table"] []) (g_show_table : mg "show_table" = some (.ref f_show_table)) (G_show_table : FnOk P w K mg base CX0 3 f_show_table fd_show_table ["table"] (sp_show_table K))
    {f__law_text : Addr} {fd__law_text : FuncData} (F__law_text : FnP K "_law_text" s__law_text f__law_text fd__law_text) (b__law_text : Binds K fd__law_text ["_law_x"] []) (g__law_text : mg "_law_text" = some (.ref f__law_text)) (G__law_text : FnOk P w K mg base CX0 1 f__law_text fd__law_text ["_law_x"] (sp__law_text K))
    {f__law_row_text : Addr} {fd__law_row_text : FuncData} (F__law_row_text : FnP K "_law_row_text" s__law_row_text f__law_row_text fd__law_row_text) (b__law_row_text : Binds K fd__law_row_text ["_law_row_here"] []) (g__law_row_text : mg "_law_row_text" = some (.ref f__law_row_text)) (G__law_row_text : FnOk P w K mg base CX0 2 f__law_row_text fd__law_row_text ["_law_row_here"] (sp__law_row_text K))
    {f__law_table_text : Addr} {fd__law_table_text : FuncData} (F__law_table_text : FnP K "_law_table_text" s__law_table_text f__law_table_text fd__law_table_text) (b__law_table_text : Binds K fd__law_table_text ["_law_table"] []) (g__law_table_text : mg "_law_table_text" = some (.ref f__law_table_text)) (G__law_table_text : FnOk P w K mg base CX0 3 f__law_table_text fd__law_table_text ["_law_table"] (sp__law_table_text K)) (m_all : mg "all" = none) (m_isinstance : mg "isinstance" = none) (m_str : mg "str" = none) :
    FnOk P w K mg base CX0 4 f fd ["_law_x", "_law_row_here", "_law_table"] (sp__law_is_told K) := by
  refine F.ok sc__law_is_told (fun vs H Q E h => ?_) (fun cdv A outer s H vs Q E hr h => ?_)
  · obtain ⟨x, r, t, rfl, ⟨a, hx, ha⟩, ⟨rs, hr1, hr2, hr3⟩, ⟨ts, ht1, ht2, ht3⟩, q⟩ := h
    rfl
  · obtain ⟨x, r, t, rfl, ⟨a, hx, ha⟩, ⟨rs, hr1, hr2, hr3⟩, ⟨ts, ht1, ht2, ht3⟩, q⟩ := h
    refine ⟨_, PSs.nox (pss_cons (ps_set (i := 3) sc__law_is_told.nd rfl (.inl rfl) (pe_lst (pa_cons (pe_call G_show_number (hr.mono (by decide)) (by rfl) g_show_number F_show_number.kp b_show_number .nil pass0 (pa_cons (pv 0) pa_nil)) (pa_cons (pe_call G_show_row (hr.mono (by decide)) (by rfl) g_show_row F_show_row.kp b_show_row .nil pass0 (pa_cons (pv 1) pa_nil)) (pa_cons (pe_call G_show_table hr (by rfl) g_show_table F_show_table.kp b_show_table .nil pass0 (pa_cons (pv 2) pa_nil)) pa_nil)))))
        (pss_cons (ps_if (pt_cmpR (op_neD hr.units) (pv 3) (pe_lst (pa_cons (pe_call G__law_text (hr.mono (by decide)) (by rfl) g__law_text F__law_text.kp b__law_text .nil pass0 (pa_cons (pv 0) pa_nil)) (pa_cons (pe_call G__law_row_text (hr.mono (by decide)) (by rfl) g__law_row_text F__law_row_text.kp b__law_row_text .nil pass0 (pa_cons (pv 1) pa_nil)) (pa_cons (pe_call G__law_table_text hr (by rfl) g__law_table_text F__law_table_text.kp b__law_table_text .nil pass0 (pa_cons (pv 2) pa_nil)) pa_nil)))) (nomark _)) (pss_one (ps_ret pe_bl)) pss_nil)
        (pss_one (ps_ret (pe_callB (cr_all rfl) (by rfl) m_all (by decide +kernel) (pa_cons (pe_lc (own := [("_law_text_here", 4)]) (g := gName 4) (tt := tYes) (by rfl) sc__law_is_told.nd (pi_list (pv 3)) (blkOk_by (own := [("_law_text_here", 4)]) (N := ["_law_x", "_law_row_here", "_law_table", "_law_told", "_law_text_here"]) (sc := defScope s__law_is_told) (by decide +kernel)) (fun _ _ _ _ _ => (pg_name (i := 4) sc__law_is_told.nd rfl (.inl rfl))) (fun _ _ _ _ _ => pts_nil) (fun _ _ _ _ _ => (pe_callB (r := rIsi K) call_isi (by rfl) m_isinstance (by decide +kernel) (pa_cons (pv 4) (pa_cons (pe_bltn (v := .ty "str") (by rfl) m_str (by decide +kernel) rfl) pa_nil))))) pa_nil)))))), ?_⟩
    walk_at "go"
    refine ⟨x, a, rfl, hx, ha, ?_⟩
    walk_at "go"
    refine ⟨r, rs, rfl, hr1, hr2, hr3, fun H1 s1 => ?_⟩
    walk_at "go"
    refine ⟨t, ts, rfl, TabV.kt ht1 (Kt.of s1), ht2, ht3, fun H2 s2 => ?_⟩
    walk_at "go"
    refine w_new (by simp) fun L H3 hL s3 h3 => ?_
    walk_at "go"
    have s03 := s1.trans (s2.trans s3)
    refine ⟨x, a, rfl, hx.kt (Kt.of s03), ha, ?_⟩
    walk_at "go"
    refine ⟨r, rs, rfl, RowV.kt hr1 (Kt.of s03), hr2, hr3, fun H4 s4 => ?_⟩
    walk_at "go"
    refine ⟨t, ts, rfl, TabV.kt ht1 (Kt.of (s03.trans s4)), ht2, ht3, fun H5 s5 => ?_⟩
    walk_at "go"
    refine w_new (by simp) fun M H6 hM s6 h6 => ?_
    have h36 := s6 _ _ (s5 _ _ (s4 _ _ h3))
    have k1 := (numT_ok ha).2
    have k2 := (rowT_ok hr2 hr3).2
    have k3 := (tabT_ok ht2 ht3).2
    have hd : PyData.canLay0 (.list [.str (numT a), .str (rowT rs), .str (tabT ts)]) = true := by
      simp only [PyData.canLay0, PyData.canLayAll0, k1, k2, k3, Bool.and_self]
    have hdd : PyData.depth (.list [.str (numT a), .str (rowT rs), .str (tabT ts)]) ≤ 64 := by
      simp [PyData.depth, PyData.depthAll]
    refine ⟨.list [.str (numT a), .str (rowT rs), .str (tabT ts)], .list [.str (numT a), .str (rowT rs), .str (tabT ts)], .lst (SqL.of h36) (.cons (.str _) (.cons (.str _) (.cons (.str _) .nil))), .lst (SqL.of h6) (.cons (.str _) (.cons (.str _) (.cons (.str _) .nil))), shaped_of hd hdd, shaped_of hd hdd, ?_⟩
    rw [SeqAt.eqv_refl _ hd]
    walk_at "go"
    refine iteF ?_
    walk_at "go"
    refine ⟨L, rfl, ⟨_, SqL.of h36⟩, fun D hD => ?_⟩
    refine lc_list (xs := [V.str (numT a), V.str (rowT rs), V.str (tabT ts)]) (fun i H' => Same H6 H' ∧ H' D = some (.lst ((List.replicate i true).map V.bl))) ⟨Same.updD (Same.refl H6) hD, upd_same⟩ (fun i H' _ hP => SqL.of (hP.1 _ _ h36)) (fun i z H' hz hP => ?_) (fun H' hP => ?_)
    · obtain ⟨sm, hD'⟩ := hP
      obtain ⟨zz, rfl⟩ : ∃ zz, z = .str zz := by
        have := List.mem_of_getElem? hz
        simp only [List.mem_cons, List.not_mem_nil, or_false] at this
        rcases this with rfl | rfl | rfl <;> exact ⟨_, rfl⟩
      have hi : i < 3 := (List.getElem?_eq_some_iff.mp hz).1
      walk_at "go"
      refine ⟨rfl, ?_⟩
      walk_at "go"
      refine ⟨.str zz, .ty "str", .type "str", .type "str", true, rfl, .ty "str", .base (.str zz), kit_ty (by decide +kernel), ?_⟩
      refine ⟨_, hD', ?_, Same.updD sm hD, ?_⟩
      · rw [List.length_map, List.length_replicate]
        exact small1000 (by omega)
      · rw [upd_same, List.replicate_succ', List.map_append]
        rfl
    · obtain ⟨sm, hD'⟩ := hP
      walk_at "go"
      refine ⟨D, _, rfl, SqL.of hD', ?_⟩
      have e : (List.replicate [V.str (numT a), V.str (rowT rs), V.str (tabT ts)].length true).all id = true := rfl
      rw [e]
      exact q _ (s03.trans (s4.trans (s5.trans (s6.trans sm))))
theorem ok__law_rows {f : Addr} {fd : FuncData} (F : FnP K "_law_rows" s__law_rows f fd)
    {f__law_row : Addr} {fd__law_row : FuncData} (F__law_row : FnP K "_law_row" s__law_row f__law_row fd__law_row) (b__law_row : Binds K fd__law_row ["_law_bag_here", "_law_g", "_law_many"] []) (g__law_row : mg "_law_row" = some (.ref f__law_row)) (G__law_row : FnOk P w K mg base CX0 4 f__law_row fd__law_row ["_law_bag_here", "_law_g", "_law_many"] (sp__law_row K))
    {f__law_take : Addr} {fd__law_take : FuncData} (F__law_take : FnP K "_law_take" s__law_take f__law_take fd__law_take) (b__law_take : Binds K fd__law_take ["_law_bag_here", "_law_many"] []) (g__law_take : mg "_law_take" = some (.ref f__law_take)) (G__law_take : FnOk P w K mg base CX0 1 f__law_take fd__law_take ["_law_bag_here", "_law_many"] (sp__law_take K))
    {f__law_added : Addr} {fd__law_added : FuncData} (F__law_added : FnP K "_law_added" s__law_added f__law_added fd__law_added) (b__law_added : Binds K fd__law_added ["_law_g", "_law_row_here", "_law_other"] []) (g__law_added : mg "_law_added" = some (.ref f__law_added)) (G__law_added : FnOk P w K mg base CX0 4 f__law_added fd__law_added ["_law_g", "_law_row_here", "_law_other"] (sp__law_added K)) (m_range : mg "range" = none) (m_tuple : mg "tuple" = none) (m_len : mg "len" = none) :
    FnOk P w K mg base CX0 5 f fd ["_law_bag_here", "_law_g", "_law_high", "_law_wide"] (sp__law_rows K) := by
  refine F.ok sc__law_rows (fun vs H Q E h => ?_) (fun cdv A outer s H vs Q E hr h => ?_)
  · obtain ⟨b, g, hi, wi, rfl, hg0, hg, hh0, hh, hw0, hw, hb, q⟩ := h
    rfl
  · obtain ⟨b, g, hi, wi, rfl, hg0, hg, hh0, hh, hw0, hw, hb, q⟩ := h
    refine ⟨_, PSs.nox (pss_cons (ps_set (i := 4) sc__law_rows.nd rfl (.inl rfl) (pe_lst pa_nil))
        (pss_cons (ps_for PassesOwn.never rfl (pi_range1 (by rfl) m_range (pa_cons (pv 2) pa_nil)) (pg_name (i := 5) sc__law_rows.nd rfl (.inl rfl)) (pss_cons (ps_set (i := 6) sc__law_rows.nd rfl (.inl rfl) (pe_call G__law_row hr (by rfl) g__law_row F__law_row.kp b__law_row .nil pass0 (pa_cons (pv 0) (pa_cons (pv 1) (pa_cons (pv 3) pa_nil)))))
        (pss_cons (ps_set (i := 7) sc__law_rows.nd rfl (.inl rfl) (pe_call G__law_take (hr.mono (by decide)) (by rfl) g__law_take F__law_take.kp b__law_take .nil pass0 (pa_cons (pv 0) (pa_cons pe_int pa_nil))))
        (pss_cons (ps_if (pt_cmpR op_eq (pv 7) pe_int (nomark _)) (pss_one (ps_set (i := 6) sc__law_rows.nd rfl (.inl rfl) (pe_callTy call_tuple_of (by rfl) m_tuple (by decide +kernel) (pa_cons (pe_op op_rep (pe_lst (pa_cons (pe_tup (pa_cons pe_int (pa_cons pe_int pa_nil))) pa_nil)) (pv 3)) pa_nil)))) pss_nil)
        (pss_cons (ps_if (PW.pt (pw_and (pt_cmpR op_eq (pv 7) pe_int (nomark _)) (pw_and1 (pt_cmpR (op_neD hr.units) (pv 4) (pe_lst pa_nil) (nomark _))))) (pss_one (ps_set (i := 6) sc__law_rows.nd rfl (.inl rfl) (pe_call G__law_added hr (by rfl) g__law_added F__law_added.kp b__law_added .nil pass0 (pa_cons (pv 1) (pa_cons (pe_ix ix_list (pv 4) (pe_call G__law_take (hr.mono (by decide)) (by rfl) g__law_take F__law_take.kp b__law_take .nil pass0 (pa_cons (pv 0) (pa_cons (pe_callB call_len_seq (by rfl) m_len (by decide +kernel) (pa_cons (pv 4) pa_nil)) pa_nil))) (fun _ _ => rfl)) (pa_cons (pe_ix ix_list (pv 4) (pe_un un_neg pe_int) (fun _ _ => rfl)) pa_nil)))))) pss_nil)
        (pss_one (ps_expr (pe_bm PySem.F.plainAttrs_list PySem.F.slot_list_append PySem.F.type_list_append mt_append (pv 4) (pa_cons (pv 6) pa_nil)))))))))
        (pss_one (ps_ret (pe_callTy call_tuple_of (by rfl) m_tuple (by decide +kernel) (pa_cons (pv 4) pa_nil)))))), ?_⟩
    walk_at "go"
    refine w_new (by simp) fun F H1 hF0 s1 hF1 => ?_
    walk_at "go"
    refine ⟨by omega, by omega, ?_⟩
    have nF := bag_ne hb hF0
    refine for_range (fun i σ H' => (∃ y5 y6 y7, σ = [some (.ref b), some (.int g), some (.int hi), some (.int wi), some (.ref F), y5, y6, y7]) ∧ Mv b H H' ∧ Bag H' b ∧ ∃ xs : List V, H' F = some (.lst xs) ∧ xs.length = i ∧ ∀ x ∈ xs, RowB H' x wi.toNat (kk i)) ⟨⟨_, _, _, rfl⟩, Mv.same s1, hb.same s1, [], hF1, rfl, fun x hx => nomatch hx⟩ (fun i σ H' hi' hP => ?_) (fun σ H' hP => ?_)
    · obtain ⟨⟨y5, y6, y7, rfl⟩, mv, hbi, xs, hxs, hl, hx⟩ := hP
      walk_at "go"
      refine ⟨b, g, wi, rfl, hg0, hg, by omega, by omega, hbi, fun H2 rw2 hr2 m2 hb2 => ?_⟩
      walk_at "go"
      refine ⟨b, 5, rfl, by decide, by decide, hb2, fun H3 wy h30 h31 m3 hb3 => ?_⟩
      walk_at "go"
      have mv3 := mv.trans (m2.trans m3)
      have kt3 : Kt H' H3 := (m2.kt hbi).trans (m3.kt hb2)
      have hF3 : H3 F = some (.lst xs) := m3 _ _ nF (m2 _ _ nF hxs)
      have hx3 : ∀ x ∈ xs, RowB H3 x wi.toNat (kk i) := fun x h => (hx x h).kt kt3
      have hr3 : RowB H3 rw2 wi.toNat 7 := hr2.kt (m3.kt hb2)
      have k7 := kk_pos (i + 1)
      refine w_ite (fun hc => ?_) (fun hc => ?_)
      · walk_at "go"
        refine w_new (by simp) fun u H4 hu s4 h4 => ?_
        walk_at "go"
        refine w_new (by simp) fun l H5 hl5 s5 h5 => ?_
        walk_at "go"
        refine w_rep h5 (by omega) (by omega) (by simp) ?_
        refine w_newO fun l6 H6 hl6 s6 h6 => ?_
        walk_at "go"
        refine ⟨_, _, rfl, .inl ⟨SqL.of h6, fun l7 hl7 => ?_⟩⟩
        have s7 := same_upd (o := .tup (List.replicate wi.toNat [V.ref u]).flatten) hl7
        have h7 : (upd H6 l7 (.tup (List.replicate wi.toNat [V.ref u]).flatten)) l7 = some (.tup (List.replicate wi.toNat [V.ref u]).flatten) := upd_same
        generalize upd H6 l7 (.tup (List.replicate wi.toNat [V.ref u]).flatten) = H7 at s7 h7 ⊢
        walk_at "go"
        have s37 := s4.trans (s5.trans (s6.trans s7))
        refine w_iteN' ?_ (show ¬ wy = 1 by omega)
        walk_at "go"
        refine ⟨.inl ⟨rfl, _, SqL.of (s37 _ _ hF3)⟩, ?_⟩
        walk_at "go"
        refine w_append (s37 _ _ hF3) (by omega) ?_
        exact ⟨⟨_, _, _, rfl⟩, rows_end (mv3.trans (Mv.same s37)) (hb3.same s37) hF0 nF (s37 _ _ hF3) hl (fun x h => (hx3 x h).kt (Kt.of s37)) ((RowB.zeros (s7 _ _ (s6 _ _ (s5 _ _ h4))) h7).mono k7)⟩
      · walk_at "go"
        refine w_ite (fun hc1 => ?_) (fun hc1 => ?_)
        · walk_at "go"
          refine w_new (by simp) fun u H4 hu s4 h4 => ?_
          walk_at "go"
          refine w_neNil (s4 _ _ hF3) h4 (fun x h => ((hx3 x h).kt (Kt.of s4)).dat) (by decide) ?_
          walk_at "go"
          refine w_iteN (fun hne => ?_) (fun hne => ?_)
          · walk_at "go"
            have hF4 := s4 _ _ hF3
            have hlen : 0 < xs.length := List.length_pos_iff.mpr hne
            refine ⟨F, xs, rfl, .inl (SqL.of hF4), ?_⟩
            walk_at "go"
            refine ⟨b, xs.length, rfl, by omega, by omega, hb3.same s4, fun H5 d h50 h51 m5 hb5 => ?_⟩
            have hF5 := m5 _ _ nF hF4
            have kt5 : Kt H3 H5 := (Kt.of s4).trans (m5.kt (hb3.same s4))
            obtain ⟨x1, hx1⟩ : ∃ x1, xs[d.toNat]? = some x1 := ⟨_, List.getElem?_eq_getElem (by omega)⟩
            have e1 : atI xs d = some x1 := by
              have := atI_nat hx1
              rw [show ((d.toNat : Nat) : Int) = d by omega] at this
              exact this
            refine w_ixL hF5 e1 ?_
            walk_at "go"
            obtain ⟨x2, hx2⟩ : ∃ x2, xs.getLast? = some x2 := ⟨_, List.getLast?_eq_some_getLast hne⟩
            have e2 : atI xs (-1) = some x2 := by
              obtain ⟨ys, rfl⟩ := List.getLast?_eq_some_iff.mp hx2
              exact atI_last _ _
            refine w_ixL hF5 e2 ?_
            walk_at "go"
            refine ⟨g, x1, x2, wi.toNat, kk i, rfl, hg0, hg, (hx3 x1 (List.mem_of_getElem? hx1)).kt kt5, (hx3 x2 (List.mem_of_getLast? hx2)).kt kt5, by omega, by have := kk_pos i; omega, by have := kk_le (i := i) (by omega); omega, fun H6 r6 hr6 s6 => ?_⟩
            walk_at "go"
            have hF6 := s6 _ _ hF5
            refine ⟨.inl ⟨rfl, _, SqL.of hF6⟩, ?_⟩
            walk_at "go"
            refine w_append hF6 (by omega) ?_
            rw [kk_succ] at hr6
            exact ⟨⟨_, _, _, rfl⟩, rows_end (mv3.trans ((Mv.same s4).trans (m5.trans (Mv.same s6)))) (hb5.same s6) hF0 nF hF6 hl (fun x h => ((hx3 x h).kt kt5).kt (Kt.of s6)) hr6⟩
          · walk_at "go"
            refine ⟨.inl ⟨rfl, _, SqL.of (s4 _ _ hF3)⟩, ?_⟩
            walk_at "go"
            refine w_append (s4 _ _ hF3) (by omega) ?_
            exact ⟨⟨_, _, _, rfl⟩, rows_end (mv3.trans (Mv.same s4)) (hb3.same s4) hF0 nF (s4 _ _ hF3) hl (fun x h => (hx3 x h).kt (Kt.of s4)) ((hr3.kt (Kt.of s4)).mono k7)⟩
        · walk_at "go"
          refine ⟨.inl ⟨rfl, _, SqL.of hF3⟩, ?_⟩
          walk_at "go"
          refine w_append hF3 (by omega) ?_
          exact ⟨⟨_, _, _, rfl⟩, rows_end mv3 hb3 hF0 nF hF3 hl hx3 (hr3.mono k7)⟩
    · obtain ⟨⟨y5, y6, y7, rfl⟩, mv, hbi, xs, hxs, hl, hx⟩ := hP
      walk_at "go"
      refine ⟨_, _, rfl, .inl ⟨SqL.of hxs, fun l hl2 => ?_⟩⟩
      have s2 := same_upd (o := .tup xs) hl2
      have h2 : (upd H' l (.tup xs)) l = some (.tup xs) := upd_same
      exact q _ _ ⟨l, xs, rfl, h2, hl, fun x h => ((hx x h).kt (Kt.of s2)).mono (kk_le (by omega))⟩ (mv.trans (Mv.same s2)) (hbi.same s2)
theorem ok_law {f : Addr} {fd : FuncData} (F : FnP K "law" s_law f fd)
    {f__law_bag : Addr} {fd__law_bag : FuncData} (F__law_bag : FnP K "_law_bag" s__law_bag f__law_bag fd__law_bag) (b__law_bag : Binds K fd__law_bag ["_law_script", "_law_at"] []) (g__law_bag : mg "_law_bag" = some (.ref f__law_bag)) (G__law_bag : FnOk P w K mg base CX0 1 f__law_bag fd__law_bag ["_law_script", "_law_at"] (sp__law_bag K))
    {f__law_ground : Addr} {fd__law_ground : FuncData} (F__law_ground : FnP K "_law_ground" s__law_ground f__law_ground fd__law_ground) (b__law_ground : Binds K fd__law_ground ["_law_bag_here"] []) (g__law_ground : mg "_law_ground" = some (.ref f__law_ground)) (G__law_ground : FnOk P w K mg base CX0 2 f__law_ground fd__law_ground ["_law_bag_here"] (sp__law_ground K))
    {f__law_any_number : Addr} {fd__law_any_number : FuncData} (F__law_any_number : FnP K "_law_any_number" s__law_any_number f__law_any_number fd__law_any_number) (b__law_any_number : Binds K fd__law_any_number ["_law_bag_here", "_law_g"] []) (g__law_any_number : mg "_law_any_number" = some (.ref f__law_any_number)) (G__law_any_number : FnOk P w K mg base CX0 3 f__law_any_number fd__law_any_number ["_law_bag_here", "_law_g"] (sp__law_any_number K))
    {f__law_rows : Addr} {fd__law_rows : FuncData} (F__law_rows : FnP K "_law_rows" s__law_rows f__law_rows fd__law_rows) (b__law_rows : Binds K fd__law_rows ["_law_bag_here", "_law_g", "_law_high", "_law_wide"] []) (g__law_rows : mg "_law_rows" = some (.ref f__law_rows)) (G__law_rows : FnOk P w K mg base CX0 5 f__law_rows fd__law_rows ["_law_bag_here", "_law_g", "_law_high", "_law_wide"] (sp__law_rows K))
    {f_show_table : Addr} {fd_show_table : FuncData} (F_show_table : FnP K "show_table" s_show_table f_show_table fd_show_table) (b_show_table : Binds K fd_show_table ["table"] []) (g_show_table : mg "show_table" = some (.ref f_show_table)) (G_show_table : FnOk P w K mg base CX0 3 f_show_table fd_show_table ["table"] (sp_show_table K))
    {f__law_take : Addr} {fd__law_take : FuncData} (F__law_take : FnP K "_law_take" s__law_take f__law_take fd__law_take) (b__law_take : Binds K fd__law_take ["_law_bag_here", "_law_many"] []) (g__law_take : mg "_law_take" = some (.ref f__law_take)) (G__law_take : FnOk P w K mg base CX0 1 f__law_take fd__law_take ["_law_bag_here", "_law_many"] (sp__law_take K))
    {f_show_number : Addr} {fd_show_number : FuncData} (F_show_number : FnP K "show_number" s_show_number f_show_number fd_show_number) (b_show_number : Binds K fd_show_number ["x"] []) (g_show_number : mg "show_number" = some (.ref f_show_number)) (G_show_number : FnOk P w K mg base CX0 1 f_show_number fd_show_number ["x"] (sp_show_number K))
    {f_show_row : Addr} {fd_show_row : FuncData} (F_show_row : FnP K "show_row" s_show_row f_show_row fd_show_row) (b_show_row : Binds K fd_show_row ["row"] []) (g_show_row : mg "show_row" = some (.ref f_show_row)) (G_show_row : FnOk P w K mg base CX0 2 f_show_row fd_show_row ["row"] (sp_show_row K))
    {f__law_is_told : Addr} {fd__law_is_told : FuncData} (F__law_is_told : FnP K "_law_is_told" s__law_is_told f__law_is_told fd__law_is_told) (b__law_is_told : Binds K fd__law_is_told ["_law_x", "_law_row_here", "_law_table"] []) (g__law_is_told : mg "_law_is_told" = some (.ref f__law_is_told)) (G__law_is_told : FnOk P w K mg base CX0 4 f__law_is_told fd__law_is_told ["_law_x", "_law_row_here", "_law_table"] (sp__law_is_told K)) (m_range : mg "range" = none) (m_max : mg "max" = none) (m_tuple : mg "tuple" = none) (m_all : mg "all" = none) (m_min : mg "min" = none) (m_len : mg "len" = none) :
    FnOk P w K mg base CX0 6 f fd ["_law_script"] (sp_law K) := by
  refine F.ok sc_law (fun vs H Q E h => ?_) (fun cdv A outer s H vs Q E hr h => ?_)
  · obtain ⟨a, ns, rfl, hA, q⟩ := h
    rfl
  · obtain ⟨a, ns, rfl, hA, q⟩ := h
    refine ⟨_, PSs.nox (pss_cons (ps_set (i := 1) sc_law.nd rfl (.inl rfl) (pe_lst pa_nil))
        (pss_cons (ps_for PassesOwn.never rfl (pi_range1 (by rfl) m_range (pa_cons (pe_callB (call_max2 rfl) (by rfl) m_max (by decide +kernel) (pa_cons pe_int (pa_cons (pe_callB (call_min2 rfl) (by rfl) m_min (by decide +kernel) (pa_cons pe_int (pa_cons (pe_callB call_len_seq (by rfl) m_len (by decide +kernel) (pa_cons (pv 0) pa_nil)) pa_nil))) pa_nil))) pa_nil)) (pg_name (i := 2) sc_law.nd rfl (.inl rfl)) (pss_cons (ps_set (i := 3) sc_law.nd rfl (.inr rfl) (pe_call G__law_bag (hr.mono (by decide)) (by rfl) g__law_bag F__law_bag.kp b__law_bag .nil pass0 (pa_cons (pv 0) (pa_cons (pv 2) pa_nil))))
        (pss_cons (ps_set (i := 4) sc_law.nd rfl (.inr rfl) (pe_call G__law_ground (hr.mono (by decide)) (by rfl) g__law_ground F__law_ground.kp b__law_ground .nil pass0 (pa_cons (pv 3) pa_nil)))
        (pss_cons (ps_set (i := 5) sc_law.nd rfl (.inl rfl) (pe_call G__law_any_number (hr.mono (by decide)) (by rfl) g__law_any_number F__law_any_number.kp b__law_any_number .nil pass0 (pa_cons (pv 3) (pa_cons (pv 4) pa_nil))))
        (pss_cons (ps_set (i := 6) sc_law.nd rfl (.inl rfl) (pe_op op_add pe_int (pe_call G__law_take (hr.mono (by decide)) (by rfl) g__law_take F__law_take.kp b__law_take .nil pass0 (pa_cons (pv 3) (pa_cons pe_int pa_nil)))))
        (pss_cons (ps_set (i := 7) sc_law.nd rfl (.inl rfl) (pe_call G__law_rows hr (by rfl) g__law_rows F__law_rows.kp b__law_rows .nil pass0 (pa_cons (pv 3) (pa_cons (pv 4) (pa_cons (pe_op op_add pe_int (pe_call G__law_take (hr.mono (by decide)) (by rfl) g__law_take F__law_take.kp b__law_take .nil pass0 (pa_cons (pv 3) (pa_cons pe_int pa_nil)))) (pa_cons (pv 6) pa_nil))))))
        (pss_cons (ps_set (i := 8) sc_law.nd rfl (.inl rfl) (pe_callTy call_tuple_of (by rfl) m_tuple (by decide +kernel) (pa_cons (pe_lc (own := [("_law_one", 9)]) (g := gName 9) (tt := tYes) (by rfl) sc_law.nd (pi_range1 (by rfl) m_range (pa_cons (pv 6) pa_nil)) (blkOk_by (own := [("_law_one", 9)]) (N := ["_law_script", "_law_some", "_law_k", "_law_bag_here", "_law_g", "_law_x", "_law_wide", "_law_table", "_law_row_here", "_law_one"]) (sc := defScope s_law) (by decide +kernel)) (fun _ _ _ _ _ => (pg_name (i := 9) sc_law.nd rfl (.inl rfl))) (fun _ _ _ _ _ => pts_nil) (fun _ _ _ _ _ => (pe_call G__law_any_number (hr.mono (by decide)) (by rfl) g__law_any_number F__law_any_number.kp b__law_any_number .nil pass0 (pa_cons (pv 3) (pa_cons (pv 4) pa_nil))))) pa_nil)))
        (pss_cons (ps_expr (pe_bm PySem.F.plainAttrs_list PySem.F.slot_list_append PySem.F.type_list_append mt_append (pv 1) (pa_cons (pe_tup (pa_cons (pv 5) (pa_cons (pv 8) (pa_cons (pv 7) pa_nil)))) pa_nil)))
        (pss_one (ps_expr (pe_bm PySem.F.plainAttrs_list PySem.F.slot_list_append PySem.F.type_list_append mt_append (pv 1) (pa_cons (pe_tup (pa_cons (pe_ix ix_tup (pe_ix ix_tup (pv 7) pe_int (fun _ _ => rfl)) pe_int (fun _ _ => rfl)) (pa_cons (pe_ix ix_tup (pv 7) (pe_un un_neg pe_int) (fun _ _ => rfl)) (pa_cons (pe_tup (pa_cons (pv 8) pa_nil)) pa_nil)))) pa_nil))))))))))))
        (pss_cons (ps_if (pt_not (pt_val (pe_callB (cr_all rfl) (by rfl) m_all (by decide +kernel) (pa_cons (pe_lc (own := [("_law_x", 5), ("_law_row_here", 8), ("_law_table", 7)]) (g := gTup K 3 (gCons (gName 5) (gCons (gName 8) (gCons (gName 7) (gNil))))) (tt := tYes) (by rfl) sc_law.nd (pi_list (pe_op op_cat (pv 1) (pe_revL (pv 1)))) (blkOk_by (own := [("_law_x", 5), ("_law_row_here", 8), ("_law_table", 7)]) (N := ["_law_script", "_law_some", "_law_k", "_law_bag_here", "_law_g", "_law_x", "_law_wide", "_law_table", "_law_row_here", "_law_one"]) (sc := defScope s_law) (by decide +kernel)) (fun _ _ _ _ _ => (pg_tup rfl (pgs_cons (pg_name (i := 5) sc_law.nd rfl (.inl rfl)) (pgs_cons (pg_name (i := 8) sc_law.nd rfl (.inl rfl)) (pgs_cons (pg_name (i := 7) sc_law.nd rfl (.inl rfl)) pgs_nil))))) (fun _ _ _ _ _ => pts_nil) (fun _ _ _ _ _ => (pe_call G__law_is_told (hr.mono (by decide)) (by rfl) g__law_is_told F__law_is_told.kp b__law_is_told .nil pass0 (pa_cons (pv 5) (pa_cons (pv 8) (pa_cons (pv 7) pa_nil)))))) pa_nil)))) (pss_one (ps_ret pe_bl)) pss_nil)
        (pss_cons (ps_if (pt_cmpR op_ne (pe_call G_show_table (hr.mono (by decide)) (by rfl) g_show_table F_show_table.kp b_show_table .nil pass0 (pa_cons (pe_tup (pa_cons (pe_tup (pa_cons (pe_tup (pa_cons pe_int (pa_cons pe_int pa_nil))) (pa_cons (pe_tup (pa_cons pe_int (pa_cons pe_int pa_nil))) pa_nil))) (pa_cons (pe_tup (pa_cons (pe_tup (pa_cons (pe_un un_neg pe_int) (pa_cons pe_int pa_nil))) (pa_cons (pe_tup (pa_cons pe_int (pa_cons pe_int pa_nil))) pa_nil))) pa_nil))) pa_nil)) pe_str (nomark _)) (pss_one (ps_ret pe_bl)) pss_nil)
        (pss_one (ps_ret (pe_and (pe_cmpR op_eq (pe_call G_show_number (hr.mono (by decide)) (by rfl) g_show_number F_show_number.kp b_show_number .nil pass0 (pa_cons (pe_tup (pa_cons (pe_un un_neg pe_int) (pa_cons pe_int pa_nil))) pa_nil)) pe_str (nomark _)) (pe_one (pe_cmpR op_eq (pe_call G_show_row (hr.mono (by decide)) (by rfl) g_show_row F_show_row.kp b_show_row .nil pass0 (pa_cons (pe_tup (pa_cons (pe_tup (pa_cons pe_int (pa_cons pe_int pa_nil))) pa_nil)) pa_nil)) pe_str (nomark _)))))))))), ?_⟩
    walk_at "go"
    refine w_new (by simp) fun S H1 hS0 s1 hS1 => ?_
    walk_at "go"
    refine ⟨a, _, rfl, .inl (s1.seq hA), ?_⟩
    walk_at "go"
    refine ⟨by split <;> (try split) <;> omega, by split <;> (try split) <;> omega, ?_⟩
    refine for_range (fun i σ H' => (∃ y2 y3 y4 y5 y6 y7 y8 y9, σ = [some (.ref a), some (.ref S), y2, y3, y4, y5, y6, y7, y8, y9]) ∧ Same H H' ∧ ∃ ys : List V, H' S = some (.lst ys) ∧ ys.length = 2 * i ∧ i ≤ 6 ∧ ∀ v ∈ ys, Tri H' v) ⟨⟨_, _, _, _, _, _, _, _, rfl⟩, s1, [], hS1, rfl, by decide, fun x hx => nomatch hx⟩ (fun i σ H' hi hP => ?_) (fun σ H' hP => ?_)
    · have hi6 : i < 6 := by
        revert hi
        split <;> (try split) <;> omega
      obtain ⟨⟨y2, y3, y4, y5, y6, y7, y8, y9, rfl⟩, sm, ys, hys, hl, _, hy⟩ := hP
      walk_at "go"
      refine ⟨a, ns, 0 + i, rfl, sm.seq hA, by omega, by omega, fun b H2 hb0 s2 hb2 => ?_⟩
      have nS : S ≠ b := fresh_of hys hb0
      have hb00 : H b = none := sm.free hb0
      walk_at "go"
      refine ⟨b, rfl, hb2, fun H3 g hg m3 hb3 => ?_⟩
      walk_at "go"
      have hg' : 0 ≤ g ∧ g ≤ 13 := by
        unfold Gr at hg
        omega
      refine ⟨b, g, rfl, hg'.1, hg'.2, hb3, fun H4 x hx4 m4 hb4 => ?_⟩
      walk_at "go"
      refine ⟨b, 5, rfl, by decide, by decide, hb4, fun H5 w1 h50 h51 m5 hb5 => ?_⟩
      walk_at "go"
      refine ⟨b, 5, rfl, by decide, by decide, hb5, fun H6 w2 h60 h61 m6 hb6 => ?_⟩
      walk_at "go"
      refine ⟨b, g, 1 + w2, 1 + w1, rfl, hg'.1, hg'.2, by omega, by omega, by omega, by omega, hb6, fun H7 t ht7 m7 hb7 => ?_⟩
      walk_at "go"
      refine ⟨by omega, by omega, fun D hD => ?_⟩
      have nD := bag_ne hb7 hD
      refine lc_range (fun j H' => Mv b H7 H' ∧ Bag H' b ∧ ∃ xs : List V, H' D = some (.lst xs) ∧ xs.length = j ∧ ∀ x ∈ xs, NumB H' x 320) ⟨(Mv.refl b H7).updD hD, hb7.upd nD, [], upd_same, rfl, fun x hx => nomatch hx⟩ (fun j Hj hj hP => ?_) (fun H8 hP => ?_)
      · obtain ⟨mv, hbi, xs, hxs, hlx, hx⟩ := hP
        walk_at "go"
        refine ⟨rfl, ?_⟩
        walk_at "go"
        refine ⟨b, g, rfl, hg'.1, hg'.2, hbi, fun Hk v hv mk hbk => ?_⟩
        have hkD := mk _ _ nD hxs
        refine ⟨xs, hkD, small1000 (by omega), (mv.trans mk).updD hD, hbk.upd nD, xs ++ [v], upd_same, by rw [List.length_append, hlx]; rfl, fun x hx' => ?_⟩
        rcases List.mem_append.mp hx' with h | h
        · exact ((hx x h).kt (mk.kt hbi)).kt (Kt.updL hkD)
        · rw [List.mem_singleton.mp h]
          exact hv.kt (Kt.updL hkD)
      · obtain ⟨m8, hb8, xs, hxs, hlx, hx⟩ := hP
        walk_at "go"
        refine ⟨_, _, rfl, .inl ⟨SqL.of hxs, fun l hl9 => ?_⟩⟩
        have s9 := same_upd (o := .tup xs) hl9
        have h9 : (upd H8 l (.tup xs)) l = some (.tup xs) := upd_same
        generalize upd H8 l (.tup xs) = H9 at s9 h9 ⊢
        have hrow9 : RowB H9 (.ref l) (1 + w1).toNat 320 := ⟨l, xs, rfl, h9, hlx, fun x h => (hx x h).kt (Kt.of s9)⟩
        have m29 : Mv b H2 H9 := m3.trans (m4.trans (m5.trans (m6.trans (m7.trans (m8.trans (Mv.same s9))))))
        have sm9 : Same H H9 := Same.mv (sm.trans s2) hb00 m29
        have hS9 : H9 S = some (.lst ys) := m29 _ _ nS (s2 _ _ hys)
        have kt9 : Kt H' H9 := (Kt.of s2).trans (m29.kt hb2)
        have hx9 : NumB H9 x 320 := ((((hx4.kt (m5.kt hb4)).kt (m6.kt hb5)).kt (m7.kt hb6)).kt (m8.kt hb7)).kt (Kt.of s9)
        have ht9 : TabB H9 t (1 + w2).toNat (1 + w1).toNat 255 := (ht7.kt (m8.kt hb7)).kt (Kt.of s9)
        walk_at "go"
        refine ⟨.inl ⟨rfl, _, SqL.of hS9⟩, ?_⟩
        walk_at "go"
        refine w_new (by simp) fun p10 H10 hp10 s10 h10 => ?_
        walk_at "go"
        refine w_append (s10 _ _ hS9) (by omega) ?_
        have kt10 : Kt H10 (upd H10 S (.lst (ys ++ [V.ref p10]))) := Kt.updL (s10 _ _ hS9)
        have sm10 : Same H (upd H10 S (.lst (ys ++ [V.ref p10]))) := Same.updD (sm9.trans s10) hS0
        have hS11 : (upd H10 S (.lst (ys ++ [V.ref p10]))) S = some (.lst (ys ++ [V.ref p10])) := upd_same
        generalize upd H10 S (.lst (ys ++ [V.ref p10])) = H11 at kt10 sm10 hS11 ⊢
        have kt11 : Kt H9 H11 := (Kt.of s10).trans kt10
        have tri1 : Tri H11 (.ref p10) := tri_mk (kt10 _ _ h10) (hx9.kt kt11) (hrow9.kt kt11) (TabB.mono (ht9.kt kt11) (by decide)) (by decide) (by decide) (by omega) (by omega) (by omega)
        have ht11 := ht9.kt kt11
        obtain ⟨pt, rws, rfl, hpt, hlt, hrws⟩ := ht11
        obtain ⟨r0, hr0⟩ : ∃ r0, rws[0]? = some r0 := ⟨_, List.getElem?_eq_getElem (by omega)⟩
        have hR0 := hrws r0 (List.mem_of_getElem? hr0)
        obtain ⟨p0, ns0, rfl, hp0, hl0, hn0⟩ := hR0
        obtain ⟨x0, hx0⟩ : ∃ x0, ns0[0]? = some x0 := ⟨_, List.getElem?_eq_getElem (by omega)⟩
        have hne : rws ≠ [] := fun e => by
          rw [e] at hr0
          cases hr0
        obtain ⟨rl, hrl⟩ : ∃ rl, rws.getLast? = some rl := ⟨_, List.getLast?_eq_some_getLast hne⟩
        have erl : atI rws (-1) = some rl := by
          obtain ⟨zs, rfl⟩ := List.getLast?_eq_some_iff.mp hrl
          exact atI_last _ _
        walk_at "go"
        refine ⟨.inl ⟨rfl, _, SqL.of hS11⟩, ?_⟩
        walk_at "go"
        refine w_ixT hpt (atI_nat (j := 0) hr0) ?_
        walk_at "go"
        refine w_ixT hp0 (atI_nat (j := 0) hx0) ?_
        walk_at "go"
        refine w_ixT hpt erl ?_
        walk_at "go"
        refine w_new (by simp) fun p12 H12 hp12 s12 h12 => ?_
        walk_at "go"
        refine w_new (by simp) fun p13 H13 hp13 s13 h13 => ?_
        have s1113 := s12.trans s13
        walk_at "go"
        refine w_append (s1113 _ _ hS11) (by rw [List.length_append]; simp; omega) ?_
        have kt13 : Kt H13 (upd H13 S (.lst (ys ++ [V.ref p10] ++ [V.ref p13]))) := Kt.updL (s1113 _ _ hS11)
        have hrow12 : RowB H13 (.ref l) (1 + w1).toNat 320 := (hrow9.kt kt11).kt (Kt.of s1113)
        have htab : TabB H13 (.ref p12) 1 (1 + w1).toNat 320 := ⟨p12, [.ref l], rfl, s13 _ _ h12, rfl, fun z hz => by rw [List.mem_singleton.mp hz]; exact hrow12⟩
        have tri2 : Tri H13 (.ref p13) := tri_mk h13 (((hn0 x0 (List.mem_of_getElem? hx0)).mono (by decide)).kt (Kt.of s1113)) (((hrws rl (List.mem_of_getLast? hrl)).mono (by decide)).kt (Kt.of s1113)) htab (by decide) (by decide) (by omega) (by omega) (by decide)
        refine ⟨⟨_, _, _, _, _, _, _, _, rfl⟩, Same.updD (sm10.trans s1113) hS0, _, upd_same, by simp [hl]; omega, by omega, fun v hv => ?_⟩
        rcases List.mem_append.mp hv with h | h
        · rcases List.mem_append.mp h with h | h
          · exact (((hy v h).kt (kt9.trans kt11)).kt (Kt.of s1113)).kt kt13
          · rw [List.mem_singleton.mp h]
            exact (tri1.kt (Kt.of s1113)).kt kt13
        · rw [List.mem_singleton.mp h]
          exact tri2.kt kt13
    · obtain ⟨⟨y2, y3, y4, y5, y6, y7, y8, y9, rfl⟩, sm, ys, hys, hl, hi6, hy⟩ := hP
      walk_at "go"
      refine ⟨S, ys, rfl, SqL.of hys, ?_⟩
      refine w_newO fun R HR hR sR hRR => ?_
      refine w_cat (sR _ _ hys) hRR (by rw [List.length_reverse]; omega) ?_
      refine w_newO fun L HL hL sL hLL => ?_
      refine ⟨L, rfl, ⟨_, SqL.of hLL⟩, fun D hD => ?_⟩
      refine lc_list (xs := ys ++ ys.reverse) (fun i H' => Same HL H' ∧ i ≤ 24 ∧ H' D = some (.lst ((List.replicate i true).map V.bl))) ⟨Same.updD (Same.refl HL) hD, by decide, upd_same⟩ (fun i H' _ hP => SqL.of (hP.1 _ _ hLL)) (fun i v H' hv hP => ?_) (fun H' hP => ?_)
      · obtain ⟨smj, hi24, hD'⟩ := hP
        have hvi := (List.getElem?_eq_some_iff.mp hv).1
        rw [List.length_append, List.length_reverse] at hvi
        have hv' : v ∈ ys := by
          rcases List.mem_append.mp (List.mem_of_getElem? hv) with h | h
          · exact h
          · exact List.mem_reverse.mp h
        obtain ⟨p, x, r, t, rfl, hp, htx, htr, htt⟩ := (hy v hv').kt ((Kt.of sR).trans ((Kt.of sL).trans (Kt.of smj)))
        walk_at "go"
        refine ⟨rfl, ?_⟩
        walk_at "go"
        refine ⟨x, r, t, rfl, htx, htr, htt, fun H2 s2 => ?_⟩
        refine ⟨_, s2 _ _ hD', ?_, Same.updD (smj.trans s2) hD, by omega, ?_⟩
        · rw [List.length_map, List.length_replicate]
          exact small1000 (by omega)
        · rw [upd_same, List.replicate_succ', List.map_append]
          rfl
      · obtain ⟨smj, hi24, hD'⟩ := hP
        walk_at "go"
        refine ⟨D, _, rfl, SqL.of hD', ?_⟩
        rw [all_true]
        walk_at "go"
        refine iteF ?_
        walk_at "go"
        refine w_new (by simp) fun p1 J1 hp1 t1 g1 => ?_
        walk_at "go"
        refine w_new (by simp) fun p2 J2 hp2 t2 g2 => ?_
        walk_at "go"
        refine w_new (by simp) fun p3 J3 hp3 t3 g3 => ?_
        walk_at "go"
        refine w_new (by simp) fun p4 J4 hp4 t4 g4 => ?_
        walk_at "go"
        refine w_new (by simp) fun p5 J5 hp5 t5 g5 => ?_
        walk_at "go"
        refine w_new (by simp) fun p6 J6 hp6 t6 g6 => ?_
        walk_at "go"
        refine w_new (by simp) fun p7 J7 hp7 t7 g7 => ?_
        have n1 : NumV J7 (.ref p1) (1, 2) := ⟨p1, rfl, t7 _ _ (t6 _ _ (t5 _ _ (t4 _ _ (t3 _ _ (t2 _ _ g1)))))⟩
        have n2 : NumV J7 (.ref p2) (0, 1) := ⟨p2, rfl, t7 _ _ (t6 _ _ (t5 _ _ (t4 _ _ (t3 _ _ g2))))⟩
        have n4 : NumV J7 (.ref p4) (-3, 1) := ⟨p4, rfl, t7 _ _ (t6 _ _ (t5 _ _ g4))⟩
        have n5 : NumV J7 (.ref p5) (1, 1) := ⟨p5, rfl, t7 _ _ (t6 _ _ g5)⟩
        have r3 : RowV J7 (.ref p3) [(1, 2), (0, 1)] := sqv2 (t7 _ _ (t6 _ _ (t5 _ _ (t4 _ _ g3)))) n1 n2
        have r6 : RowV J7 (.ref p6) [(-3, 1), (1, 1)] := sqv2 (t7 _ _ g6) n4 n5
        have tt : TabV J7 (.ref p7) [[(1, 2), (0, 1)], [(-3, 1), (1, 1)]] := sqv2 g7 r3 r6
        walk_at "go"
        refine ⟨.ref p7, [[(1, 2), (0, 1)], [(-3, 1), (1, 1)]], rfl, tt, by unfold Sm; decide +kernel, by decide, fun J8 t8 => ?_⟩
        walk_at "go"
        have e1 : tabT [[(1, 2), (0, 1)], [(-3, 1), (1, 1)]] = ("1/2 0 / -3 1" : Str) := by decide +kernel
        rw [e1]
        refine ⟨rfl, ?_⟩
        rw [decide_eq_true rfl]
        walk_at "go"
        refine iteF ?_
        walk_at "go"
        refine w_new (by simp) fun p9 J9 hp9 t9 g9 => ?_
        walk_at "go"
        refine ⟨.ref p9, (-7, 3), rfl, ⟨p9, rfl, g9⟩, by unfold Sm; decide +kernel, ?_⟩
        walk_at "go"
        have e2 : numT (-7, 3) = ("-7/3" : Str) := by decide +kernel
        rw [e2]
        refine ⟨rfl, ?_⟩
        rw [decide_eq_true rfl]
        walk_at "go"
        refine w_new (by simp) fun p10 J10 hp10 t10 g10 => ?_
        walk_at "go"
        refine w_new (by simp) fun p11 J11 hp11 t11 g11 => ?_
        walk_at "go"
        refine ⟨.ref p11, [(5, 1)], rfl, sqv1 g11 ⟨p10, rfl, t11 _ _ g10⟩, by unfold Sm; decide +kernel, by decide, fun J12 t12 => ?_⟩
        walk_at "go"
        have e3 : rowT [(5, 1)] = ("5" : Str) := by decide +kernel
        rw [e3]
        refine ⟨rfl, ?_⟩
        rw [decide_eq_true rfl]
        exact q _

def d_show_number : He.DefD := ⟨("show_number", none), "show_number", "show_number", defArgs (topS 1), defBody (topS 1), defScope (topS 1), [], []⟩
def d_show_row : He.DefD := ⟨("show_row", none), "show_row", "show_row", defArgs (topS 3), defBody (topS 3), defScope (topS 3), [], []⟩
def d_show_table : He.DefD := ⟨("show_table", none), "show_table", "show_table", defArgs (topS 4), defBody (topS 4), defScope (topS 4), [], []⟩
def d__law_text : He.DefD := ⟨("_law_text", none), "_law_text", "_law_text", defArgs (topS 6), defBody (topS 6), defScope (topS 6), [], []⟩
def d__law_row_text : He.DefD := ⟨("_law_row_text", none), "_law_row_text", "_law_row_text", defArgs (topS 7), defBody (topS 7), defScope (topS 7), [], []⟩
def d__law_table_text : He.DefD := ⟨("_law_table_text", none), "_law_table_text", "_law_table_text", defArgs (topS 8), defBody (topS 8), defScope (topS 8), [], []⟩
def d__law_bag : He.DefD := ⟨("_law_bag", none), "_law_bag", "_law_bag", defArgs (topS 9), defBody (topS 9), defScope (topS 9), [], []⟩
def d__law_ground : He.DefD := ⟨("_law_ground", none), "_law_ground", "_law_ground", defArgs (topS 10), defBody (topS 10), defScope (topS 10), [], []⟩
def d__law_take : He.DefD := ⟨("_law_take", none), "_law_take", "_law_take", defArgs (topS 11), defBody (topS 11), defScope (topS 11), [], []⟩
def d__law_any_number : He.DefD := ⟨("_law_any_number", none), "_law_any_number", "_law_any_number", defArgs (topS 12), defBody (topS 12), defScope (topS 12), [], []⟩
def d__law_whole_draw : He.DefD := ⟨("_law_whole_draw", none), "_law_whole_draw", "_law_whole_draw", defArgs (topS 13), defBody (topS 13), defScope (topS 13), [], []⟩
def d__law_low : He.DefD := ⟨("_law_low", none), "_law_low", "_law_low", defArgs (topS 14), defBody (topS 14), defScope (topS 14), [], []⟩
def d__law_shared : He.DefD := ⟨("_law_shared", none), "_law_shared", "_law_shared", defArgs (topS 15), defBody (topS 15), defScope (topS 15), [], []⟩
def d__law_rows : He.DefD := ⟨("_law_rows", none), "_law_rows", "_law_rows", defArgs (topS 16), defBody (topS 16), defScope (topS 16), [], []⟩
def d__law_row : He.DefD := ⟨("_law_row", none), "_law_row", "_law_row", defArgs (topS 17), defBody (topS 17), defScope (topS 17), [], []⟩
def d__law_number : He.DefD := ⟨("_law_number", none), "_law_number", "_law_number", defArgs (topS 18), defBody (topS 18), defScope (topS 18), [], []⟩
def d__law_added : He.DefD := ⟨("_law_added", none), "_law_added", "_law_added", defArgs (topS 19), defBody (topS 19), defScope (topS 19), [], []⟩
def d__law_plus : He.DefD := ⟨("_law_plus", none), "_law_plus", "_law_plus", defArgs (topS 20), defBody (topS 20), defScope (topS 20), [], []⟩
def d__law_is_told : He.DefD := ⟨("_law_is_told", none), "_law_is_told", "_law_is_told", defArgs (topS 21), defBody (topS 21), defScope (topS 21), [], []⟩
def d_law : He.DefD := ⟨("law", none), "law", "law", defArgs (topS 22), defBody (topS 22), defScope (topS 22), [], []⟩
def fn : List He.DefD := [d_show_number, d_show_row, d_show_table, d__law_text, d__law_row_text, d__law_table_text, d__law_bag, d__law_ground, d__law_take, d__law_any_number, d__law_whole_draw, d__law_low, d__law_shared, d__law_rows, d__law_row, d__law_number, d__law_added, d__law_plus, d__law_is_told, d_law]
def fa : List He.Fa := [.glo "show_number", .glo "show_row", .glo "show_table", .glo "_law_text", .glo "_law_row_text", .glo "_law_table_text", .glo "_law_bag", .glo "_law_ground", .glo "_law_take", .glo "_law_any_number", .glo "_law_whole_draw", .glo "_law_low", .glo "_law_shared", .glo "_law_rows", .glo "_law_row", .glo "_law_number", .glo "_law_added", .glo "_law_plus", .glo "_law_is_told", .glo "law", .free "str", .free "len", .free "abs", .free "range", .free "int", .free "tuple", .free "zip", .free "all", .free "isinstance", .free "max", .free "min"]
def more (M : PySem.W.Frag) : Bool := true
abbrev R : PySem.W.OpenRow := PySem.W.OpenLaw.row PySem.Challenge.rw_fewmirrors_k07_written
def seen (M : PySem.W.Frag) : He.AlD × Bool := (He.obsD fa fn M, more M)
def seenG (gt : Addr → Option Obj) : He.AlD × Bool := seen (He.frG gt (He.asD gt 4))
def hk : PySem.W.Hook where
  α := He.AlD × Bool
  obs := fun sh => seenG sh.heap.get?
  val := fun _ => (He.valD fn, true)
  says := fun _ hp => ∃ M : PySem.W.Frag, M.In hp ∧ seen M = (He.valD fn, true)
  of := fun _ _ eq => ⟨_, He.frG_in, eq⟩
  keeps := fun _ _ _ ⟨M, inM, eq⟩ kp => ⟨M, PySem.W.Frag.In.keeps inM kp, eq⟩
def ob (s : PySem.W.SharedT) : He.AlD × Bool := seenG (HandSHeadRun.getT s)
theorem ob_eq (s : PySem.W.SharedT) : ob s = hk.obs s.abs := by
  have eq : HandSHeadRun.getT s = s.abs.heap.get? := funext (HandSHeadRun.getT_eq s)
  unfold ob
  rw [eq]
  rfl
def loose : List PySem.Str := (["show_number", "show_row", "show_table", "_law_text", "_law_row_text", "_law_table_text", "_law_bag", "_law_ground", "_law_take", "_law_any_number", "_law_whole_draw", "_law_low", "_law_shared", "_law_rows", "_law_row", "_law_number", "_law_added", "_law_plus", "_law_is_told"] : List PySem.Str)
theorem run (w : World) : HandSHeadRun.RunEq R (PySem.W.view R.prog [22]) hk ob 2000 loose w := by
  intro os
  kernel_rfl
theorem facts {P : Program} {w : World} {K : PySem.W.Frag} {h : Heap} {mg : Str → Option Value} {f : Addr} (X : K.In h) (G : h.Ns mainGlobals mg) (hfa : mg ("law" : Str) = some (.ref f)) (c2 : seen K = (He.valD fn, true)) :
    ∃ fd : FuncData, (∀ (s : Shared) (v : Value), BindsTo s fd ⟨[v], []⟩ [("_law_script", v)]) ∧ ∀ base : Heap, K.In base → base.Ns mainGlobals mg → FnOk P w K mg base CX0 6 f fd ["_law_script"] (sp_law K) := by
  have c : He.SaysD fa fn K := congrArg (fun z : He.AlD × Bool => z.1) c2
  have cm : more K = true := congrArg (fun z : He.AlD × Bool => z.2) c2
  obtain ⟨fd_show_number, F_show_number⟩ := c.def_ 0 (d := d_show_number) rfl
  have g_show_number := He.glo_ok X G (c.fact 0 (f := .glo "show_number") rfl)
  have b_show_number : Binds K fd_show_number ["x"] [] := FunD.bindsN (ps := ["x"]) F_show_number fun _ _ _ _ _ _ us hl => match us, hl with | [_], _ => rfl
  obtain ⟨fd_show_row, F_show_row⟩ := c.def_ 1 (d := d_show_row) rfl
  have g_show_row := He.glo_ok X G (c.fact 1 (f := .glo "show_row") rfl)
  have b_show_row : Binds K fd_show_row ["row"] [] := FunD.bindsN (ps := ["row"]) F_show_row fun _ _ _ _ _ _ us hl => match us, hl with | [_], _ => rfl
  obtain ⟨fd_show_table, F_show_table⟩ := c.def_ 2 (d := d_show_table) rfl
  have g_show_table := He.glo_ok X G (c.fact 2 (f := .glo "show_table") rfl)
  have b_show_table : Binds K fd_show_table ["table"] [] := FunD.bindsN (ps := ["table"]) F_show_table fun _ _ _ _ _ _ us hl => match us, hl with | [_], _ => rfl
  obtain ⟨fd__law_text, F__law_text⟩ := c.def_ 3 (d := d__law_text) rfl
  have g__law_text := He.glo_ok X G (c.fact 3 (f := .glo "_law_text") rfl)
  have b__law_text : Binds K fd__law_text ["_law_x"] [] := FunD.bindsN (ps := ["_law_x"]) F__law_text fun _ _ _ _ _ _ us hl => match us, hl with | [_], _ => rfl
  obtain ⟨fd__law_row_text, F__law_row_text⟩ := c.def_ 4 (d := d__law_row_text) rfl
  have g__law_row_text := He.glo_ok X G (c.fact 4 (f := .glo "_law_row_text") rfl)
  have b__law_row_text : Binds K fd__law_row_text ["_law_row_here"] [] := FunD.bindsN (ps := ["_law_row_here"]) F__law_row_text fun _ _ _ _ _ _ us hl => match us, hl with | [_], _ => rfl
  obtain ⟨fd__law_table_text, F__law_table_text⟩ := c.def_ 5 (d := d__law_table_text) rfl
  have g__law_table_text := He.glo_ok X G (c.fact 5 (f := .glo "_law_table_text") rfl)
  have b__law_table_text : Binds K fd__law_table_text ["_law_table"] [] := FunD.bindsN (ps := ["_law_table"]) F__law_table_text fun _ _ _ _ _ _ us hl => match us, hl with | [_], _ => rfl
  obtain ⟨fd__law_bag, F__law_bag⟩ := c.def_ 6 (d := d__law_bag) rfl
  have g__law_bag := He.glo_ok X G (c.fact 6 (f := .glo "_law_bag") rfl)
  have b__law_bag : Binds K fd__law_bag ["_law_script", "_law_at"] [] := FunD.bindsN (ps := ["_law_script", "_law_at"]) F__law_bag fun _ _ _ _ _ _ us hl => match us, hl with | [_, _], _ => rfl
  obtain ⟨fd__law_ground, F__law_ground⟩ := c.def_ 7 (d := d__law_ground) rfl
  have g__law_ground := He.glo_ok X G (c.fact 7 (f := .glo "_law_ground") rfl)
  have b__law_ground : Binds K fd__law_ground ["_law_bag_here"] [] := FunD.bindsN (ps := ["_law_bag_here"]) F__law_ground fun _ _ _ _ _ _ us hl => match us, hl with | [_], _ => rfl
  obtain ⟨fd__law_take, F__law_take⟩ := c.def_ 8 (d := d__law_take) rfl
  have g__law_take := He.glo_ok X G (c.fact 8 (f := .glo "_law_take") rfl)
  have b__law_take : Binds K fd__law_take ["_law_bag_here", "_law_many"] [] := FunD.bindsN (ps := ["_law_bag_here", "_law_many"]) F__law_take fun _ _ _ _ _ _ us hl => match us, hl with | [_, _], _ => rfl
  obtain ⟨fd__law_any_number, F__law_any_number⟩ := c.def_ 9 (d := d__law_any_number) rfl
  have g__law_any_number := He.glo_ok X G (c.fact 9 (f := .glo "_law_any_number") rfl)
  have b__law_any_number : Binds K fd__law_any_number ["_law_bag_here", "_law_g"] [] := FunD.bindsN (ps := ["_law_bag_here", "_law_g"]) F__law_any_number fun _ _ _ _ _ _ us hl => match us, hl with | [_, _], _ => rfl
  obtain ⟨fd__law_whole_draw, F__law_whole_draw⟩ := c.def_ 10 (d := d__law_whole_draw) rfl
  have g__law_whole_draw := He.glo_ok X G (c.fact 10 (f := .glo "_law_whole_draw") rfl)
  have b__law_whole_draw : Binds K fd__law_whole_draw ["_law_bag_here"] [] := FunD.bindsN (ps := ["_law_bag_here"]) F__law_whole_draw fun _ _ _ _ _ _ us hl => match us, hl with | [_], _ => rfl
  obtain ⟨fd__law_low, F__law_low⟩ := c.def_ 11 (d := d__law_low) rfl
  have g__law_low := He.glo_ok X G (c.fact 11 (f := .glo "_law_low") rfl)
  have b__law_low : Binds K fd__law_low ["_law_g", "_law_up", "_law_down"] [] := FunD.bindsN (ps := ["_law_g", "_law_up", "_law_down"]) F__law_low fun _ _ _ _ _ _ us hl => match us, hl with | [_, _, _], _ => rfl
  obtain ⟨fd__law_shared, F__law_shared⟩ := c.def_ 12 (d := d__law_shared) rfl
  have g__law_shared := He.glo_ok X G (c.fact 12 (f := .glo "_law_shared") rfl)
  have b__law_shared : Binds K fd__law_shared ["_law_one", "_law_other"] [] := FunD.bindsN (ps := ["_law_one", "_law_other"]) F__law_shared fun _ _ _ _ _ _ us hl => match us, hl with | [_, _], _ => rfl
  obtain ⟨fd__law_rows, F__law_rows⟩ := c.def_ 13 (d := d__law_rows) rfl
  have g__law_rows := He.glo_ok X G (c.fact 13 (f := .glo "_law_rows") rfl)
  have b__law_rows : Binds K fd__law_rows ["_law_bag_here", "_law_g", "_law_high", "_law_wide"] [] := FunD.bindsN (ps := ["_law_bag_here", "_law_g", "_law_high", "_law_wide"]) F__law_rows fun _ _ _ _ _ _ us hl => match us, hl with | [_, _, _, _], _ => rfl
  obtain ⟨fd__law_row, F__law_row⟩ := c.def_ 14 (d := d__law_row) rfl
  have g__law_row := He.glo_ok X G (c.fact 14 (f := .glo "_law_row") rfl)
  have b__law_row : Binds K fd__law_row ["_law_bag_here", "_law_g", "_law_many"] [] := FunD.bindsN (ps := ["_law_bag_here", "_law_g", "_law_many"]) F__law_row fun _ _ _ _ _ _ us hl => match us, hl with | [_, _, _], _ => rfl
  obtain ⟨fd__law_number, F__law_number⟩ := c.def_ 15 (d := d__law_number) rfl
  have g__law_number := He.glo_ok X G (c.fact 15 (f := .glo "_law_number") rfl)
  have b__law_number : Binds K fd__law_number ["_law_bag_here", "_law_g"] [] := FunD.bindsN (ps := ["_law_bag_here", "_law_g"]) F__law_number fun _ _ _ _ _ _ us hl => match us, hl with | [_, _], _ => rfl
  obtain ⟨fd__law_added, F__law_added⟩ := c.def_ 16 (d := d__law_added) rfl
  have g__law_added := He.glo_ok X G (c.fact 16 (f := .glo "_law_added") rfl)
  have b__law_added : Binds K fd__law_added ["_law_g", "_law_row_here", "_law_other"] [] := FunD.bindsN (ps := ["_law_g", "_law_row_here", "_law_other"]) F__law_added fun _ _ _ _ _ _ us hl => match us, hl with | [_, _, _], _ => rfl
  obtain ⟨fd__law_plus, F__law_plus⟩ := c.def_ 17 (d := d__law_plus) rfl
  have g__law_plus := He.glo_ok X G (c.fact 17 (f := .glo "_law_plus") rfl)
  have b__law_plus : Binds K fd__law_plus ["_law_g", "_law_x", "_law_y"] [] := FunD.bindsN (ps := ["_law_g", "_law_x", "_law_y"]) F__law_plus fun _ _ _ _ _ _ us hl => match us, hl with | [_, _, _], _ => rfl
  obtain ⟨fd__law_is_told, F__law_is_told⟩ := c.def_ 18 (d := d__law_is_told) rfl
  have g__law_is_told := He.glo_ok X G (c.fact 18 (f := .glo "_law_is_told") rfl)
  have b__law_is_told : Binds K fd__law_is_told ["_law_x", "_law_row_here", "_law_table"] [] := FunD.bindsN (ps := ["_law_x", "_law_row_here", "_law_table"]) F__law_is_told fun _ _ _ _ _ _ us hl => match us, hl with | [_, _, _], _ => rfl
  obtain ⟨fd_law, F_law⟩ := c.def_ 19 (d := d_law) rfl
  have g_law := He.glo_ok X G (c.fact 19 (f := .glo "law") rfl)
  have m_str := He.free_ok X G (c.fact 20 (f := .free "str") rfl)
  have m_len := He.free_ok X G (c.fact 21 (f := .free "len") rfl)
  have m_abs := He.free_ok X G (c.fact 22 (f := .free "abs") rfl)
  have m_range := He.free_ok X G (c.fact 23 (f := .free "range") rfl)
  have m_int := He.free_ok X G (c.fact 24 (f := .free "int") rfl)
  have m_tuple := He.free_ok X G (c.fact 25 (f := .free "tuple") rfl)
  have m_zip := He.free_ok X G (c.fact 26 (f := .free "zip") rfl)
  have m_all := He.free_ok X G (c.fact 27 (f := .free "all") rfl)
  have m_isinstance := He.free_ok X G (c.fact 28 (f := .free "isinstance") rfl)
  have m_max := He.free_ok X G (c.fact 29 (f := .free "max") rfl)
  have m_min := He.free_ok X G (c.fact 30 (f := .free "min") rfl)
  have e := hfa.symm.trans g_law
  cases e
  have b := FunD.bindsA (ps := ["_law_script"]) F_law fun _ _ _ _ _ _ us hl => match us, hl with | [_], _ => rfl
  refine ⟨fd_law, fun s v => b s [v] rfl, fun base _ _ => ?_⟩
  have G_show_number : FnOk P w K mg base CX0 1 _ fd_show_number ["x"] (sp_show_number K) := ok_show_number F_show_number m_str
  have G__law_text : FnOk P w K mg base CX0 1 _ fd__law_text ["_law_x"] (sp__law_text K) := ok__law_text F__law_text m_str
  have G__law_bag : FnOk P w K mg base CX0 1 _ fd__law_bag ["_law_script", "_law_at"] (sp__law_bag K) := ok__law_bag F__law_bag m_len m_abs
  have G__law_take : FnOk P w K mg base CX0 1 _ fd__law_take ["_law_bag_here", "_law_many"] (sp__law_take K) := ok__law_take F__law_take
  have G__law_shared : FnOk P w K mg base CX0 1 _ fd__law_shared ["_law_one", "_law_other"] (sp__law_shared K) := ok__law_shared F__law_shared m_abs
  have G_show_row : FnOk P w K mg base CX0 2 _ fd_show_row ["row"] (sp_show_row K) := ok_show_row F_show_row F_show_number b_show_number g_show_number G_show_number
  have G__law_row_text : FnOk P w K mg base CX0 2 _ fd__law_row_text ["_law_row_here"] (sp__law_row_text K) := ok__law_row_text F__law_row_text F__law_text b__law_text g__law_text G__law_text
  have G__law_ground : FnOk P w K mg base CX0 2 _ fd__law_ground ["_law_bag_here"] (sp__law_ground K) := ok__law_ground F__law_ground F__law_take b__law_take g__law_take G__law_take
  have G__law_whole_draw : FnOk P w K mg base CX0 2 _ fd__law_whole_draw ["_law_bag_here"] (sp__law_whole_draw K) := ok__law_whole_draw F__law_whole_draw F__law_take b__law_take g__law_take G__law_take m_range
  have G__law_low : FnOk P w K mg base CX0 2 _ fd__law_low ["_law_g", "_law_up", "_law_down"] (sp__law_low K) := ok__law_low F__law_low F__law_shared b__law_shared g__law_shared G__law_shared m_range m_int
  have G_show_table : FnOk P w K mg base CX0 3 _ fd_show_table ["table"] (sp_show_table K) := ok_show_table F_show_table F_show_row b_show_row g_show_row G_show_row
  have G__law_table_text : FnOk P w K mg base CX0 3 _ fd__law_table_text ["_law_table"] (sp__law_table_text K) := ok__law_table_text F__law_table_text F__law_row_text b__law_row_text g__law_row_text G__law_row_text
  have G__law_any_number : FnOk P w K mg base CX0 3 _ fd__law_any_number ["_law_bag_here", "_law_g"] (sp__law_any_number K) := ok__law_any_number F__law_any_number F__law_whole_draw b__law_whole_draw g__law_whole_draw G__law_whole_draw F__law_low b__law_low g__law_low G__law_low
  have G__law_number : FnOk P w K mg base CX0 3 _ fd__law_number ["_law_bag_here", "_law_g"] (sp__law_number K) := ok__law_number F__law_number F__law_low b__law_low g__law_low G__law_low F__law_take b__law_take g__law_take G__law_take
  have G__law_plus : FnOk P w K mg base CX0 3 _ fd__law_plus ["_law_g", "_law_x", "_law_y"] (sp__law_plus K) := ok__law_plus F__law_plus F__law_low b__law_low g__law_low G__law_low
  have G__law_row : FnOk P w K mg base CX0 4 _ fd__law_row ["_law_bag_here", "_law_g", "_law_many"] (sp__law_row K) := ok__law_row F__law_row F__law_number b__law_number g__law_number G__law_number m_tuple m_range
  have G__law_added : FnOk P w K mg base CX0 4 _ fd__law_added ["_law_g", "_law_row_here", "_law_other"] (sp__law_added K) := ok__law_added F__law_added F__law_plus b__law_plus g__law_plus G__law_plus m_tuple m_zip
  have G__law_is_told : FnOk P w K mg base CX0 4 _ fd__law_is_told ["_law_x", "_law_row_here", "_law_table"] (sp__law_is_told K) := ok__law_is_told F__law_is_told F_show_number b_show_number g_show_number G_show_number F_show_row b_show_row g_show_row G_show_row F_show_table b_show_table g_show_table G_show_table F__law_text b__law_text g__law_text G__law_text F__law_row_text b__law_row_text g__law_row_text G__law_row_text F__law_table_text b__law_table_text g__law_table_text G__law_table_text m_all m_isinstance m_str
  have G__law_rows : FnOk P w K mg base CX0 5 _ fd__law_rows ["_law_bag_here", "_law_g", "_law_high", "_law_wide"] (sp__law_rows K) := ok__law_rows F__law_rows F__law_row b__law_row g__law_row G__law_row F__law_take b__law_take g__law_take G__law_take F__law_added b__law_added g__law_added G__law_added m_range m_tuple m_len
  exact ok_law F_law F__law_bag b__law_bag g__law_bag G__law_bag F__law_ground b__law_ground g__law_ground G__law_ground F__law_any_number b__law_any_number g__law_any_number G__law_any_number F__law_rows b__law_rows g__law_rows G__law_rows F_show_table b_show_table g_show_table G_show_table F__law_take b__law_take g__law_take G__law_take F_show_number b_show_number g_show_number G_show_number F_show_row b_show_row g_show_row G_show_row F__law_is_told b__law_is_told g__law_is_told G__law_is_told m_range m_max m_tuple m_all m_min m_len

end Fm
open PySem PySem.W PySem.Calls PyProof.Rows
set_option maxHeartbeats 0 in
theorem PySem.Challenge.cw_fewmirrors_k07_written_holds : PySem.Challenge.rw_fewmirrors_k07_written.Holds := by
  w_on; o_law
  refine HandSHeadRun.head_any (r := OpenLaw.row PySem.Challenge.rw_fewmirrors_k07_written) (q := view (OpenLaw.row PySem.Challenge.rw_fewmirrors_k07_written).prog [22]) (H := Fm.hk) (ob := Fm.ob) (M := 2000) (loose := Fm.loose) (d := HandSHeadRun.topDef (OpenLaw.row PySem.Challenge.rw_fewmirrors_k07_written).prog 22) (kwd := []) Fm.ob_eq
    (by kernel_rfl) (fun s => by kernel_rfl) Fm.run (by kernel_rfl) (by kernel_rfl) (by kernel_rfl) (by rfl) (by first | assumption | decide +kernel) (by decide +kernel) ⟨rfl, rfl, rfl, rfl, rfl, by decide +kernel⟩ ?hw ?hc
  case hw => w_witness2
  case hc =>
    refine L2.walk_ofE (l := PySem.Challenge.rw_fewmirrors_k07_written) (n := 63) (k := 6) (x := "_law_script") (CX := L2.CX0) rfl (by decide) (by kernel_rfl) ⟨rfl, by decide, by decide⟩ ?F (fun _ _ _ _ z => z)
    intro w mg fa h Y G hmg0
    obtain ⟨K, KX, c⟩ := Y
    have hmg : mg ("law" : PySem.Str) = some (.ref fa) := by
      have e : (HandSHeadRun.topDef (OpenLaw.row PySem.Challenge.rw_fewmirrors_k07_written).prog 22).name = ("law" : PySem.Str) := by kernel_rfl
      rw [← e]
      exact hmg0
    obtain ⟨fd, hb, hF⟩ := Fm.facts (P := (PySem.Challenge.rw_fewmirrors_k07_written).prog) (w := w) KX G hmg c
    exact ⟨K, fd, Fm.sp_law K, KX, hb, fun H a ns hl _ hS => ⟨a, ns, rfl, hS, fun _ => rfl⟩, hF⟩
