import PyProof.Rows.All
import Wide.All
import OpenK.AllK
import Wide.FinOn
import KE.KStateDown
import Lean
import HandS.ForMost
import HandS.Wide
import HandS.FStr
import HandS.IsInst
import HandS.Flow
import HandS.Style
import HandS.Zip
import HandS.Conv
import HandS.Defaults
import HandS.Walk
import HandS.More
import HandS.WordsExc
import HandS.Head0
import HandS.Head1
import HandS.Head2
import HandS.HeadEnd
import HandS.HeadHook1
import HandS.HeadHook2
import HandS.TupAny
import PySem.Challenge.RW_fewmirrors_k04_rows_and_tables
set_option Elab.async false
set_option linter.all false
set_option maxRecDepth 100000
set_option maxHeartbeats 4000000
namespace Fm
open PySem PySem.Spec PyProof.Rows L2
def CDivZ (_ j : Int) : Prop := j ≠ 0 ∧ j.natAbs.log2 < 9000
theorem op_fdivZ {X : Cx} : OpR X (binaryOp .FloorDiv) (rI CDivZ fun i j => .int (i.fdiv j)) := opI fun _ _ _ _ _ _ _ hc q => floordiv_int hc.1 q (.inl (PyProof.noPylong_of_log2 hc.2))
theorem divZ_small {i j : Int} (h : 0 < j) (h2 : j < 4294967296) : CDivZ i j := ⟨by omega, Nat.lt_of_lt_of_le (PySem.Flt.log2_lt_of (n := j.natAbs) (k := 32) (by decide) (by omega)) (by decide)⟩
theorem divZ_of {i j : Int} {b : Nat} (h : j ≠ 0) (hb : j.natAbs < 2 ^ b) (h0 : 0 < b) (h9 : b ≤ 9000) : CDivZ i j := ⟨h, Nat.lt_of_lt_of_le (PySem.Flt.log2_lt_of h0 hb) h9⟩
theorem fmod_pos (a : Int) {b : Int} (h : 0 < b) : a.fmod b = a % b := Int.fmod_eq_emod_of_nonneg a (by omega)
theorem fdiv_pos (a : Int) {b : Int} (h : 0 < b) : a.fdiv b = a / b := Int.fdiv_eq_ediv_of_nonneg a (by omega)
abbrev FnP (K : PySem.W.Frag) (x : Str) (st : Stmt) (f : Addr) (fd : FuncData) : Prop := FunD K x x (defArgs st) (defBody st) (defScope st) [] [] f fd
/-! ### steps of a reading -/
section
variable {K : PySem.W.Frag} {σ : L2.St} {H : Hp} {Q : VK} {ta tb tc te : TE} {t u : TS} {D : Ends} {g : TG} {i : Nat} {v x y : V} {c : TT} {r : R2} {cA cB : TT} {as : TA}
theorem w_var (h : σ[i]? = some (some v)) (q : Q v H) : tVar i σ H Q := ⟨v, h, q⟩
theorem w_c (q : Q v H) : tC v σ H Q := q
theorem w_seq (h : t { D with nx := u D } σ H) : tSeq t u D σ H := h
theorem w_next (h : D.nx σ H) : tNext D σ H := h
theorem w_asg (h : te σ H fun x H1 => g x σ H1 D.nx) : tAsg te g D σ H := h
theorem w_ret (h : te σ H D.rt) : tRet te D σ H := h
theorem w_drop (h : te σ H fun _ H1 => D.nx σ H1) : tDrop te D σ H := h
theorem w_ifs (h : c σ H fun b H1 => if b = true then t D σ H1 else u D σ H1) : tIfS c t u D σ H := h
theorem w_op (h : ta σ H fun x H1 => tb σ H1 fun y H2 => r x y H2 Q) : tOp r ta tb σ H Q := h
theorem w_un {r : V → Hp → VK → Prop} (h : ta σ H fun x H1 => r x H1 Q) : tUn r ta σ H Q := h
theorem w_name {R : L2.St → Hp → Prop} (h : R (σ.set i (some v)) H) : gName i v σ H R := h
theorem w_sub {to ti : TE} {ts : TSet} {R : L2.St → Hp → Prop} (h : to σ H fun o H1 => ti σ H1 fun i H2 => ts o i v H2 fun H3 => R σ H3) : gSub to ti ts v σ H R := h
theorem w_test {R : Bool → Hp → Prop} (h : te σ H fun x H' => ∃ k, x = .bl k ∧ R k H') : tTest te σ H R := h
theorem w_B {R : Bool → Hp → Prop} (h : te σ H fun x H' => ∃ k, x = .bl k ∧ R k H') : tB te σ H R := h
theorem w_exb {b : Bool} {R : Bool → Prop} (h : R b) : ∃ k, V.bl b = .bl k ∧ R k := ⟨b, rfl, h⟩
theorem w_and {R : Bool → Hp → Prop} (h : cA σ H fun c H1 => if c = true then cB σ H1 R else R false H1) : tAnd cA cB σ H R := h
theorem w_or {R : Bool → Hp → Prop} (h : cA σ H fun c H1 => if c = true then R true H1 else cB σ H1 R) : tOr cA cB σ H R := h
theorem w_not {R : Bool → Hp → Prop} (h : cA σ H fun c H1 => R (!c) H1) : tNot cA σ H R := h
theorem w_andV (h : ta σ H fun x H1 => ∃ c, x = .bl c ∧ if c = true then tb σ H1 Q else Q (.bl false) H1) : tAndV ta tb σ H Q := h
theorem w_orV (h : ta σ H fun x H1 => ∃ c, x = .bl c ∧ if c = true then Q (.bl true) H1 else tb σ H1 Q) : tOrV ta tb σ H Q := h
theorem w_notV (h : ta σ H fun x H1 => ∃ c, x = .bl c ∧ Q (.bl (!c)) H1) : tNotV ta σ H Q := h
theorem w_if (h : c σ H fun b H1 => if b = true then ta σ H1 Q else tb σ H1 Q) : tIf c ta tb σ H Q := h
theorem w_I0 {g : Int → Int → V} {a b : Int} (q : Q (g a b) H) : rI0 g (.int a) (.int b) H Q := ⟨a, b, rfl, rfl, q⟩
theorem w_I {C : Int → Int → Prop} {g : Int → Int → V} {a b : Int} (hc : C a b) (q : Q (g a b) H) : rI C g (.int a) (.int b) H Q := ⟨a, b, rfl, rfl, hc, q⟩
theorem w_U {g : Int → V} {a : Int} (q : Q (g a) H) : rU g (.int a) H Q := ⟨a, rfl, q⟩
theorem w_eqI {a b : Int} (q : Q (.bl (decide (a = b))) H) : rEq (.int a) (.int b) H Q := ⟨rfl, by
  have e : decide (V.int a = V.int b) = decide (a = b) := by
    by_cases h : a = b
    · rw [decide_eq_true h, decide_eq_true (by rw [h])]
    · rw [decide_eq_false h, decide_eq_false (fun z => h (V.int.inj z))]
  rw [e]
  exact q⟩
theorem w_neI {a b : Int} (q : Q (.bl (!decide (a = b))) H) : rNe (.int a) (.int b) H Q := ⟨rfl, by
  have e : decide (V.int a = V.int b) = decide (a = b) := by
    by_cases h : a = b
    · rw [decide_eq_true h, decide_eq_true (by rw [h])]
    · rw [decide_eq_false h, decide_eq_false (fun z => h (V.int.inj z))]
  rw [e]
  exact q⟩
theorem w_nil {R : List V → Hp → Prop} (h : R [] H) : tNil σ H R := h
theorem w_cons {R : List V → Hp → Prop} (h : ta σ H fun x H1 => as σ H1 fun xs H2 => R (x :: xs) H2) : tCons ta as σ H R := h
def NewO (o : HO) (H : Hp) (Q : VK) : Prop := ∀ p, H p = none → Q (.ref p) (upd H p o)
def NewS (mk : List V → HO) (xs : List V) (H : Hp) (Q : VK) : Prop := xs.length ≤ sizeLine ∧ NewO (mk xs) H Q
theorem w_tup (h : as σ H fun xs H1 => NewS .tup xs H1 Q) : tTup as σ H Q := h
theorem w_lst (h : as σ H fun xs H1 => NewS .lst xs H1 Q) : tLst as σ H Q := h
theorem w_for {wi : TI} {tb : TS} (hh : wi σ H fun it h1 => ∃ Inv : Nat → Nat → L2.St → Hp → Prop, (∃ left, Inv 0 left σ h1) ∧ ∀ turn left slots hp, Inv turn left slots hp →
    (it.stop turn hp ∧ D.nx slots hp) ∨ (it.go turn hp ∧ ∃ Nxt : L2.St → Hp → Prop, (∀ slots' hp', Nxt slots' hp' → ∃ left', left' < left ∧ Inv (turn + 1) left' slots' hp') ∧
      ∀ item hp', it.yld turn hp item hp' → g item slots hp' fun slots2 h2 => tb { D with nx := Nxt, ct := Nxt, bk := D.nx } slots2 h2)) : tFor wi g tb D σ H := hh
theorem w_rng1 {ta : TA} {R : It → Hp → Prop} (h : ta σ H fun vs H1 => ∃ j : Int, vs = [.int j] ∧ -(2 ^ 62) ≤ j ∧ j < 2 ^ 62 ∧ R (Itr 0 j.toNat) H1) : iRng1 ta σ H R := h
theorem same_upd {p : Addr} {o : HO} (h : H p = none) : Same H (upd H p o) := fun b x e => by
  rw [upd_ne (ne_of_none e h)]
  exact e
theorem w_new {mk : List V → HO} {xs : List V} (hz : xs.length ≤ 1000) (h : ∀ p H', H p = none → Same H H' → H' p = some (mk xs) → Q (.ref p) H') : NewS mk xs H Q := ⟨Nat.le_of_lt (small1000 hz), fun p hp => h p _ hp (same_upd hp) upd_same⟩
theorem w_newO {o : HO} (h : ∀ p H', H p = none → Same H H' → H' p = some o → Q (.ref p) H') : NewO o H Q := fun p hp => h p _ hp (same_upd hp) upd_same
theorem w_cb {r : List V → Hp → VK → Prop} (h : as σ H fun vs H1 => r vs H1 Q) : tCB r as σ H Q := h
theorem w_call {sp : Sp} {dvs : List V} {E : XK} (h : as σ H fun vs H1 => sp (vs ++ dvs) H1 Q E) : tCall sp dvs E as σ H Q := h
theorem w_ixL {p : Addr} {xs : List V} {i : Int} (h : H p = some (.lst xs)) (e : atI xs i = some v) (q : Q v H) : rIxL K (.ref p) (.int i) H Q := ⟨p, xs, i, v, rfl, rfl, SqL.of h, e, q⟩
theorem w_ixLs {p : Addr} {xs : List V} {i : Int} (h : SqL K H p xs) (e : atI xs i = some v) (q : Q v H) : rIxL K (.ref p) (.int i) H Q := ⟨p, xs, i, v, rfl, rfl, h, e, q⟩
theorem w_ixT {p : Addr} {xs : List V} {i : Int} (h : H p = some (.tup xs)) (e : atI xs i = some v) (q : Q v H) : rIxT K (.ref p) (.int i) H Q := ⟨p, xs, i, v, rfl, rfl, SqT.of h, e, q⟩
theorem w_setL {p : Addr} {xs : List V} {k : Int} {j : Nat} {R : Hp → Prop} (h : H p = some (.lst xs)) (e : ixN xs.length k = some j) (q : R (upd H p (.lst (xs.set j v)))) : rSetL (.ref p) (.int k) v H R := ⟨p, xs, k, j, rfl, rfl, h, e, q⟩
theorem w_par {i j : Nat} (h : as σ H fun vs H1 => ∃ v w, vs = [v, w] ∧ D.nx ((σ.set i (some v)).set j (some w)) H1) : tPar i j as D σ H := h
theorem w_ex2 {a b : V} {R : V → V → Prop} (h : R a b) : ∃ v w, [a, b] = [v, w] ∧ R v w := ⟨a, b, rfl, h⟩
theorem w_ite {p : Prop} [Decidable p] {A B : Prop} (h1 : p → A) (h2 : ¬ p → B) : if decide p = true then A else B := by
  by_cases h : p
  · rw [decide_eq_true h]; exact h1 h
  · rw [decide_eq_false h]; exact h2 h
theorem w_iteN {p : Prop} [Decidable p] {A B : Prop} (h1 : ¬ p → A) (h2 : p → B) : if (!decide p) = true then A else B := by
  by_cases h : p
  · rw [decide_eq_true h]; exact h2 h
  · rw [decide_eq_false h]; exact h1 h
theorem w_t {A B : Prop} (h : A) : if true = true then A else B := h
theorem w_f {A B : Prop} (h : B) : if false = true then A else B := h
end
section
variable {K : PySem.W.Frag} {σ : L2.St} {H : Hp} {Q : VK} {te : TE} {g : TG} {tt : TT} {vs : List Nat}
theorem w_lc {wi : TI} (hh : wi σ H fun it h1 => ∀ new, h1 new = none → ∃ Inv : Nat → Nat → Hp → Prop, (∃ left, Inv 0 left (upd h1 new (.lst []))) ∧ ∀ turn left hp, Inv turn left hp →
    (it.stop turn hp ∧ Q (.ref new) hp) ∨ (it.go turn hp ∧ ∃ Nxt : Hp → Prop, (∀ hp', Nxt hp' → ∃ left', left' < left ∧ Inv (turn + 1) left' hp') ∧
      ∀ item hp', it.yld turn hp item hp' → g item (wipe σ vs) hp' fun slots h2 => wipe slots vs = wipe σ vs ∧ tt slots h2 fun kept h3 =>
        if kept = true then te slots h3 fun made h4 => ∃ sofar, h4 new = some (.lst sofar) ∧ sofar.length < sizeLine ∧ Nxt (upd h4 new (.lst (sofar ++ [made]))) else Nxt h3)) : tLc wi g tt te vs σ H Q := hh
theorem w_yes {R : Bool → Hp → Prop} (h : R true H) : tYes σ H R := h
theorem w_zipA {ta : TA} {R : It → Hp → Prop} (h : ta σ H fun vs H1 => ∃ a b xs ys, vs = [.ref a, .ref b] ∧ ((SqL K H1 a xs ∧ SqL K H1 b ys ∧ R (Itz K a b) H1) ∨ (SqT K H1 a xs ∧ SqT K H1 b ys ∧ R (RZ.ItzT K a b) H1))) : RZ.iZipA K ta σ H R := h
theorem w_itup {tl : TE} {R : It → Hp → Prop} (h : tl σ H fun x H1 => ∃ a, x = .ref a ∧ (∃ xs, SqT K H1 a xs) ∧ R (Itt K a) H1) : iTup K tl σ H R := h
theorem w_ilist {tl : TE} {R : It → Hp → Prop} (h : tl σ H fun x H1 => ∃ a, x = .ref a ∧ (∃ xs, SqL K H1 a xs) ∧ R (Itl K a) H1) : iList K tl σ H R := h
theorem w_gtup {n : Nat} {t : TGs} {a : Addr} {xs : List V} {R : L2.St → Hp → Prop} (h : H a = some (.tup xs)) (hn : xs.length = n) (q : t xs σ H R) : gTup K n t (.ref a) σ H R := ⟨a, xs, rfl, SqT.of h, hn, q⟩
theorem w_gcons {t : TG} {u : TGs} {v : V} {r : List V} {R : L2.St → Hp → Prop} (h : t v σ H fun σ' H' => u r σ' H' R) : gCons t u (v :: r) σ H R := ⟨v, r, rfl, h⟩
theorem w_gnil {R : L2.St → Hp → Prop} (h : R σ H) : gNil [] σ H R := ⟨rfl, h⟩
end
theorem walk_zipT {K : PySem.W.Frag} {a b : Addr} {xs ys : List V} {n : Nat} (hn : n = min xs.length ys.length) : Walk (RZ.ItzT K a b) n (fun H => SqT K H a xs ∧ SqT K H b ys) (YPair (fun i => xs[i]?) (fun i => ys[i]?)) where
  goes := fun turn hp ht both => by
    have lx : turn < xs.length := by omega
    have ly : turn < ys.length := by omega
    exact ⟨xs, ys, _, _, both.1, both.2, List.getElem?_eq_getElem lx, List.getElem?_eq_getElem ly⟩
  stops := fun hp both => ⟨xs, ys, both.1, both.2, by omega⟩
  yields := fun turn hp v hp' ht both got => by
    obtain ⟨pair, one, two, e1, e2, e3, f1, f2⟩ := got
    exact ⟨pair, one, two, e1, e2, e3, f1 _ both.1, f2 _ both.2⟩
section
variable {H : Hp} {Q : VK}
theorem w_e1 {a : Int} {R : Int → Prop} (h : R a) : ∃ i, [V.int a] = [V.int i] ∧ R i := ⟨a, rfl, h⟩
theorem w_e2 {a b : Int} {R : Int → Int → Prop} (h : R a b) : ∃ i j, [V.int a, V.int b] = [V.int i, V.int j] ∧ R i j := ⟨a, b, rfl, h⟩
theorem w_Iv {C : Int → Int → Prop} {g : Int → Int → V} {a b : Int} {z : V} (hc : C a b) (e : g a b = z) (q : Q z H) : rI C g (.int a) (.int b) H Q := ⟨a, b, rfl, rfl, hc, by
  rw [e]
  exact q⟩
end
/-! ### heaps -/
def Mv (b : Addr) (H H' : Hp) : Prop := ∀ p o, p ≠ b → H p = some o → H' p = some o
def Kt (H H' : Hp) : Prop := ∀ p xs, H p = some (.tup xs) → H' p = some (.tup xs)
theorem Kt.refl (H : Hp) : Kt H H := fun _ _ h => h
theorem Kt.trans {H H1 H2 : Hp} (a : Kt H H1) (b : Kt H1 H2) : Kt H H2 := fun p xs h => b p xs (a p xs h)
theorem Kt.of {H H' : Hp} (s : Same H H') : Kt H H' := fun p xs h => s p _ h
theorem Mv.refl (b : Addr) (H : Hp) : Mv b H H := fun _ _ _ h => h
theorem Mv.trans {b : Addr} {H H1 H2 : Hp} (m1 : Mv b H H1) (m2 : Mv b H1 H2) : Mv b H H2 := fun p o n h => m2 p o n (m1 p o n h)
theorem Mv.same {b : Addr} {H H1 : Hp} (s : Same H H1) : Mv b H H1 := fun p o _ h => s p o h
theorem Mv.upd {b : Addr} {H : Hp} {o : HO} : Mv b H (upd H b o) := fun p u n h => by
  rw [upd_ne n]
  exact h
def Bag (H : Hp) (b : Addr) : Prop := ∃ A B : Int, H b = some (.lst [.int A, .int B]) ∧ 0 ≤ A ∧ 0 ≤ B ∧ B < 2147483647
theorem Mv.kt {b : Addr} {H H' : Hp} (m : Mv b H H') (hb : Bag H b) : Kt H H' := fun p xs h => m p _ (fun e => by
  subst e
  obtain ⟨A, B, h2, _⟩ := hb
  rw [h] at h2
  cases h2) h
theorem Bag.same {b : Addr} {H H' : Hp} (hb : Bag H b) (s : Same H H') : Bag H' b := by
  obtain ⟨A, B, h, r⟩ := hb
  exact ⟨A, B, s _ _ h, r⟩
/-- a number: a tuple of two whole numbers, of less than k bits, the second not 0 -/
def NumB (H : Hp) (v : V) (k : Nat) : Prop := ∃ (p : Addr) (x y : Int), v = .ref p ∧ H p = some (.tup [.int x, .int y]) ∧ x.natAbs < 2 ^ k ∧ y.natAbs < 2 ^ k ∧ y ≠ 0
theorem NumB.kt {H H' : Hp} {v : V} {k : Nat} (h : NumB H v k) (s : Kt H H') : NumB H' v k := by
  obtain ⟨p, x, y, e, hp, r⟩ := h
  exact ⟨p, x, y, e, s _ _ hp, r⟩
theorem NumB.mono {H : Hp} {v : V} {k l : Nat} (h : NumB H v k) (hl : k ≤ l) : NumB H v l := by
  obtain ⟨p, x, y, e, hp, h1, h2, h3⟩ := h
  exact ⟨p, x, y, e, hp, Nat.lt_of_lt_of_le h1 (Nat.pow_le_pow_right (by decide) hl), Nat.lt_of_lt_of_le h2 (Nat.pow_le_pow_right (by decide) hl), h3⟩
theorem Kt.updL {H : Hp} {D : Addr} {xs : List V} {o : HO} (h : H D = some (.lst xs)) : Kt H (upd H D o) := fun p ys hp => by
  have n : p ≠ D := fun e => by
    subst e
    rw [h] at hp
    cases hp
  rw [upd_ne n]
  exact hp
theorem bag_ne {H : Hp} {b p : Addr} (hb : Bag H b) (hp : H p = none) : p ≠ b := fun e => by
  subst e
  obtain ⟨A, B, h2, _⟩ := hb
  rw [hp] at h2
  cases h2
theorem Bag.upd {H : Hp} {b D : Addr} {o : HO} (hb : Bag H b) (n : D ≠ b) : Bag (upd H D o) b := by
  obtain ⟨A, B, h, r⟩ := hb
  exact ⟨A, B, (upd_ne n.symm).trans h, r⟩
theorem Mv.updD {b D : Addr} {H H' : Hp} {o : HO} (m : Mv b H H') (hD : H D = none) : Mv b H (L2.upd H' D o) := fun p u n h => by
  rw [upd_ne (ne_of_none h hD)]
  exact m p u n h
theorem Same.updD {D : Addr} {H H' : Hp} {o : HO} (m : Same H H') (hD : H D = none) : Same H (L2.upd H' D o) := fun p u h => by
  rw [upd_ne (ne_of_none h hD)]
  exact m p u h
/-- a row of n numbers -/
def RowB (H : Hp) (v : V) (n k : Nat) : Prop := ∃ (p : Addr) (xs : List V), v = .ref p ∧ H p = some (.tup xs) ∧ xs.length = n ∧ ∀ x ∈ xs, NumB H x k
theorem RowB.kt {H H' : Hp} {v : V} {n k : Nat} (h : RowB H v n k) (s : Kt H H') : RowB H' v n k := by
  obtain ⟨p, xs, e, hp, hl, r⟩ := h
  exact ⟨p, xs, e, s _ _ hp, hl, fun x hx => (r x hx).kt s⟩
theorem RowB.mono {H : Hp} {v : V} {n k l : Nat} (h : RowB H v n k) (hl : k ≤ l) : RowB H v n l := by
  obtain ⟨p, xs, e, hp, hn, r⟩ := h
  exact ⟨p, xs, e, hp, hn, fun x hx => (r x hx).mono hl⟩
/-- a table -/
def TabB (H : Hp) (v : V) (m n k : Nat) : Prop := ∃ (p : Addr) (xs : List V), v = .ref p ∧ H p = some (.tup xs) ∧ xs.length = m ∧ ∀ x ∈ xs, RowB H x n k
theorem TabB.kt {H H' : Hp} {v : V} {m n k : Nat} (h : TabB H v m n k) (s : Kt H H') : TabB H' v m n k := by
  obtain ⟨p, xs, e, hp, hl, r⟩ := h
  exact ⟨p, xs, e, s _ _ hp, hl, fun x hx => (r x hx).kt s⟩
/-! ### the number of two whole numbers -/
def lowI (g u d : Int) : Option Nat := if 0 < g then (List.range g.toNat).find? (fun i => decide (((i : Int) * d).fmod g = u.fmod g)) else none
def lowC (u d : Int) : Int := (Int.gcd u d : Int) * (if d < 0 then -1 else 1)
def lowF (g u d : Int) : Int × Int := match lowI g u d with
  | some i => ((i : Int), 1)
  | none => (u.fdiv (lowC u d), d.fdiv (lowC u d))
theorem lowC_ne {u d : Int} (h : d ≠ 0) : lowC u d ≠ 0 := by
  have h1 : Int.gcd u d ≠ 0 := fun z => h (Int.gcd_eq_zero_iff.mp z).2
  unfold lowC
  split <;> omega
theorem lowC_dvd {u d : Int} : (∃ q, u = lowC u d * q) ∧ ∃ q, d = lowC u d * q := by
  obtain ⟨q1, e1⟩ := Int.gcd_dvd_left u d
  obtain ⟨q2, e2⟩ := Int.gcd_dvd_right u d
  unfold lowC
  split
  · refine ⟨⟨-q1, ?_⟩, ⟨-q2, ?_⟩⟩
    · rw [Int.mul_assoc, Int.neg_mul_neg, Int.one_mul]; exact e1
    · rw [Int.mul_assoc, Int.neg_mul_neg, Int.one_mul]; exact e2
  · refine ⟨⟨q1, ?_⟩, ⟨q2, ?_⟩⟩
    · rw [Int.mul_one]; exact e1
    · rw [Int.mul_one]; exact e2
theorem natAbs_fac {c q : Int} (h : c ≠ 0) : q.natAbs ≤ (c * q).natAbs := by
  rw [Int.natAbs_mul]
  have : 1 ≤ c.natAbs := by omega
  exact Nat.le_mul_of_pos_left _ this
theorem lowC_le {u d : Int} (h : d ≠ 0) : (lowC u d).natAbs ≤ d.natAbs := by
  obtain ⟨_, q, e⟩ := lowC_dvd (u := u) (d := d)
  have hq : q ≠ 0 := fun z => h (by rw [e, z, Int.mul_zero])
  have : (lowC u d).natAbs ≤ (lowC u d * q).natAbs := by
    rw [Int.mul_comm]; exact natAbs_fac hq
  rw [← e] at this
  exact this
theorem low_bd {g u d : Int} {k : Nat} (hg : g ≤ 13) (hd : d ≠ 0) (hk : 4 ≤ k) (h1 : u.natAbs < 2 ^ k) (h2 : d.natAbs < 2 ^ k) : (lowF g u d).1.natAbs < 2 ^ k ∧ (lowF g u d).2.natAbs < 2 ^ k ∧ (lowF g u d).2 ≠ 0 := by
  have hk16 : 16 ≤ 2 ^ k := Nat.le_trans (by decide : 16 ≤ 2 ^ 4) (Nat.pow_le_pow_right (by decide) hk)
  unfold lowF
  cases e : lowI g u d with
  | some i =>
    have hi : i < 13 := by
      unfold lowI at e
      split at e
      · have := List.mem_of_find?_eq_some e
        have := List.mem_range.mp this
        omega
      · cases e
    refine ⟨?_, ?_, fun z => absurd (show (1 : Int) = 0 from z) (by decide)⟩
    · show ((i : Int)).natAbs < 2 ^ k
      omega
    · show (1 : Int).natAbs < 2 ^ k
      omega
  | none =>
    have hc := lowC_ne (u := u) hd
    obtain ⟨⟨q1, e1⟩, q2, e2⟩ := lowC_dvd (u := u) (d := d)
    have f1 : u.fdiv (lowC u d) = q1 := by
      conv => lhs; lhs; rw [e1]
      exact Int.mul_fdiv_cancel_left _ hc
    have f2 : d.fdiv (lowC u d) = q2 := by
      conv => lhs; lhs; rw [e2]
      exact Int.mul_fdiv_cancel_left _ hc
    show (u.fdiv (lowC u d)).natAbs < 2 ^ k ∧ (d.fdiv (lowC u d)).natAbs < 2 ^ k ∧ d.fdiv (lowC u d) ≠ 0
    rw [f1, f2]
    refine ⟨Nat.lt_of_le_of_lt ?_ h1, Nat.lt_of_le_of_lt ?_ h2, fun z => hd ?_⟩
    · have := natAbs_fac (q := q1) hc
      rw [← e1] at this
      exact this
    · have := natAbs_fac (q := q2) hc
      rw [← e2] at this
      exact this
    · rw [e2, z, Int.mul_zero]
end Fm

namespace Fm
open PySem PySem.Spec PyProof.Rows L2
theorem w_js {t : TE} {ts : List TE} {acc : Str} {σ : L2.St} {H : Hp} {R : Str → Hp → Prop} (h : t σ H fun x H1 => ∃ y : Str, x = .str y ∧ (acc ++ y).length ≤ sizeLine ∧ tJs ts (acc ++ y) σ H1 R) : tJs (t :: ts) acc σ H R := h
theorem w_js0 {acc : Str} {σ : L2.St} {H : Hp} {R : Str → Hp → Prop} (h : R acc H) : tJs [] acc σ H R := h
theorem w_fmt {te : TE} {σ : L2.St} {H : Hp} {Q : VK} (h : te σ H fun x H1 => (∃ y : Str, x = .str y ∧ y.length ≤ sizeLine ∧ Q (.str y) H1) ∨ ∃ i : Int, x = .int i ∧ i.natAbs.log2 < 1920 ∧ Q (.str (toString i)) H1) : tFmt te σ H Q := h
theorem w_rep {H : Hp} {Q : VK} {l : Addr} {k : Int} {xs : List V} (h : H l = some (.lst xs)) (h0 : 0 ≤ k) (h1 : k ≤ 100) (hx : xs.length ≤ 100) (q : NewO (.lst (List.replicate k.toNat xs).flatten) H Q) : rRep (.ref l) (.int k) H Q := by
  refine ⟨l, k, xs, rfl, rfl, h, by omega, by omega, ?_, q⟩
  have e : xs.length * k.toNat ≤ 100 * 100 := Nat.mul_le_mul hx (by omega)
  exact Nat.le_trans e (by decide)
theorem w_iteN' {p : Prop} [Decidable p] {A B : Prop} (h : B) (hn : ¬ p) : if decide p = true then A else B := by
  rw [decide_eq_false hn]
  exact h
theorem w_bm {K : PySem.W.Frag} {T : String} {r : V → List V → Hp → VK → Prop} {to : TE} {t : TA} {σ : L2.St} {H : Hp} {Q : VK} (h : to σ H fun x H1 => tyV K T x H1 ∧ t σ H1 fun xs H2 => r x xs H2 Q) : tBM K T r to t σ H Q := h
theorem w_append {H : Hp} {Q : VK} {l : Addr} {xs : List V} {y : V} (h : H l = some (.lst xs)) (hz : xs.length ≤ 1000) (q : Q .non (upd H l (.lst (xs ++ [y])))) : rAppend (.ref l) [y] H Q := ⟨l, xs, y, rfl, rfl, h, small1000 hz, q⟩
theorem w_cat {H : Hp} {Q : VK} {l b : Addr} {xs zs : List V} (h : H l = some (.lst xs)) (h2 : H b = some (.lst zs)) (hz : xs.length + zs.length ≤ 1000) (q : NewO (.lst (xs ++ zs)) H Q) : rCat (.ref l) (.ref b) H Q := ⟨l, b, xs, zs, rfl, rfl, h, h2, Nat.le_of_lt (small1000 hz), q⟩
theorem w_revL {K : PySem.W.Frag} {te : TE} {σ : L2.St} {H : Hp} {Q : VK} (h : te σ H fun x H1 => ∃ a xs, x = .ref a ∧ SqL K H1 a xs ∧ NewO (.lst xs.reverse) H1 Q) : tRevL K te σ H Q := h
theorem w_tupOf {K : PySem.W.Frag} {H : Hp} {Q : VK} {p : Addr} {ys : List V} (h : H p = some (.lst ys)) (q : NewO (.tup ys) H Q) : ∃ p' ys', [V.ref p] = [V.ref p'] ∧ ((SqL K H p' ys' ∧ ∀ l, H l = none → Q (.ref l) (upd H l (.tup ys'))) ∨ (SqT K H p' ys' ∧ Q (.ref p') H)) := ⟨p, ys, rfl, .inl ⟨SqL.of h, q⟩⟩
theorem Same.mv {b : Addr} {H0 H H' : Hp} (s : Same H0 H) (hb : H0 b = none) (m : Mv b H H') : Same H0 H' := fun p o h => m p o (ne_of_none h hb) (s p o h)
theorem Same.upd {b : Addr} {H0 H : Hp} {o : HO} (s : Same H0 H) (hb : H0 b = none) : Same H0 (upd H b o) := fun p u h => by
  rw [upd_ne (ne_of_none h hb)]
  exact s p u h
/-! ### data of any depth -/
def Dat (K : PySem.W.Frag) (H : Hp) (v : V) (n : Nat) : Prop := ∃ d, Dp K H v d ∧ d.canLay0 = true ∧ d.depth ≤ n
theorem dat_all {K : PySem.W.Frag} {H : Hp} {n : Nat} : ∀ {xs : List V}, (∀ x ∈ xs, Dat K H x n) → ∃ ds, DpAll K H xs ds ∧ PyData.canLayAll0 ds = true ∧ PyData.depthAll ds ≤ n ∧ ds.length = xs.length
  | [], _ => ⟨[], .nil, by simp [PyData.canLayAll0], by simp [PyData.depthAll], rfl⟩
  | x :: xs, h => by
    obtain ⟨d, h1, h2, h3⟩ := h x (List.mem_cons_self ..)
    obtain ⟨ds, g1, g2, g3, g4⟩ := dat_all (xs := xs) fun y hy => h y (List.mem_cons_of_mem _ hy)
    refine ⟨d :: ds, .cons h1 g1, ?_, ?_, by rw [List.length_cons, List.length_cons, g4]⟩
    · rw [PyData.canLayAll0, h2, g2]; rfl
    · rw [PyData.depthAll]; omega
theorem dat_int {K : PySem.W.Frag} {H : Hp} {i : Int} : Dat K H (.int i) 0 := ⟨.int i, .int i, by simp [PyData.canLay0], by simp [PyData.depth]⟩
theorem dat_tup {K : PySem.W.Frag} {H : Hp} {p : Addr} {xs : List V} {n : Nat} (h : H p = some (.tup xs)) (hx : ∀ x ∈ xs, Dat K H x n) : Dat K H (.ref p) (n + 1) := by
  obtain ⟨ds, g1, g2, g3, g4⟩ := dat_all hx
  exact ⟨.tuple ds, .tup (SqT.of h) g1, by rw [PyData.canLay0]; exact g2, by rw [PyData.depth]; omega⟩
theorem dat_lst {K : PySem.W.Frag} {H : Hp} {p : Addr} {xs : List V} {n : Nat} (h : H p = some (.lst xs)) (hx : ∀ x ∈ xs, Dat K H x n) : Dat K H (.ref p) (n + 1) := by
  obtain ⟨ds, g1, g2, g3, g4⟩ := dat_all hx
  exact ⟨.list ds, .lst (SqL.of h) g1, by rw [PyData.canLay0]; exact g2, by rw [PyData.depth]; omega⟩
theorem NumB.dat {K : PySem.W.Frag} {H : Hp} {v : V} {k : Nat} (h : NumB H v k) : Dat K H v 1 := by
  obtain ⟨p, x, y, rfl, hp, _⟩ := h
  refine dat_tup hp fun z hz => ?_
  rcases List.mem_cons.mp hz with rfl | hz
  · exact dat_int
  · rw [List.mem_singleton.mp hz]; exact dat_int
theorem RowB.dat {K : PySem.W.Frag} {H : Hp} {v : V} {n k : Nat} (h : RowB H v n k) : Dat K H v 2 := by
  obtain ⟨p, xs, rfl, hp, _, hx⟩ := h
  exact dat_tup hp fun z hz => (hx z hz).dat
theorem shaped_of {d : PyData} (h : d.canLay0 = true) (h2 : d.depth ≤ 64) : SeqAt.shaped d = true := by
  show (d.canLay0 && decide (d.depth ≤ 64)) = true
  rw [h, decide_eq_true h2]
  rfl
theorem w_neNil {K : PySem.W.Frag} {H : Hp} {Q : VK} {p r : Addr} {xs : List V} {n : Nat} (h : H p = some (.lst xs)) (h2 : H r = some (.lst [])) (hx : ∀ x ∈ xs, Dat K H x n) (hn : n ≤ 60) (q : Q (.bl (!decide (xs = []))) H) : rNeD K (.ref p) (.ref r) H Q := by
  obtain ⟨ds, g1, g2, g3, g4⟩ := dat_all hx
  refine ⟨.list ds, .list [], .lst (SqL.of h) g1, .lst (SqL.of h2) .nil, shaped_of (by rw [PyData.canLay0]; exact g2) (by rw [PyData.depth]; omega), shaped_of (by simp [PyData.canLay0, PyData.canLayAll0]) (by simp [PyData.depth, PyData.depthAll]), ?_⟩
  have e : PyData.eqv (.list ds) (.list []) = decide (xs = []) := by
    rw [PyData.eqv]
    cases xs with
    | nil =>
      have : ds = [] := List.length_eq_zero_iff.mp g4
      rw [this, decide_eq_true rfl]; rw [PyData.eqvAll]
    | cons x r =>
      cases ds with
      | nil => cases g4
      | cons d ds => rw [decide_eq_false (by simp)]; rw [PyData.eqvAll]
  rw [e]
  exact q
/-! ### texts -/
def TxtOk (z : Str) (n : Nat) : Prop := z.length ≤ n ∧ PyData.strOk z = true
theorem ok_str (s : String) : PyData.strOk (Str.ofString s) = true := by
  rw [Str.ofString_eq_toList]
  unfold PyData.strOk
  rw [Array.all_eq_true]
  intro i hi
  simp only [List.getElem_toArray, List.getElem_map, decide_eq_true_eq]
  have h := (s.toList[i]'(by simpa using hi)).valid
  simp only [Char.toNat]
  generalize (s.toList[i]'(by simpa using hi)).val = c at h
  rcases h with h | h
  · have : c.toNat < 55296 := h
    omega
  · exact h.2
theorem ok_int {i : Int} (h : i.natAbs.log2 < 1920) : TxtOk (Str.ofString (toString i)) 1921 := ⟨int_text_len_1921 h, ok_str _⟩
theorem ok_app {a b : Str} {n m : Nat} (h1 : TxtOk a n) (h2 : TxtOk b m) : TxtOk (a ++ b) (n + m) := by
  refine ⟨?_, ?_⟩
  · rw [Str.length_append]; exact Nat.add_le_add h1.1 h2.1
  · have e1 := h1.2
    have e2 := h2.2
    unfold PyData.strOk at e1 e2 ⊢
    rw [Str.cps_append, Array.all_append, e1, e2]
    rfl
theorem TxtOk.mono {a : Str} {n m : Nat} (h : TxtOk a n) (hl : n ≤ m) : TxtOk a m := ⟨Nat.le_trans h.1 hl, h.2⟩
theorem ok_empty : TxtOk Str.empty 0 := ⟨Nat.le_refl _, by decide +kernel⟩
theorem ok_join {sep : Str} {n m : Nat} (hs : TxtOk sep m) : ∀ {ys : List Str}, (∀ y ∈ ys, TxtOk y n) → TxtOk (Str.join sep ys) (ys.length * (n + m))
  | [], _ => ok_empty.mono (Nat.zero_le _)
  | [x], h => by
    refine (h x (List.mem_singleton_self x)).mono ?_
    show n ≤ 1 * (n + m)
    omega
  | x :: y :: r, h => by
    have h1 := h x (List.mem_cons_self ..)
    have h2 := ok_join hs (ys := y :: r) fun z hz => h z (List.mem_cons_of_mem _ hz)
    have h3 := ok_app (ok_app h1 hs) h2
    refine TxtOk.mono h3 ?_
    have e : (x :: y :: r).length * (n + m) = (y :: r).length * (n + m) + (n + m) := by rw [List.length_cons, Nat.succ_mul]
    omega
theorem sum_le {n : Nat} : ∀ {ys : List Str}, (∀ y ∈ ys, TxtOk y n) → (ys.map (·.length)).sum ≤ ys.length * n
  | [], _ => Nat.zero_le _
  | y :: r, h => by
    have h1 := (h y (List.mem_cons_self ..)).1
    have h2 := sum_le (ys := r) fun z hz => h z (List.mem_cons_of_mem _ hz)
    rw [List.map_cons, List.sum_cons, List.length_cons, Nat.succ_mul]
    omega
/-- a number's text -/
def numT (a : Int × Int) : Str := if a.2 = 1 then Str.ofString (toString a.1) else Str.ofString (toString a.1) ++ ("/" : Str) ++ Str.ofString (toString a.2)
def Sm (a : Int × Int) : Prop := a.1.natAbs.log2 < 1920 ∧ a.2.natAbs.log2 < 1920
theorem numT_ok {a : Int × Int} (h : Sm a) : TxtOk (numT a) 3900 := by
  unfold numT
  split
  · exact (ok_int h.1).mono (by decide)
  · exact (ok_app (ok_app (ok_int h.1) ⟨(by decide : ("/" : Str).length ≤ 1), by decide +kernel⟩) (ok_int h.2)).mono (by decide)
def rowT (r : List (Int × Int)) : Str := Txt.join (" " : Str) (r.map numT)
theorem rowT_ok {r : List (Int × Int)} (h : ∀ a ∈ r, Sm a) (hl : r.length ≤ 10) : TxtOk (rowT r) 40000 := by
  unfold rowT
  rw [TL.join_eq]
  refine (ok_join (n := 3900) (m := 1) ⟨by decide, by decide +kernel⟩ fun y hy => ?_).mono ?_
  · obtain ⟨a, ha, rfl⟩ := List.mem_map.mp hy
    exact numT_ok (h a ha)
  · rw [List.length_map]
    omega
def tabT (t : List (List (Int × Int))) : Str := Txt.join (" / " : Str) (t.map rowT)
theorem tabT_ok {t : List (List (Int × Int))} (h : ∀ r ∈ t, (∀ a ∈ r, Sm a) ∧ r.length ≤ 10) (hl : t.length ≤ 10) : TxtOk (tabT t) 500000 := by
  unfold tabT
  rw [TL.join_eq]
  refine (ok_join (n := 40000) (m := 3) ⟨by decide, by decide +kernel⟩ fun y hy => ?_).mono ?_
  · obtain ⟨a, ha, rfl⟩ := List.mem_map.mp hy
    exact rowT_ok (h a ha).1 (h a ha).2
  · rw [List.length_map]
    omega
/-! ### numbers, rows, tables by their values -/
def NumV (H : Hp) (v : V) (a : Int × Int) : Prop := ∃ p, v = .ref p ∧ H p = some (.tup [.int a.1, .int a.2])
def SqV {α : Type} (P : Hp → V → α → Prop) (H : Hp) (v : V) (as : List α) : Prop := ∃ p xs, v = .ref p ∧ H p = some (.tup xs) ∧ xs.length = as.length ∧ ∀ (i : Nat) (x : V) (a : α), xs[i]? = some x → as[i]? = some a → P H x a
abbrev RowV := SqV NumV
abbrev TabV := SqV RowV
theorem NumV.kt {H H' : Hp} {v : V} {a : Int × Int} (h : NumV H v a) (s : Kt H H') : NumV H' v a := by
  obtain ⟨p, e, hp⟩ := h
  exact ⟨p, e, s _ _ hp⟩
theorem RowV.kt {H H' : Hp} {v : V} {a : List (Int × Int)} (h : RowV H v a) (s : Kt H H') : RowV H' v a := by
  obtain ⟨p, xs, e, hp, hl, hx⟩ := h
  exact ⟨p, xs, e, s _ _ hp, hl, fun i x b h1 h2 => (hx i x b h1 h2).kt s⟩
theorem TabV.kt {H H' : Hp} {v : V} {a : List (List (Int × Int))} (h : TabV H v a) (s : Kt H H') : TabV H' v a := by
  obtain ⟨p, xs, e, hp, hl, hx⟩ := h
  exact ⟨p, xs, e, s _ _ hp, hl, fun i x b h1 h2 => RowV.kt (hx i x b h1 h2) s⟩
theorem sm_of {x : Int} {k : Nat} (h : x.natAbs < 2 ^ k) (hk : 0 < k) (hk2 : k ≤ 1000) : x.natAbs.log2 < 1920 := Nat.lt_of_lt_of_le (PySem.Flt.log2_lt_of hk h) (by omega)
theorem NumB.val {H : Hp} {v : V} {k : Nat} (h : NumB H v k) (hk : 0 < k) (hk2 : k ≤ 1000) : ∃ a, NumV H v a ∧ Sm a := by
  obtain ⟨p, x, y, e, hp, h1, h2, _⟩ := h
  exact ⟨(x, y), ⟨p, e, hp⟩, sm_of h1 hk hk2, sm_of h2 hk hk2⟩
theorem sq_val {α : Type} {P : Hp → V → α → Prop} {S : α → Prop} {H : Hp} : ∀ {xs : List V}, (∀ x ∈ xs, ∃ a, P H x a ∧ S a) → ∃ as : List α, xs.length = as.length ∧ (∀ a ∈ as, S a) ∧ ∀ (i : Nat) (x : V) (a : α), xs[i]? = some x → as[i]? = some a → P H x a
  | [], _ => ⟨[], rfl, (fun a ha => by cases ha), fun i x a h _ => by simp at h⟩
  | x :: xs, h => by
    obtain ⟨a, h1, h2⟩ := h x (List.mem_cons_self ..)
    obtain ⟨as, g1, g2, g3⟩ := sq_val (xs := xs) fun y hy => h y (List.mem_cons_of_mem _ hy)
    refine ⟨a :: as, by rw [List.length_cons, List.length_cons, g1], fun b hb => ?_, fun i y b e1 e2 => ?_⟩
    · rcases List.mem_cons.mp hb with rfl | hb
      · exact h2
      · exact g2 b hb
    · cases i with
      | zero =>
        cases Option.some.inj e1
        cases Option.some.inj e2
        exact h1
      | succ i => exact g3 i y b e1 e2
theorem RowB.val {H : Hp} {v : V} {n k : Nat} (h : RowB H v n k) (hk : 0 < k) (hk2 : k ≤ 1000) : ∃ r, RowV H v r ∧ r.length = n ∧ ∀ a ∈ r, Sm a := by
  obtain ⟨p, xs, e, hp, hl, hx⟩ := h
  obtain ⟨as, g1, g2, g3⟩ := sq_val (P := NumV) (S := Sm) (H := H) (xs := xs) fun x hx' => (hx x hx').val hk hk2
  exact ⟨as, ⟨p, xs, e, hp, g1, g3⟩, by omega, g2⟩
theorem TabB.val {H : Hp} {v : V} {m n k : Nat} (h : TabB H v m n k) (hk : 0 < k) (hk2 : k ≤ 1000) : ∃ t, TabV H v t ∧ t.length = m ∧ ∀ r ∈ t, (∀ a ∈ r, Sm a) ∧ r.length = n := by
  obtain ⟨p, xs, e, hp, hl, hx⟩ := h
  obtain ⟨as, g1, g2, g3⟩ := sq_val (P := RowV) (S := fun r => (∀ a ∈ r, Sm a) ∧ r.length = n) (H := H) (xs := xs) fun x hx' => by
    obtain ⟨r, h1, h2, h3⟩ := (hx x hx').val hk hk2
    exact ⟨r, h1, h3, h2⟩
  exact ⟨as, ⟨p, xs, e, hp, g1, g3⟩, by omega, g2⟩
/-! ### rows grown -/
def kk (i : Nat) : Nat := 2 ^ (i + 3) - 1
theorem kk_pos (i : Nat) : 7 ≤ kk i := by
  have : 2 ^ 3 ≤ 2 ^ (i + 3) := Nat.pow_le_pow_right (by decide) (by omega)
  unfold kk
  omega
theorem kk_succ (i : Nat) : 2 * kk i + 1 = kk (i + 1) := by
  have h : 2 ^ 3 ≤ 2 ^ (i + 3) := Nat.pow_le_pow_right (by decide) (by omega)
  have e : 2 ^ (i + 1 + 3) = 2 ^ (i + 3) * 2 := by rw [show i + 1 + 3 = (i + 3) + 1 by omega, Nat.pow_succ]
  unfold kk
  rw [e]
  generalize 2 ^ (i + 3) = z at h ⊢
  omega
theorem kk_le {i : Nat} (h : i ≤ 5) : kk i ≤ 255 := by
  have : 2 ^ (i + 3) ≤ 2 ^ 8 := Nat.pow_le_pow_right (by decide) (by omega)
  unfold kk
  omega
theorem rows_end {H Hn : Hp} {b F : Addr} {xs : List V} {row : V} {n i : Nat} (mv : Mv b H Hn) (hb : Bag Hn b) (hF0 : H F = none) (nF : F ≠ b) (hF : Hn F = some (.lst xs)) (hl : xs.length = i) (hx : ∀ x ∈ xs, RowB Hn x n (kk i)) (hr : RowB Hn row n (kk (i + 1))) :
    Mv b H (upd Hn F (.lst (xs ++ [row]))) ∧ Bag (upd Hn F (.lst (xs ++ [row]))) b ∧ ∃ ys : List V, (upd Hn F (.lst (xs ++ [row]))) F = some (.lst ys) ∧ ys.length = i + 1 ∧ ∀ x ∈ ys, RowB (upd Hn F (.lst (xs ++ [row]))) x n (kk (i + 1)) := by
  have kt : Kt Hn (upd Hn F (.lst (xs ++ [row]))) := Kt.updL hF
  refine ⟨mv.updD hF0, hb.upd nF, xs ++ [row], upd_same, by rw [List.length_append, hl]; rfl, fun x h => ?_⟩
  rcases List.mem_append.mp h with h | h
  · refine ((hx x h).kt kt).mono ?_
    have := kk_succ i
    omega
  · rw [List.mem_singleton.mp h]
    exact hr.kt kt
theorem RowB.zeros {H : Hp} {u : Addr} {l : Addr} {n : Nat} (hu : H u = some (.tup [.int 0, .int 1])) (hl : H l = some (.tup (List.replicate n [V.ref u]).flatten)) : RowB H (.ref l) n 7 := by
  rw [List.flatten_replicate_singleton] at hl
  refine ⟨l, _, rfl, hl, List.length_replicate, fun x hx => ?_⟩
  rw [(List.mem_replicate.mp hx).2]
  exact ⟨u, 0, 1, rfl, hu, by decide, by decide, by decide⟩
/-! ### what is looked at together -/
def Tri (H : Hp) (v : V) : Prop := ∃ (p : Addr) (x r t : V), v = .ref p ∧ H p = some (.tup [x, r, t]) ∧ (∃ a, NumV H x a ∧ Sm a) ∧ (∃ rs, RowV H r rs ∧ (∀ a ∈ rs, Sm a) ∧ rs.length ≤ 10) ∧ ∃ ts, TabV H t ts ∧ (∀ r ∈ ts, (∀ a ∈ r, Sm a) ∧ r.length ≤ 10) ∧ ts.length ≤ 10
theorem Tri.kt {H H' : Hp} {v : V} (h : Tri H v) (s : Kt H H') : Tri H' v := by
  obtain ⟨p, x, r, t, e, hp, ⟨a, h1, h2⟩, ⟨rs, h3, h4⟩, ts, h5, h6⟩ := h
  exact ⟨p, x, r, t, e, s _ _ hp, ⟨a, h1.kt s, h2⟩, ⟨rs, RowV.kt h3 s, h4⟩, ts, TabV.kt h5 s, h6⟩
theorem TabB.mono {H : Hp} {v : V} {m n k l : Nat} (h : TabB H v m n k) (hl : k ≤ l) : TabB H v m n l := by
  obtain ⟨p, xs, e, hp, hn, r⟩ := h
  exact ⟨p, xs, e, hp, hn, fun x hx => (r x hx).mono hl⟩
theorem tri_mk {H : Hp} {p : Addr} {x r t : V} {n n' m k : Nat} (hp : H p = some (.tup [x, r, t])) (hx : NumB H x k) (hr : RowB H r n k) (ht : TabB H t m n' k) (hk : 0 < k) (hk2 : k ≤ 1000) (hn : n ≤ 10) (hn' : n' ≤ 10) (hm : m ≤ 10) : Tri H (.ref p) := by
  obtain ⟨rs, h1, h2, h3⟩ := hr.val hk hk2
  obtain ⟨ts, g1, g2, g3⟩ := ht.val hk hk2
  exact ⟨p, x, r, t, rfl, hp, hx.val hk hk2, ⟨rs, h1, h3, by omega⟩, ts, g1, fun r hr => ⟨(g3 r hr).1, by have := (g3 r hr).2; omega⟩, by omega⟩
theorem sqv1 {α : Type} {P : Hp → V → α → Prop} {H : Hp} {p : Addr} {x : V} {a : α} (hp : H p = some (.tup [x])) (h1 : P H x a) : SqV P H (.ref p) [a] := ⟨p, [x], rfl, hp, rfl, fun i y b e1 e2 => by
  cases i with
  | zero => cases Option.some.inj e1; cases Option.some.inj e2; exact h1
  | succ i => simp at e1⟩
theorem sqv2 {α : Type} {P : Hp → V → α → Prop} {H : Hp} {p : Addr} {x y : V} {a b : α} (hp : H p = some (.tup [x, y])) (h1 : P H x a) (h2 : P H y b) : SqV P H (.ref p) [a, b] := ⟨p, [x, y], rfl, hp, rfl, fun i z c e1 e2 => by
  match i with
  | 0 => cases Option.some.inj e1; cases Option.some.inj e2; exact h1
  | 1 => cases Option.some.inj e1; cases Option.some.inj e2; exact h2
  | i + 2 => simp at e1⟩
theorem all_true (n : Nat) : (List.replicate n true).all id = true := by
  rw [List.all_eq_true]
  intro x hx
  rw [(List.mem_replicate.mp hx).2]
  rfl
theorem fresh_of {H : Hp} {p q : Addr} {o : HO} (h : H p = some o) (hq : H q = none) : p ≠ q := fun e => by
  subst e
  rw [h] at hq
  cases hq
end Fm

namespace Fm
open PySem PySem.Spec PyProof.Rows L2
theorem w_chain {r r' : R2} {ta tb tc : TE} {σ : L2.St} {H : Hp} {Q : VK} (h : ta σ H fun x H1 => tb σ H1 fun y H2 => r x y H2 fun z H3 => ∃ k, z = .bl k ∧ (if k = true then tc σ H3 fun w' H4 => r' y w' H4 Q else Q (.bl false) H3)) : tChain r r' ta tb tc σ H Q := h
theorem w_rng2 {ta : TA} {σ : L2.St} {H : Hp} {R : It → Hp → Prop} (h : ta σ H fun vs H1 => ∃ i j : Int, vs = [.int i, .int j] ∧ (-(2 ^ 62) ≤ i ∧ i < 2 ^ 62 ∧ -(2 ^ 62) ≤ j ∧ j < 2 ^ 62) ∧ R (Itr i (j - i).toNat) H1) : iRng2 ta σ H R := h
theorem w_extend {H : Hp} {Q : VK} {l b : Addr} {xs zs : List V} (h : H l = some (.lst xs)) (h2 : H b = some (.lst zs)) (hz : xs.length + zs.length ≤ 1000) (q : Q .non (upd H l (.lst (xs ++ zs)))) : rExtend (.ref l) [.ref b] H Q := ⟨l, b, xs, zs, rfl, rfl, h, h2, Nat.le_of_lt (small1000 hz), q⟩
theorem w_iteB {b : Bool} {A B : Prop} (h1 : b = true → A) (h2 : b = false → B) : if b = true then A else B := by
  cases b with
  | true => exact h1 rfl
  | false => exact h2 rfl
theorem w_iteBN {b : Bool} {A B : Prop} (h1 : b = false → A) (h2 : b = true → B) : if (!b) = true then A else B := by
  cases b with
  | true => exact h2 rfl
  | false => exact h1 rfl
theorem w_notB {H : Hp} {Q : VK} {a b : Bool} (q : Q (.bl (!decide (a = b))) H) : rNotB (.bl a) (.bl b) H Q := ⟨a, b, rfl, rfl, q⟩
/-! ### any things -/
def Kl (H H' : Hp) : Prop := ∀ p xs, H p = some (.lst xs) → ∃ ys, H' p = some (.lst ys)
def Kd (H H' : Hp) : Prop := Kt H H' ∧ Kl H H'
theorem Kd.refl (H : Hp) : Kd H H := ⟨Kt.refl H, fun _ xs h => ⟨xs, h⟩⟩
theorem Kd.trans {H H1 H2 : Hp} (a : Kd H H1) (b : Kd H1 H2) : Kd H H2 := ⟨a.1.trans b.1, fun p xs h => by
  obtain ⟨ys, h1⟩ := a.2 p xs h
  exact b.2 p ys h1⟩
theorem Kd.of {H H' : Hp} (s : Same H H') : Kd H H' := ⟨Kt.of s, fun p xs h => ⟨xs, s _ _ h⟩⟩
theorem Kd.mv {b : Addr} {H H' : Hp} (m : Mv b H H') (hb : Bag H b) (hb' : Bag H' b) : Kd H H' := ⟨m.kt hb, fun p xs h => by
  by_cases e : p = b
  · subst e
    obtain ⟨A, B, h2, _⟩ := hb'
    exact ⟨_, h2⟩
  · exact ⟨xs, m _ _ e h⟩⟩
theorem Kd.updL {H : Hp} {D : Addr} {xs ys : List V} (h : H D = some (.lst xs)) : Kd H (upd H D (.lst ys)) := ⟨Kt.updL h, fun p zs hp => by
  by_cases e : p = D
  · subst e
    exact ⟨ys, upd_same⟩
  · exact ⟨zs, by rw [upd_ne e]; exact hp⟩⟩
def atomB : V → Bool
  | .non => true
  | .bl _ => true
  | .int _ => true
  | .str _ => true
  | _ => false
/-- any thing: of no parts, a list, a tuple of things of no parts -/
def Th (H : Hp) (v : V) : Prop := atomB v = true ∨ (∃ p xs, v = .ref p ∧ H p = some (.lst xs)) ∨ ∃ p xs, v = .ref p ∧ H p = some (.tup xs) ∧ ∀ x ∈ xs, atomB x = true
theorem Th.kd {H H' : Hp} {v : V} (h : Th H v) (k : Kd H H') : Th H' v := by
  rcases h with h | ⟨p, xs, e, h⟩ | ⟨p, xs, e, h, hx⟩
  · exact .inl h
  · obtain ⟨ys, h2⟩ := k.2 p xs h
    exact .inr (.inl ⟨p, ys, e, h2⟩)
  · exact .inr (.inr ⟨p, xs, e, k.1 _ _ h, hx⟩)
theorem Th.sm {H H' : Hp} {v : V} (h : Th H v) (s : Same H H') : Th H' v := h.kd (Kd.of s)
theorem Th.tup {H : Hp} {p : Addr} {xs : List V} (h : H p = some (.tup xs)) (hx : xs.all atomB = true) : Th H (.ref p) := .inr (.inr ⟨p, xs, rfl, h, fun x m => List.all_eq_true.mp hx x m⟩)
theorem Th.lst {H : Hp} {p : Addr} {xs : List V} (h : H p = some (.lst xs)) : Th H (.ref p) := .inr (.inl ⟨p, xs, rfl, h⟩)
theorem NumB.th {H : Hp} {v : V} {k : Nat} (h : NumB H v k) : Th H v := by
  obtain ⟨p, x, y, rfl, hp, _⟩ := h
  exact Th.tup hp rfl
/-! ### what is told of them -/
def intB : V → Bool
  | .int _ => true
  | .bl _ => true
  | _ => false
def blB : V → Bool
  | .bl _ => true
  | _ => false
def wholeB : V → Bool
  | .int _ => true
  | _ => false
def grdB : V → Bool
  | .int i => decide (i ∈ [0, 3, 5, 7, 11, 13])
  | _ => false
def numOk (g : Int) : List V → Bool
  | [.int t, .int b] => if g = 0 then decide (1 ≤ b) && decide (Int.gcd t b = 1) else (decide (0 ≤ t) && decide (t < g)) && decide (b = 1)
  | _ => false
def numAt (g : Int) : Option HO → Bool
  | some (.tup xs) => numOk g xs
  | _ => false
def numOf (H : Hp) (g : Int) : V → Bool
  | .ref p => numAt g (H p)
  | _ => false
theorem numOf_tup {H : Hp} {g : Int} {p : Addr} {xs : List V} (h : H p = some (.tup xs)) : numOf H g (.ref p) = numOk g xs := by
  show numAt g (H p) = _
  rw [h]
  rfl
theorem numOf_lst {H : Hp} {g : Int} {p : Addr} {xs : List V} (h : H p = some (.lst xs)) : numOf H g (.ref p) = false := by
  show numAt g (H p) = _
  rw [h]
  rfl
theorem numOf_kd {H H' : Hp} {g : Int} {v : V} (h : Th H v) (k : Kd H H') : numOf H' g v = numOf H g v := by
  rcases h with h | ⟨p, xs, rfl, h⟩ | ⟨p, xs, rfl, h, _⟩
  · cases v <;> first | rfl | cases h
  · obtain ⟨ys, h2⟩ := k.2 p xs h
    rw [numOf_lst h, numOf_lst h2]
  · rw [numOf_tup h, numOf_tup (k.1 _ _ h)]
theorem whole_eq (v : V) : wholeB v = (intB v && !blB v) := by
  cases v <;> rfl
theorem whole_int {v : V} (h : wholeB v = true) : ∃ i, v = .int i := by
  cases v with
  | int i => exact ⟨i, rfl⟩
  | _ => cases h
theorem grd_whole {v : V} (h : wholeB v = false) : grdB v = false := by
  cases v with
  | int i => cases h
  | _ => rfl
theorem beq_comm_int (a b : Int) : (a == b) = decide (b = a) := by
  by_cases h : a = b
  · subst h; simp
  · rw [beq_eq_false_iff_ne.mpr h, decide_eq_false (fun e => h e.symm)]
theorem in_grd (i : Int) : inV (.int i) [.int 0, .int 3, .int 5, .int 7, .int 11, .int 13] = grdB (.int i) := by
  show (((0 : Int) == i) || (((3 : Int) == i) || (((5 : Int) == i) || (((7 : Int) == i) || (((11 : Int) == i) || (((13 : Int) == i) || false)))))) = decide (i ∈ [0, 3, 5, 7, 11, 13])
  rw [beq_comm_int, beq_comm_int, beq_comm_int, beq_comm_int, beq_comm_int, beq_comm_int, Bool.eq_iff_iff]
  simp
theorem numOk_len {g : Int} {xs : List V} (h : xs.length ≠ 2) : numOk g xs = false := by
  match xs, h with
  | [], _ => rfl
  | [x], _ => cases x <;> rfl
  | [x, y], h => exact absurd rfl h
  | x :: y :: z :: r, _ => cases x <;> cases y <;> rfl
theorem numOk_l {g : Int} {x y : V} (h : wholeB x = false) : numOk g [x, y] = false := by
  cases x with
  | int i => cases h
  | _ => cases y <;> rfl
theorem numOk_r {g : Int} {x y : V} (h : wholeB y = false) : numOk g [x, y] = false := by
  cases y with
  | int i => cases h
  | _ => cases x <;> rfl
theorem numOk_0 {t b : Int} : numOk 0 [.int t, .int b] = (decide (1 ≤ b) && decide ((Int.gcd t b : Int) = 1)) := by
  have e : numOk 0 [.int t, .int b] = (decide (1 ≤ b) && decide (Int.gcd t b = 1)) := by simp [numOk]
  rw [e]
  congr 1
  rw [decide_eq_decide]
  omega
theorem numOk_g {g t b : Int} (h : g ≠ 0) : numOk g [.int t, .int b] = ((decide (0 ≤ t) && decide (t < g)) && decide (b = 1)) := by
  simp [numOk, h]
/-! ### isinstance -/
def tyAt : Option HO → String
  | some (.tup _) => "tuple"
  | _ => "list"
def tyN (H : Hp) : V → String
  | .non => "NoneType"
  | .bl _ => "bool"
  | .int _ => "int"
  | .str _ => "str"
  | .ref p => tyAt (H p)
  | _ => ""
theorem Th.ty {K : PySem.W.Frag} {H : Hp} {v : V} (h : Th H v) : TyX K H v (.type (tyN H v)) := by
  rcases h with h | ⟨p, xs, rfl, h⟩ | ⟨p, xs, rfl, h, _⟩
  · cases v with
    | non => exact .base .non
    | bl b => exact .base (.bl b)
    | int i => exact .base (.int i)
    | str z => exact .base (.str z)
    | _ => cases h
  · have e : tyN H (.ref p) = "list" := by show tyAt (H p) = _; rw [h]; rfl
    rw [e]
    exact .base (.lst h)
  · have e : tyN H (.ref p) = "tuple" := by show tyAt (H p) = _; rw [h]; rfl
    rw [e]
    exact .base (.tup h)
theorem isi_is {K : PySem.W.Frag} {H : Hp} {Q : VK} {v : V} {a T : String} {b : Bool} (h : TyX K H v (.type a)) (e : kitB a T = some b) (q : Q (.bl b) H) : rIsi K [v, .ty T] H Q := ⟨v, .ty T, .type a, .type T, b, rfl, .ty T, h, kit_ty e, q⟩
theorem isi_int {K : PySem.W.Frag} {H : Hp} {Q : VK} {v : V} (h : Th H v) (q : Q (.bl (intB v)) H) : rIsi K [v, .ty "int"] H Q := by
  refine isi_is h.ty ?_ q
  rcases h with h | ⟨p, xs, rfl, h⟩ | ⟨p, xs, rfl, h, _⟩
  · cases v with
    | non => show kitB "NoneType" "int" = some false; decide +kernel
    | bl b => show kitB "bool" "int" = some true; decide +kernel
    | int i => show kitB "int" "int" = some true; decide +kernel
    | str z => show kitB "str" "int" = some false; decide +kernel
    | _ => cases h
  · show kitB (tyAt (H p)) _ = _; rw [h]; show kitB "list" "int" = some false; decide +kernel
  · show kitB (tyAt (H p)) _ = _; rw [h]; show kitB "tuple" "int" = some false; decide +kernel
theorem isi_bool {K : PySem.W.Frag} {H : Hp} {Q : VK} {v : V} (h : Th H v) (q : Q (.bl (blB v)) H) : rIsi K [v, .ty "bool"] H Q := by
  refine isi_is h.ty ?_ q
  rcases h with h | ⟨p, xs, rfl, h⟩ | ⟨p, xs, rfl, h, _⟩
  · cases v with
    | non => show kitB "NoneType" "bool" = some false; decide +kernel
    | bl b => show kitB "bool" "bool" = some true; decide +kernel
    | int i => show kitB "int" "bool" = some false; decide +kernel
    | str z => show kitB "str" "bool" = some false; decide +kernel
    | _ => cases h
  · show kitB (tyAt (H p)) _ = _; rw [h]; show kitB "list" "bool" = some false; decide +kernel
  · show kitB (tyAt (H p)) _ = _; rw [h]; show kitB "tuple" "bool" = some false; decide +kernel
theorem isi_tup {K : PySem.W.Frag} {H : Hp} {Q : VK} {v : V} (h : Th H v) (q1 : ∀ p xs, v = .ref p → H p = some (.tup xs) → (∀ x ∈ xs, atomB x = true) → Q (.bl true) H) (q2 : (∀ g, numOf H g v = false) → Q (.bl false) H) : rIsi K [v, .ty "tuple"] H Q := by
  have h' := h
  rcases h with h | ⟨p, xs, rfl, h⟩ | ⟨p, xs, rfl, h, hx⟩
  · refine isi_is h'.ty (b := false) ?_ (q2 fun g => ?_)
    · cases v with
      | non => show kitB "NoneType" "tuple" = some false; decide +kernel
      | bl b => show kitB "bool" "tuple" = some false; decide +kernel
      | int i => show kitB "int" "tuple" = some false; decide +kernel
      | str z => show kitB "str" "tuple" = some false; decide +kernel
      | _ => cases h
    · cases v <;> first | rfl | cases h
  · refine isi_is h'.ty (b := false) ?_ (q2 fun g => numOf_lst h)
    show kitB (tyAt (H p)) _ = _; rw [h]; show kitB "list" "tuple" = some false; decide +kernel
  · refine isi_is h'.ty (b := true) ?_ (q1 p xs rfl h hx)
    show kitB (tyAt (H p)) _ = _; rw [h]; show kitB "tuple" "tuple" = some true; decide +kernel
theorem dat_bl {K : PySem.W.Frag} {H : Hp} {b : Bool} : Dp K H (.bl b) (.bool b) := .bl b
/-- two lists of two truths -/
theorem w_neBB {K : PySem.W.Frag} {H : Hp} {Q : VK} {p r : Addr} {a b c d : Bool} (h : H p = some (.lst [.bl a, .bl b])) (h2 : H r = some (.lst [.bl c, .bl d])) (e1 : a = c) (e2 : b = d) (q : Q (.bl false) H) : rNeD K (.ref p) (.ref r) H Q := by
  subst e1 e2
  refine ⟨.list [.bool a, .bool b], .list [.bool a, .bool b], .lst (SqL.of h) (.cons (.bl a) (.cons (.bl b) .nil)), .lst (SqL.of h2) (.cons (.bl a) (.cons (.bl b) .nil)), shaped_of ?_ ?_, shaped_of ?_ ?_, ?_⟩
  · simp [PyData.canLay0, PyData.canLayAll0]
  · simp [PyData.depth, PyData.depthAll]
  · simp [PyData.canLay0, PyData.canLayAll0]
  · simp [PyData.depth, PyData.depthAll]
  · rw [SeqAt.eqv_refl _ (by simp [PyData.canLay0, PyData.canLayAll0])]
    exact q
/-! ### common divisors -/
theorem gcd_fmod (x y : Int) : Int.gcd y (x.fmod y) = Int.gcd x y := by
  have e : x.fmod y = x - y * x.fdiv y := Int.fmod_def x y
  rw [e]
  refine Nat.dvd_antisymm ?_ ?_
  · have h1 := Int.gcd_dvd_left y (x - y * x.fdiv y)
    have h2 := Int.gcd_dvd_right y (x - y * x.fdiv y)
    refine Int.dvd_gcd ?_ h1
    have h3 := Int.dvd_add h2 (Int.dvd_mul_of_dvd_left (c := x.fdiv y) h1)
    rw [Int.sub_add_cancel] at h3
    exact h3
  · have h1 := Int.gcd_dvd_left x y
    have h2 := Int.gcd_dvd_right x y
    refine Int.dvd_gcd h2 ?_
    exact Int.dvd_sub h1 (Int.dvd_mul_of_dvd_left h2)
theorem fmod_small (x : Int) {y : Int} (h : y ≠ 0) : (x.fmod y).natAbs < y.natAbs := by
  rcases Int.lt_or_gt_of_ne h with h | h
  · have e : x.fmod y = -((-x).fmod (-y)) := by
      have := Int.neg_fmod_neg x y
      omega
    have h1 := Int.fmod_nonneg_of_pos (-x) (show 0 < -y by omega)
    have h2 := Int.fmod_lt_of_pos (-x) (show 0 < -y by omega)
    omega
  · have h1 := Int.fmod_nonneg_of_pos x h
    have h2 := Int.fmod_lt_of_pos x h
    omega
theorem atI_some {xs : List V} {d : Int} (h0 : 0 ≤ d) (h1 : d < (xs.length : Int)) : ∃ v, atI xs d = some v ∧ v ∈ xs := by
  obtain ⟨v, hv⟩ : ∃ v, xs[d.toNat]? = some v := ⟨_, List.getElem?_eq_getElem (by omega)⟩
  have e := atI_nat hv
  rw [show ((d.toNat : Nat) : Int) = d by omega] at e
  exact ⟨v, e, List.mem_of_getElem? hv⟩
theorem gcd_fib {u d : Int} (h : Int.gcd u d = 1) : Int.gcd d (u + d) = 1 := by
  have h1 := Int.gcd_dvd_left d (u + d)
  have h2 := Int.gcd_dvd_right d (u + d)
  have h3 := Int.dvd_sub h2 h1
  rw [Int.add_sub_cancel] at h3
  have h4 := Int.dvd_gcd h3 h1
  rw [h] at h4
  exact Nat.dvd_one.mp h4
theorem lp_div {u d : Int} (hu : 1 ≤ u) (hd : 1 ≤ d) : Int.gcd (u.fdiv (Int.gcd u d : Int)) (d.fdiv (Int.gcd u d : Int)) = 1 ∧ 1 ≤ d.fdiv (Int.gcd u d : Int) ∧ (Int.gcd u d : Int) ≤ d ∧ 0 < (Int.gcd u d : Int) := by
  have hp : 0 < Int.gcd u d := Nat.pos_of_ne_zero fun z => by
    have := (Int.gcd_eq_zero_iff.mp z).2
    omega
  have hp' : 0 < (Int.gcd u d : Int) := by omega
  rw [fdiv_pos _ hp', fdiv_pos _ hp']
  have hle : (Int.gcd u d : Int) ≤ d := Int.le_of_dvd (by omega) (Int.gcd_dvd_right u d)
  refine ⟨Int.gcd_ediv_gcd_ediv_gcd hp, ?_, hle, hp'⟩
  exact Int.le_ediv_of_mul_le hp' (by omega)
theorem lp_next {u t : Int} {i : Nat} (h1 : 1 ≤ u) (h2 : u + 1 ≤ 2 * 1000000 ^ i) (t0 : 0 ≤ t) (t1 : t < 1000000) : 1 ≤ u * 1000000 + t ∧ u * 1000000 + t + 1 ≤ 2 * 1000000 ^ (i + 1) := by
  have e : (1000000 : Int) ^ (i + 1) = 1000000 ^ i * 1000000 := Int.pow_succ _ _
  rw [e]
  generalize (1000000 : Int) ^ i = z at h2 ⊢
  omega
theorem lp_small {d : Int} {i : Nat} (h1 : 1 ≤ d) (h2 : d + 1 ≤ 2 * 1000000 ^ i) (hi : i ≤ 100) : d.natAbs < 2 ^ 4000 := by
  have h3 : ((d.natAbs : Nat) : Int) < ((2 * 1000000 ^ i : Nat) : Int) := by
    rw [Int.natAbs_of_nonneg (by omega), Int.natCast_mul, Int.natCast_pow]
    have : ((2 : Nat) : Int) * ((1000000 : Nat) : Int) ^ i = 2 * 1000000 ^ i := rfl
    rw [this]
    omega
  have h4 := Int.ofNat_lt.mp h3
  refine Nat.lt_of_lt_of_le h4 (Nat.le_trans (Nat.mul_le_mul_left 2 (Nat.pow_le_pow_right (by decide) hi)) (by decide +kernel))
def grds (i : Nat) : List Int := ((List.range i).map fun (j : Nat) => ((-20 : Int) + (j : Int))).filter fun z => grdB (.int z)
theorem grds_t {i : Nat} (h : grdB (.int ((-20 : Int) + (i : Int))) = true) : grds (i + 1) = grds i ++ [(-20 : Int) + (i : Int)] := by
  unfold grds
  rw [List.range_succ, List.map_append, List.filter_append]
  simp [h]
theorem grds_f {i : Nat} (h : grdB (.int ((-20 : Int) + (i : Int))) = false) : grds (i + 1) = grds i := by
  unfold grds
  rw [List.range_succ, List.map_append, List.filter_append]
  simp [h]
theorem grds_all : grds 60 = [0, 3, 5, 7, 11, 13] := by decide +kernel
theorem grds_len (i : Nat) : (grds i).length ≤ i := by
  unfold grds
  refine Nat.le_trans (List.length_filter_le _ _) ?_
  rw [List.length_map, List.length_range]
  exact Nat.le_refl _
end Fm

namespace Fm
open PySem PySem.Spec PyProof.Rows L2
/-! ### fractions in lowest terms -/
def Red (p : Int × Int) : Prop := 0 < p.2 ∧ Int.gcd p.1 p.2 = 1
theorem dvd_cop {c a d : Int} (h : Int.gcd a c = 1) (hd : c ∣ a * d) : c ∣ d := by
  have h1 : c.natAbs ∣ a.natAbs * d.natAbs := by
    rw [← Int.natAbs_mul]
    exact Int.natAbs_dvd_natAbs.mpr hd
  have h2 : Nat.Coprime c.natAbs a.natAbs := by
    rw [Nat.Coprime, Nat.gcd_comm]
    exact h
  exact Int.natAbs_dvd_natAbs.mp (h2.dvd_of_dvd_mul_left h1)
theorem red_uniq {p q : Int × Int} (hp : Red p) (hq : Red q) (h : p.1 * q.2 = q.1 * p.2) : p = q := by
  obtain ⟨a, c⟩ := p
  obtain ⟨b, d⟩ := q
  obtain ⟨hc, h1⟩ := hp
  obtain ⟨hd, h2⟩ := hq
  simp only at hc h1 hd h2 h
  have d1 : c ∣ d := by
    have : c ∣ a * d := ⟨b, by rw [h, Int.mul_comm]⟩
    exact dvd_cop h1 this
  have d2 : d ∣ c := by
    have : d ∣ b * c := ⟨a, by rw [← h, Int.mul_comm]⟩
    exact dvd_cop h2 this
  have e : c = d := Int.le_antisymm (Int.le_of_dvd hd d1) (Int.le_of_dvd hc d2)
  subst e
  have e2 : a = b := Int.eq_of_mul_eq_mul_right (by omega) h
  rw [e2]
theorem low0_eq {u d : Int} (hd : d ≠ 0) : ∃ q1 q2, lowF 0 u d = (q1, q2) ∧ u = lowC u d * q1 ∧ d = lowC u d * q2 := by
  have hI : lowI 0 u d = none := by
    unfold lowI
    rw [if_neg (by decide)]
  have hc := lowC_ne (u := u) hd
  obtain ⟨⟨q1, e1⟩, q2, e2⟩ := lowC_dvd (u := u) (d := d)
  refine ⟨q1, q2, ?_, e1, e2⟩
  have f1 : u.fdiv (lowC u d) = q1 := by
    conv => lhs; lhs; rw [e1]
    exact Int.mul_fdiv_cancel_left _ hc
  have f2 : d.fdiv (lowC u d) = q2 := by
    conv => lhs; lhs; rw [e2]
    exact Int.mul_fdiv_cancel_left _ hc
  unfold lowF
  rw [hI]
  show (u.fdiv (lowC u d), d.fdiv (lowC u d)) = _
  rw [f1, f2]
theorem lowC_abs {u d : Int} : (lowC u d).natAbs = Int.gcd u d := by
  unfold lowC
  split
  · rw [Int.mul_neg, Int.mul_one, Int.natAbs_neg, Int.natAbs_natCast]
  · rw [Int.mul_one, Int.natAbs_natCast]
theorem low0_red {u d : Int} (hd : d ≠ 0) : Red (lowF 0 u d) ∧ (lowF 0 u d).1 * d = u * (lowF 0 u d).2 := by
  obtain ⟨q1, q2, e, e1, e2⟩ := low0_eq (u := u) hd
  have hc := lowC_ne (u := u) hd
  have ha := lowC_abs (u := u) (d := d)
  rw [e]
  refine ⟨⟨?_, ?_⟩, ?_⟩
  · show 0 < q2
    have hg : 0 < Int.gcd u d := by omega
    unfold lowC at e2
    by_cases h : d < 0
    · rw [if_pos h, Int.mul_neg, Int.mul_one] at e2
      rcases Int.lt_trichotomy q2 0 with z | z | z
      · have := Int.mul_nonneg_of_nonpos_of_nonpos (a := -(Int.gcd u d : Int)) (b := q2) (by omega) (by omega)
        omega
      · rw [z, Int.mul_zero] at e2; omega
      · exact z
    · rw [if_neg h, Int.mul_one] at e2
      rcases Int.lt_trichotomy q2 0 with z | z | z
      · have := Int.mul_nonpos_of_nonneg_of_nonpos (a := (Int.gcd u d : Int)) (b := q2) (by omega) (by omega)
        omega
      · rw [z, Int.mul_zero] at e2; omega
      · exact z
  · show Int.gcd q1 q2 = 1
    have h1 : Int.gcd (lowC u d * q1) (lowC u d * q2) = (lowC u d).natAbs * Int.gcd q1 q2 := Int.gcd_mul_left ..
    rw [← e1, ← e2, ha] at h1
    have hg : 0 < Int.gcd u d := by omega
    have h2 : Int.gcd u d * 1 = Int.gcd u d * Int.gcd q1 q2 := by rw [Nat.mul_one]; exact h1
    exact (Nat.eq_of_mul_eq_mul_left hg h2).symm
  · show q1 * d = u * q2
    conv => lhs; rw [e2]
    conv => rhs; rw [e1]
    rw [← Int.mul_assoc, Int.mul_comm q1]
theorem low0_uniq {p : Int × Int} {u d : Int} (hp : Red p) (hd : d ≠ 0) (h : p.1 * d = u * p.2) : lowF 0 u d = p := by
  obtain ⟨hr, he⟩ := low0_red (u := u) hd
  refine red_uniq hr hp ?_
  have : ((lowF 0 u d).1 * p.2) * d = (p.1 * (lowF 0 u d).2) * d := by
    calc ((lowF 0 u d).1 * p.2) * d = ((lowF 0 u d).1 * d) * p.2 := by rw [Int.mul_right_comm]
      _ = (u * (lowF 0 u d).2) * p.2 := by rw [he]
      _ = (u * p.2) * (lowF 0 u d).2 := by rw [Int.mul_right_comm]
      _ = (p.1 * d) * (lowF 0 u d).2 := by rw [h]
      _ = (p.1 * (lowF 0 u d).2) * d := by rw [Int.mul_right_comm]
  exact Int.eq_of_mul_eq_mul_right hd this
/-! ### wheels, over 1 -/
theorem low_one {g u : Int} (hg : 0 < g) : lowF g u 1 = (u.fmod g, 1) := by
  have h0 : 0 ≤ u.fmod g := Int.fmod_nonneg_of_pos u hg
  have h1 : u.fmod g < g := Int.fmod_lt_of_pos u hg
  have e : lowI g u 1 = some (u.fmod g).toNat := by
    unfold lowI
    rw [if_pos hg]
    refine List.find?_range_eq_some.mpr ⟨decide_eq_true ?_, List.mem_range.mpr (by omega), fun j hj => ?_⟩
    · rw [Int.mul_one, show (((u.fmod g).toNat : Nat) : Int) = u.fmod g by omega]
      rw [fmod_pos _ hg, fmod_pos _ hg]
      exact Int.emod_emod_of_dvd _ (Int.dvd_refl g)
    · have : ¬ ((j : Int) * 1).fmod g = u.fmod g := by
        rw [Int.mul_one, fmod_pos _ hg, Int.emod_eq_of_lt (by omega) (by omega)]
        omega
      rw [decide_eq_false this]
      rfl
  unfold lowF
  rw [e]
  show (((u.fmod g).toNat : Int), (1 : Int)) = _
  rw [show (((u.fmod g).toNat : Nat) : Int) = u.fmod g by omega]
/-! ### sums of products -/
def timesF (g : Int) (x y : Int × Int) : Int × Int := lowF g (x.1 * y.1) (x.2 * y.2)
def plusF (g : Int) (x y : Int × Int) : Int × Int := lowF g (x.1 * y.2 + y.1 * x.2) (x.2 * y.2)
theorem times_rel {x z : Int × Int} {t s B U : Int} (hx : x.2 ≠ 0) (hz : z.2 ≠ 0) (ht : t * x.2 = x.1 * B) (hs : s * z.2 = z.1 * U) : (timesF 0 x z).1 * (B * U) = t * s * (timesF 0 x z).2 := by
  have hn : x.2 * z.2 ≠ 0 := Int.mul_ne_zero hx hz
  have h := (low0_red (u := x.1 * z.1) hn).2
  have e : (timesF 0 x z).1 * (x.2 * z.2) = x.1 * z.1 * (timesF 0 x z).2 := h
  generalize timesF 0 x z = y at e
  have : (y.1 * (B * U)) * (x.2 * z.2) = (t * s * y.2) * (x.2 * z.2) := by
    calc (y.1 * (B * U)) * (x.2 * z.2) = (y.1 * (x.2 * z.2)) * (B * U) := by rw [Int.mul_right_comm]
      _ = (x.1 * z.1 * y.2) * (B * U) := by rw [e]
      _ = (x.1 * B) * (z.1 * U) * y.2 := by
        ac_rfl
      _ = (t * x.2) * (s * z.2) * y.2 := by rw [ht, hs]
      _ = (t * s * y.2) * (x.2 * z.2) := by
        ac_rfl
  exact Int.eq_of_mul_eq_mul_right hn this
theorem plus_rel {p y : Int × Int} {S T M : Int} (hp : p.2 ≠ 0) (hy : y.2 ≠ 0) (h1 : p.1 * M = S * p.2) (h2 : y.1 * M = T * y.2) : (plusF 0 p y).1 * M = (S + T) * (plusF 0 p y).2 := by
  have hn : p.2 * y.2 ≠ 0 := Int.mul_ne_zero hp hy
  have e : (plusF 0 p y).1 * (p.2 * y.2) = (p.1 * y.2 + y.1 * p.2) * (plusF 0 p y).2 := (low0_red (u := p.1 * y.2 + y.1 * p.2) hn).2
  generalize plusF 0 p y = z at e
  have : (z.1 * M) * (p.2 * y.2) = ((S + T) * z.2) * (p.2 * y.2) := by
    calc (z.1 * M) * (p.2 * y.2) = (z.1 * (p.2 * y.2)) * M := by rw [Int.mul_right_comm]
      _ = ((p.1 * y.2 + y.1 * p.2) * z.2) * M := by rw [e]
      _ = ((p.1 * M) * y.2 + (y.1 * M) * p.2) * z.2 := by
        rw [Int.mul_right_comm, Int.add_mul, Int.mul_right_comm p.1, Int.mul_right_comm y.1]
      _ = ((S * p.2) * y.2 + (T * y.2) * p.2) * z.2 := by rw [h1, h2]
      _ = ((S + T) * z.2) * (p.2 * y.2) := by
        rw [Int.mul_assoc S, Int.mul_assoc T, Int.mul_comm y.2 p.2, ← Int.add_mul, Int.mul_right_comm]
  exact Int.eq_of_mul_eq_mul_right hn this
/-! ### rows as whole numbers over one bottom -/
def dotF (ts ss : List Int) : Int := (List.zipWith (fun a b => a * b) ts ss).sum
def wrB (r : List (Int × Int)) : Int := r.foldl (fun b x => b.fdiv (Int.gcd b x.2 : Int) * x.2) 1
def wrT (r : List (Int × Int)) : List Int := r.map fun x => x.1 * (wrB r).fdiv x.2
theorem lcm_step {b c : Int} (hb : 0 < b) (hc : 0 < c) : 0 < b.fdiv (Int.gcd b c : Int) * c ∧ b ∣ b.fdiv (Int.gcd b c : Int) * c ∧ c ∣ b.fdiv (Int.gcd b c : Int) * c ∧ ∀ L, b ∣ L → c ∣ L → b.fdiv (Int.gcd b c : Int) * c ∣ L := by
  have hg : 0 < Int.gcd b c := Nat.pos_of_ne_zero fun z => by
    have := (Int.gcd_eq_zero_iff.mp z).2
    omega
  have hg' : (0 : Int) < (Int.gcd b c : Int) := by omega
  obtain ⟨q1, e1⟩ := Int.gcd_dvd_left b c
  obtain ⟨q2, e2⟩ := Int.gcd_dvd_right b c
  have f1 : b.fdiv (Int.gcd b c : Int) = q1 := by
    conv => lhs; lhs; rw [e1]
    exact Int.mul_fdiv_cancel_left _ (by omega)
  rw [f1]
  have hq1 : 0 < q1 := Int.pos_of_mul_pos_right (by rw [← e1]; exact hb) hg'
  have hcop : Int.gcd q1 q2 = 1 := by
    have h1 : Int.gcd ((Int.gcd b c : Int) * q1) ((Int.gcd b c : Int) * q2) = ((Int.gcd b c : Int)).natAbs * Int.gcd q1 q2 := Int.gcd_mul_left ..
    rw [← e1, ← e2, Int.natAbs_natCast] at h1
    have h2 : Int.gcd b c * 1 = Int.gcd b c * Int.gcd q1 q2 := by rw [Nat.mul_one]; exact h1
    exact (Nat.eq_of_mul_eq_mul_left hg h2).symm
  refine ⟨Int.mul_pos hq1 hc, ⟨q2, ?_⟩, ⟨q1, Int.mul_comm _ _⟩, fun L h1 h2 => ?_⟩
  · conv => lhs; rw [e2]
    conv => rhs; rw [e1]
    ac_rfl
  · obtain ⟨k1, hk1⟩ := h1
    obtain ⟨k2, hk2⟩ := h2
    have h3 : q1 * k1 = q2 * k2 := by
      have : (Int.gcd b c : Int) * (q1 * k1) = (Int.gcd b c : Int) * (q2 * k2) := by
        rw [← Int.mul_assoc, ← Int.mul_assoc, ← e1, ← e2, ← hk1, ← hk2]
      exact Int.eq_of_mul_eq_mul_left (by omega) this
    have h4 : q1 ∣ k2 := dvd_cop (a := q2) (by rw [Int.gcd_comm]; exact hcop) ⟨k1, by rw [← h3]⟩
    obtain ⟨k3, hk3⟩ := h4
    exact ⟨k3, by rw [hk2, hk3]; ac_rfl⟩
theorem wr_fold : ∀ (r : List (Int × Int)) (b : Int), 0 < b → (∀ x ∈ r, 0 < x.2) → 0 < r.foldl (fun b x => b.fdiv (Int.gcd b x.2 : Int) * x.2) b ∧ b ∣ r.foldl (fun b x => b.fdiv (Int.gcd b x.2 : Int) * x.2) b ∧ (∀ x ∈ r, x.2 ∣ r.foldl (fun b x => b.fdiv (Int.gcd b x.2 : Int) * x.2) b) ∧ ∀ L, b ∣ L → (∀ x ∈ r, x.2 ∣ L) → r.foldl (fun b x => b.fdiv (Int.gcd b x.2 : Int) * x.2) b ∣ L
  | [], b, hb, _ => ⟨hb, Int.dvd_refl b, fun x hx => (by cases hx), fun L h _ => h⟩
  | x :: r, b, hb, h => by
    obtain ⟨s1, s2, s3, s4⟩ := lcm_step hb (h x (List.mem_cons_self ..))
    obtain ⟨t1, t2, t3, t4⟩ := wr_fold r _ s1 fun y hy => h y (List.mem_cons_of_mem _ hy)
    rw [List.foldl_cons]
    refine ⟨t1, Int.dvd_trans s2 t2, fun y hy => ?_, fun L h1 h2 => ?_⟩
    · rcases List.mem_cons.mp hy with rfl | hy
      · exact Int.dvd_trans s3 t2
      · exact t3 y hy
    · exact t4 L (s4 L h1 (h2 x (List.mem_cons_self ..))) fun y hy => h2 y (List.mem_cons_of_mem _ hy)
theorem wrB_spec {r : List (Int × Int)} (h : ∀ x ∈ r, 0 < x.2) : 0 < wrB r ∧ (∀ x ∈ r, x.2 ∣ wrB r) ∧ ∀ L, (∀ x ∈ r, x.2 ∣ L) → wrB r ∣ L := by
  obtain ⟨h1, _, h3, h4⟩ := wr_fold r 1 (by decide) h
  exact ⟨h1, h3, fun L h => h4 L (Int.one_dvd L) h⟩
def RelL (B : Int) : List (Int × Int) → List Int → Prop
  | [], [] => True
  | x :: xs, t :: ts => (0 < x.2 ∧ t * x.2 = x.1 * B) ∧ RelL B xs ts
  | _, _ => False
theorem rel_of {B : Int} : ∀ {r : List (Int × Int)}, (∀ x ∈ r, 0 < x.2 ∧ x.2 ∣ B) → RelL B r (r.map fun x => x.1 * B.fdiv x.2)
  | [], _ => True.intro
  | x :: r, h => by
    obtain ⟨h1, k, hk⟩ := h x (List.mem_cons_self ..)
    refine ⟨⟨h1, ?_⟩, rel_of fun y hy => h y (List.mem_cons_of_mem _ hy)⟩
    have e : B.fdiv x.2 = k := by
      rw [hk]
      exact Int.mul_fdiv_cancel_left _ (by omega)
    show x.1 * B.fdiv x.2 * x.2 = x.1 * B
    rw [e, hk]
    ac_rfl
theorem wr_rel {r : List (Int × Int)} (h : ∀ x ∈ r, 0 < x.2) : RelL (wrB r) r (wrT r) := rel_of fun x hx => ⟨h x hx, (wrB_spec h).2.1 x hx⟩
def cellF (g : Int) (r s : List (Int × Int)) : Int × Int := (List.zipWith (timesF g) r s).foldl (plusF g) (0, 1)
theorem cell_fold {B U : Int} : ∀ (xs zs : List (Int × Int)) (ts ss : List Int) (p : Int × Int) (S : Int), Red p → p.1 * (B * U) = S * p.2 → RelL B xs ts → RelL U zs ss → Red ((List.zipWith (timesF 0) xs zs).foldl (plusF 0) p) ∧ ((List.zipWith (timesF 0) xs zs).foldl (plusF 0) p).1 * (B * U) = (S + dotF ts ss) * ((List.zipWith (timesF 0) xs zs).foldl (plusF 0) p).2
  | [], zs, ts, ss, p, S, hp, h, h1, _ => by
    cases ts with
    | nil => exact ⟨hp, by simp only [List.zipWith_nil_left, List.foldl_nil, dotF, List.sum_nil, Int.add_zero]; exact h⟩
    | cons t ts => exact h1.elim
  | x :: xs, [], ts, ss, p, S, hp, h, _, h2 => by
    cases ss with
    | nil => exact ⟨hp, by simp only [List.zipWith_nil_right, List.foldl_nil, dotF, List.sum_nil, Int.add_zero]; exact h⟩
    | cons t ts => exact h2.elim
  | x :: xs, z :: zs, [], ss, p, S, hp, h, h1, _ => h1.elim
  | x :: xs, z :: zs, t :: ts, [], p, S, hp, h, _, h2 => h2.elim
  | x :: xs, z :: zs, t :: ts, s :: ss, p, S, hp, h, h1, h2 => by
    obtain ⟨⟨hx, ht⟩, h1⟩ := h1
    obtain ⟨⟨hz, hs⟩, h2⟩ := h2
    have hxz : x.2 * z.2 ≠ 0 := Int.mul_ne_zero (by omega) (by omega)
    have hT := (low0_red (u := x.1 * z.1) hxz).1
    have e1 := times_rel (x := x) (z := z) (t := t) (s := s) (B := B) (U := U) (by omega) (by omega) ht hs
    have hy : 0 < (timesF 0 x z).2 := hT.1
    have e2 := plus_rel (p := p) (y := timesF 0 x z) (M := B * U) (by have := hp.1; omega) (by omega) h e1
    have hR : Red (plusF 0 p (timesF 0 x z)) := (low0_red (Int.mul_ne_zero (by have := hp.1; omega) (by omega))).1
    have ih := cell_fold xs zs ts ss _ _ hR e2 h1 h2
    rw [List.zipWith_cons_cons, List.foldl_cons]
    refine ⟨ih.1, ?_⟩
    rw [ih.2]
    simp only [dotF, List.zipWith_cons_cons, List.sum_cons]
    rw [Int.add_assoc]
theorem cell_zero {r s : List (Int × Int)} (hr : ∀ x ∈ r, 0 < x.2) (hs : ∀ x ∈ s, 0 < x.2) : cellF 0 r s = lowF 0 (dotF (wrT r) (wrT s)) (wrB r * wrB s) := by
  have hB := (wrB_spec hr).1
  have hU := (wrB_spec hs).1
  have h := cell_fold r s (wrT r) (wrT s) (0, 1) 0 ⟨by decide, by decide⟩ (by simp) (wr_rel hr) (wr_rel hs)
  rw [Int.zero_add] at h
  exact (low0_uniq h.1 (Int.mul_ne_zero (by omega) (by omega)) h.2).symm
/-! ### the same on wheels -/
theorem fmod_add {g a b : Int} (hg : 0 < g) : (a.fmod g + b).fmod g = (a + b).fmod g := by
  rw [fmod_pos _ hg, fmod_pos _ hg, fmod_pos _ hg, Int.emod_add_emod]
theorem fmod_add2 {g a b : Int} (hg : 0 < g) : (a + b.fmod g).fmod g = (a + b).fmod g := by
  rw [fmod_pos _ hg, fmod_pos _ hg, fmod_pos _ hg, Int.add_emod_emod]
theorem cell_wheel_fold {g : Int} (hg : 0 < g) : ∀ (xs zs : List (Int × Int)) (S : Int), (∀ x ∈ xs, x.2 = 1) → (∀ x ∈ zs, x.2 = 1) → (List.zipWith (timesF g) xs zs).foldl (plusF g) (S.fmod g, 1) = ((S + dotF (xs.map (·.1)) (zs.map (·.1))).fmod g, 1)
  | [], zs, S, _, _ => by simp [dotF]
  | x :: xs, [], S, _, _ => by simp [dotF]
  | x :: xs, z :: zs, S, h1, h2 => by
    have e1 := h1 x (List.mem_cons_self ..)
    have e2 := h2 z (List.mem_cons_self ..)
    have et : timesF g x z = ((x.1 * z.1).fmod g, 1) := by
      unfold timesF
      rw [e1, e2, Int.mul_one, low_one hg]
    have ep : plusF g (S.fmod g, 1) (timesF g x z) = ((S + x.1 * z.1).fmod g, 1) := by
      unfold plusF
      rw [et]
      show lowF g (S.fmod g * 1 + (x.1 * z.1).fmod g * 1) (1 * 1) = _
      rw [Int.mul_one, Int.mul_one, Int.mul_one, low_one hg, fmod_add hg, fmod_add2 hg]
    rw [List.zipWith_cons_cons, List.foldl_cons, ep, cell_wheel_fold hg xs zs _ (fun y hy => h1 y (List.mem_cons_of_mem _ hy)) (fun y hy => h2 y (List.mem_cons_of_mem _ hy))]
    simp only [dotF, List.map_cons, List.zipWith_cons_cons, List.sum_cons]
    rw [Int.add_assoc]
theorem wrB_one : ∀ {r : List (Int × Int)}, (∀ x ∈ r, x.2 = 1) → wrB r = 1 := by
  intro r
  unfold wrB
  induction r with
  | nil => intro _; rfl
  | cons x r ih =>
    intro h
    rw [List.foldl_cons, h x (List.mem_cons_self ..)]
    show r.foldl _ ((1 : Int).fdiv (Int.gcd 1 1 : Int) * 1) = 1
    have e : (1 : Int).fdiv (Int.gcd 1 1 : Int) * 1 = 1 := by decide
    rw [e]
    exact ih fun y hy => h y (List.mem_cons_of_mem _ hy)
theorem wrT_one {r : List (Int × Int)} (h : ∀ x ∈ r, x.2 = 1) : wrT r = r.map (·.1) := by
  unfold wrT
  rw [wrB_one h]
  refine List.map_congr_left fun x hx => ?_
  rw [h x hx]
  show x.1 * (1 : Int).fdiv 1 = x.1
  rw [show (1 : Int).fdiv 1 = 1 from by decide, Int.mul_one]
theorem cell_eq {g : Int} {r s : List (Int × Int)} (h : (g = 0 ∧ (∀ x ∈ r, 0 < x.2) ∧ ∀ x ∈ s, 0 < x.2) ∨ (0 < g ∧ (∀ x ∈ r, x.2 = 1) ∧ ∀ x ∈ s, x.2 = 1)) : cellF g r s = lowF g (dotF (wrT r) (wrT s)) (wrB r * wrB s) := by
  rcases h with ⟨rfl, h1, h2⟩ | ⟨hg, h1, h2⟩
  · exact cell_zero h1 h2
  · rw [wrB_one h1, wrB_one h2, wrT_one h1, wrT_one h2, Int.mul_one, low_one hg]
    have h := cell_wheel_fold hg r s 0 h1 h2
    have e0 : (0 : Int).fmod g = 0 := by rw [fmod_pos _ hg]; exact Int.zero_emod g
    rw [e0, Int.zero_add] at h
    exact h
end Fm

namespace Fm
open PySem PySem.Spec PyProof.Rows L2
def rTupOf (K : PySem.W.Frag) : List V → Hp → VK → Prop := fun xs H Q => ∃ p ys, xs = [.ref p] ∧ ((SqL K H p ys ∧ ∀ l, H l = none → Q (.ref l) (upd H l (.tup ys))) ∨ (SqT K H p ys ∧ Q (.ref p) H))
theorem call_tupOf {X : Cx} : CallR X (.type "tuple") (rTupOf X.K) := call_tuple_of
theorem w_tupOf2 {K : PySem.W.Frag} {H : Hp} {Q : VK} {p : Addr} {ys : List V} (h : H p = some (.lst ys)) (q : NewO (.tup ys) H Q) : rTupOf K [.ref p] H Q := ⟨p, ys, rfl, .inl ⟨SqL.of h, q⟩⟩
theorem fmod_mul {g a b : Int} (hg : 0 < g) : (a.fmod g * b).fmod g = (a * b).fmod g := by
  rw [fmod_pos _ hg, fmod_pos _ hg, fmod_pos _ hg, Int.mul_emod, Int.emod_emod_of_dvd _ (Int.dvd_refl g), ← Int.mul_emod]
theorem fmod_mul2 {g a b : Int} (hg : 0 < g) : (a * b.fmod g).fmod g = (a * b).fmod g := by
  rw [Int.mul_comm, fmod_mul hg, Int.mul_comm]
theorem fmod_of_lt {g a : Int} (h0 : 0 ≤ a) (h1 : a < g) : a.fmod g = a := by
  rw [fmod_pos _ (by omega), Int.emod_eq_of_lt h0 h1]
/-- over what has a back on the wheel -/
theorem low_inv {g u d f : Int} (hg : 0 < g) (hf : (f * d).fmod g = 1) : lowF g u d = ((u * f).fmod g, 1) := by
  have h0 : 0 ≤ (u * f).fmod g := Int.fmod_nonneg_of_pos _ hg
  have h1 : (u * f).fmod g < g := Int.fmod_lt_of_pos _ hg
  have ee : ∀ z : Int, (z * (f * d)).fmod g = z.fmod g := fun z => by
    rw [← fmod_mul2 hg, hf, Int.mul_one]
  have e : lowI g u d = some ((u * f).fmod g).toNat := by
    unfold lowI
    rw [if_pos hg]
    refine List.find?_range_eq_some.mpr ⟨decide_eq_true ?_, List.mem_range.mpr (by omega), fun j hj => ?_⟩
    · rw [show ((((u * f).fmod g).toNat : Nat) : Int) = (u * f).fmod g by omega, fmod_mul hg, Int.mul_assoc]
      exact ee u
    · have : ¬ ((j : Int) * d).fmod g = u.fmod g := fun z => by
        have h2 : ((j : Int) * d * f).fmod g = (u * f).fmod g := by
          rw [← fmod_mul hg, z, fmod_mul hg]
        have h3 : ((j : Int) * d * f).fmod g = (j : Int) := by
          rw [Int.mul_assoc, Int.mul_comm d f, ee, fmod_of_lt (by omega) (by omega)]
        omega
      rw [decide_eq_false this]
      rfl
  unfold lowF
  rw [e]
  show ((((u * f).fmod g).toNat : Int), (1 : Int)) = _
  rw [show ((((u * f).fmod g).toNat : Nat) : Int) = (u * f).fmod g by omega]
theorem log_small {a : Int} {k : Nat} (h : a.natAbs < 2 ^ k) (hk : 0 < k) : a.natAbs.log2 < k := PySem.Flt.log2_lt_of hk h
/-- a number of a ground, of less than k bits -/
def OkN (g : Int) (k : Nat) (a : Int × Int) : Prop := a.1.natAbs < 2 ^ k ∧ a.2.natAbs < 2 ^ k ∧ ((g = 0 ∧ 0 < a.2) ∨ (3 ≤ g ∧ g ≤ 13 ∧ a.2 = 1))
theorem OkN.pos {g : Int} {k : Nat} {a : Int × Int} (h : OkN g k a) : 0 < a.2 := by
  rcases h.2.2 with h | h
  · exact h.2
  · omega
theorem step_le {b c : Int} {k m : Nat} (hb : 0 < b) (hc : 0 < c) (h1 : b.natAbs ≤ 2 ^ m) (h2 : c.natAbs < 2 ^ k) : (b.fdiv (Int.gcd b c : Int) * c).natAbs ≤ 2 ^ (m + k) ∧ (b.fdiv (Int.gcd b c : Int)).natAbs ≤ 2 ^ m ∧ (Int.gcd b c : Int) ≠ 0 ∧ ((Int.gcd b c : Int)).natAbs < 2 ^ k := by
  have hg : 0 < Int.gcd b c := Nat.pos_of_ne_zero fun z => by
    have := (Int.gcd_eq_zero_iff.mp z).2
    omega
  have hle : (b.fdiv (Int.gcd b c : Int)).natAbs ≤ b.natAbs := by
    obtain ⟨q, e⟩ := Int.gcd_dvd_left b c
    have f1 : b.fdiv (Int.gcd b c : Int) = q := by
      conv => lhs; lhs; rw [e]
      exact Int.mul_fdiv_cancel_left _ (by omega)
    rw [f1]
    have := natAbs_fac (c := (Int.gcd b c : Int)) (q := q) (by omega)
    rw [← e] at this
    exact this
  have hgc : (Int.gcd b c : Int) ≤ c := Int.le_of_dvd hc (Int.gcd_dvd_right b c)
  refine ⟨?_, Nat.le_trans hle h1, by omega, by omega⟩
  rw [Int.natAbs_mul, Nat.pow_add]
  exact Nat.mul_le_mul (Nat.le_trans hle h1) (Nat.le_of_lt h2)
theorem wrB_take {r : List (Int × Int)} {i : Nat} {x : Int × Int} (h : r[i]? = some x) : wrB (r.take (i + 1)) = (wrB (r.take i)).fdiv (Int.gcd (wrB (r.take i)) x.2 : Int) * x.2 := by
  unfold wrB
  rw [List.take_add_one, h]
  simp [List.foldl_append]
theorem wrB_le {k : Nat} : ∀ (r : List (Int × Int)) (b : Int) (m : Nat), 0 < b → b.natAbs ≤ 2 ^ m → (∀ x ∈ r, 0 < x.2 ∧ x.2.natAbs < 2 ^ k) → (r.foldl (fun b x => b.fdiv (Int.gcd b x.2 : Int) * x.2) b).natAbs ≤ 2 ^ (m + k * r.length)
  | [], b, m, _, h, _ => by simpa using h
  | x :: r, b, m, hb, h, hr => by
    have hx := hr x (List.mem_cons_self ..)
    have s := step_le hb hx.1 h hx.2
    rw [List.foldl_cons]
    have := wrB_le r _ (m + k) (lcm_step hb hx.1).1 s.1 fun y hy => hr y (List.mem_cons_of_mem _ hy)
    rw [show m + k * (x :: r).length = m + k + k * r.length by rw [List.length_cons, Nat.mul_succ]; omega]
    exact this
theorem wrB_bd {k : Nat} {r : List (Int × Int)} (h : ∀ x ∈ r, 0 < x.2 ∧ x.2.natAbs < 2 ^ k) : (wrB r).natAbs ≤ 2 ^ (k * r.length) := by
  have := wrB_le r 1 0 (by decide) (by decide) h
  rw [Nat.zero_add] at this
  exact this
theorem w_aug {i : Nat} {te : TE} {ti : TIp} {D : Ends} {σ : L2.St} {H : Hp} {x : V} (h : σ[i]? = some (some x)) (q : te σ H fun y H1 => ti x y H1 fun z H2 => D.nx (σ.set i (some z)) H2) : tAug i te ti D σ H := ⟨x, h, q⟩
/-- a row as whole numbers over one bottom, as an object -/
def WR (H : Hp) (v : V) (ts : List Int) (B : Int) : Prop := ∃ p L, v = .ref p ∧ H p = some (.tup [.ref L, .int B]) ∧ H L = some (.lst (ts.map V.int))
theorem WR.sm {H H' : Hp} {v : V} {ts : List Int} {B : Int} (h : WR H v ts B) (s : Same H H') : WR H' v ts B := by
  obtain ⟨p, L, e, h1, h2⟩ := h
  exact ⟨p, L, e, s _ _ h1, s _ _ h2⟩
theorem wrT_bd {g : Int} {k : Nat} {r : List (Int × Int)} (h : ∀ x ∈ r, OkN g k x) : ∀ t ∈ wrT r, t.natAbs ≤ 2 ^ (k + k * r.length) := by
  intro t ht
  obtain ⟨x, hx, rfl⟩ := List.mem_map.mp ht
  have hp : ∀ x ∈ r, 0 < x.2 := fun x hx => (h x hx).pos
  have hB := wrB_bd (k := k) (r := r) fun x hx => ⟨hp x hx, (h x hx).2.1⟩
  obtain ⟨q, e⟩ := (wrB_spec hp).2.1 x hx
  have f1 : (wrB r).fdiv x.2 = q := by
    rw [e]
    exact Int.mul_fdiv_cancel_left _ (by have := hp x hx; omega)
  rw [f1, Int.natAbs_mul, Nat.pow_add]
  have h2 := natAbs_fac (c := x.2) (q := q) (by have := hp x hx; omega)
  rw [← e] at h2
  exact Nat.mul_le_mul (Nat.le_of_lt (h x hx).1) (Nat.le_trans h2 hB)
theorem le_lt {a : Int} {k m : Nat} (h : a.natAbs ≤ 2 ^ k) (hk : k < m) : a.natAbs < 2 ^ m := Nat.lt_of_le_of_lt h (Nat.pow_lt_pow_right (by decide) hk)
theorem mulW_le {a b : Int} {k m : Nat} (h1 : a.natAbs ≤ 2 ^ k) (h2 : b.natAbs ≤ 2 ^ m) (hk : k + m ≤ 100000) : CMulW a b := wide_mul (a := k + 1) (b := m + 1) (le_lt h1 (by omega)) (le_lt h2 (by omega)) (by omega) (by omega) (by omega)
/-! ### what is gathered, item by item -/
def Acc {α : Type} (P : Hp → V → α → Prop) (H : Hp) (ys : List V) (as : List α) (i : Nat) : Prop := ys.length = i ∧ ∀ (j : Nat) (x : V) (a : α), ys[j]? = some x → as[j]? = some a → P H x a
theorem Acc.nil {α : Type} {P : Hp → V → α → Prop} {H : Hp} {as : List α} : Acc P H [] as 0 := ⟨rfl, fun j x a h _ => by simp at h⟩
theorem Acc.mono {α : Type} {P : Hp → V → α → Prop} {H H' : Hp} {ys : List V} {as : List α} {i : Nat} (h : Acc P H ys as i) (f : ∀ x a, P H x a → P H' x a) : Acc P H' ys as i := ⟨h.1, fun j x a h1 h2 => f x a (h.2 j x a h1 h2)⟩
theorem Acc.snoc {α : Type} {P : Hp → V → α → Prop} {H : Hp} {ys : List V} {as : List α} {i : Nat} {v : V} {a : α} (h : Acc P H ys as i) (ha : as[i]? = some a) (hv : P H v a) : Acc P H (ys ++ [v]) as (i + 1) := by
  refine ⟨by rw [List.length_append, h.1]; rfl, fun j x b h1 h2 => ?_⟩
  by_cases hj : j < ys.length
  · rw [List.getElem?_append_left hj] at h1
    exact h.2 j x b h1 h2
  · rw [List.getElem?_append_right (by omega)] at h1
    have e : j - ys.length = 0 := by
      have := (List.getElem?_eq_some_iff.mp h1).1
      rw [List.length_singleton] at this
      omega
    rw [e] at h1
    cases Option.some.inj h1
    have e2 : j = i := by have := h.1; omega
    rw [e2, ha] at h2
    cases Option.some.inj h2
    exact hv
theorem Acc.sq {α : Type} {P : Hp → V → α → Prop} {H : Hp} {ys : List V} {as : List α} {i : Nat} {p : Addr} (h : Acc P H ys as i) (hi : i = as.length) (hp : H p = some (.tup ys)) : SqV P H (.ref p) as := ⟨p, ys, rfl, hp, by rw [h.1, hi], h.2⟩
/-- such a row whose list is another one than the one at D -/
def WRn (D : Addr) (H : Hp) (v : V) (s : List (Int × Int)) : Prop := ∃ p L, v = .ref p ∧ L ≠ D ∧ H p = some (.tup [.ref L, .int (wrB s)]) ∧ H L = some (.lst ((wrT s).map V.int))
theorem WRn.sm {D : Addr} {H H' : Hp} {v : V} {s : List (Int × Int)} (h : WRn D H v s) (e : Same H H') : WRn D H' v s := by
  obtain ⟨p, L, e1, n, h1, h2⟩ := h
  exact ⟨p, L, e1, n, e _ _ h1, e _ _ h2⟩
theorem WRn.upd {D : Addr} {H : Hp} {v : V} {s : List (Int × Int)} {xs : List V} {o : HO} (h : WRn D H v s) (hD : H D = some (.lst xs)) : WRn D (upd H D o) v s := by
  obtain ⟨p, L, e1, n, h1, h2⟩ := h
  exact ⟨p, L, e1, n, Kt.updL hD _ _ h1, by rw [upd_ne n]; exact h2⟩
theorem dot_bd {m : Nat} : ∀ {ts ss : List Int}, (∀ t ∈ ts, t.natAbs ≤ 2 ^ m) → (∀ t ∈ ss, t.natAbs ≤ 2 ^ m) → (dotF ts ss).natAbs ≤ ts.length * 2 ^ (m + m)
  | [], ss, _, _ => by simp [dotF]
  | t :: ts, [], _, _ => by simp [dotF]
  | t :: ts, s :: ss, h1, h2 => by
    have ih := dot_bd (ts := ts) (ss := ss) (fun y hy => h1 y (List.mem_cons_of_mem _ hy)) (fun y hy => h2 y (List.mem_cons_of_mem _ hy))
    have e : dotF (t :: ts) (s :: ss) = t * s + dotF ts ss := by simp [dotF]
    have h3 : (t * s).natAbs ≤ 2 ^ (m + m) := by
      rw [Int.natAbs_mul, Nat.pow_add]
      exact Nat.mul_le_mul (h1 t (List.mem_cons_self ..)) (h2 s (List.mem_cons_self ..))
    rw [e, List.length_cons, Nat.succ_mul]
    omega
def turnF (l : Nat) (t : List (List (Int × Int))) : List (List (Int × Int)) := (List.range l).map fun j => t.map fun row => row.getD j (0, 1)
theorem turn_at {l j : Nat} {t : List (List (Int × Int))} (h : j < l) : (turnF l t)[j]? = some (t.map fun row => row.getD j (0, 1)) := by
  unfold turnF
  rw [List.getElem?_map, List.getElem?_range h]
  rfl
theorem wrT_len (r : List (Int × Int)) : (wrT r).length = r.length := by
  unfold wrT
  rw [List.length_map]
/-- what lowest wants of a sum of products -/
theorem cell_ok {g : Int} {k : Nat} {r s : List (Int × Int)} (hg : g = 0 ∨ (3 ≤ g ∧ g ≤ 13)) (hr : ∀ x ∈ r, OkN g k x) (hs : ∀ x ∈ s, OkN g k x) (hk : k ≤ 400) (hl : r.length ≤ 10) (hl2 : s.length ≤ 10) :
    (g = 0 ∧ wrB r * wrB s ≠ 0 ∧ (wrB r * wrB s).natAbs < 2 ^ 8500) ∨ (3 ≤ g ∧ (dotF (wrT r) (wrT s)).natAbs < 2 ^ 50000 ∧ ∃ k : Int, 1 ≤ k ∧ k ≤ 13 ∧ (k * (wrB r * wrB s)).fmod g = 1) := by
  have p1 : ∀ x ∈ r, 0 < x.2 := fun x h => (hr x h).pos
  have p2 : ∀ x ∈ s, 0 < x.2 := fun x h => (hs x h).pos
  have e1 : k * r.length ≤ 4000 := Nat.mul_le_mul hk hl
  have e2 : k * s.length ≤ 4000 := Nat.mul_le_mul hk hl2
  rcases hg with rfl | ⟨h3, h13⟩
  · refine .inl ⟨rfl, Int.mul_ne_zero (by have := (wrB_spec p1).1; omega) (by have := (wrB_spec p2).1; omega), ?_⟩
    have b1 := wrB_bd (k := k) (r := r) fun x h => ⟨p1 x h, (hr x h).2.1⟩
    have b2 := wrB_bd (k := k) (r := s) fun x h => ⟨p2 x h, (hs x h).2.1⟩
    rw [Int.natAbs_mul]
    refine Nat.lt_of_le_of_lt (Nat.mul_le_mul b1 b2) ?_
    rw [← Nat.pow_add]
    exact Nat.pow_lt_pow_right (by decide) (by omega)
  · have o1 : ∀ x ∈ r, x.2 = 1 := fun x h => by
      rcases (hr x h).2.2 with z | z
      · omega
      · exact z.2.2
    have o2 : ∀ x ∈ s, x.2 = 1 := fun x h => by
      rcases (hs x h).2.2 with z | z
      · omega
      · exact z.2.2
    refine .inr ⟨h3, ?_, 1, by decide, by decide, ?_⟩
    · have b1 := wrT_bd hr
      have b2 := wrT_bd hs
      have c1 : ∀ t ∈ wrT r, t.natAbs ≤ 2 ^ 4400 := fun t h => Nat.le_trans (b1 t h) (Nat.pow_le_pow_right (by decide) (by omega))
      have c2 : ∀ t ∈ wrT s, t.natAbs ≤ 2 ^ 4400 := fun t h => Nat.le_trans (b2 t h) (Nat.pow_le_pow_right (by decide) (by omega))
      have d := dot_bd c1 c2
      rw [wrT_len] at d
      refine Nat.lt_of_le_of_lt (Nat.le_trans d (Nat.mul_le_mul_right _ (show r.length ≤ 2 ^ 4 by omega))) ?_
      rw [← Nat.pow_add]
      exact Nat.pow_lt_pow_right (by decide) (by decide)
    · rw [wrB_one o1, wrB_one o2]
      show (1 : Int).fmod g = 1
      exact fmod_of_lt (by decide) (by omega)
theorem cell_is {g : Int} {k : Nat} {r s : List (Int × Int)} (hg : g = 0 ∨ (3 ≤ g ∧ g ≤ 13)) (hr : ∀ x ∈ r, OkN g k x) (hs : ∀ x ∈ s, OkN g k x) : cellF g r s = lowF g (dotF (wrT r) (wrT s)) (wrB r * wrB s) := by
  refine cell_eq ?_
  rcases hg with rfl | ⟨h3, h13⟩
  · exact .inl ⟨rfl, fun x h => (hr x h).pos, fun x h => (hs x h).pos⟩
  · refine .inr ⟨by omega, fun x h => ?_, fun x h => ?_⟩
    · rcases (hr x h).2.2 with z | z
      · omega
      · exact z.2.2
    · rcases (hs x h).2.2 with z | z
      · omega
      · exact z.2.2
end Fm

namespace Fm
open PySem PySem.Spec PyProof.Rows L2
/-! ### things of some depth, their whole numbers of less than k bits -/
def AtB (k : Nat) : V → Prop
  | .int i => i.natAbs < 2 ^ k
  | .non => True
  | .bl _ => True
  | .str _ => True
  | _ => False
theorem AtB.atom {k : Nat} {v : V} (h : AtB k v) : atomB v = true := by
  cases v <;> first | rfl | cases h
def IsL (H : Hp) (v : V) : Prop := ∃ p xs, v = .ref p ∧ H p = some (.lst xs)
def TB (k : Nat) : Nat → Hp → V → Prop
  | 0, H, v => AtB k v ∨ IsL H v
  | n + 1, H, v => AtB k v ∨ IsL H v ∨ ∃ p xs, v = .ref p ∧ H p = some (.tup xs) ∧ xs.length ≤ 100 ∧ ∀ x ∈ xs, TB k n H x
theorem IsL.kd {H H' : Hp} {v : V} (h : IsL H v) (e : Kd H H') : IsL H' v := by
  obtain ⟨p, xs, e1, h1⟩ := h
  obtain ⟨ys, h2⟩ := e.2 p xs h1
  exact ⟨p, ys, e1, h2⟩
theorem TB.kd {k : Nat} {H H' : Hp} (e : Kd H H') : ∀ {n : Nat} {v : V}, TB k n H v → TB k n H' v
  | 0, v, h => by
    rcases h with h | h
    · exact .inl h
    · exact .inr (h.kd e)
  | n + 1, v, h => by
    rcases h with h | h | ⟨p, xs, e1, h1, hz, hx⟩
    · exact .inl h
    · exact .inr (.inl (h.kd e))
    · exact .inr (.inr ⟨p, xs, e1, e.1 _ _ h1, hz, fun x m => TB.kd e (hx x m)⟩)
theorem TB.up {k : Nat} {H : Hp} : ∀ {n : Nat} {v : V}, TB k n H v → TB k (n + 1) H v
  | 0, v, h => by
    rcases h with h | h
    · exact .inl h
    · exact .inr (.inl h)
  | n + 1, v, h => by
    rcases h with h | h | ⟨p, xs, e1, h1, hz, hx⟩
    · exact .inl h
    · exact .inr (.inl h)
    · exact .inr (.inr ⟨p, xs, e1, h1, hz, fun x m => TB.up (hx x m)⟩)
theorem TB.wide {k l : Nat} {H : Hp} (hl : k ≤ l) : ∀ {n : Nat} {v : V}, TB k n H v → TB l n H v
  | 0, v, h => by
    rcases h with h | h
    · left; cases v <;> first | exact Nat.lt_of_lt_of_le h (Nat.pow_le_pow_right (by decide) hl) | exact h
    · exact .inr h
  | n + 1, v, h => by
    rcases h with h | h | ⟨p, xs, e1, h1, hz, hx⟩
    · left; cases v <;> first | exact Nat.lt_of_lt_of_le h (Nat.pow_le_pow_right (by decide) hl) | exact h
    · exact .inr (.inl h)
    · exact .inr (.inr ⟨p, xs, e1, h1, hz, fun x m => TB.wide hl (hx x m)⟩)
theorem TB.tup {k n : Nat} {H : Hp} {p : Addr} {xs : List V} (h : H p = some (.tup xs)) (hz : xs.length ≤ 100) (hx : ∀ x ∈ xs, TB k n H x) : TB k (n + 1) H (.ref p) := .inr (.inr ⟨p, xs, rfl, h, hz, hx⟩)
theorem TB.lst {k n : Nat} {H : Hp} {p : Addr} {xs : List V} (h : H p = some (.lst xs)) : TB k n H (.ref p) := by
  cases n with
  | zero => exact .inr ⟨p, xs, rfl, h⟩
  | succ n => exact .inr (.inl ⟨p, xs, rfl, h⟩)
theorem TB.at {k n : Nat} {H : Hp} {v : V} (h : AtB k v) : TB k n H v := by
  cases n with
  | zero => exact .inl h
  | succ n => exact .inl h
/-- its kind is known -/
def Tv (H : Hp) (v : V) : Prop := atomB v = true ∨ IsL H v ∨ ∃ p xs, v = .ref p ∧ H p = some (.tup xs)
theorem TB.tv {k n : Nat} {H : Hp} {v : V} (h : TB k n H v) : Tv H v := by
  cases n with
  | zero =>
    rcases h with h | h
    · exact .inl h.atom
    · exact .inr (.inl h)
  | succ n =>
    rcases h with h | h | ⟨p, xs, e1, h1, _⟩
    · exact .inl h.atom
    · exact .inr (.inl h)
    · exact .inr (.inr ⟨p, xs, e1, h1⟩)
theorem Tv.ty {K : PySem.W.Frag} {H : Hp} {v : V} (h : Tv H v) : TyX K H v (.type (tyN H v)) := by
  rcases h with h | ⟨p, xs, rfl, h⟩ | ⟨p, xs, rfl, h⟩
  · cases v with
    | non => exact .base .non
    | bl b => exact .base (.bl b)
    | int i => exact .base (.int i)
    | str z => exact .base (.str z)
    | _ => cases h
  · have e : tyN H (.ref p) = "list" := by show tyAt (H p) = _; rw [h]; rfl
    rw [e]
    exact .base (.lst h)
  · have e : tyN H (.ref p) = "tuple" := by show tyAt (H p) = _; rw [h]; rfl
    rw [e]
    exact .base (.tup h)
theorem tv_int {K : PySem.W.Frag} {H : Hp} {Q : VK} {v : V} (h : Tv H v) (q : Q (.bl (intB v)) H) : rIsi K [v, .ty "int"] H Q := by
  refine isi_is h.ty ?_ q
  rcases h with h | ⟨p, xs, rfl, h⟩ | ⟨p, xs, rfl, h⟩
  · cases v with
    | non => show kitB "NoneType" "int" = some false; decide +kernel
    | bl b => show kitB "bool" "int" = some true; decide +kernel
    | int i => show kitB "int" "int" = some true; decide +kernel
    | str z => show kitB "str" "int" = some false; decide +kernel
    | _ => cases h
  · show kitB (tyAt (H p)) _ = _; rw [h]; show kitB "list" "int" = some false; decide +kernel
  · show kitB (tyAt (H p)) _ = _; rw [h]; show kitB "tuple" "int" = some false; decide +kernel
theorem tv_bool {K : PySem.W.Frag} {H : Hp} {Q : VK} {v : V} (h : Tv H v) (q : Q (.bl (blB v)) H) : rIsi K [v, .ty "bool"] H Q := by
  refine isi_is h.ty ?_ q
  rcases h with h | ⟨p, xs, rfl, h⟩ | ⟨p, xs, rfl, h⟩
  · cases v with
    | non => show kitB "NoneType" "bool" = some false; decide +kernel
    | bl b => show kitB "bool" "bool" = some true; decide +kernel
    | int i => show kitB "int" "bool" = some false; decide +kernel
    | str z => show kitB "str" "bool" = some false; decide +kernel
    | _ => cases h
  · show kitB (tyAt (H p)) _ = _; rw [h]; show kitB "list" "bool" = some false; decide +kernel
  · show kitB (tyAt (H p)) _ = _; rw [h]; show kitB "tuple" "bool" = some false; decide +kernel
/-- what is no tuple -/
def NoTup (H : Hp) (v : V) : Prop := ∀ p xs, v = .ref p → H p ≠ some (.tup xs)
theorem tb_tup {K : PySem.W.Frag} {k n : Nat} {H : Hp} {Q : VK} {v : V} (h : TB k (n + 1) H v) (q1 : ∀ p xs, v = .ref p → H p = some (.tup xs) → xs.length ≤ 100 → (∀ x ∈ xs, TB k n H x) → Q (.bl true) H) (q2 : NoTup H v → Q (.bl false) H) : rIsi K [v, .ty "tuple"] H Q := by
  have h' := h.tv
  rcases h with h | ⟨p, xs, rfl, h⟩ | ⟨p, xs, rfl, h, hz, hx⟩
  · have ha := h.atom
    refine isi_is h'.ty (b := false) ?_ (q2 fun p xs e => ?_)
    · cases v with
      | non => show kitB "NoneType" "tuple" = some false; decide +kernel
      | bl b => show kitB "bool" "tuple" = some false; decide +kernel
      | int i => show kitB "int" "tuple" = some false; decide +kernel
      | str z => show kitB "str" "tuple" = some false; decide +kernel
      | _ => cases ha
    · rw [e] at ha
      cases ha
  · refine isi_is h'.ty (b := false) ?_ (q2 fun p' xs' e => ?_)
    · show kitB (tyAt (H p)) _ = _; rw [h]; show kitB "list" "tuple" = some false; decide +kernel
    · cases e
      rw [h]
      intro z
      cases z
  · refine isi_is h'.ty (b := true) ?_ (q1 p xs rfl h hz hx)
    show kitB (tyAt (H p)) _ = _; rw [h]; show kitB "tuple" "tuple" = some true; decide +kernel
theorem numOf_no {H : Hp} {g : Int} {v : V} (h : NoTup H v) : numOf H g v = false := by
  cases v with
  | ref p =>
    show numAt g (H p) = false
    cases e : H p with
    | none => rfl
    | some o =>
      cases o with
      | tup xs => exact absurd e (h p xs rfl)
      | _ => rfl
  | _ => rfl
theorem numOf_tb {k n : Nat} {H H' : Hp} {g : Int} {v : V} (h0 : TB k n H v) (e : Kd H H') : numOf H' g v = numOf H g v := by
  rcases h0.tv with h | ⟨p, xs, rfl, h⟩ | ⟨p, xs, rfl, h⟩
  · cases v <;> first | rfl | cases h
  · obtain ⟨ys, h2⟩ := e.2 p xs h
    rw [numOf_lst h, numOf_lst h2]
  · rw [numOf_tup h, numOf_tup (e.1 _ _ h)]
/-! ### rows and tables among things -/
def rowAt (H : Hp) (g m : Int) : Option HO → Bool
  | some (.tup xs) => decide ((xs.length : Int) = m) && xs.all (numOf H g)
  | _ => false
def rowOf (H : Hp) (g m : Int) : V → Bool
  | .ref p => rowAt H g m (H p)
  | _ => false
theorem rowOf_tup {H : Hp} {g m : Int} {p : Addr} {xs : List V} (h : H p = some (.tup xs)) : rowOf H g m (.ref p) = (decide ((xs.length : Int) = m) && xs.all (numOf H g)) := by
  show rowAt H g m (H p) = _
  rw [h]
  rfl
theorem rowOf_no {H : Hp} {g m : Int} {v : V} (h : NoTup H v) : rowOf H g m v = false := by
  cases v with
  | ref p =>
    show rowAt H g m (H p) = false
    cases e : H p with
    | none => rfl
    | some o =>
      cases o with
      | tup xs => exact absurd e (h p xs rfl)
      | _ => rfl
  | _ => rfl
theorem all_congr {f f' : V → Bool} : ∀ {xs : List V}, (∀ x ∈ xs, f' x = f x) → xs.all f' = xs.all f
  | [], _ => rfl
  | x :: xs, h => by
    rw [List.all_cons, List.all_cons, h x (List.mem_cons_self ..), all_congr fun y hy => h y (List.mem_cons_of_mem _ hy)]
theorem notup_kd {k n : Nat} {H H' : Hp} {v : V} (h0 : TB k n H v) (no : NoTup H v) (e : Kd H H') : NoTup H' v := by
  rcases h0.tv with h | ⟨p, xs, rfl, h⟩ | ⟨p, xs, rfl, h⟩
  · intro p xs z
    rw [z] at h
    cases h
  · obtain ⟨ys, h2⟩ := e.2 p xs h
    intro p' xs' z
    cases z
    rw [h2]
    intro z
    cases z
  · exact absurd h (no p xs rfl)
theorem tb_cases {k n : Nat} {H : Hp} {v : V} (h : TB k (n + 1) H v) : NoTup H v ∨ ∃ p xs, v = .ref p ∧ H p = some (.tup xs) ∧ xs.length ≤ 100 ∧ ∀ x ∈ xs, TB k n H x := by
  rcases h with h | ⟨p, xs, rfl, h⟩ | h
  · left
    intro p xs e
    have ha := h.atom
    rw [e] at ha
    cases ha
  · left
    intro p' xs' e
    cases e
    rw [h]
    intro z
    cases z
  · exact .inr h
theorem rowOf_tb {k n : Nat} {H H' : Hp} {g m : Int} {v : V} (h : TB k (n + 1) H v) (e : Kd H H') : rowOf H' g m v = rowOf H g m v := by
  rcases tb_cases h with no | ⟨p, xs, rfl, hp, hz, hx⟩
  · rw [rowOf_no no, rowOf_no (notup_kd h no e)]
  · rw [rowOf_tup hp, rowOf_tup (e.1 _ _ hp), all_congr fun x m => numOf_tb (hx x m) e]
def tabAt (H : Hp) (g m w : Int) : Option HO → Bool
  | some (.tup xs) => decide ((xs.length : Int) = m) && xs.all (rowOf H g w)
  | _ => false
def tabOf (H : Hp) (g m w : Int) : V → Bool
  | .ref p => tabAt H g m w (H p)
  | _ => false
theorem tabOf_tup {H : Hp} {g m w : Int} {p : Addr} {xs : List V} (h : H p = some (.tup xs)) : tabOf H g m w (.ref p) = (decide ((xs.length : Int) = m) && xs.all (rowOf H g w)) := by
  show tabAt H g m w (H p) = _
  rw [h]
  rfl
theorem tabOf_no {H : Hp} {g m w : Int} {v : V} (h : NoTup H v) : tabOf H g m w v = false := by
  cases v with
  | ref p =>
    show tabAt H g m w (H p) = false
    cases e : H p with
    | none => rfl
    | some o =>
      cases o with
      | tup xs => exact absurd e (h p xs rfl)
      | _ => rfl
  | _ => rfl
theorem tabOf_tb {k n : Nat} {H H' : Hp} {g m w : Int} {v : V} (h : TB k (n + 2) H v) (e : Kd H H') : tabOf H' g m w v = tabOf H g m w v := by
  rcases tb_cases h with no | ⟨p, xs, rfl, hp, hz, hx⟩
  · rw [tabOf_no no, tabOf_no (notup_kd h no e)]
  · rw [tabOf_tup hp, tabOf_tup (e.1 _ _ hp), all_congr fun x m => rowOf_tb (hx x m) e]
theorem all_map {f : V → Bool} {xs : List V} : (xs.map f).all id = xs.all f := by
  rw [List.all_map]
  rfl
end Fm

namespace Fm
open PySem PySem.Spec PyProof.Rows L2
/-! ### drawn numbers and their sums -/
def NG (g : Int) (i : Nat) (a : Int × Int) : Prop := 0 < a.2 ∧ a.2 ∣ 2520 ∧ a.1.natAbs ≤ 64 * 2 ^ i * a.2.natAbs ∧ (g = 0 ∨ (3 ≤ g ∧ g ≤ 13 ∧ a.2 = 1))
theorem NG.mono {g : Int} {i j : Nat} {a : Int × Int} (h : NG g i a) (hj : i ≤ j) : NG g j a :=
  ⟨h.1, h.2.1, Nat.le_trans h.2.2.1 (Nat.mul_le_mul_right _ (Nat.mul_le_mul_left _ (Nat.pow_le_pow_right (by decide) hj))), h.2.2.2⟩
theorem NG.ok {g : Int} {i : Nat} {a : Int × Int} (h : NG g i a) (hi : i ≤ 10) : OkN g 40 a := by
  have h2 : a.2 ≤ 2520 := Int.le_of_dvd (by decide) h.2.1
  have h0 := h.1
  have h3 : a.1.natAbs ≤ 64 * 2 ^ 10 * 2520 := Nat.le_trans h.2.2.1 (Nat.mul_le_mul (Nat.mul_le_mul_left _ (Nat.pow_le_pow_right (by decide) hi)) (by omega))
  refine ⟨Nat.lt_of_le_of_lt h3 (by decide), Nat.lt_of_le_of_lt (show a.2.natAbs ≤ 2520 by omega) (by decide), ?_⟩
  rcases h.2.2.2 with z | z
  · exact .inl ⟨z, h.1⟩
  · exact .inr z
theorem ng_low {u d : Int} (hu : u.natAbs ≤ 64) (hd1 : 1 ≤ d) (hd : d ≤ 9) : NG 0 0 (lowF 0 u d) := by
  have hn : d ≠ 0 := by omega
  obtain ⟨hr, he⟩ := low0_red (u := u) hn
  obtain ⟨q1, q2, e, e1, e2⟩ := low0_eq (u := u) hn
  refine ⟨hr.1, ?_, ?_, .inl rfl⟩
  · have h1 : (lowF 0 u d).2 ∣ d := by
      rw [e]
      exact ⟨lowC u d, by rw [Int.mul_comm]; exact e2⟩
    refine Int.dvd_trans h1 ?_
    rcases (by omega : d = 1 ∨ d = 2 ∨ d = 3 ∨ d = 4 ∨ d = 5 ∨ d = 6 ∨ d = 7 ∨ d = 8 ∨ d = 9) with rfl | rfl | rfl | rfl | rfl | rfl | rfl | rfl | rfl <;> decide
  · have h2 := congrArg Int.natAbs he
    rw [Int.natAbs_mul, Int.natAbs_mul] at h2
    have h3 : (lowF 0 u d).1.natAbs * 1 ≤ (lowF 0 u d).1.natAbs * d.natAbs := Nat.mul_le_mul_left _ (by omega)
    rw [Nat.mul_one, h2] at h3
    refine Nat.le_trans h3 ?_
    rw [Nat.pow_zero, Nat.mul_one]
    exact Nat.mul_le_mul_right _ hu
theorem ng_plus {g : Int} {i : Nat} {x y : Int × Int} (hx : NG g i x) (hy : NG g i y) : NG g (i + 1) (plusF g x y) := by
  rcases hx.2.2.2 with h0 | ⟨h3, h13, hx1⟩
  · subst h0
    have hn : x.2 * y.2 ≠ 0 := Int.mul_ne_zero (by have := hx.1; omega) (by have := hy.1; omega)
    obtain ⟨hr, he⟩ := low0_red (u := x.1 * y.2 + y.1 * x.2) hn
    have ep : plusF 0 x y = lowF 0 (x.1 * y.2 + y.1 * x.2) (x.2 * y.2) := rfl
    rw [← ep] at hr he
    generalize plusF 0 x y = p at hr he
    refine ⟨hr.1, ?_, ?_, .inl rfl⟩
    · obtain ⟨qx, ex⟩ := hx.2.1
      obtain ⟨qy, ey⟩ := hy.2.1
      have h1 : p.1 * 2520 = (x.1 * qx + y.1 * qy) * p.2 := by
        have : (p.1 * 2520) * (x.2 * y.2) = ((x.1 * qx + y.1 * qy) * p.2) * (x.2 * y.2) := by
          calc (p.1 * 2520) * (x.2 * y.2) = (p.1 * (x.2 * y.2)) * 2520 := by rw [Int.mul_right_comm]
            _ = ((x.1 * y.2 + y.1 * x.2) * p.2) * 2520 := by rw [he]
            _ = (x.1 * y.2 * 2520 + y.1 * x.2 * 2520) * p.2 := by rw [Int.mul_right_comm, Int.add_mul]
            _ = (x.1 * y.2 * (x.2 * qx) + y.1 * x.2 * (y.2 * qy)) * p.2 := by rw [← ex, ← ey]
            _ = ((x.1 * qx + y.1 * qy) * (x.2 * y.2)) * p.2 := by
              congr 1
              rw [Int.add_mul]
              congr 1 <;> ac_rfl
            _ = ((x.1 * qx + y.1 * qy) * p.2) * (x.2 * y.2) := by rw [Int.mul_right_comm]
        exact Int.eq_of_mul_eq_mul_right hn this
      exact dvd_cop hr.2 ⟨x.1 * qx + y.1 * qy, by rw [h1, Int.mul_comm]⟩
    · have h2 := congrArg Int.natAbs he
      rw [Int.natAbs_mul, Int.natAbs_mul, Int.natAbs_mul] at h2
      have hN : (x.1 * y.2 + y.1 * x.2).natAbs ≤ 2 * (64 * 2 ^ i) * (x.2.natAbs * y.2.natAbs) := by
        refine Nat.le_trans (Int.natAbs_add_le _ _) ?_
        rw [Int.natAbs_mul, Int.natAbs_mul]
        have a1 := Nat.mul_le_mul_right y.2.natAbs hx.2.2.1
        have a2 := Nat.mul_le_mul_right x.2.natAbs hy.2.2.1
        have e1 : 64 * 2 ^ i * x.2.natAbs * y.2.natAbs = 64 * 2 ^ i * (x.2.natAbs * y.2.natAbs) := Nat.mul_assoc ..
        have e2 : 64 * 2 ^ i * y.2.natAbs * x.2.natAbs = 64 * 2 ^ i * (x.2.natAbs * y.2.natAbs) := by rw [Nat.mul_assoc, Nat.mul_comm y.2.natAbs]
        rw [Nat.mul_assoc 2]
        omega
      have hD : 0 < x.2.natAbs * y.2.natAbs := Nat.mul_pos (by have := hx.1; omega) (by have := hy.1; omega)
      have h3 : p.1.natAbs * (x.2.natAbs * y.2.natAbs) ≤ (2 * (64 * 2 ^ i) * p.2.natAbs) * (x.2.natAbs * y.2.natAbs) := by
        rw [h2]
        refine Nat.le_trans (Nat.mul_le_mul_right _ hN) (Nat.le_of_eq ?_)
        ac_rfl
      have h4 := Nat.le_of_mul_le_mul_right h3 hD
      rw [Nat.pow_succ]
      refine Nat.le_trans h4 (Nat.le_of_eq ?_)
      ac_rfl
  · have hy1 : y.2 = 1 := by
      rcases hy.2.2.2 with z | z
      · omega
      · exact z.2.2
    have e : plusF g x y = ((x.1 * 1 + y.1 * 1).fmod g, 1) := by
      unfold plusF
      rw [hx1, hy1]
      exact low_one (by omega)
    rw [e]
    have b0 := Int.fmod_nonneg_of_pos (x.1 * 1 + y.1 * 1) (show 0 < g by omega)
    have b1 := Int.fmod_lt_of_pos (x.1 * 1 + y.1 * 1) (show 0 < g by omega)
    refine ⟨show (0 : Int) < 1 by decide, show (1 : Int) ∣ 2520 by decide, ?_, .inr ⟨h3, h13, rfl⟩⟩
    show ((x.1 * 1 + y.1 * 1).fmod g).natAbs ≤ 64 * 2 ^ (i + 1) * (1 : Int).natAbs
    have : 1 ≤ 2 ^ (i + 1) := Nat.one_le_two_pow
    have e1 : (1 : Int).natAbs = 1 := rfl
    rw [e1, Nat.mul_one]
    generalize 2 ^ (i + 1) = z at this ⊢
    generalize (x.1 * 1 + y.1 * 1).fmod g = w at b0 b1 ⊢
    omega
/-- bounds for the operations -/
def PBd (a : Int × Int) : Prop := a.1.natAbs < 2 ^ 3000 ∧ a.2.natAbs < 2 ^ 3000 ∧ a.2 ≠ 0
theorem OkN.pb {g : Int} {k : Nat} {a : Int × Int} (h : OkN g k a) (hk : k ≤ 3000) : PBd a := ⟨Nat.lt_of_lt_of_le h.1 (Nat.pow_le_pow_right (by decide) hk), Nat.lt_of_lt_of_le h.2.1 (Nat.pow_le_pow_right (by decide) hk), by have := h.pos; omega⟩
def NumG (g : Int) (H : Hp) (v : V) (i : Nat) : Prop := ∃ a, NumV H v a ∧ NG g i a
def RowG (g : Int) (H : Hp) (v : V) (n i : Nat) : Prop := ∃ r, RowV H v r ∧ r.length = n ∧ ∀ a ∈ r, NG g i a
def TabG (g : Int) (H : Hp) (v : V) (m n i : Nat) : Prop := ∃ t, TabV H v t ∧ t.length = m ∧ ∀ r ∈ t, r.length = n ∧ ∀ a ∈ r, NG g i a
theorem NumG.kt {g : Int} {H H' : Hp} {v : V} {i : Nat} (h : NumG g H v i) (s : Kt H H') : NumG g H' v i := by
  obtain ⟨a, h1, h2⟩ := h
  exact ⟨a, h1.kt s, h2⟩
theorem RowG.kt {g : Int} {H H' : Hp} {v : V} {n i : Nat} (h : RowG g H v n i) (s : Kt H H') : RowG g H' v n i := by
  obtain ⟨a, h1, h2⟩ := h
  exact ⟨a, RowV.kt h1 s, h2⟩
theorem RowG.mono {g : Int} {H : Hp} {v : V} {n i j : Nat} (h : RowG g H v n i) (hj : i ≤ j) : RowG g H v n j := by
  obtain ⟨a, h1, h2, h3⟩ := h
  exact ⟨a, h1, h2, fun x hx => (h3 x hx).mono hj⟩
theorem TabG.kt {g : Int} {H H' : Hp} {v : V} {m n i : Nat} (h : TabG g H v m n i) (s : Kt H H') : TabG g H' v m n i := by
  obtain ⟨a, h1, h2⟩ := h
  exact ⟨a, TabV.kt h1 s, h2⟩
theorem rowG_mk {g : Int} {H : Hp} {p : Addr} {xs : List V} {n i : Nat} (hp : H p = some (.tup xs)) (hl : xs.length = n) (hx : ∀ x ∈ xs, NumG g H x i) : RowG g H (.ref p) n i := by
  obtain ⟨as, g1, g2, g3⟩ := sq_val (P := NumV) (S := NG g i) (H := H) (xs := xs) hx
  exact ⟨as, ⟨p, xs, rfl, hp, g1, g3⟩, by omega, g2⟩
theorem tabG_mk {g : Int} {H : Hp} {p : Addr} {xs : List V} {m n i : Nat} (hp : H p = some (.tup xs)) (hl : xs.length = m) (hx : ∀ x ∈ xs, RowG g H x n i) : TabG g H (.ref p) m n i := by
  obtain ⟨as, g1, g2, g3⟩ := sq_val (P := RowV) (S := fun r => r.length = n ∧ ∀ a ∈ r, NG g i a) (H := H) (xs := xs) hx
  exact ⟨as, ⟨p, xs, rfl, hp, g1, g3⟩, by omega, g2⟩
theorem RowV.dat {K : PySem.W.Frag} {H : Hp} {v : V} {r : List (Int × Int)} (h : RowV H v r) : Dat K H v 2 := by
  obtain ⟨p, xs, rfl, hp, hl, hx⟩ := h
  refine dat_tup hp fun z hz => ?_
  obtain ⟨i, hi, e⟩ := List.mem_iff_getElem.mp hz
  have e1 : xs[i]? = some z := by rw [List.getElem?_eq_getElem hi, e]
  obtain ⟨q, rfl, hq⟩ := hx i z _ e1 (List.getElem?_eq_getElem (by omega))
  refine dat_tup hq fun w hw => ?_
  rcases List.mem_cons.mp hw with rfl | hw
  · exact dat_int
  · rw [List.mem_singleton.mp hw]; exact dat_int
theorem rowsG_end {g : Int} {H Hn : Hp} {b F : Addr} {xs : List V} {row : V} {n i : Nat} (mv : Mv b H Hn) (hb : Bag Hn b) (hF0 : H F = none) (nF : F ≠ b) (hF : Hn F = some (.lst xs)) (hl : xs.length = i) (hx : ∀ x ∈ xs, RowG g Hn x n i) (hr : RowG g Hn row n (i + 1)) :
    Mv b H (upd Hn F (.lst (xs ++ [row]))) ∧ Bag (upd Hn F (.lst (xs ++ [row]))) b ∧ ∃ ys : List V, (upd Hn F (.lst (xs ++ [row]))) F = some (.lst ys) ∧ ys.length = i + 1 ∧ ∀ x ∈ ys, RowG g (upd Hn F (.lst (xs ++ [row]))) x n (i + 1) := by
  have kt : Kt Hn (upd Hn F (.lst (xs ++ [row]))) := Kt.updL hF
  refine ⟨mv.updD hF0, hb.upd nF, xs ++ [row], upd_same, by rw [List.length_append, hl]; rfl, fun x h => ?_⟩
  rcases List.mem_append.mp h with h | h
  · exact ((hx x h).kt kt).mono (Nat.le_succ i)
  · rw [List.mem_singleton.mp h]
    exact hr.kt kt
theorem RowG.zeros {g : Int} {H : Hp} {u : Addr} {l : Addr} {n : Nat} (hg : g = 0 ∨ (3 ≤ g ∧ g ≤ 13)) (hu : H u = some (.tup [.int 0, .int 1])) (hl : H l = some (.tup (List.replicate n [V.ref u]).flatten)) : RowG g H (.ref l) n 0 := by
  rw [List.flatten_replicate_singleton] at hl
  refine rowG_mk hl List.length_replicate fun x hx => ?_
  rw [(List.mem_replicate.mp hx).2]
  refine ⟨(0, 1), ⟨u, rfl, hu⟩, by decide, by decide, by decide, ?_⟩
  rcases hg with z | z
  · exact .inl z
  · exact .inr ⟨z.1, z.2, rfl⟩
end Fm

namespace Fm
open PySem PySem.Spec PyProof.Rows L2
theorem part_ok {g : Int} {r s : List (Int × Int)} (hg : g = 0 ∨ (3 ≤ g ∧ g ≤ 13)) (hr : ∀ x ∈ r, OkN g 40 x) (hs : ∀ x ∈ s, OkN g 40 x) (hl : r.length ≤ 10) (hl2 : s.length ≤ 10) : PBd (cellF g r s) := by
  have p1 : ∀ x ∈ r, 0 < x.2 := fun x h => (hr x h).pos
  have p2 : ∀ x ∈ s, 0 < x.2 := fun x h => (hs x h).pos
  have e1 : 40 * r.length ≤ 400 := Nat.mul_le_mul_left 40 hl
  have e2 : 40 * s.length ≤ 400 := Nat.mul_le_mul_left 40 hl2
  have b1 := wrB_bd (k := 40) (r := r) fun x h => ⟨p1 x h, (hr x h).2.1⟩
  have b2 := wrB_bd (k := 40) (r := s) fun x h => ⟨p2 x h, (hs x h).2.1⟩
  have c1 : ∀ t ∈ wrT r, t.natAbs ≤ 2 ^ 440 := fun t h => Nat.le_trans (wrT_bd hr t h) (Nat.pow_le_pow_right (by decide) (by omega))
  have c2 : ∀ t ∈ wrT s, t.natAbs ≤ 2 ^ 440 := fun t h => Nat.le_trans (wrT_bd hs t h) (Nat.pow_le_pow_right (by decide) (by omega))
  have d := dot_bd c1 c2
  rw [wrT_len] at d
  have dN : (dotF (wrT r) (wrT s)).natAbs < 2 ^ 3000 := by
    refine Nat.lt_of_le_of_lt (Nat.le_trans d (Nat.mul_le_mul_right _ (show r.length ≤ 2 ^ 4 by omega))) ?_
    rw [← Nat.pow_add]
    exact Nat.pow_lt_pow_right (by decide) (by decide)
  have dD : (wrB r * wrB s).natAbs < 2 ^ 3000 := by
    rw [Int.natAbs_mul]
    refine Nat.lt_of_le_of_lt (Nat.mul_le_mul b1 b2) ?_
    rw [← Nat.pow_add]
    exact Nat.pow_lt_pow_right (by decide) (by omega)
  rw [cell_is hg hr hs]
  exact low_bd (by omega) (Int.mul_ne_zero (by have := (wrB_spec p1).1; omega) (by have := (wrB_spec p2).1; omega)) (by decide) dN dD
theorem times_ok {g : Int} {x z : Int × Int} (hg : g ≤ 13) (hx : OkN g 40 x) (hz : OkN g 40 z) : PBd (timesF g x z) := by
  have b1 := wide_lt hx.1 hz.1
  have b2 := wide_lt hx.2.1 hz.2.1
  have up : ∀ {n : Nat}, n < 2 ^ (40 + 40) → n < 2 ^ 3000 := fun h => Nat.lt_of_lt_of_le h (Nat.pow_le_pow_right (by decide) (by decide))
  exact low_bd hg (Int.mul_ne_zero (by have := hx.pos; omega) (by have := hz.pos; omega)) (by decide) (up b1) (up b2)
theorem ok_take {g : Int} {k i : Nat} {r : List (Int × Int)} (h : ∀ x ∈ r, OkN g k x) : ∀ x ∈ r.take i, OkN g k x := fun x hx => h x (List.mem_of_mem_take hx)
/-! ### bent things -/
def NK (kb : Nat) (H : Hp) (v : V) : Prop := ∃ a : Int × Int, NumV H v a ∧ a.1.natAbs < 2 ^ kb ∧ a.2.natAbs < 2 ^ kb
def RK (kb : Nat) (H : Hp) (v : V) : Prop := ∃ p xs, v = .ref p ∧ H p = some (.tup xs) ∧ 0 < xs.length ∧ xs.length ≤ 10 ∧ ∀ x ∈ xs, NK kb H x
def TK (kb : Nat) (H : Hp) (v : V) : Prop := ∃ p xs, v = .ref p ∧ H p = some (.tup xs) ∧ 0 < xs.length ∧ xs.length ≤ 10 ∧ ∀ x ∈ xs, RK kb H x
theorem NK.kt {kb : Nat} {H H' : Hp} {v : V} (h : NK kb H v) (s : Kt H H') : NK kb H' v := by
  obtain ⟨a, h1, h2⟩ := h
  exact ⟨a, h1.kt s, h2⟩
theorem RK.kt {kb : Nat} {H H' : Hp} {v : V} (h : RK kb H v) (s : Kt H H') : RK kb H' v := by
  obtain ⟨p, xs, e, hp, h1, h2, hx⟩ := h
  exact ⟨p, xs, e, s _ _ hp, h1, h2, fun x m => (hx x m).kt s⟩
theorem TK.kt {kb : Nat} {H H' : Hp} {v : V} (h : TK kb H v) (s : Kt H H') : TK kb H' v := by
  obtain ⟨p, xs, e, hp, h1, h2, hx⟩ := h
  exact ⟨p, xs, e, s _ _ hp, h1, h2, fun x m => (hx x m).kt s⟩
theorem lt_up {a : Int} {k l : Nat} (h : a.natAbs < 2 ^ k) (hl : k ≤ l) : a.natAbs < 2 ^ l := Nat.lt_of_lt_of_le h (Nat.pow_le_pow_right (by decide) hl)
theorem NK.tb {kb l : Nat} {H : Hp} {v : V} (h : NK kb H v) (hl : kb ≤ l) : TB l 1 H v := by
  obtain ⟨a, ⟨p, rfl, hp⟩, h1, h2⟩ := h
  refine TB.tup hp (by simp) fun x hx => ?_
  simp only [List.mem_cons, List.not_mem_nil, or_false] at hx
  rcases hx with rfl | rfl
  · exact .inl (lt_up h1 hl)
  · exact .inl (lt_up h2 hl)
theorem RK.tb {kb l : Nat} {H : Hp} {v : V} (h : RK kb H v) (hl : kb ≤ l) : TB l 2 H v := by
  obtain ⟨p, xs, rfl, hp, _, h2, hx⟩ := h
  exact TB.tup hp (by omega) fun x m => (hx x m).tb hl
theorem TK.tb {kb l : Nat} {H : Hp} {v : V} (h : TK kb H v) (hl : kb ≤ l) : TB l 3 H v := by
  obtain ⟨p, xs, rfl, hp, _, h2, hx⟩ := h
  exact TB.tup hp (by omega) fun x m => (hx x m).tb hl
theorem TB.a {k n : Nat} {H : Hp} {i : Int} (h : i.natAbs < 2 ^ k) : TB k n H (.int i) := TB.at h
theorem TB.tupA {k : Nat} {H : Hp} {p : Addr} {xs : List V} (h : H p = some (.tup xs)) (hz : xs.length ≤ 100) (hx : ∀ x ∈ xs, AtB k x) : TB k 1 H (.ref p) := TB.tup h hz fun x m => TB.at (hx x m)
/-- what the looks say of a table, back to its numbers -/
theorem nk_of {k n : Nat} {H : Hp} {g : Int} {v : V} (h : TB k (n + 1) H v) (e : numOf H g v = true) : NK k H v := by
  rcases tb_cases h with no | ⟨p, xs, rfl, hp, hz, hx⟩
  · rw [numOf_no no] at e
    cases e
  · rw [numOf_tup hp] at e
    match xs, e, hx, hp with
    | [.int t, .int b], e, hx, hp =>
      have a1 : (TB k n H (.int t)) := hx _ (by simp)
      have a2 : (TB k n H (.int b)) := hx _ (by simp)
      have f : ∀ {i : Int}, TB k n H (.int i) → i.natAbs < 2 ^ k := fun {i} z => by
        cases n with
        | zero =>
          rcases z with z | ⟨p, xs, z, _⟩
          · exact z
          · cases z
        | succ n =>
          rcases z with z | ⟨p, xs, z, _⟩ | ⟨p, xs, z, _⟩
          · exact z
          · cases z
          · cases z
      exact ⟨(t, b), ⟨p, rfl, hp⟩, f a1, f a2⟩
theorem rk_of {k n : Nat} {H : Hp} {g m : Int} {v : V} (h : TB k (n + 2) H v) (e : rowOf H g m v = true) (h1 : 1 ≤ m) (h2 : m ≤ 10) : RK k H v := by
  rcases tb_cases h with no | ⟨p, xs, rfl, hp, hz, hx⟩
  · rw [rowOf_no no] at e
    cases e
  · rw [rowOf_tup hp, Bool.and_eq_true] at e
    have el := of_decide_eq_true e.1
    exact ⟨p, xs, rfl, hp, by omega, by omega, fun x m => nk_of (hx x m) (List.all_eq_true.mp e.2 x m)⟩
theorem tk_of {k n : Nat} {H : Hp} {g m w : Int} {v : V} (h : TB k (n + 3) H v) (e : tabOf H g m w v = true) (h1 : 1 ≤ m) (h2 : m ≤ 10) (h3 : 1 ≤ w) (h4 : w ≤ 10) : TK k H v := by
  rcases tb_cases h with no | ⟨p, xs, rfl, hp, hz, hx⟩
  · rw [tabOf_no no] at e
    cases e
  · rw [tabOf_tup hp, Bool.and_eq_true] at e
    have el := of_decide_eq_true e.1
    exact ⟨p, xs, rfl, hp, by omega, by omega, fun x m => rk_of (hx x m) (List.all_eq_true.mp e.2 x m) h3 h4⟩
theorem RowG.rk {g : Int} {H : Hp} {v : V} {n i kb : Nat} (h : RowG g H v n i) (hi : i ≤ 10) (hk : 40 ≤ kb) (hn : 0 < n) (hn2 : n ≤ 10) : RK kb H v := by
  obtain ⟨r, ⟨p, xs, e, hp, hl, hx⟩, hr, hg⟩ := h
  refine ⟨p, xs, e, hp, by omega, by omega, fun x m => ?_⟩
  obtain ⟨j, hj, ej⟩ := List.mem_iff_getElem.mp m
  have e1 : xs[j]? = some x := by rw [List.getElem?_eq_getElem hj, ej]
  have e2 : r[j]? = some (r[j]'(by omega)) := List.getElem?_eq_getElem (by omega)
  have ok := (hg _ (List.getElem_mem (show j < r.length by omega))).ok hi
  exact ⟨_, hx j x _ e1 e2, lt_up ok.1 hk, lt_up ok.2.1 hk⟩
theorem TabG.tk {g : Int} {H : Hp} {v : V} {m n i kb : Nat} (h : TabG g H v m n i) (hi : i ≤ 10) (hk : 40 ≤ kb) (hm : 0 < m) (hm2 : m ≤ 10) (hn : 0 < n) (hn2 : n ≤ 10) : TK kb H v := by
  obtain ⟨t, ⟨p, xs, e, hp, hl, hx⟩, ht, hg⟩ := h
  refine ⟨p, xs, e, hp, by omega, by omega, fun x mm => ?_⟩
  obtain ⟨j, hj, ej⟩ := List.mem_iff_getElem.mp mm
  have e1 : xs[j]? = some x := by rw [List.getElem?_eq_getElem hj, ej]
  have e2 : t[j]? = some (t[j]'(by omega)) := List.getElem?_eq_getElem (by omega)
  have hh := hg _ (List.getElem_mem (show j < t.length by omega))
  exact RowG.rk ⟨_, hx j x _ e1 e2, hh.1, hh.2⟩ hi hk hn hn2
theorem w_sl {r : V → Option Int → Option Int → Hp → VK → Prop} {te : TE} {tl th : TO} {σ : L2.St} {H : Hp} {Q : VK} (h : te σ H fun x H1 => tl σ H1 fun l H2 => th σ H2 fun u H3 => r x l u H3 Q) : tSl r te tl th σ H Q := h
theorem w_part {te : TE} {σ : L2.St} {H : Hp} {R : Option Int → Hp → Prop} (h : te σ H fun x H1 => ∃ i, x = .int i ∧ R (some i) H1) : tPart te σ H R := h
theorem w_nopart {σ : L2.St} {H : Hp} {R : Option Int → Hp → Prop} (h : R none H) : tNoPart σ H R := h
theorem w_exi {a : Int} {R : Int → Prop} (h : R a) : ∃ i, V.int a = .int i ∧ R i := ⟨a, rfl, h⟩
theorem cut_mem {xs : List V} {lo hi : Option Int} : (∀ y ∈ cutV xs lo hi, y ∈ xs) ∧ (cutV xs lo hi).length ≤ xs.length := by
  unfold cutV
  refine ⟨fun y hy => List.mem_of_mem_drop (List.mem_of_mem_take hy), ?_⟩
  rw [List.length_take, List.length_drop]
  omega
theorem w_slA {K : PySem.W.Frag} {H : Hp} {Q : VK} {p : Addr} {xs : List V} {lo hi : Option Int} (hp : H p = some (.tup xs)) (q : ∀ q' H' ys, Same H H' → H' q' = some (.tup ys) → ys.length ≤ xs.length → (∀ y ∈ ys, y ∈ xs) → Q (.ref q') H') : rSlA K (.ref p) lo hi H Q :=
  ⟨p, xs, rfl, SqT.of hp, fun _ => q p H xs (Same.refl H) hp (Nat.le_refl _) (fun y h => h), fun _ l hl => q l _ _ (same_upd hl) upd_same cut_mem.2 cut_mem.1⟩
theorem w_catA {K : PySem.W.Frag} {H : Hp} {Q : VK} {p r : Addr} {xs ys : List V} (hp : H p = some (.tup xs)) (hr : H r = some (.tup ys)) (hz : xs.length + ys.length ≤ 1000) (q : ∀ q' H' zs, Same H H' → H' q' = some (.tup zs) → zs.length ≤ xs.length + ys.length → (∀ y ∈ zs, y ∈ xs ∨ y ∈ ys) → Q (.ref q') H') : rCatA K (.ref p) (.ref r) H Q :=
  ⟨p, r, xs, ys, rfl, rfl, SqT.of hp, SqT.of hr, Nat.le_of_lt (small1000 hz), fun _ => q r H ys (Same.refl H) hr (Nat.le_add_left _ _) (fun y h => .inr h), fun _ _ => q p H xs (Same.refl H) hp (Nat.le_add_right _ _) (fun y h => .inl h), fun _ _ l hl => q l _ _ (same_upd hl) upd_same (by rw [List.length_append]; exact Nat.le_refl _) (fun y h => List.mem_append.mp h)⟩
theorem TB.kd' {k n : Nat} {H H' : Hp} {v : V} (h : TB k n H v) (e : Kd H H') : TB k n H' v := TB.kd e h
end Fm

namespace Fm
open PySem PySem.Spec PyProof.Rows L2
/-! ### tables as data -/
def numD (a : Int × Int) : PyData := .tuple [.int a.1, .int a.2]
def rowD (r : List (Int × Int)) : PyData := .tuple (r.map numD)
theorem dpAll_of {α : Type} {K : PySem.W.Frag} {H : Hp} {f : α → PyData} : ∀ {xs : List V} {as : List α}, xs.length = as.length → (∀ (i : Nat) (x : V) (a : α), xs[i]? = some x → as[i]? = some a → Dp K H x (f a)) → DpAll K H xs (as.map f)
  | [], [], _, _ => .nil
  | [], _ :: _, h, _ => by cases h
  | _ :: _, [], h, _ => by cases h
  | x :: xs, a :: as, h, hx => .cons (hx 0 x a rfl rfl) (dpAll_of (by simpa using h) fun i y b h1 h2 => hx (i + 1) y b h1 h2)
theorem NumV.dp {K : PySem.W.Frag} {H : Hp} {v : V} {a : Int × Int} (h : NumV H v a) : Dp K H v (numD a) := by
  obtain ⟨p, rfl, hp⟩ := h
  exact .tup (SqT.of hp) (.cons (.int _) (.cons (.int _) .nil))
theorem RowV.dp {K : PySem.W.Frag} {H : Hp} {v : V} {r : List (Int × Int)} (h : RowV H v r) : Dp K H v (rowD r) := by
  obtain ⟨p, xs, rfl, hp, hl, hx⟩ := h
  exact .tup (SqT.of hp) (dpAll_of hl fun i x a h1 h2 => (hx i x a h1 h2).dp)
theorem TabV.dp {K : PySem.W.Frag} {H : Hp} {v : V} {t : List (List (Int × Int))} (h : TabV H v t) : Dp K H v (.tuple (t.map rowD)) := by
  obtain ⟨p, xs, rfl, hp, hl, hx⟩ := h
  exact .tup (SqT.of hp) (dpAll_of hl fun i x a h1 h2 => RowV.dp (hx i x a h1 h2))
theorem lay_num : ∀ (r : List (Int × Int)), PyData.canLayAll0 (r.map numD) = true ∧ PyData.depthAll (r.map numD) ≤ 1
  | [] => ⟨by simp [PyData.canLayAll0], by simp [PyData.depthAll]⟩
  | a :: r => by
    have ih := lay_num r
    refine ⟨?_, ?_⟩
    · rw [List.map_cons, PyData.canLayAll0, ih.1]
      simp [numD, PyData.canLay0, PyData.canLayAll0]
    · rw [List.map_cons, PyData.depthAll]
      have : (numD a).depth ≤ 1 := by simp [numD, PyData.depth, PyData.depthAll]
      have := ih.2
      omega
theorem lay_row : ∀ (t : List (List (Int × Int))), PyData.canLayAll0 (t.map rowD) = true ∧ PyData.depthAll (t.map rowD) ≤ 2
  | [] => ⟨by simp [PyData.canLayAll0], by simp [PyData.depthAll]⟩
  | r :: t => by
    have ih := lay_row t
    have h := lay_num r
    refine ⟨?_, ?_⟩
    · rw [List.map_cons, PyData.canLayAll0, ih.1]
      simp [rowD, PyData.canLay0, h.1]
    · rw [List.map_cons, PyData.depthAll]
      have : (rowD r).depth ≤ 2 := by rw [rowD, PyData.depth]; have := h.2; omega
      have := ih.2
      omega
theorem w_neTab {K : PySem.W.Frag} {H : Hp} {Q : VK} {v v' : V} {t t' : List (List (Int × Int))} (h1 : TabV H v t) (h2 : TabV H v' t') (e : t = t') (q : Q (.bl false) H) : rNeD K v v' H Q := by
  subst e
  have l := lay_row t
  have c : PyData.canLay0 (.tuple (t.map rowD)) = true := by rw [PyData.canLay0]; exact l.1
  have d : PyData.depth (.tuple (t.map rowD)) ≤ 64 := by rw [PyData.depth]; have := l.2; omega
  refine ⟨_, _, TabV.dp h1, TabV.dp h2, shaped_of c d, shaped_of c d, ?_⟩
  rw [SeqAt.eqv_refl _ c]
  exact q
theorem w_neRows {K : PySem.W.Frag} {H : Hp} {Q : VK} {p r : Addr} {xs ys : List V} {t : List (List (Int × Int))} (hp : H p = some (.lst xs)) (hr : H r = some (.lst ys)) (h1 : Acc RowV H xs t t.length) (h2 : Acc RowV H ys t t.length) (q : Q (.bl false) H) : rNeD K (.ref p) (.ref r) H Q := by
  have l := lay_row t
  have c : PyData.canLay0 (.list (t.map rowD)) = true := by rw [PyData.canLay0]; exact l.1
  have d : PyData.depth (.list (t.map rowD)) ≤ 64 := by rw [PyData.depth]; have := l.2; omega
  refine ⟨.list (t.map rowD), .list (t.map rowD), .lst (SqL.of hp) (dpAll_of h1.1 fun i x a e1 e2 => RowV.dp (h1.2 i x a e1 e2)), .lst (SqL.of hr) (dpAll_of h2.1 fun i x a e1 e2 => RowV.dp (h2.2 i x a e1 e2)), shaped_of c d, shaped_of c d, ?_⟩
  rw [SeqAt.eqv_refl _ c]
  exact q
theorem w_eqRow {K : PySem.W.Frag} {H : Hp} {Q : VK} {v v' : V} {r : List (Int × Int)} (h1 : RowV H v r) (h2 : RowV H v' r) (q : Q (.bl true) H) : rEqD K v v' H Q := by
  have l := lay_num r
  have c : PyData.canLay0 (rowD r) = true := by rw [rowD, PyData.canLay0]; exact l.1
  have d : PyData.depth (rowD r) ≤ 64 := by rw [rowD, PyData.depth]; have := l.2; omega
  refine ⟨_, _, RowV.dp h1, RowV.dp h2, shaped_of c d, shaped_of c d, ?_⟩
  rw [SeqAt.eqv_refl _ c]
  exact q
theorem turn_len {l : Nat} {t : List (List (Int × Int))} : (turnF l t).length = l := by
  unfold turnF
  rw [List.length_map, List.length_range]
theorem turn_rows {n l : Nat} {t : List (List (Int × Int))} (ht : t.length = n) : ∀ r ∈ turnF l t, r.length = n := fun r hr => by
  obtain ⟨j, _, rfl⟩ := List.mem_map.mp hr
  rw [List.length_map, ht]
theorem turn_turn {n l : Nat} {t : List (List (Int × Int))} (ht : t.length = n) (h : ∀ r ∈ t, r.length = l) : turnF n (turnF l t) = t := by
  refine List.ext_getElem (by rw [turn_len, ht]) fun i h1 h2 => ?_
  rw [turn_len] at h1
  have e := turn_at (l := n) (j := i) (t := turnF l t) h1
  have e1 : (turnF n (turnF l t))[i]'(by rw [turn_len]; exact h1) = (turnF l t).map fun row => row.getD i (0, 1) := by
    rw [List.getElem?_eq_getElem (by rw [turn_len]; exact h1)] at e
    exact Option.some.inj e
  rw [e1]
  have hl := h _ (List.getElem_mem h2)
  refine List.ext_getElem (by rw [List.length_map, turn_len, hl]) fun j h3 h4 => ?_
  rw [List.length_map, turn_len] at h3
  rw [List.getElem_map]
  have e2 := turn_at (l := l) (j := j) (t := t) h3
  have e3 : (turnF l t)[j]'(by rw [turn_len]; exact h3) = t.map fun row => row.getD j (0, 1) := by
    rw [List.getElem?_eq_getElem (by rw [turn_len]; exact h3)] at e2
    exact Option.some.inj e2
  rw [e3, List.getD_eq_getElem?_getD, List.getElem?_map, List.getElem?_eq_getElem h2]
  show t[i].getD j (0, 1) = t[i][j]
  rw [List.getD_eq_getElem?_getD, List.getElem?_eq_getElem h4]
  rfl
theorem cell_num {g : Int} {r s : List (Int × Int)} (hg : g = 0 ∨ (3 ≤ g ∧ g ≤ 13)) (hr : ∀ x ∈ r, OkN g 40 x) (hs : ∀ x ∈ s, OkN g 40 x) : numOk g [.int (cellF g r s).1, .int (cellF g r s).2] = true := by
  rw [cell_is hg hr hs]
  have p1 : ∀ x ∈ r, 0 < x.2 := fun x h => (hr x h).pos
  have p2 : ∀ x ∈ s, 0 < x.2 := fun x h => (hs x h).pos
  rcases hg with rfl | ⟨h3, h13⟩
  · have hn : wrB r * wrB s ≠ 0 := Int.mul_ne_zero (by have := (wrB_spec p1).1; omega) (by have := (wrB_spec p2).1; omega)
    obtain ⟨⟨a, b⟩, _⟩ := low0_red (u := dotF (wrT r) (wrT s)) hn
    rw [numOk_0, b, decide_eq_true (by omega)]
    rfl
  · have o1 : ∀ x ∈ r, x.2 = 1 := fun x h => by
      rcases (hr x h).2.2 with z | z
      · omega
      · exact z.2.2
    have o2 : ∀ x ∈ s, x.2 = 1 := fun x h => by
      rcases (hs x h).2.2 with z | z
      · omega
      · exact z.2.2
    rw [wrB_one o1, wrB_one o2, Int.mul_one, low_one (by omega), numOk_g (by omega)]
    have b0 := Int.fmod_nonneg_of_pos (dotF (wrT r) (wrT s)) (show 0 < g by omega)
    have b1 := Int.fmod_lt_of_pos (dotF (wrT r) (wrT s)) (show 0 < g by omega)
    rw [decide_eq_true b0, decide_eq_true b1, decide_eq_true rfl]
    rfl
theorem NumV.nk {H : Hp} {v : V} {a : Int × Int} {k : Nat} (h : NumV H v a) (h1 : a.1.natAbs < 2 ^ k) (h2 : a.2.natAbs < 2 ^ k) : TB k 1 H v := NK.tb ⟨a, h, h1, h2⟩ (Nat.le_refl _)
theorem RowV.tb {H : Hp} {v : V} {r : List (Int × Int)} {k : Nat} (h : RowV H v r) (hl : r.length ≤ 100) (hb : ∀ a ∈ r, a.1.natAbs < 2 ^ k ∧ a.2.natAbs < 2 ^ k) : TB k 2 H v := by
  obtain ⟨p, xs, rfl, hp, hlx, hx⟩ := h
  refine TB.tup hp (by omega) fun x m => ?_
  obtain ⟨j, hj, ej⟩ := List.mem_iff_getElem.mp m
  have e1 : xs[j]? = some x := by rw [List.getElem?_eq_getElem hj, ej]
  have e2 : r[j]? = some (r[j]'(by omega)) := List.getElem?_eq_getElem (by omega)
  have b := hb _ (List.getElem_mem (show j < r.length by omega))
  exact (hx j x _ e1 e2).nk b.1 b.2
theorem TabV.tb {H : Hp} {v : V} {t : List (List (Int × Int))} {k : Nat} (h : TabV H v t) (hl : t.length ≤ 100) (hb : ∀ r ∈ t, r.length ≤ 100 ∧ ∀ a ∈ r, a.1.natAbs < 2 ^ k ∧ a.2.natAbs < 2 ^ k) : TB k 3 H v := by
  obtain ⟨p, xs, rfl, hp, hlx, hx⟩ := h
  refine TB.tup hp (by omega) fun x m => ?_
  obtain ⟨j, hj, ej⟩ := List.mem_iff_getElem.mp m
  have e1 : xs[j]? = some x := by rw [List.getElem?_eq_getElem hj, ej]
  have e2 : t[j]? = some (t[j]'(by omega)) := List.getElem?_eq_getElem (by omega)
  have b := hb _ (List.getElem_mem (show j < t.length by omega))
  exact RowV.tb (hx j x _ e1 e2) b.1 b.2
theorem row_true {H : Hp} {v : V} {r : List (Int × Int)} {g m : Int} (h : RowV H v r) (hl : (r.length : Int) = m) (hn : ∀ a ∈ r, numOk g [.int a.1, .int a.2] = true) : rowOf H g m v = true := by
  obtain ⟨p, xs, rfl, hp, hlx, hx⟩ := h
  rw [rowOf_tup hp, decide_eq_true (by omega), Bool.true_and, List.all_eq_true]
  intro x mm
  obtain ⟨j, hj, ej⟩ := List.mem_iff_getElem.mp mm
  have e1 : xs[j]? = some x := by rw [List.getElem?_eq_getElem hj, ej]
  have e2 : r[j]? = some (r[j]'(by omega)) := List.getElem?_eq_getElem (by omega)
  obtain ⟨q, rfl, hq⟩ := hx j x _ e1 e2
  rw [numOf_tup hq]
  exact hn _ (List.getElem_mem (show j < r.length by omega))
theorem tab_true {H : Hp} {v : V} {t : List (List (Int × Int))} {g m w : Int} (h : TabV H v t) (hl : (t.length : Int) = m) (hn : ∀ r ∈ t, (r.length : Int) = w ∧ ∀ a ∈ r, numOk g [.int a.1, .int a.2] = true) : tabOf H g m w v = true := by
  obtain ⟨p, xs, rfl, hp, hlx, hx⟩ := h
  rw [tabOf_tup hp, decide_eq_true (by omega), Bool.true_and, List.all_eq_true]
  intro x mm
  obtain ⟨j, hj, ej⟩ := List.mem_iff_getElem.mp mm
  have e1 : xs[j]? = some x := by rw [List.getElem?_eq_getElem hj, ej]
  have e2 : t[j]? = some (t[j]'(by omega)) := List.getElem?_eq_getElem (by omega)
  have b := hn _ (List.getElem_mem (show j < t.length by omega))
  exact row_true (hx j x _ e1 e2) b.1 b.2
end Fm

namespace Fm
open PySem PySem.Spec PyProof.Rows L2
def topS (i : Nat) : Stmt := PySem.Challenge.pw_fewmirrors_k04_rows_and_tables.main.body.getD i (.Pass ⟨0, 0, 0, 0⟩)
local macro_rules | `(tactic| walk_at "s1") => `(tactic| first
  | with_reducible refine w_seq ?_ | with_reducible refine w_asg ?_ | with_reducible refine w_ret ?_ | with_reducible refine w_drop ?_ | with_reducible refine w_ifs ?_ | with_reducible refine w_next ?_
  | with_reducible refine w_op ?_ | with_reducible refine w_un ?_ | with_reducible refine w_c ?_ | ((with_reducible refine' w_var ?h ?_); (case h => exact rfl)) | with_reducible refine w_name ?_ | with_reducible refine w_sub ?_
  | with_reducible refine w_test ?_ | with_reducible refine w_B ?_ | with_reducible refine w_exb ?_ | with_reducible refine w_and ?_ | with_reducible refine w_or ?_ | with_reducible refine w_not ?_
  | with_reducible refine w_andV ?_ | with_reducible refine w_orV ?_ | with_reducible refine w_notV ?_ | with_reducible refine w_if ?_
  | with_reducible refine w_I0 ?_ | with_reducible refine w_U ?_ | with_reducible refine w_eqI ?_ | with_reducible refine w_neI ?_
  | with_reducible refine w_nil ?_ | with_reducible refine w_cons ?_ | with_reducible refine w_tup ?_ | with_reducible refine w_lst ?_ | with_reducible refine w_cb ?_ | with_reducible refine w_call ?_
  | ((with_reducible refine' w_ixL ?h ?e ?_); (case h => assumption); (case e => exact rfl)) | ((with_reducible refine' w_ixT ?h ?e ?_); (case h => assumption); (case e => exact rfl))
  | with_reducible refine w_par ?_ | with_reducible refine w_ex2 ?_ | with_reducible refine w_t ?_ | with_reducible refine w_f ?_ | with_reducible refine w_for ?_ | with_reducible refine w_sl ?_ | with_reducible refine w_part ?_ | with_reducible refine w_nopart ?_ | with_reducible refine w_exi ?_ | with_reducible refine w_chain ?_ | with_reducible refine w_rng2 ?_ | with_reducible refine w_bm ?_ | with_reducible refine w_revL ?_ | with_reducible refine w_js ?_ | with_reducible refine w_js0 ?_ | with_reducible refine w_fmt ?_ | with_reducible refine w_lc ?_ | with_reducible refine w_yes ?_ | with_reducible refine w_zipA ?_ | with_reducible refine w_itup ?_ | with_reducible refine w_ilist ?_ | with_reducible refine w_gcons ?_ | with_reducible refine w_gnil ?_
  | ((with_reducible refine' w_gtup ?h ?e ?_); (case h => assumption); (case e => exact rfl)) | with_reducible refine w_rng1 ?_ | with_reducible refine w_e1 ?_ | with_reducible refine w_e2 ?_)
local macro_rules | `(tactic| walk_at "go") => `(tactic| repeat (walk_at "s1"))
local macro_rules | `(tactic| walk_at "tr") => `(tactic| repeat (first | assumption | (refine TB.kd (Kd.of (by assumption)) ?_) | (refine TB.kd (by assumption) ?_)))

abbrev s_is_whole : Stmt := topS 1
theorem sc_is_whole : FnScope ["thing"] ["thing"] (defScope s_is_whole) := ⟨rfl, rfl, rfl, by decide +kernel, rfl, by decide +kernel, by decide +kernel⟩

abbrev s_common_divisor : Stmt := topS 2
theorem sc_common_divisor : FnScope ["a", "b"] ["a", "b"] (defScope s_common_divisor) := ⟨rfl, rfl, rfl, by decide +kernel, rfl, by decide +kernel, by decide +kernel⟩

abbrev s_wheel_back : Stmt := topS 6
theorem sc_wheel_back : FnScope ["wheel", "whole", "found"] ["wheel", "whole"] (defScope s_wheel_back) := ⟨rfl, rfl, rfl, by decide +kernel, rfl, by decide +kernel, by decide +kernel⟩

abbrev s_dot : Stmt := topS 13
theorem sc_dot : FnScope ["wholes", "others", "whole", "other"] ["wholes", "others"] (defScope s_dot) := ⟨rfl, rfl, rfl, by decide +kernel, rfl, by decide +kernel, by decide +kernel⟩

abbrev s_turned : Stmt := topS 15
theorem sc_turned : FnScope ["table", "at", "row"] ["table"] (defScope s_turned) := ⟨rfl, rfl, rfl, by decide +kernel, rfl, by decide +kernel, by decide +kernel⟩

abbrev s__law_is_whole : Stmt := topS 19
theorem sc__law_is_whole : FnScope ["_law_thing"] ["_law_thing"] (defScope s__law_is_whole) := ⟨rfl, rfl, rfl, by decide +kernel, rfl, by decide +kernel, by decide +kernel⟩

abbrev s__law_shared : Stmt := topS 20
theorem sc__law_shared : FnScope ["_law_one", "_law_other"] ["_law_one", "_law_other"] (defScope s__law_shared) := ⟨rfl, rfl, rfl, by decide +kernel, rfl, by decide +kernel, by decide +kernel⟩

abbrev s__law_bag : Stmt := topS 26
theorem sc__law_bag : FnScope ["_law_script", "_law_at", "_law_cell_here", "_law_great", "_law_primes", "_law_mixed"] ["_law_script", "_law_at"] (defScope s__law_bag) := ⟨rfl, rfl, rfl, by decide +kernel, rfl, by decide +kernel, by decide +kernel⟩

abbrev s__law_take : Stmt := topS 28
theorem sc__law_take : FnScope ["_law_bag_here", "_law_many", "_law_digit"] ["_law_bag_here", "_law_many"] (defScope s__law_take) := ⟨rfl, rfl, rfl, by decide +kernel, rfl, by decide +kernel, by decide +kernel⟩

abbrev s__law_swapped : Stmt := topS 35
theorem sc__law_swapped : FnScope ["_law_row_here", "_law_at", "_law_thing"] ["_law_row_here", "_law_at", "_law_thing"] (defScope s__law_swapped) := ⟨rfl, rfl, rfl, by decide +kernel, rfl, by decide +kernel, by decide +kernel⟩

abbrev s_is_number : Stmt := topS 4
theorem sc_is_number : FnScope ["ground", "thing", "top", "bottom"] ["ground", "thing"] (defScope s_is_number) := ⟨rfl, rfl, rfl, by decide +kernel, rfl, by decide +kernel, by decide +kernel⟩

abbrev s_lowest : Stmt := topS 5
theorem sc_lowest : FnScope ["ground", "top", "bottom", "shared"] ["ground", "top", "bottom"] (defScope s_lowest) := ⟨rfl, rfl, rfl, by decide +kernel, rfl, by decide +kernel, by decide +kernel⟩

abbrev s_whole_row : Stmt := topS 14
theorem sc_whole_row : FnScope ["row", "bottom", "x"] ["row"] (defScope s_whole_row) := ⟨rfl, rfl, rfl, by decide +kernel, rfl, by decide +kernel, by decide +kernel⟩

abbrev s__law_is_number : Stmt := topS 18
theorem sc__law_is_number : FnScope ["_law_g", "_law_thing", "_law_one"] ["_law_g", "_law_thing"] (defScope s__law_is_number) := ⟨rfl, rfl, rfl, by decide +kernel, rfl, by decide +kernel, by decide +kernel⟩

abbrev s__law_low : Stmt := topS 24
theorem sc__law_low : FnScope ["_law_g", "_law_up", "_law_down", "_law_one", "_law_common"] ["_law_g", "_law_up", "_law_down"] (defScope s__law_low) := ⟨rfl, rfl, rfl, by decide +kernel, rfl, by decide +kernel, by decide +kernel⟩

abbrev s__law_ground : Stmt := topS 27
theorem sc__law_ground : FnScope ["_law_bag_here"] ["_law_bag_here"] (defScope s__law_ground) := ⟨rfl, rfl, rfl, by decide +kernel, rfl, by decide +kernel, by decide +kernel⟩

abbrev s__law_odd : Stmt := topS 33
theorem sc__law_odd : FnScope ["_law_bag_here", "_law_some"] ["_law_bag_here"] (defScope s__law_odd) := ⟨rfl, rfl, rfl, by decide +kernel, rfl, by decide +kernel, by decide +kernel⟩

abbrev s_is_row : Stmt := topS 8
theorem sc_is_row : FnScope ["ground", "thing", "many", "x"] ["ground", "thing", "many"] (defScope s_is_row) := ⟨rfl, rfl, rfl, by decide +kernel, rfl, by decide +kernel, by decide +kernel⟩

abbrev s_product_row : Stmt := topS 12
theorem sc_product_row : FnScope ["ground", "row", "columns", "tops", "bottom", "column", "under"] ["ground", "row", "columns"] (defScope s_product_row) := ⟨rfl, rfl, rfl, by decide +kernel, rfl, by decide +kernel, by decide +kernel⟩

abbrev s__law_is_row : Stmt := topS 17
theorem sc__law_is_row : FnScope ["_law_g", "_law_thing", "_law_many", "_law_one"] ["_law_g", "_law_thing", "_law_many"] (defScope s__law_is_row) := ⟨rfl, rfl, rfl, by decide +kernel, rfl, by decide +kernel, by decide +kernel⟩

abbrev s__law_plus : Stmt := topS 23
theorem sc__law_plus : FnScope ["_law_g", "_law_x", "_law_y"] ["_law_g", "_law_x", "_law_y"] (defScope s__law_plus) := ⟨rfl, rfl, rfl, by decide +kernel, rfl, by decide +kernel, by decide +kernel⟩

abbrev s__law_times : Stmt := topS 25
theorem sc__law_times : FnScope ["_law_g", "_law_x", "_law_y"] ["_law_g", "_law_x", "_law_y"] (defScope s__law_times) := ⟨rfl, rfl, rfl, by decide +kernel, rfl, by decide +kernel, by decide +kernel⟩

abbrev s__law_number : Stmt := topS 31
theorem sc__law_number : FnScope ["_law_bag_here", "_law_g", "_law_wide", "_law_down"] ["_law_bag_here", "_law_g"] (defScope s__law_number) := ⟨rfl, rfl, rfl, by decide +kernel, rfl, by decide +kernel, by decide +kernel⟩

abbrev s__law_bent_number : Stmt := topS 37
theorem sc__law_bent_number : FnScope ["_law_bag_here", "_law_g", "_law_x", "_law_some"] ["_law_bag_here", "_law_g", "_law_x"] (defScope s__law_bent_number) := ⟨rfl, rfl, rfl, by decide +kernel, rfl, by decide +kernel, by decide +kernel⟩

abbrev s_is_table : Stmt := topS 9
theorem sc_is_table : FnScope ["ground", "thing", "high", "wide", "row"] ["ground", "thing", "high", "wide"] (defScope s_is_table) := ⟨rfl, rfl, rfl, by decide +kernel, rfl, by decide +kernel, by decide +kernel⟩

abbrev s_product : Stmt := topS 11
theorem sc_product : FnScope ["ground", "one", "other", "columns", "column", "row"] ["ground", "one", "other"] (defScope s_product) := ⟨rfl, rfl, rfl, by decide +kernel, rfl, by decide +kernel, by decide +kernel⟩

abbrev s__law_is_table : Stmt := topS 21
theorem sc__law_is_table : FnScope ["_law_g", "_law_thing", "_law_high", "_law_wide", "_law_row_here"] ["_law_g", "_law_thing", "_law_high", "_law_wide"] (defScope s__law_is_table) := ⟨rfl, rfl, rfl, by decide +kernel, rfl, by decide +kernel, by decide +kernel⟩

abbrev s__law_sum : Stmt := topS 22
theorem sc__law_sum : FnScope ["_law_g", "_law_some", "_law_found", "_law_one"] ["_law_g", "_law_some"] (defScope s__law_sum) := ⟨rfl, rfl, rfl, by decide +kernel, rfl, by decide +kernel, by decide +kernel⟩

abbrev s__law_row : Stmt := topS 30
theorem sc__law_row : FnScope ["_law_bag_here", "_law_g", "_law_many", "_law_k"] ["_law_bag_here", "_law_g", "_law_many"] (defScope s__law_row) := ⟨rfl, rfl, rfl, by decide +kernel, rfl, by decide +kernel, by decide +kernel⟩

abbrev s__law_added : Stmt := topS 32
theorem sc__law_added : FnScope ["_law_g", "_law_row_here", "_law_other", "_law_one", "_law_two"] ["_law_g", "_law_row_here", "_law_other"] (defScope s__law_added) := ⟨rfl, rfl, rfl, by decide +kernel, rfl, by decide +kernel, by decide +kernel⟩

abbrev s__law_bent_row : Stmt := topS 36
theorem sc__law_bent_row : FnScope ["_law_bag_here", "_law_g", "_law_row_here", "_law_at", "_law_way"] ["_law_bag_here", "_law_g", "_law_row_here"] (defScope s__law_bent_row) := ⟨rfl, rfl, rfl, by decide +kernel, rfl, by decide +kernel, by decide +kernel⟩

abbrev s_through : Stmt := topS 10
theorem sc_through : FnScope ["ground", "row", "table"] ["ground", "row", "table"] (defScope s_through) := ⟨rfl, rfl, rfl, by decide +kernel, rfl, by decide +kernel, by decide +kernel⟩

abbrev s__law_rows : Stmt := topS 29
theorem sc__law_rows : FnScope ["_law_bag_here", "_law_g", "_law_high", "_law_wide", "_law_found", "_law_k", "_law_row_here", "_law_way"] ["_law_bag_here", "_law_g", "_law_high", "_law_wide"] (defScope s__law_rows) := ⟨rfl, rfl, rfl, by decide +kernel, rfl, by decide +kernel, by decide +kernel⟩

abbrev s__law_bent_table : Stmt := topS 34
theorem sc__law_bent_table : FnScope ["_law_bag_here", "_law_g", "_law_table", "_law_at", "_law_way"] ["_law_bag_here", "_law_g", "_law_table"] (defScope s__law_bent_table) := ⟨rfl, rfl, rfl, by decide +kernel, rfl, by decide +kernel, by decide +kernel⟩

abbrev s__law_are_told : Stmt := topS 38
theorem sc__law_are_told : FnScope ["_law_g", "_law_things", "_law_high", "_law_wide", "_law_thing", "_law_told", "_law_one"] ["_law_g", "_law_things", "_law_high", "_law_wide"] (defScope s__law_are_told) := ⟨rfl, rfl, rfl, by decide +kernel, rfl, by decide +kernel, by decide +kernel⟩

abbrev s__law_cell : Stmt := topS 39
theorem sc__law_cell : FnScope ["_law_g", "_law_one", "_law_other", "_law_i", "_law_j", "_law_k"] ["_law_g", "_law_one", "_law_other", "_law_i", "_law_j"] (defScope s__law_cell) := ⟨rfl, rfl, rfl, by decide +kernel, rfl, by decide +kernel, by decide +kernel⟩

abbrev s_law : Stmt := topS 40
theorem sc_law : FnScope ["_law_script", "_law_k", "_law_bag_here", "_law_g", "_law_size", "_law_high", "_law_wide", "_law_more", "_law_one", "_law_other", "_law_things", "_law_turn", "_law_thing", "_law_due", "_law_i", "_law_row_here", "_law_j"] ["_law_script"] (defScope s_law) := ⟨rfl, rfl, rfl, by decide +kernel, rfl, by decide +kernel, by decide +kernel⟩

variable {P : Program} {w : World} {K : PySem.W.Frag} {mg : Str → Option Value} {base : Heap}
def sp_is_whole (K : PySem.W.Frag) : Sp := fun vs H Q _ => ∃ (v : V), vs = [v] ∧ Tv H v ∧ Q (.bl (wholeB v)) H

def sp_common_divisor (K : PySem.W.Frag) : Sp := fun vs H Q _ => ∃ (a c : Int), vs = [.int a, .int c] ∧ Q (.int (Int.gcd a c : Int)) H

def sp_wheel_back (K : PySem.W.Frag) : Sp := fun vs H Q _ => ∃ (g w k : Int), vs = [.int g, .int w] ∧ 3 ≤ g ∧ 1 ≤ k ∧ k ≤ 13 ∧ (k * w).fmod g = 1 ∧ ∀ f : Int, 1 ≤ f → f ≤ 13 → (f * w).fmod g = 1 → Q (.int f) H

def sp_dot (K : PySem.W.Frag) : Sp := fun vs H Q _ => ∃ (a b : Addr) (ts ss : List Int), vs = [.ref a, .ref b] ∧ H a = some (.lst (ts.map V.int)) ∧ H b = some (.lst (ss.map V.int)) ∧ ts.length = ss.length ∧ ts.length ≤ 100 ∧ (∀ t ∈ ts, t.natAbs ≤ 2 ^ 5000) ∧ (∀ t ∈ ss, t.natAbs ≤ 2 ^ 5000) ∧ ∀ H', Same H H' → Q (.int (dotF ts ss)) H'

def sp_turned (K : PySem.W.Frag) : Sp := fun vs H Q _ => ∃ (v : V) (t : List (List (Int × Int))) (l : Nat), vs = [v] ∧ TabV H v t ∧ 0 < t.length ∧ t.length ≤ 10 ∧ (∀ r ∈ t, r.length = l) ∧ l ≤ 10 ∧ ∀ (v' : V) (H' : Hp), Same H H' → TabV H' v' (turnF l t) → Q v' H'

def sp__law_is_whole (K : PySem.W.Frag) : Sp := fun vs H Q _ => ∃ (v : V), vs = [v] ∧ Tv H v ∧ Q (.bl (wholeB v)) H

def sp__law_shared (K : PySem.W.Frag) : Sp := fun vs H Q _ => ∃ (a c : Int), vs = [.int a, .int c] ∧ Q (.int (Int.gcd a c : Int)) H
theorem abs_nat (a : Int) : (if a < 0 then -a else a) = ((a.natAbs : Nat) : Int) := by
  split <;> omega

def sp__law_bag (K : PySem.W.Frag) : Sp := fun vs H Q _ => ∃ (a : Addr) (ns : List Int) (k : Int), vs = [.ref a, .int k] ∧ SqL K H a (ns.map V.int) ∧ 0 ≤ k ∧ k < 64 ∧ ∀ (p : Addr) (H' : Hp), H p = none → Same H H' → Bag H' p → Q (.ref p) H'
theorem bag_primes {i : Int} (h0 : 0 ≤ i) (h8 : i < 8) : ∃ m : Int, atI [V.int 2147483647, V.int 2147483629, V.int 2147483587, V.int 2147483579, V.int 2147483563, V.int 2147483549, V.int 2147483543, V.int 2147483497] i = some (.int m) ∧ 0 < m ∧ m ≤ 2147483647 := by
  rcases (by omega : i = 0 ∨ i = 1 ∨ i = 2 ∨ i = 3 ∨ i = 4 ∨ i = 5 ∨ i = 6 ∨ i = 7) with rfl | rfl | rfl | rfl | rfl | rfl | rfl | rfl <;> exact ⟨_, rfl, by decide, by decide⟩

def sp__law_take (K : PySem.W.Frag) : Sp := fun vs H Q _ => ∃ (b : Addr) (m : Int), vs = [.ref b, .int m] ∧ 0 < m ∧ m < 1073741824 ∧ Bag H b ∧ ∀ (H' : Hp) (d : Int), 0 ≤ d → d < m → Mv b H H' → Bag H' b → Q (.int d) H'

def sp__law_swapped (K : PySem.W.Frag) : Sp := fun vs H Q _ => ∃ (p : Addr) (xs : List V) (k : Int) (v : V), vs = [.ref p, .int k, v] ∧ H p = some (.tup xs) ∧ xs.length ≤ 10 ∧ ∀ (q' : Addr) (H' : Hp) (ys : List V), Same H H' → H' q' = some (.tup ys) → ys.length ≤ 100 → (∀ y ∈ ys, y ∈ xs ∨ y = v) → Q (.ref q') H'

def sp_is_number (K : PySem.W.Frag) : Sp := fun vs H Q _ => ∃ (g : Int) (v : V) (kb nb : Nat), vs = [.int g, v] ∧ TB kb (nb + 1) H v ∧ Q (.bl (numOf H g v)) H

def sp_lowest (K : PySem.W.Frag) : Sp := fun vs H Q _ => ∃ (g u d : Int), vs = [.int g, .int u, .int d] ∧ ((g = 0 ∧ d ≠ 0 ∧ d.natAbs < 2 ^ 8500) ∨ (3 ≤ g ∧ u.natAbs < 2 ^ 50000 ∧ ∃ k : Int, 1 ≤ k ∧ k ≤ 13 ∧ (k * d).fmod g = 1)) ∧ ∀ (p : Addr) (H' : Hp), H p = none → Same H H' → H' p = some (.tup [.int (lowF g u d).1, .int (lowF g u d).2]) → Q (.ref p) H'

def sp_whole_row (K : PySem.W.Frag) : Sp := fun vs H Q _ => ∃ (v : V) (r : List (Int × Int)) (g : Int) (k : Nat), vs = [v] ∧ RowV H v r ∧ (∀ x ∈ r, OkN g k x) ∧ 0 < k ∧ k ≤ 400 ∧ r.length ≤ 10 ∧ ∀ (p L : Addr) (H' : Hp), Same H H' → H L = none → H' p = some (.tup [.ref L, .int (wrB r)]) → H' L = some (.lst ((wrT r).map V.int)) → Q (.ref p) H'

def sp__law_is_number (K : PySem.W.Frag) : Sp := fun vs H Q _ => ∃ (g : Int) (v : V) (kb nb : Nat), vs = [.int g, v] ∧ 0 ≤ g ∧ TB kb (nb + 1) H v ∧ ∀ H', Same H H' → Q (.bl (numOf H g v)) H'

def sp__law_low (K : PySem.W.Frag) : Sp := fun vs H Q _ => ∃ (g u d : Int), vs = [.int g, .int u, .int d] ∧ 0 ≤ g ∧ g ≤ 13 ∧ d ≠ 0 ∧ d.natAbs < 2 ^ 8000 ∧ ∀ (p : Addr) (H' : Hp), H p = none → Same H H' → H' p = some (.tup [.int (lowF g u d).1, .int (lowF g u d).2]) → Q (.ref p) H'
theorem lowI_some {g u d : Int} {i : Nat} (hi : i < g.toNat) (h : ((i : Int) * d).fmod g = u.fmod g) (hn : ∀ j : Nat, j < i → ¬ ((j : Int) * d).fmod g = u.fmod g) : lowI g u d = some i := by
  unfold lowI
  rw [if_pos (by omega)]
  refine List.find?_range_eq_some.mpr ⟨decide_eq_true h, List.mem_range.mpr hi, fun j hj => ?_⟩
  rw [decide_eq_false (hn j hj)]
  rfl
theorem lowI_none {g u d : Int} (hn : ∀ j : Nat, j < g.toNat → ¬ ((j : Int) * d).fmod g = u.fmod g) : lowI g u d = none := by
  unfold lowI
  split
  · refine List.find?_range_eq_none.mpr fun j hj => ?_
    rw [decide_eq_false (hn j hj)]
    rfl
  · rfl
theorem low_sign (d : Int) : atI [V.int 1, V.int (-1)] (if decide (d < 0) = true then 1 else 0) = some (.int (if d < 0 then -1 else 1)) := by
  by_cases h : d < 0
  · rw [decide_eq_true h, if_pos h]; rfl
  · rw [decide_eq_false h, if_neg h]; rfl
theorem low_cb {u d : Int} (hd : d ≠ 0) (hz : d.natAbs < 2 ^ 8000) (i : Int) : CDivZ i ((Int.gcd u d : Int) * (if d < 0 then -1 else 1)) :=
  divZ_of (b := 8000) (lowC_ne hd) (Nat.lt_of_le_of_lt (lowC_le hd) hz) (by decide) (by decide)

def Gr (g : Int) : Prop := g = 0 ∨ g = 3 ∨ g = 5 ∨ g = 7 ∨ g = 11 ∨ g = 13
def sp__law_ground (K : PySem.W.Frag) : Sp := fun vs H Q _ => ∃ (b : Addr), vs = [.ref b] ∧ Bag H b ∧ ∀ (H' : Hp) (g : Int), Gr g → Mv b H H' → Bag H' b → Q (.int g) H'
theorem gr_three {i : Int} (h0 : 0 ≤ i) (h3 : i < 3) : ∃ m : Int, atI [V.int 7, V.int 11, V.int 13] i = some (.int m) ∧ Gr m := by
  rcases (by omega : i = 0 ∨ i = 1 ∨ i = 2) with rfl | rfl | rfl <;> exact ⟨_, rfl, by unfold Gr; decide⟩
theorem gr_eight {i m : Int} (h0 : 0 ≤ i) (h8 : i < 8) (hm : Gr m) : ∃ g : Int, atI [V.int 0, V.int 0, V.int 0, V.int 0, V.int 3, V.int 3, V.int 5, V.int m] i = some (.int g) ∧ Gr g := by
  rcases (by omega : i = 0 ∨ i = 1 ∨ i = 2 ∨ i = 3 ∨ i = 4 ∨ i = 5 ∨ i = 6 ∨ i = 7) with rfl | rfl | rfl | rfl | rfl | rfl | rfl | rfl
  · exact ⟨_, rfl, by unfold Gr; decide⟩
  · exact ⟨_, rfl, by unfold Gr; decide⟩
  · exact ⟨_, rfl, by unfold Gr; decide⟩
  · exact ⟨_, rfl, by unfold Gr; decide⟩
  · exact ⟨_, rfl, by unfold Gr; decide⟩
  · exact ⟨_, rfl, by unfold Gr; decide⟩
  · exact ⟨_, rfl, by unfold Gr; decide⟩
  · exact ⟨_, rfl, hm⟩

def sp__law_odd (K : PySem.W.Frag) : Sp := fun vs H Q _ => ∃ (b : Addr), vs = [.ref b] ∧ Bag H b ∧ ∀ (H' : Hp) (v : V), TB 200 1 H' v → Mv b H H' → Bag H' b → Q v H'

def sp_is_row (K : PySem.W.Frag) : Sp := fun vs H Q _ => ∃ (g : Int) (v : V) (m : Int) (kb nb : Nat), vs = [.int g, v, .int m] ∧ TB kb (nb + 2) H v ∧ ∀ H', Same H H' → Q (.bl (rowOf H g m v)) H'

def sp_product_row (K : PySem.W.Frag) : Sp := fun vs H Q _ => ∃ (g : Int) (v : V) (c : Addr) (r : List (Int × Int)) (ss : List (List (Int × Int))) (cs : List V) (k : Nat), vs = [.int g, v, .ref c] ∧ (g = 0 ∨ (3 ≤ g ∧ g ≤ 13)) ∧ WR H v (wrT r) (wrB r) ∧ (∀ x ∈ r, OkN g k x) ∧ H c = some (.lst cs) ∧ cs.length = ss.length ∧ (∀ (i : Nat) (x : V) (s : List (Int × Int)), cs[i]? = some x → ss[i]? = some s → WR H x (wrT s) (wrB s)) ∧ (∀ s ∈ ss, s.length = r.length ∧ ∀ x ∈ s, OkN g k x) ∧ k ≤ 400 ∧ r.length ≤ 10 ∧ ss.length ≤ 10 ∧ ∀ (v' : V) (H' : Hp), Same H H' → RowV H' v' (ss.map (cellF g r)) → Q v' H'

def sp__law_is_row (K : PySem.W.Frag) : Sp := fun vs H Q _ => ∃ (g : Int) (v : V) (m : Int) (kb nb : Nat), vs = [.int g, v, .int m] ∧ 0 ≤ g ∧ TB kb (nb + 2) H v ∧ ∀ H', Same H H' → Q (.bl (rowOf H g m v)) H'

def sp__law_plus (K : PySem.W.Frag) : Sp := fun vs H Q _ => ∃ (g : Int) (x y : V) (a c : Int × Int), vs = [.int g, x, y] ∧ 0 ≤ g ∧ g ≤ 13 ∧ NumV H x a ∧ NumV H y c ∧ PBd a ∧ PBd c ∧ ∀ (p : Addr) (H' : Hp), H p = none → Same H H' → H' p = some (.tup [.int (plusF g a c).1, .int (plusF g a c).2]) → Q (.ref p) H'

def sp__law_times (K : PySem.W.Frag) : Sp := fun vs H Q _ => ∃ (g : Int) (x y : V) (a c : Int × Int), vs = [.int g, x, y] ∧ 0 ≤ g ∧ g ≤ 13 ∧ NumV H x a ∧ NumV H y c ∧ PBd a ∧ PBd c ∧ ∀ (p : Addr) (H' : Hp), H p = none → Same H H' → H' p = some (.tup [.int (timesF g a c).1, .int (timesF g a c).2]) → Q (.ref p) H'

def sp__law_number (K : PySem.W.Frag) : Sp := fun vs H Q _ => ∃ (b : Addr) (g : Int), vs = [.ref b, .int g] ∧ Gr g ∧ Bag H b ∧ ∀ (H' : Hp) (v : V), NumG g H' v 0 → Mv b H H' → Bag H' b → Q v H'
theorem nu_six {i : Int} (h0 : 0 ≤ i) (h6 : i < 6) : ∃ m : Int, atI [V.int 3, V.int 5, V.int 5, V.int 9, V.int 19, V.int 99] i = some (.int m) ∧ 3 ≤ m ∧ m ≤ 99 := by
  rcases (by omega : i = 0 ∨ i = 1 ∨ i = 2 ∨ i = 3 ∨ i = 4 ∨ i = 5) with rfl | rfl | rfl | rfl | rfl | rfl <;> exact ⟨_, rfl, by decide, by decide⟩
theorem nu_four {i d : Int} (h0 : 0 ≤ i) (h4 : i < 4) (d0 : 0 ≤ d) (d8 : d < 8) : ∃ m : Int, atI [V.int 1, V.int 1, V.int 1, V.int (2 + d)] i = some (.int m) ∧ 1 ≤ m ∧ m ≤ 9 := by
  rcases (by omega : i = 0 ∨ i = 1 ∨ i = 2 ∨ i = 3) with rfl | rfl | rfl | rfl
  · exact ⟨_, rfl, by decide, by decide⟩
  · exact ⟨_, rfl, by decide, by decide⟩
  · exact ⟨_, rfl, by decide, by decide⟩
  · exact ⟨_, rfl, by omega, by omega⟩

def sp__law_bent_number (K : PySem.W.Frag) : Sp := fun vs H Q _ => ∃ (b : Addr) (g : Int) (x : V) (kb : Nat), vs = [.ref b, .int g, x] ∧ NK kb H x ∧ 200 ≤ kb ∧ kb ≤ 1000 ∧ 0 ≤ g ∧ g ≤ 13 ∧ Bag H b ∧ ∀ (H' : Hp) (v : V), TB (kb + 1) 1 H' v → Mv b H H' → Bag H' b → Q v H'

def sp_is_table (K : PySem.W.Frag) : Sp := fun vs H Q _ => ∃ (g : Int) (v : V) (m w : Int) (kb nb : Nat), vs = [.int g, v, .int m, .int w] ∧ TB kb (nb + 3) H v ∧ ∀ H', Same H H' → Q (.bl (tabOf H g m w v)) H'

def sp_product (K : PySem.W.Frag) : Sp := fun vs H Q _ => ∃ (g : Int) (v1 v2 : V) (t1 t2 : List (List (Int × Int))) (n l k : Nat), vs = [.int g, v1, v2] ∧ (g = 0 ∨ (3 ≤ g ∧ g ≤ 13)) ∧ TabV H v1 t1 ∧ TabV H v2 t2 ∧ (∀ r ∈ t1, r.length = n ∧ ∀ x ∈ r, OkN g k x) ∧ t2.length = n ∧ (∀ r ∈ t2, r.length = l ∧ ∀ x ∈ r, OkN g k x) ∧ 0 < n ∧ n ≤ 10 ∧ l ≤ 10 ∧ t1.length ≤ 10 ∧ 0 < k ∧ k ≤ 400 ∧ ∀ (v' : V) (H' : Hp), Same H H' → TabV H' v' (t1.map fun r => (turnF l t2).map (cellF g r)) → Q v' H'
theorem turn_ok {g : Int} {k n l : Nat} {t : List (List (Int × Int))} (ht : t.length = n) (h : ∀ r ∈ t, r.length = l ∧ ∀ x ∈ r, OkN g k x) : ∀ s ∈ turnF l t, s.length = n ∧ ∀ x ∈ s, OkN g k x := by
  intro s hs
  obtain ⟨j, hj, rfl⟩ := List.mem_map.mp hs
  have hj' := List.mem_range.mp hj
  refine ⟨by rw [List.length_map, ht], fun x hx => ?_⟩
  obtain ⟨r, hr, rfl⟩ := List.mem_map.mp hx
  have hl := (h r hr).1
  refine (h r hr).2 _ ?_
  show r.getD j (0, 1) ∈ r
  rw [List.getD_eq_getElem?_getD, List.getElem?_eq_getElem (by omega)]
  exact List.getElem_mem (by omega)

def sp__law_is_table (K : PySem.W.Frag) : Sp := fun vs H Q _ => ∃ (g : Int) (v : V) (m w : Int) (kb nb : Nat), vs = [.int g, v, .int m, .int w] ∧ 0 ≤ g ∧ TB kb (nb + 3) H v ∧ ∀ H', Same H H' → Q (.bl (tabOf H g m w v)) H'

def sp__law_sum (K : PySem.W.Frag) : Sp := fun vs H Q _ => ∃ (g : Int) (L : Addr) (xs : List V) (as : List (Int × Int)), vs = [.int g, .ref L] ∧ 0 ≤ g ∧ g ≤ 13 ∧ H L = some (.lst xs) ∧ Acc NumV H xs as as.length ∧ (∀ a ∈ as, PBd a) ∧ (∀ i, PBd ((as.take i).foldl (plusF g) (0, 1))) ∧ ∀ (v : V) (H' : Hp), Same H H' → NumV H' v (as.foldl (plusF g) (0, 1)) → Q v H'

def sp__law_row (K : PySem.W.Frag) : Sp := fun vs H Q _ => ∃ (b : Addr) (g m : Int), vs = [.ref b, .int g, .int m] ∧ Gr g ∧ 0 ≤ m ∧ m ≤ 10 ∧ Bag H b ∧ ∀ (H' : Hp) (v : V), RowG g H' v m.toNat 0 → Mv b H H' → Bag H' b → Q v H'

def sp__law_added (K : PySem.W.Frag) : Sp := fun vs H Q _ => ∃ (g : Int) (x y : V) (n i : Nat), vs = [.int g, x, y] ∧ Gr g ∧ RowG g H x n i ∧ RowG g H y n i ∧ n ≤ 10 ∧ i ≤ 10 ∧ ∀ (H' : Hp) (v : V), RowG g H' v n (i + 1) → Same H H' → Q v H'

def sp__law_bent_row (K : PySem.W.Frag) : Sp := fun vs H Q _ => ∃ (b : Addr) (g : Int) (x : V) (kb : Nat), vs = [.ref b, .int g, x] ∧ RK kb H x ∧ 200 ≤ kb ∧ kb ≤ 1000 ∧ 0 ≤ g ∧ g ≤ 13 ∧ Bag H b ∧ ∀ (H' : Hp) (v : V), TB (kb + 1) 2 H' v → Mv b H H' → Bag H' b → Q v H'

def sp_through (K : PySem.W.Frag) : Sp := fun vs H Q _ => ∃ (g : Int) (v1 v2 : V) (r : List (Int × Int)) (t2 : List (List (Int × Int))) (n l k : Nat), vs = [.int g, v1, v2] ∧ (g = 0 ∨ (3 ≤ g ∧ g ≤ 13)) ∧ RowV H v1 r ∧ TabV H v2 t2 ∧ (r.length = n ∧ ∀ x ∈ r, OkN g k x) ∧ t2.length = n ∧ (∀ r ∈ t2, r.length = l ∧ ∀ x ∈ r, OkN g k x) ∧ 0 < n ∧ n ≤ 10 ∧ l ≤ 10 ∧ 0 < k ∧ k ≤ 400 ∧ ∀ (v' : V) (H' : Hp), Same H H' → RowV H' v' ((turnF l t2).map (cellF g r)) → Q v' H'

def sp__law_rows (K : PySem.W.Frag) : Sp := fun vs H Q _ => ∃ (b : Addr) (g hi wi : Int), vs = [.ref b, .int g, .int hi, .int wi] ∧ Gr g ∧ 1 ≤ hi ∧ hi ≤ 10 ∧ 1 ≤ wi ∧ wi ≤ 10 ∧ Bag H b ∧ ∀ (H' : Hp) (v : V), TabG g H' v hi.toNat wi.toNat 10 → Mv b H H' → Bag H' b → Q v H'

def sp__law_bent_table (K : PySem.W.Frag) : Sp := fun vs H Q _ => ∃ (b : Addr) (g : Int) (x : V) (kb : Nat), vs = [.ref b, .int g, x] ∧ TK kb H x ∧ 200 ≤ kb ∧ kb ≤ 1000 ∧ 0 ≤ g ∧ g ≤ 13 ∧ Bag H b ∧ ∀ (H' : Hp) (v : V), TB (kb + 1) 3 H' v → Mv b H H' → Bag H' b → Q v H'

def sp__law_are_told (K : PySem.W.Frag) : Sp := fun vs H Q _ => ∃ (g : Int) (L : Addr) (m w : Int) (xs : List V) (kb : Nat), vs = [.int g, .ref L, .int m, .int w] ∧ 0 ≤ g ∧ H L = some (.lst xs) ∧ (∀ x ∈ xs, TB kb 3 H x) ∧ ∀ H', Same H H' → Q (.bl true) H'

def sp__law_cell (K : PySem.W.Frag) : Sp := fun vs H Q _ => ∃ (g : Int) (v1 v2 : V) (i j : Nat) (t1 t2 : List (List (Int × Int))) (r : List (Int × Int)) (n l : Nat), vs = [.int g, v1, v2, .int (i : Int), .int (j : Int)] ∧ (g = 0 ∨ (3 ≤ g ∧ g ≤ 13)) ∧ TabV H v1 t1 ∧ TabV H v2 t2 ∧ t1[i]? = some r ∧ r.length = n ∧ (∀ x ∈ r, OkN g 40 x) ∧ t2.length = n ∧ (∀ s ∈ t2, s.length = l ∧ ∀ x ∈ s, OkN g 40 x) ∧ j < l ∧ n ≤ 10 ∧ ∀ (v : V) (H' : Hp), Same H H' → NumV H' v (cellF g r (t2.map fun row => row.getD j (0, 1))) → Q v H'

def sp_law (K : PySem.W.Frag) : Sp := fun vs H Q _ => ∃ (a : Addr) (ns : List Int), vs = [.ref a] ∧ SqL K H a (ns.map V.int) ∧ ∀ H', Q (.bl true) H'
theorem pick2 {i : Int} (h : i = 0 ∨ i = 1) : ∃ m : Int, atI [V.int 5, V.int 10] i = some (.int m) ∧ 5 ≤ m ∧ m ≤ 10 := by
  rcases h with rfl | rfl <;> exact ⟨_, rfl, by decide, by decide⟩

theorem ok_is_whole {f : Addr} {fd : FuncData} (F : FnP K "is_whole" s_is_whole f fd) (m_isinstance : mg "isinstance" = none) (m_int : mg "int" = none) (m_bool : mg "bool" = none) :
    FnOk P w K mg base CX0 1 f fd ["thing"] (sp_is_whole K) := by
  refine F.ok sc_is_whole (fun vs H Q E h => ?_) (fun cdv A outer s H vs Q E hr h => ?_)
  · obtain ⟨v, rfl, hv, q⟩ := h
    rfl
  · obtain ⟨v, rfl, hv, q⟩ := h
    refine ⟨_, PSs.nox (pss_one (ps_ret (pe_and (pe_callB call_isi (by rfl) m_isinstance (by decide +kernel) (pa_cons (pv 0) (pa_cons (pe_bltn (v := .ty "int") (by rfl) m_int (by decide +kernel) rfl) pa_nil))) (pe_one (pe_not (pe_callB call_isi (by rfl) m_isinstance (by decide +kernel) (pa_cons (pv 0) (pa_cons (pe_bltn (v := .ty "bool") (by rfl) m_bool (by decide +kernel) rfl) pa_nil)))))))), ?_⟩
    have e := whole_eq v
    walk_at "go"
    refine tv_int hv ?_
    walk_at "go"
    refine w_iteB (fun hi => ?_) (fun hi => ?_)
    · walk_at "go"
      refine tv_bool hv ?_
      walk_at "go"
      rw [e, hi] at q
      exact q
    · rw [e, hi] at q
      exact q
theorem ok_common_divisor {f : Addr} {fd : FuncData} (F : FnP K "common_divisor" s_common_divisor f fd) (m_abs : mg "abs" = none) :
    FnOk P w K mg base CX0 1 f fd ["a", "b"] (sp_common_divisor K) := by
  refine F.ok sc_common_divisor (fun vs H Q E h => ?_) (fun cdv A outer s H vs Q E hr h => ?_)
  · obtain ⟨a, c, rfl, q⟩ := h
    rfl
  · obtain ⟨a, c, rfl, q⟩ := h
    refine ⟨_, PSs.nox (pss_cons (ps_while PassesOwn.never (pt_cmpR op_ne (pv 1) pe_int (nomark _)) (pss_one (ps_par (i := 0) (j := 1) (by rfl) sc_common_divisor.nd rfl rfl (by decide) rfl rfl (pa_cons (pv 1) (pa_cons (pe_op op_modN (pv 0) (pv 1)) pa_nil)) (by rfl))))
        (pss_one (ps_ret (pe_callB call_abs (by rfl) m_abs (by decide +kernel) (pa_cons (pv 0) pa_nil))))), ?_⟩
    walk_at "go"
    refine while_by (fun σ H' => ∃ x y : Int, σ = [some (.int x), some (.int y)] ∧ Int.gcd x y = Int.gcd a c ∧ H' = H) (fun σ _ => match σ with | [_, some (.int y)] => y.natAbs | _ => 0) ⟨a, c, rfl, rfl, rfl⟩ (fun σ H' hP => ?_) (fun σ H' Q1 Q2 f h => ?_)
    · obtain ⟨x, y, rfl, e, rfl⟩ := hP
      walk_at "go"
      refine w_iteN (fun hc => ?_) (fun hc => ?_)
      · walk_at "go"
        refine w_I hc ?_
        walk_at "go"
        exact ⟨⟨y, x.fmod y, rfl, by rw [gcd_fmod]; exact e, rfl⟩, fmod_small x hc⟩
      · walk_at "go"
        subst hc
        rw [Int.gcd_zero_right] at e
        rw [← e] at q
        have e2 : (if x < 0 then -x else x) = ((x.natAbs : Nat) : Int) := by split <;> omega
        rw [e2]
        exact q
    · obtain ⟨v, hv, e1, k, ek, qq⟩ := h
      exact ⟨v, hv, e1, k, ek, f _ _ qq⟩
theorem ok_wheel_back {f : Addr} {fd : FuncData} (F : FnP K "wheel_back" s_wheel_back f fd) :
    FnOk P w K mg base CX0 1 f fd ["wheel", "whole"] (sp_wheel_back K) := by
  refine F.ok sc_wheel_back (fun vs H Q E h => ?_) (fun cdv A outer s H vs Q E hr h => ?_)
  · obtain ⟨g, w, k, rfl, hg, hk1, hk, hw, q⟩ := h
    rfl
  · obtain ⟨g, w, k, rfl, hg, hk1, hk, hw, q⟩ := h
    refine ⟨_, PSs.nox (pss_cons (ps_set (i := 2) sc_wheel_back.nd rfl (.inl rfl) pe_int)
        (pss_cons (ps_while PassesOwn.never (pt_cmpR op_ne (pe_op op_modN (pe_op op_mul (pv 2) (pv 1)) (pv 0)) pe_int (nomark _)) (pss_one (ps_aug (i := 2) sc_wheel_back.nd rfl (.inl rfl) pe_int ip_add)))
        (pss_one (ps_ret (pv 2))))), ?_⟩
    walk_at "go"
    refine while_by (fun σ H' => ∃ f : Int, σ = [some (.int g), some (.int w), some (.int f)] ∧ 1 ≤ f ∧ f ≤ k ∧ H' = H) (fun σ _ => match σ with | [_, _, some (.int f)] => (k - f).toNat | _ => 0) ⟨1, rfl, by decide, hk1, rfl⟩ (fun σ H' hP => ?_) (fun σ H' Q1 Q2 f h => ?_)
    · obtain ⟨f, rfl, hf1, hf, rfl⟩ := hP
      walk_at "go"
      refine w_I (.inl ⟨by omega, by omega⟩) ?_
      walk_at "go"
      refine w_I (by omega) ?_
      walk_at "go"
      refine w_iteN (fun hc => ?_) (fun hc => ?_)
      · have hne : f ≠ k := fun e => hc (by rw [e]; exact hw)
        refine w_aug rfl ?_
        walk_at "go"
        refine ⟨f, 1, rfl, rfl, ⟨f + 1, rfl, by omega, by omega, rfl⟩, ?_⟩
        show (k - (f + 1)).toNat < (k - f).toNat
        omega
      · walk_at "go"
        exact q f hf1 (by omega) hc
    · obtain ⟨v1, h1, v2, h2, i, j, e1, e2, c1, v3, h3, i2, j2, e3, e4, c2, sc, b, eb, qq⟩ := h
      exact ⟨v1, h1, v2, h2, i, j, e1, e2, c1, v3, h3, i2, j2, e3, e4, c2, sc, b, eb, f _ _ qq⟩
theorem ok_dot {f : Addr} {fd : FuncData} (F : FnP K "dot" s_dot f fd) (m_sum : mg "sum" = none) (m_zip : mg "zip" = none) :
    FnOk P w K mg base CX0 1 f fd ["wholes", "others"] (sp_dot K) := by
  refine F.ok sc_dot (fun vs H Q E h => ?_) (fun cdv A outer s H vs Q E hr h => ?_)
  · obtain ⟨a, b, ts, ss, rfl, ha, hb, hl, hl2, ht, hs, q⟩ := h
    rfl
  · obtain ⟨a, b, ts, ss, rfl, ha, hb, hl, hl2, ht, hs, q⟩ := h
    refine ⟨_, PSs.nox (pss_one (ps_ret (pe_callB (cr_sum rfl) (by rfl) m_sum (by decide +kernel) (pa_cons (pe_lc (own := [("whole", 2), ("other", 3)]) (g := gTup K 2 (gCons (gName 2) (gCons (gName 3) (gNil)))) (tt := tYes) (by rfl) sc_dot.nd (RZ.pi_zipA (by rfl) m_zip (pa_cons (pv 0) (pa_cons (pv 1) pa_nil))) (blkOk_by (own := [("whole", 2), ("other", 3)]) (N := ["wholes", "others", "whole", "other"]) (sc := defScope s_dot) (by decide +kernel)) (fun _ _ _ _ _ => (pg_tup rfl (pgs_cons (pg_name (i := 2) sc_dot.nd rfl (.inl rfl)) (pgs_cons (pg_name (i := 3) sc_dot.nd rfl (.inl rfl)) pgs_nil)))) (fun _ _ _ _ _ => pts_nil) (fun _ _ _ _ _ => (pe_op op_mulW (pv 2) (pv 3)))) pa_nil)))), ?_⟩
    walk_at "go"
    refine ⟨a, b, _, _, rfl, .inl ⟨SqL.of ha, SqL.of hb, fun D hD => ?_⟩⟩
    refine lc_it (walk_zip (xs := ts.map V.int) (ys := ss.map V.int) (n := ts.length) (by rw [List.length_map, List.length_map]; omega)) (fun i H' => Same H H' ∧ H' D = some (.lst (((List.zipWith (fun a b => a * b) ts ss).take i).map V.int))) ⟨Same.updD (Same.refl H) hD, upd_same⟩ (fun i H' _ hP => ⟨SqL.of (hP.1 _ _ ha), SqL.of (hP.1 _ _ hb)⟩) (fun i v H1 H2 hi hP hY => ?_) (fun H' hP => ?_)
    · obtain ⟨sm, hD'⟩ := hP
      obtain ⟨T, u, v', rfl, hT, rfl, hu, hv⟩ := hY
      have g1 : (ts.map V.int)[i]? = some (.int ts[i]) := by rw [List.getElem?_map, List.getElem?_eq_getElem hi]; rfl
      have g2 : (ss.map V.int)[i]? = some (.int (ss[i]'(by omega))) := by rw [List.getElem?_map, List.getElem?_eq_getElem (by omega)]; rfl
      cases Option.some.inj (hu.symm.trans g1)
      cases Option.some.inj (hv.symm.trans g2)
      have s2 := same_upd (o := .tup [V.int ts[i], V.int (ss[i]'(by omega))]) hT
      have hTT : (upd H1 T (.tup [V.int ts[i], V.int (ss[i]'(by omega))])) T = some (.tup [V.int ts[i], V.int (ss[i]'(by omega))]) := upd_same
      generalize upd H1 T (.tup [V.int ts[i], V.int (ss[i]'(by omega))]) = H2 at s2 hTT ⊢
      walk_at "go"
      refine ⟨rfl, ?_⟩
      walk_at "go"
      refine w_I (mulW_le (ht _ (List.getElem_mem hi)) (hs _ (List.getElem_mem (by omega))) (by decide)) ?_
      refine ⟨_, s2 _ _ hD', ?_, Same.updD (sm.trans s2) hD, ?_⟩
      · rw [List.length_map, List.length_take]
        exact small1000 (by omega)
      · have gz : (List.zipWith (fun a b => a * b) ts ss)[i]? = some (ts[i] * ss[i]'(by omega)) := by
          rw [List.getElem?_zipWith, List.getElem?_eq_getElem hi, List.getElem?_eq_getElem (by omega)]
        rw [upd_same, List.take_add_one, gz, List.map_append]
        rfl
    · obtain ⟨sm, hD'⟩ := hP
      have e : (List.zipWith (fun a b => a * b) ts ss).take ts.length = List.zipWith (fun a b => a * b) ts ss := List.take_of_length_le (by rw [List.length_zipWith]; omega)
      rw [e] at hD'
      walk_at "go"
      exact ⟨D, _, rfl, SqL.of hD', q _ sm⟩
theorem ok_turned {f : Addr} {fd : FuncData} (F : FnP K "turned" s_turned f fd) (m_tuple : mg "tuple" = none) (m_range : mg "range" = none) (m_len : mg "len" = none) :
    FnOk P w K mg base CX0 1 f fd ["table"] (sp_turned K) := by
  refine F.ok sc_turned (fun vs H Q E h => ?_) (fun cdv A outer s H vs Q E hr h => ?_)
  · obtain ⟨v, t, l, rfl, hv, ht0, ht, hl, hl10, q⟩ := h
    rfl
  · obtain ⟨v, t, l, rfl, hv, ht0, ht, hl, hl10, q⟩ := h
    refine ⟨_, PSs.nox (pss_one (ps_ret (pe_callTy call_tuple_of (by rfl) m_tuple (by decide +kernel) (pa_cons (pe_lc (own := [("at", 1)]) (g := gName 1) (tt := tYes) (by rfl) sc_turned.nd (pi_range1 (by rfl) m_range (pa_cons (pe_callB call_len_seq (by rfl) m_len (by decide +kernel) (pa_cons (pe_ix ix_tup (pv 0) pe_int (fun _ _ => rfl)) pa_nil)) pa_nil)) (blkOk_by (own := [("at", 1)]) (N := ["table", "at", "row"]) (sc := defScope s_turned) (by decide +kernel)) (fun _ _ _ _ _ => (pg_name (i := 1) sc_turned.nd rfl (.inr rfl))) (fun _ _ _ _ _ => pts_nil) (fun _ _ _ _ _ => (pe_callTy (r := rTupOf K) call_tupOf (by rfl) m_tuple (by decide +kernel) (pa_cons (pe_lc (own := [("row", 2)]) (g := gName 2) (tt := tYes) (wi := iTup K (tVar 0)) (by rfl) sc_turned.nd (pi_tup (pv 0)) (blkOk_by (own := [("row", 2)]) (N := ["table", "at", "row"]) (sc := ({ kind := PySem.ScopeKind.function, names := [ (PySem.Str.ofString ".0", PySem.NameKind.local), (PySem.Str.ofString "at", PySem.NameKind.cell), (PySem.Str.ofString "tuple", PySem.NameKind.globalImplicit), (PySem.Str.ofString "table", PySem.NameKind.cell)], isGenerator := false, isCoroutine := false, more := [] } : Scope)) (by decide +kernel)) (fun _ _ _ _ _ => (pg_name (i := 2) sc_turned.nd rfl (.inl rfl))) (fun _ _ _ _ _ => pts_nil) (fun _ _ _ _ _ => (pe_ix (r := rIxT K) ix_tup (pv 2) (pv 1) (fun _ _ => rfl)))) pa_nil)))) pa_nil)))), ?_⟩
    obtain ⟨p, xs, rfl, hp, hlx, hx⟩ := hv
    obtain ⟨x0, hx0⟩ : ∃ x0, xs[0]? = some x0 := ⟨_, List.getElem?_eq_getElem (by omega)⟩
    have ht00 : t[0]? = some t[0] := List.getElem?_eq_getElem ht0
    obtain ⟨p0, ns0, rfl, hp0, hl0, hn0⟩ := hx 0 x0 _ hx0 ht00
    have hl0' : ns0.length = l := by rw [hl0]; exact hl _ (List.getElem_mem ht0)
    walk_at "go"
    refine w_ixT hp (atI_nat (j := 0) hx0) ?_
    walk_at "go"
    refine ⟨p0, ns0, rfl, .inr (SqT.of hp0), ?_⟩
    walk_at "go"
    refine ⟨by omega, by omega, fun D hD => ?_⟩
    rw [hl0']
    refine lc_range (fun j H' => Same H H' ∧ ∃ ys, H' D = some (.lst ys) ∧ Acc RowV H' ys (turnF l t) j) ⟨Same.updD (Same.refl H) hD, [], upd_same, Acc.nil⟩ (fun j H' hj hP => ?_) (fun H' hP => ?_)
    · obtain ⟨sm, ys, hD', hacc⟩ := hP
      have hj' : j < l := hj
      have hp' := sm _ _ hp
      walk_at "go"
      refine ⟨rfl, ?_⟩
      walk_at "go"
      refine ⟨p, rfl, ⟨xs, SqT.of hp'⟩, fun D2 hD2 => ?_⟩
      have nD : D ≠ D2 := fresh_of hD' hD2
      refine lc_tup (xs := xs) (fun i H'' => Same H' H'' ∧ ∃ zs, H'' D2 = some (.lst zs) ∧ Acc NumV H'' zs (t.map fun row => row.getD j (0, 1)) i) ⟨Same.updD (Same.refl H') hD2, [], upd_same, Acc.nil⟩ (fun i H'' _ hP => SqT.of (hP.1 _ _ hp')) (fun i x H'' hxi hP => ?_) (fun H'' hP => ?_)
      · obtain ⟨sm2, zs, hD2', hacc2⟩ := hP
        have hi : i < t.length := by
          have := (List.getElem?_eq_some_iff.mp hxi).1
          omega
        have hti : t[i]? = some t[i] := List.getElem?_eq_getElem hi
        obtain ⟨pr, ns, rfl, hpr, hln, hns⟩ := hx i x _ hxi hti
        have hlr := hl _ (List.getElem_mem hi)
        obtain ⟨y, hy⟩ : ∃ y, ns[j]? = some y := ⟨_, List.getElem?_eq_getElem (by omega)⟩
        have htj : t[i][j]? = some (t[i].getD j (0, 1)) := by
          rw [List.getD_eq_getElem?_getD, List.getElem?_eq_getElem (by omega)]
          rfl
        have hn := hns j y _ hy htj
        have hpr' := sm2 _ _ (sm _ _ hpr)
        walk_at "go"
        refine ⟨rfl, ?_⟩
        walk_at "go"
        rw [Int.zero_add]
        refine w_ixT hpr' (atI_nat hy) ?_
        have kt : Kt H'' (upd H'' D2 (.lst (zs ++ [y]))) := Kt.updL hD2'
        refine ⟨zs, hD2', small1000 (by rw [hacc2.1]; omega), Same.updD sm2 hD2, _, upd_same, ?_⟩
        exact (hacc2.mono fun x a h => NumV.kt h kt).snoc (a := t[i].getD j (0, 1)) (by rw [List.getElem?_map, hti]; rfl) ((hn.kt (Kt.of (sm.trans sm2))).kt kt)
      · obtain ⟨sm2, zs, hD2', hacc2⟩ := hP
        walk_at "go"
        refine w_tupOf2 hD2' ?_
        refine w_newO fun q3 H3 hq3 s3 h3 => ?_
        have hD3 := s3 _ _ (sm2 _ _ hD')
        have kt : Kt H' (upd H3 D (.lst (ys ++ [V.ref q3]))) := (Kt.of (sm2.trans s3)).trans (Kt.updL hD3)
        refine ⟨ys, hD3, small1000 (by rw [hacc.1]; omega), Same.updD ((sm.trans sm2).trans s3) hD, _, upd_same, ?_⟩
        have hrow : RowV H3 (.ref q3) (t.map fun row => row.getD j (0, 1)) := (hacc2.mono fun x a h => NumV.kt h (Kt.of s3)).sq (by rw [List.length_map]; exact hlx) h3
        exact (hacc.mono fun x a h => RowV.kt h kt).snoc (turn_at hj') (RowV.kt hrow (Kt.updL hD3))
    · obtain ⟨sm, ys, hD', hacc⟩ := hP
      walk_at "go"
      refine ⟨_, _, rfl, .inl ⟨SqL.of hD', fun m hm => ?_⟩⟩
      exact q _ _ (sm.trans (same_upd hm)) ((hacc.mono fun x a h => RowV.kt h (Kt.of (same_upd hm))).sq (by unfold turnF; rw [List.length_map, List.length_range]; rfl) upd_same)
theorem ok__law_is_whole {f : Addr} {fd : FuncData} (F : FnP K "_law_is_whole" s__law_is_whole f fd) (m_isinstance : mg "isinstance" = none) (m_int : mg "int" = none) (m_bool : mg "bool" = none) :
    FnOk P w K mg base CX0 1 f fd ["_law_thing"] (sp__law_is_whole K) := by
  refine F.ok sc__law_is_whole (fun vs H Q E h => ?_) (fun cdv A outer s H vs Q E hr h => ?_)
  · obtain ⟨v, rfl, hv, q⟩ := h
    rfl
  · obtain ⟨v, rfl, hv, q⟩ := h
    refine ⟨_, PSs.nox (pss_one (ps_ret (pe_and (pe_callB call_isi (by rfl) m_isinstance (by decide +kernel) (pa_cons (pv 0) (pa_cons (pe_bltn (v := .ty "int") (by rfl) m_int (by decide +kernel) rfl) pa_nil))) (pe_one (pe_not (pe_callB call_isi (by rfl) m_isinstance (by decide +kernel) (pa_cons (pv 0) (pa_cons (pe_bltn (v := .ty "bool") (by rfl) m_bool (by decide +kernel) rfl) pa_nil)))))))), ?_⟩
    have e := whole_eq v
    walk_at "go"
    refine tv_int hv ?_
    walk_at "go"
    refine w_iteB (fun hi => ?_) (fun hi => ?_)
    · walk_at "go"
      refine tv_bool hv ?_
      walk_at "go"
      rw [e, hi] at q
      exact q
    · rw [e, hi] at q
      exact q
theorem ok__law_shared {f : Addr} {fd : FuncData} (F : FnP K "_law_shared" s__law_shared f fd) (m_abs : mg "abs" = none) :
    FnOk P w K mg base CX0 1 f fd ["_law_one", "_law_other"] (sp__law_shared K) := by
  refine F.ok sc__law_shared (fun vs H Q E h => ?_) (fun cdv A outer s H vs Q E hr h => ?_)
  · obtain ⟨a, c, rfl, q⟩ := h
    rfl
  · obtain ⟨a, c, rfl, q⟩ := h
    refine ⟨_, PSs.nox (pss_cons (ps_par (i := 0) (j := 1) (by rfl) sc__law_shared.nd rfl rfl (by decide) rfl rfl (pa_cons (pe_callB call_abs (by rfl) m_abs (by decide +kernel) (pa_cons (pv 0) pa_nil)) (pa_cons (pe_callB call_abs (by rfl) m_abs (by decide +kernel) (pa_cons (pv 1) pa_nil)) pa_nil)) (by rfl))
        (pss_cons (ps_while PassesOwn.never (pt_cmpR op_gt (pv 1) pe_int (nomark _)) (pss_one (ps_par (i := 0) (j := 1) (by rfl) sc__law_shared.nd rfl rfl (by decide) rfl rfl (pa_cons (pv 1) (pa_cons (pe_op op_modN (pv 0) (pv 1)) pa_nil)) (by rfl))))
        (pss_one (ps_ret (pv 0))))), ?_⟩
    walk_at "go"
    rw [abs_nat, abs_nat]
    refine while_by (fun σ H' => ∃ x y : Nat, σ = [some (.int (x : Int)), some (.int (y : Int))] ∧ Nat.gcd x y = Int.gcd a c ∧ H' = H) (fun σ _ => match σ with | [_, some (.int y)] => y.toNat | _ => 0) ⟨a.natAbs, c.natAbs, rfl, rfl, rfl⟩ (fun σ H' hP => ?_) (fun σ H' Q1 Q2 f h => ?_)
    · obtain ⟨x, y, rfl, e, rfl⟩ := hP
      walk_at "go"
      refine w_ite (fun hc => ?_) (fun hc => ?_)
      · walk_at "go"
        refine w_I (by omega) ?_
        walk_at "go"
        have e1 : (x : Int).fmod (y : Int) = ((x % y : Nat) : Int) := by
          rw [fmod_pos _ hc]
          rfl
        rw [e1]
        refine ⟨⟨y, x % y, rfl, ?_, rfl⟩, ?_⟩
        · rw [← e, Nat.gcd_comm y, ← Nat.gcd_rec, Nat.gcd_comm]
        · show ((x % y : Nat) : Int).toNat < ((y : Nat) : Int).toNat
          have := Nat.mod_lt x (by omega : y > 0)
          omega
      · walk_at "go"
        have e0 : y = 0 := by omega
        subst e0
        rw [Nat.gcd_zero_right] at e
        rw [e]
        exact q
    · obtain ⟨v, hv, i, j, e1, e2, k, ek, qq⟩ := h
      exact ⟨v, hv, i, j, e1, e2, k, ek, f _ _ qq⟩
theorem ok__law_bag {f : Addr} {fd : FuncData} (F : FnP K "_law_bag" s__law_bag f fd) (m_len : mg "len" = none) (m_abs : mg "abs" = none) :
    FnOk P w K mg base CX0 1 f fd ["_law_script", "_law_at"] (sp__law_bag K) := by
  refine F.ok sc__law_bag (fun vs H Q E h => ?_) (fun cdv A outer s H vs Q E hr h => ?_)
  · obtain ⟨a, ns, k, rfl, hS, hk0, hk, q⟩ := h
    rfl
  · obtain ⟨a, ns, k, rfl, hS, hk0, hk, q⟩ := h
    refine ⟨_, PSs.nox (pss_cons (ps_set (i := 2) sc__law_bag.nd rfl (.inl rfl) pe_int)
        (pss_cons (ps_if (pt_cmpR op_lt (pv 1) (pe_callB call_len_seq (by rfl) m_len (by decide +kernel) (pa_cons (pv 0) pa_nil)) (nomark _)) (pss_one (ps_set (i := 2) sc__law_bag.nd rfl (.inl rfl) (pe_ix ix_list (pv 0) (pv 1) (fun _ _ => rfl)))) pss_nil)
        (pss_cons (ps_set (i := 3) sc__law_bag.nd rfl (.inl rfl) pe_int)
        (pss_cons (ps_if (pt_cmpR op_ge (pe_callB call_abs (by rfl) m_abs (by decide +kernel) (pa_cons (pv 2) pa_nil)) (pe_op op_pow pe_int pe_int) (nomark _)) (pss_one (ps_set (i := 3) sc__law_bag.nd rfl (.inl rfl) (pe_callB call_abs (by rfl) m_abs (by decide +kernel) (pa_cons (pv 2) pa_nil)))) pss_nil)
        (pss_cons (ps_set (i := 4) sc__law_bag.nd rfl (.inl rfl) (pe_lst (pa_cons pe_int (pa_cons pe_int (pa_cons pe_int (pa_cons pe_int (pa_cons pe_int (pa_cons pe_int (pa_cons pe_int (pa_cons pe_int pa_nil))))))))))
        (pss_cons (ps_set (i := 5) sc__law_bag.nd rfl (.inl rfl) (pe_op op_add (pe_op op_add (pe_op op_add (pe_op op_mul (pe_op op_modN (pv 2) pe_int) pe_int) (pe_op op_mul (pe_op op_mul pe_int (pv 1)) (pv 1))) (pe_op op_mul pe_int (pv 1))) pe_int))
        (pss_one (ps_ret (pe_lst (pa_cons (pv 3) (pa_cons (pe_op op_modN (pv 5) (pe_ix ix_list (pv 4) (pe_op op_modN (pv 1) pe_int) (fun _ _ => rfl))) pa_nil))))))))))), ?_⟩
    walk_at "go"
    refine ⟨a, _, rfl, .inl hS, ?_⟩
    walk_at "go"
    refine w_ite (fun hc => ?a) (fun hc => ?b)
    case' a =>
      have hlt : k.toNat < ns.length := by
        rw [List.length_map] at hc
        omega
      obtain ⟨cl, hcl⟩ : ∃ cl, ns[k.toNat]? = some cl := ⟨_, List.getElem?_eq_getElem hlt⟩
      have hat : atI (ns.map V.int) ((k.toNat : Nat) : Int) = some (.int cl) := atI_nat (by rw [List.getElem?_map, hcl]; rfl)
      rw [show ((k.toNat : Nat) : Int) = k by omega] at hat
      walk_at "go"
      refine w_ixLs hS hat ?_
    all_goals
      walk_at "go"
      refine w_Iv ⟨by decide, by decide, by decide⟩ rfl ?_
      walk_at "go"
      refine w_ite (fun hc2 => ?_) (fun hc2 => ?_)
    all_goals
      walk_at "go"
      refine w_new (by simp) fun p1 H1 hp1 s1 h1 => ?_
      walk_at "go"
      refine w_I (by decide) ?_
      walk_at "go"
      refine w_I (.inr ⟨by decide, by decide⟩) ?_
      walk_at "go"
      refine w_I (.inl ⟨by decide, by decide⟩) ?_
      walk_at "go"
      refine w_I (.inr ⟨by omega, by omega⟩) ?_
      walk_at "go"
      refine w_I (.inl ⟨by decide, by decide⟩) ?_
      walk_at "go"
      refine w_I (by decide) ?_
      obtain ⟨m, em, hm0, hm1⟩ := bag_primes (i := k.fmod 8) (by rw [fmod_pos _ (by decide)]; exact Int.emod_nonneg _ (by decide)) (by rw [fmod_pos _ (by decide)]; exact Int.emod_lt_of_pos _ (by decide))
      refine w_ixL h1 em ?_
      refine w_I (by omega) ?_
      walk_at "go"
      refine w_new (by simp) fun p2 H2 hp2 s2 h2 => ?_
      refine q p2 H2 (s1.free hp2) (s1.trans s2) ⟨_, _, h2, ?_, ?_, ?_⟩
      · first | decide | omega
      · rw [fmod_pos _ hm0]
        exact Int.emod_nonneg _ (by omega)
      · rw [fmod_pos _ hm0]
        exact Int.lt_of_lt_of_le (Int.emod_lt_of_pos _ hm0) hm1
theorem ok__law_take {f : Addr} {fd : FuncData} (F : FnP K "_law_take" s__law_take f fd) :
    FnOk P w K mg base CX0 1 f fd ["_law_bag_here", "_law_many"] (sp__law_take K) := by
  refine F.ok sc__law_take (fun vs H Q E h => ?_) (fun cdv A outer s H vs Q E hr h => ?_)
  · obtain ⟨b, m, rfl, hm, hm2, hb, q⟩ := h
    rfl
  · obtain ⟨b, m, rfl, hm, hm2, hb, q⟩ := h
    refine ⟨_, PSs.nox (pss_cons (ps_if (pt_cmpR op_gt (pe_ix ix_list (pv 0) pe_int (fun _ _ => rfl)) pe_int (nomark _)) (pss_cons (ps_set (i := 2) sc__law_take.nd rfl (.inl rfl) (pe_op op_modN (pe_ix ix_list (pv 0) pe_int (fun _ _ => rfl)) (pv 1)))
        (pss_cons (ps_asg (pe_op op_fdivZ (pe_ix ix_list (pv 0) pe_int (fun _ _ => rfl)) (pv 1)) (pg_sub (pv 0) pe_int set_list))
        (pss_one (ps_ret (pv 2))))) pss_nil)
        (pss_cons (ps_asg (pe_op op_modN (pe_op op_add (pe_op op_mul (pe_ix ix_list (pv 0) pe_int (fun _ _ => rfl)) pe_int) pe_int) pe_int) (pg_sub (pv 0) pe_int set_list))
        (pss_one (ps_ret (pe_op op_modN (pe_op op_fdivZ (pe_op op_modN (pe_op op_pow (pe_ix ix_list (pv 0) pe_int (fun _ _ => rfl)) pe_int) pe_int) pe_int) (pv 1)))))), ?_⟩
    obtain ⟨A, B, hb, hA, hB, hB2⟩ := hb
    walk_at "go"
    refine w_ite (fun hc => ?_) (fun hc => ?_)
    · walk_at "go"
      refine w_I (by omega) ?_
      walk_at "go"
      refine w_I (divZ_small hm (by omega)) ?_
      walk_at "go"
      refine w_setL hb rfl ?_
      walk_at "go"
      refine q _ _ ?_ ?_ Mv.upd ⟨_, _, upd_same, ?_, hB, hB2⟩
      · rw [fmod_pos _ hm]
        exact Int.emod_nonneg _ (by omega)
      · rw [fmod_pos _ hm]
        exact Int.emod_lt_of_pos _ hm
      · rw [fdiv_pos _ hm]
        exact Int.ediv_nonneg hA (by omega)
    · walk_at "go"
      refine w_I (.inr ⟨by decide, by decide⟩) ?_
      walk_at "go"
      refine w_I (by decide) ?_
      walk_at "go"
      refine w_setL hb rfl ?_
      walk_at "go"
      have hb' : (upd H b (.lst ([V.int A, V.int B].set 1 (V.int ((B * 48271 + 2531011).fmod 2147483647))))) b = some (.lst [.int A, .int ((B * 48271 + 2531011).fmod 2147483647)]) := upd_same
      have hx : 0 ≤ (B * 48271 + 2531011).fmod 2147483647 ∧ (B * 48271 + 2531011).fmod 2147483647 < 2147483647 := by
        rw [fmod_pos _ (by decide)]
        exact ⟨Int.emod_nonneg _ (by decide), Int.emod_lt_of_pos _ (by decide)⟩
      generalize (B * 48271 + 2531011).fmod 2147483647 = x at hb' hx ⊢
      refine w_ixL hb' rfl ?_
      walk_at "go"
      refine w_I ⟨by decide, by decide, by omega⟩ ?_
      walk_at "go"
      refine w_I (by decide) ?_
      walk_at "go"
      refine w_I (divZ_small (by decide) (by decide)) ?_
      walk_at "go"
      refine w_I (by omega) ?_
      refine q _ _ ?_ ?_ Mv.upd ⟨_, _, hb', hA, hx.1, hx.2⟩
      · rw [fmod_pos _ hm]
        exact Int.emod_nonneg _ (by omega)
      · rw [fmod_pos _ hm]
        exact Int.emod_lt_of_pos _ hm
theorem ok__law_swapped {f : Addr} {fd : FuncData} (F : FnP K "_law_swapped" s__law_swapped f fd) :
    FnOk P w K mg base CX0 1 f fd ["_law_row_here", "_law_at", "_law_thing"] (sp__law_swapped K) := by
  refine F.ok sc__law_swapped (fun vs H Q E h => ?_) (fun cdv A outer s H vs Q E hr h => ?_)
  · obtain ⟨p, xs, k, v, rfl, hp, hl, q⟩ := h
    rfl
  · obtain ⟨p, xs, k, v, rfl, hp, hl, q⟩ := h
    refine ⟨_, PSs.nox (pss_one (ps_ret (pe_op op_catA (pe_op op_catA (pe_slice sl_tupA (pv 0) po_none (po_some (pv 1))) (pe_tup (pa_cons (pv 2) pa_nil))) (pe_slice sl_tupA (pv 0) (po_some (pe_op op_add (pv 1) pe_int)) po_none)))), ?_⟩
    walk_at "go"
    refine w_slA hp fun q1 H1 ys1 s1 h1 hl1 hm1 => ?_
    walk_at "go"
    refine w_new (by simp) fun q2 H2 hq2 s2 h2 => ?_
    refine w_catA (s2 _ _ h1) h2 (by simp; omega) fun q3 H3 ys3 s3 h3 hl3 hm3 => ?_
    walk_at "go"
    refine w_slA (s3 _ _ (s2 _ _ (s1 _ _ hp))) fun q4 H4 ys4 s4 h4 hl4 hm4 => ?_
    rw [List.length_singleton] at hl3
    refine w_catA (s4 _ _ h3) h4 (by omega) fun q5 H5 ys5 s5 h5 hl5 hm5 => ?_
    refine q q5 H5 ys5 (s1.trans (s2.trans (s3.trans (s4.trans s5)))) h5 (by omega) fun y hy => ?_
    rcases hm5 y hy with h | h
    · rcases hm3 y h with h | h
      · exact .inl (hm1 y h)
      · exact .inr (List.mem_singleton.mp h)
    · exact .inl (hm4 y h)
theorem ok_is_number {f : Addr} {fd : FuncData} (F : FnP K "is_number" s_is_number f fd)
    {f_is_whole : Addr} {fd_is_whole : FuncData} (F_is_whole : FnP K "is_whole" s_is_whole f_is_whole fd_is_whole) (b_is_whole : Binds K fd_is_whole ["thing"] []) (g_is_whole : mg "is_whole" = some (.ref f_is_whole)) (G_is_whole : FnOk P w K mg base CX0 1 f_is_whole fd_is_whole ["thing"] (sp_is_whole K))
    {f_common_divisor : Addr} {fd_common_divisor : FuncData} (F_common_divisor : FnP K "common_divisor" s_common_divisor f_common_divisor fd_common_divisor) (b_common_divisor : Binds K fd_common_divisor ["a", "b"] []) (g_common_divisor : mg "common_divisor" = some (.ref f_common_divisor)) (G_common_divisor : FnOk P w K mg base CX0 1 f_common_divisor fd_common_divisor ["a", "b"] (sp_common_divisor K)) (m_isinstance : mg "isinstance" = none) (m_tuple : mg "tuple" = none) (m_len : mg "len" = none) :
    FnOk P w K mg base CX0 2 f fd ["ground", "thing"] (sp_is_number K) := by
  refine F.ok sc_is_number (fun vs H Q E h => ?_) (fun cdv A outer s H vs Q E hr h => ?_)
  · obtain ⟨g, v, kb, nb, rfl, hv, q⟩ := h
    rfl
  · obtain ⟨g, v, kb, nb, rfl, hv, q⟩ := h
    refine ⟨_, PSs.nox (pss_cons (ps_if (PW.pt (pw_or (pt_not (pt_val (pe_callB call_isi (by rfl) m_isinstance (by decide +kernel) (pa_cons (pv 1) (pa_cons (pe_bltn (v := .ty "tuple") (by rfl) m_tuple (by decide +kernel) rfl) pa_nil))))) (pw_or1 (pt_cmpR op_ne (pe_callB call_len_seq (by rfl) m_len (by decide +kernel) (pa_cons (pv 1) pa_nil)) pe_int (nomark _))))) (pss_one (ps_ret pe_bl)) pss_nil)
        (pss_cons (ps_asg (pv 1) (pg_tup rfl (pgs_cons (pg_name (i := 2) sc_is_number.nd rfl (.inl rfl)) (pgs_cons (pg_name (i := 3) sc_is_number.nd rfl (.inl rfl)) pgs_nil))))
        (pss_cons (ps_if (PW.pt (pw_or (pt_not (pt_val (pe_call G_is_whole hr (by rfl) g_is_whole F_is_whole.kp b_is_whole .nil pass0 (pa_cons (pv 2) pa_nil)))) (pw_or1 (pt_not (pt_val (pe_call G_is_whole hr (by rfl) g_is_whole F_is_whole.kp b_is_whole .nil pass0 (pa_cons (pv 3) pa_nil))))))) (pss_one (ps_ret pe_bl)) pss_nil)
        (pss_cons (ps_if (pt_cmpR op_eq (pv 0) pe_int (nomark _)) (pss_one (ps_ret (pe_and (pe_cmpR op_ge (pv 3) pe_int (nomark _)) (pe_one (pe_cmpR op_eq (pe_call G_common_divisor hr (by rfl) g_common_divisor F_common_divisor.kp b_common_divisor .nil pass0 (pa_cons (pv 2) (pa_cons (pv 3) pa_nil))) pe_int (nomark _)))))) pss_nil)
        (pss_one (ps_ret (pe_and (pe_chain op_le op_lt pe_int (pv 2) (pv 0)) (pe_one (pe_cmpR op_eq (pv 3) pe_int (nomark _)))))))))), ?_⟩
    walk_at "go"
    refine tb_tup hv (fun p xs e hp hz hx => ?_) (fun hn => ?_)
    · subst e
      rw [numOf_tup hp] at q
      walk_at "go"
      refine iteF ?_
      walk_at "go"
      refine ⟨p, xs, rfl, .inr (SqT.of hp), ?_⟩
      walk_at "go"
      refine w_iteN (fun hl => ?_) (fun hl => ?_)
      · walk_at "go"
        rw [numOk_len (by omega)] at q
        exact q
      · obtain ⟨t, b, rfl⟩ : ∃ t b, xs = [t, b] := by
          match xs, hl with
          | [t, b], _ => exact ⟨t, b, rfl⟩
          | [], h => simp at h
          | [_], h => simp at h
          | _ :: _ :: _ :: _, h => simp at h; omega
        walk_at "go"
        refine ⟨t, rfl, (hx t (by simp)).tv, ?_⟩
        walk_at "go"
        refine w_iteBN (fun hw => ?_) (fun hw => ?_)
        · walk_at "go"
          rw [numOk_l hw] at q
          exact q
        · walk_at "go"
          refine ⟨b, rfl, (hx b (by simp)).tv, ?_⟩
          walk_at "go"
          refine w_iteBN (fun hw2 => ?_) (fun hw2 => ?_)
          · walk_at "go"
            rw [numOk_r hw2] at q
            exact q
          · obtain ⟨t, rfl⟩ := whole_int hw
            obtain ⟨b, rfl⟩ := whole_int hw2
            walk_at "go"
            refine w_ite (fun hg => ?_) (fun hg => ?_)
            · subst hg
              rw [numOk_0] at q
              walk_at "go"
              refine w_ite (fun hb => ?_) (fun hb => ?_)
              · walk_at "go"
                refine ⟨t, b, rfl, ?_⟩
                walk_at "go"
                rw [decide_eq_true hb] at q
                exact q
              · rw [decide_eq_false hb] at q
                exact q
            · rw [numOk_g hg] at q
              walk_at "go"
              refine w_ite (fun h0 => ?_) (fun h0 => ?_)
              · walk_at "go"
                refine w_ite (fun h1 => ?_) (fun h1 => ?_)
                · walk_at "go"
                  rw [decide_eq_true h0, decide_eq_true h1] at q
                  exact q
                · rw [decide_eq_true h0, decide_eq_false h1] at q
                  exact q
              · walk_at "go"
                rw [decide_eq_false h0] at q
                exact q
    · rw [numOf_no hn] at q
      walk_at "go"
      refine iteT ?_
      walk_at "go"
      exact q
theorem ok_lowest {f : Addr} {fd : FuncData} (F : FnP K "lowest" s_lowest f fd)
    {f_common_divisor : Addr} {fd_common_divisor : FuncData} (F_common_divisor : FnP K "common_divisor" s_common_divisor f_common_divisor fd_common_divisor) (b_common_divisor : Binds K fd_common_divisor ["a", "b"] []) (g_common_divisor : mg "common_divisor" = some (.ref f_common_divisor)) (G_common_divisor : FnOk P w K mg base CX0 1 f_common_divisor fd_common_divisor ["a", "b"] (sp_common_divisor K))
    {f_wheel_back : Addr} {fd_wheel_back : FuncData} (F_wheel_back : FnP K "wheel_back" s_wheel_back f_wheel_back fd_wheel_back) (b_wheel_back : Binds K fd_wheel_back ["wheel", "whole"] []) (g_wheel_back : mg "wheel_back" = some (.ref f_wheel_back)) (G_wheel_back : FnOk P w K mg base CX0 1 f_wheel_back fd_wheel_back ["wheel", "whole"] (sp_wheel_back K)) :
    FnOk P w K mg base CX0 2 f fd ["ground", "top", "bottom"] (sp_lowest K) := by
  refine F.ok sc_lowest (fun vs H Q E h => ?_) (fun cdv A outer s H vs Q E hr h => ?_)
  · obtain ⟨g, u, d, rfl, hh, q⟩ := h
    rfl
  · obtain ⟨g, u, d, rfl, hh, q⟩ := h
    refine ⟨_, PSs.nox (pss_cons (ps_if (pt_cmpR op_ne (pv 0) pe_int (nomark _)) (pss_one (ps_ret (pe_tup (pa_cons (pe_op op_modN (pe_op op_mulW (pv 1) (pe_call G_wheel_back hr (by rfl) g_wheel_back F_wheel_back.kp b_wheel_back .nil pass0 (pa_cons (pv 0) (pa_cons (pv 2) pa_nil)))) (pv 0)) (pa_cons pe_int pa_nil))))) pss_nil)
        (pss_cons (ps_set (i := 3) sc_lowest.nd rfl (.inl rfl) (pe_call G_common_divisor hr (by rfl) g_common_divisor F_common_divisor.kp b_common_divisor .nil pass0 (pa_cons (pv 1) (pa_cons (pv 2) pa_nil))))
        (pss_cons (ps_if (pt_cmpR op_lt (pv 2) pe_int (nomark _)) (pss_one (ps_set (i := 3) sc_lowest.nd rfl (.inl rfl) (pe_un un_neg (pv 3)))) pss_nil)
        (pss_one (ps_ret (pe_tup (pa_cons (pe_op op_fdivZ (pv 1) (pv 3)) (pa_cons (pe_op op_fdivZ (pv 2) (pv 3)) pa_nil)))))))), ?_⟩
    walk_at "go"
    refine w_iteN (fun hc => ?_) (fun hc => ?_)
    · rcases hh with ⟨h0, _⟩ | ⟨hg, hu, k, hk1, hk, hkd⟩
      · exact absurd h0 hc
      · walk_at "go"
        refine ⟨g, d, k, rfl, hg, hk1, hk, hkd, fun f hf1 hf hfd => ?_⟩
        refine w_I (wide_mul (b := 5) hu (show f.natAbs < 2 ^ 5 by omega) (by decide) (by decide) (by decide)) ?_
        walk_at "go"
        refine w_I (by omega) ?_
        walk_at "go"
        refine w_new (by simp) fun p1 H1 hp1 s1 h1 => ?_
        refine q p1 H1 hp1 s1 ?_
        rw [low_inv (by omega) hfd]
        exact h1
    · subst hc
      rcases hh with ⟨_, hd, hz⟩ | ⟨hg, _⟩
      · have hI : lowI 0 u d = none := by
          unfold lowI
          rw [if_neg (by decide)]
        have e : lowF 0 u d = (u.fdiv (lowC u d), d.fdiv (lowC u d)) := by
          unfold lowF
          rw [hI]
        have hcz : ∀ i : Int, CDivZ i (lowC u d) := fun i => divZ_of (b := 8500) (lowC_ne hd) (Nat.lt_of_le_of_lt (lowC_le hd) hz) (by decide) (by decide)
        rw [e] at q
        walk_at "go"
        refine ⟨u, d, rfl, ?_⟩
        walk_at "go"
        refine w_ite (fun hn => ?_) (fun hn => ?_)
        · walk_at "go"
          have ec : lowC u d = -(Int.gcd u d : Int) := by
            unfold lowC
            rw [if_pos hn, Int.mul_neg, Int.mul_one]
          rw [← ec]
          refine w_I (hcz _) ?_
          walk_at "go"
          refine w_I (hcz _) ?_
          walk_at "go"
          refine w_new (by simp) fun p1 H1 hp1 s1 h1 => ?_
          exact q p1 H1 hp1 s1 h1
        · walk_at "go"
          have ec : lowC u d = (Int.gcd u d : Int) := by
            unfold lowC
            rw [if_neg hn, Int.mul_one]
          rw [← ec]
          refine w_I (hcz _) ?_
          walk_at "go"
          refine w_I (hcz _) ?_
          walk_at "go"
          refine w_new (by simp) fun p1 H1 hp1 s1 h1 => ?_
          exact q p1 H1 hp1 s1 h1
      · exact absurd hg (by decide)
theorem ok_whole_row {f : Addr} {fd : FuncData} (F : FnP K "whole_row" s_whole_row f fd)
    {f_common_divisor : Addr} {fd_common_divisor : FuncData} (F_common_divisor : FnP K "common_divisor" s_common_divisor f_common_divisor fd_common_divisor) (b_common_divisor : Binds K fd_common_divisor ["a", "b"] []) (g_common_divisor : mg "common_divisor" = some (.ref f_common_divisor)) (G_common_divisor : FnOk P w K mg base CX0 1 f_common_divisor fd_common_divisor ["a", "b"] (sp_common_divisor K)) :
    FnOk P w K mg base CX0 2 f fd ["row"] (sp_whole_row K) := by
  refine F.ok sc_whole_row (fun vs H Q E h => ?_) (fun cdv A outer s H vs Q E hr h => ?_)
  · obtain ⟨v, r, g, k, rfl, hv, hok, hk0, hk, hlr, q⟩ := h
    rfl
  · obtain ⟨v, r, g, k, rfl, hv, hok, hk0, hk, hlr, q⟩ := h
    refine ⟨_, PSs.nox (pss_cons (ps_set (i := 1) sc_whole_row.nd rfl (.inr rfl) pe_int)
        (pss_cons (ps_for PassesOwn.never rfl (pi_tup (pv 0)) (pg_name (i := 2) sc_whole_row.nd rfl (.inl rfl)) (pss_one (ps_set (i := 1) sc_whole_row.nd rfl (.inr rfl) (pe_op op_mulW (pe_op op_fdivZ (pv 1) (pe_call G_common_divisor hr (by rfl) g_common_divisor F_common_divisor.kp b_common_divisor .nil pass0 (pa_cons (pv 1) (pa_cons (pe_ix ix_tup (pv 2) pe_int (fun _ _ => rfl)) pa_nil)))) (pe_ix ix_tup (pv 2) pe_int (fun _ _ => rfl))))))
        (pss_one (ps_ret (pe_tup (pa_cons (pe_lc (own := [("x", 2)]) (g := gName 2) (tt := tYes) (by rfl) sc_whole_row.nd (pi_tup (pv 0)) (blkOk_by (own := [("x", 2)]) (N := ["row", "bottom", "x"]) (sc := defScope s_whole_row) (by decide +kernel)) (fun _ _ _ _ _ => (pg_name (i := 2) sc_whole_row.nd rfl (.inl rfl))) (fun _ _ _ _ _ => pts_nil) (fun _ _ _ _ _ => (pe_op op_mulW (pe_ix (r := rIxT K) ix_tup (pv 2) pe_int (fun _ _ => rfl)) (pe_op op_fdivZ (pv 1) (pe_ix (r := rIxT K) ix_tup (pv 2) pe_int (fun _ _ => rfl)))))) (pa_cons (pv 1) pa_nil))))))), ?_⟩
    obtain ⟨p, xs, rfl, hp, hlx, hx⟩ := hv
    have hpos : ∀ x ∈ r, 0 < x.2 := fun x h => (hok x h).pos
    have hbd : ∀ i, 0 < wrB (r.take i) ∧ (wrB (r.take i)).natAbs ≤ 2 ^ (k * r.length) := fun i => by
      have hsub : ∀ x ∈ r.take i, x ∈ r := fun x h => List.mem_of_mem_take h
      refine ⟨(wrB_spec fun x h => hpos x (hsub x h)).1, Nat.le_trans (wrB_bd (k := k) fun x h => ⟨hpos x (hsub x h), (hok x (hsub x h)).2.1⟩) ?_⟩
      refine Nat.pow_le_pow_right (by decide) (Nat.mul_le_mul_left k ?_)
      rw [List.length_take]
      exact Nat.min_le_right _ _
    have hkl : k * r.length ≤ 4000 := Nat.mul_le_mul hk hlr
    walk_at "go"
    refine ⟨p, rfl, ⟨xs, SqT.of hp⟩, ?_⟩
    refine for_tup (xs := xs) (fun i σ H' => H' = H ∧ ∃ y, σ = [some (.ref p), some (.int (wrB (r.take i))), y]) ⟨rfl, none, rfl⟩ (fun i σ H' _ hP => by obtain ⟨rfl, _⟩ := hP; exact SqT.of hp) (fun i x σ H' hxi hP => ?_) (fun σ H' hP => ?_)
    · obtain ⟨rfl, y, rfl⟩ := hP
      have hi : i < r.length := by
        have := (List.getElem?_eq_some_iff.mp hxi).1
        omega
      have hri : r[i]? = some r[i] := List.getElem?_eq_getElem hi
      obtain ⟨px, rfl, hpx⟩ := hx i x _ hxi hri
      have hmem := List.getElem_mem hi
      have st := step_le (hbd i).1 (hpos _ hmem) (hbd i).2 (hok _ hmem).2.1
      walk_at "go"
      refine ⟨_, _, rfl, ?_⟩
      refine w_I (divZ_of (b := k) st.2.2.1 st.2.2.2 hk0 (by omega)) ?_
      walk_at "go"
      refine w_I (mulW_le st.2.1 (Nat.le_of_lt (hok _ hmem).2.1) (by omega)) ?_
      walk_at "go"
      refine ⟨rfl, some (.ref px), ?_⟩
      rw [wrB_take hri]
      rfl
    · obtain ⟨rfl, y, rfl⟩ := hP
      have e : r.take xs.length = r := List.take_of_length_le (by omega)
      rw [e]
      have hB := hbd r.length
      rw [List.take_length] at hB
      walk_at "go"
      refine ⟨p, rfl, ⟨xs, SqT.of hp⟩, fun D hD => ?_⟩
      refine lc_tup (xs := xs) (fun i H'' => Same H' H'' ∧ H'' D = some (.lst (((wrT r).take i).map V.int))) ⟨Same.updD (Same.refl H') hD, upd_same⟩ (fun i H'' _ hP => SqT.of (hP.1 _ _ hp)) (fun i x H'' hxi hP => ?_) (fun H'' hP => ?_)
      · obtain ⟨sm, hD'⟩ := hP
        have hi : i < r.length := by
          have := (List.getElem?_eq_some_iff.mp hxi).1
          omega
        have hri : r[i]? = some r[i] := List.getElem?_eq_getElem hi
        obtain ⟨px, rfl, hpx⟩ := hx i x _ hxi hri
        have hpx' := sm _ _ hpx
        have hmem := List.getElem_mem hi
        have hp2 := hpos _ hmem
        walk_at "go"
        refine ⟨rfl, ?_⟩
        walk_at "go"
        refine w_I (divZ_of (b := k) (by omega) (hok _ hmem).2.1 hk0 (by omega)) ?_
        have htm : (r[i].1 * (wrB r).fdiv r[i].2) ∈ wrT r := List.mem_map.mpr ⟨_, hmem, rfl⟩
        have hq : ((wrB r).fdiv r[i].2).natAbs ≤ 2 ^ (k * r.length) := by
          obtain ⟨q', e'⟩ := (wrB_spec hpos).2.1 _ hmem
          have f1 : (wrB r).fdiv r[i].2 = q' := by
            rw [e']
            exact Int.mul_fdiv_cancel_left _ (by omega)
          rw [f1]
          have h2 := natAbs_fac (c := r[i].2) (q := q') (by omega)
          rw [← e'] at h2
          exact Nat.le_trans h2 hB.2
        refine w_I (mulW_le (Nat.le_of_lt (hok _ hmem).1) hq (by omega)) ?_
        refine ⟨_, hD', ?_, Same.updD sm hD, ?_⟩
        · rw [List.length_map, List.length_take]
          exact small1000 (by unfold wrT; rw [List.length_map]; omega)
        · have gz : (wrT r)[i]? = some (r[i].1 * (wrB r).fdiv r[i].2) := by
            unfold wrT
            rw [List.getElem?_map, hri]
            rfl
          rw [upd_same, List.take_add_one, gz, List.map_append]
          rfl
      · obtain ⟨sm, hD'⟩ := hP
        have e2 : (wrT r).take xs.length = wrT r := List.take_of_length_le (by unfold wrT; rw [List.length_map]; omega)
        rw [e2] at hD'
        walk_at "go"
        refine w_new (by simp) fun p1 H1 hp1 s1 h1 => ?_
        exact q p1 D _ (sm.trans s1) hD h1 (s1 _ _ hD')
theorem ok__law_is_number {f : Addr} {fd : FuncData} (F : FnP K "_law_is_number" s__law_is_number f fd)
    {f__law_shared : Addr} {fd__law_shared : FuncData} (F__law_shared : FnP K "_law_shared" s__law_shared f__law_shared fd__law_shared) (b__law_shared : Binds K fd__law_shared ["_law_one", "_law_other"] []) (g__law_shared : mg "_law_shared" = some (.ref f__law_shared)) (G__law_shared : FnOk P w K mg base CX0 1 f__law_shared fd__law_shared ["_law_one", "_law_other"] (sp__law_shared K))
    {f__law_is_whole : Addr} {fd__law_is_whole : FuncData} (F__law_is_whole : FnP K "_law_is_whole" s__law_is_whole f__law_is_whole fd__law_is_whole) (b__law_is_whole : Binds K fd__law_is_whole ["_law_thing"] []) (g__law_is_whole : mg "_law_is_whole" = some (.ref f__law_is_whole)) (G__law_is_whole : FnOk P w K mg base CX0 1 f__law_is_whole fd__law_is_whole ["_law_thing"] (sp__law_is_whole K)) (m_isinstance : mg "isinstance" = none) (m_tuple : mg "tuple" = none) (m_len : mg "len" = none) (m_all : mg "all" = none) :
    FnOk P w K mg base CX0 2 f fd ["_law_g", "_law_thing"] (sp__law_is_number K) := by
  refine F.ok sc__law_is_number (fun vs H Q E h => ?_) (fun cdv A outer s H vs Q E hr h => ?_)
  · obtain ⟨g, v, kb, nb, rfl, hg0, hv, q⟩ := h
    rfl
  · obtain ⟨g, v, kb, nb, rfl, hg0, hv, q⟩ := h
    refine ⟨_, PSs.nox (pss_cons (ps_if (PW.pt (pw_or (pt_not (pt_val (pe_callB call_isi (by rfl) m_isinstance (by decide +kernel) (pa_cons (pv 1) (pa_cons (pe_bltn (v := .ty "tuple") (by rfl) m_tuple (by decide +kernel) rfl) pa_nil))))) (pw_or (pt_cmpR op_ne (pe_callB call_len_seq (by rfl) m_len (by decide +kernel) (pa_cons (pv 1) pa_nil)) pe_int (nomark _)) (pw_or1 (pt_not (pt_val (pe_callB (cr_all rfl) (by rfl) m_all (by decide +kernel) (pa_cons (pe_lc (own := [("_law_one", 2)]) (g := gName 2) (tt := tYes) (by rfl) sc__law_is_number.nd (pi_tup (pv 1)) (blkOk_by (own := [("_law_one", 2)]) (N := ["_law_g", "_law_thing", "_law_one"]) (sc := defScope s__law_is_number) (by decide +kernel)) (fun _ _ _ _ _ => (pg_name (i := 2) sc__law_is_number.nd rfl (.inl rfl))) (fun _ _ _ _ _ => pts_nil) (fun _ _ _ _ _ => (pe_call G__law_is_whole hr (by rfl) g__law_is_whole F__law_is_whole.kp b__law_is_whole .nil pass0 (pa_cons (pv 2) pa_nil)))) pa_nil)))))))) (pss_one (ps_ret pe_bl)) pss_nil)
        (pss_cons (ps_if (pt_cmpR op_gt (pv 0) pe_int (nomark _)) (pss_one (ps_ret (pe_and (pe_chain op_le op_lt pe_int (pe_ix ix_tup (pv 1) pe_int (fun _ _ => rfl)) (pv 0)) (pe_one (pe_cmpR op_eq (pe_ix ix_tup (pv 1) pe_int (fun _ _ => rfl)) pe_int (nomark _)))))) pss_nil)
        (pss_one (ps_ret (pe_and (pe_cmpR op_gt (pe_ix ix_tup (pv 1) pe_int (fun _ _ => rfl)) pe_int (nomark _)) (pe_one (pe_cmpR op_eq (pe_call G__law_shared hr (by rfl) g__law_shared F__law_shared.kp b__law_shared .nil pass0 (pa_cons (pe_ix ix_tup (pv 1) pe_int (fun _ _ => rfl)) (pa_cons (pe_ix ix_tup (pv 1) pe_int (fun _ _ => rfl)) pa_nil))) pe_int (nomark _)))))))), ?_⟩
    walk_at "go"
    refine tb_tup hv (fun p xs e hp hz hx => ?_) (fun hn => ?_)
    · subst e
      rw [numOf_tup hp] at q
      walk_at "go"
      refine iteF ?_
      walk_at "go"
      refine ⟨p, xs, rfl, .inr (SqT.of hp), ?_⟩
      walk_at "go"
      refine w_iteN (fun hl => ?_) (fun hl => ?_)
      · walk_at "go"
        rw [numOk_len (by omega)] at q
        exact q _ (Same.refl _)
      · obtain ⟨t, b, rfl⟩ : ∃ t b, xs = [t, b] := by
          match xs, hl with
          | [t, b], _ => exact ⟨t, b, rfl⟩
          | [], h => simp at h
          | [_], h => simp at h
          | _ :: _ :: _ :: _, h => simp at h; omega
        walk_at "go"
        refine ⟨p, rfl, ⟨_, SqT.of hp⟩, fun D hD => ?_⟩
        refine lc_tup (xs := [t, b]) (fun i H' => Same H H' ∧ H' D = some (.lst (([wholeB t, wholeB b].take i).map V.bl))) ⟨Same.updD (Same.refl H) hD, upd_same⟩ (fun i H' _ hP => SqT.of (hP.1 _ _ hp)) (fun i x H' hxi hP => ?_) (fun H' hP => ?_)
        · obtain ⟨sm, hD'⟩ := hP
          have hi : i < 2 := (List.getElem?_eq_some_iff.mp hxi).1
          walk_at "go"
          refine ⟨rfl, ?_⟩
          walk_at "go"
          refine ⟨x, rfl, ((hx x (List.mem_of_getElem? hxi)).kd (Kd.of sm)).tv, ?_⟩
          refine ⟨_, hD', ?_, Same.updD sm hD, ?_⟩
          · rw [List.length_map, List.length_take]
            exact small1000 (by omega)
          · rw [upd_same]
            match i, hi, hxi with
            | 0, _, hxi =>
              cases Option.some.inj hxi
              rfl
            | 1, _, hxi =>
              cases Option.some.inj hxi
              rfl
        · obtain ⟨sm, hD'⟩ := hP
          walk_at "go"
          refine ⟨D, [wholeB t, wholeB b], rfl, SqL.of hD', ?_⟩
          have ea : [wholeB t, wholeB b].all id = (wholeB t && wholeB b) := by
            show (wholeB t && (wholeB b && true)) = _
            rw [Bool.and_true]
          rw [ea]
          walk_at "go"
          refine w_iteBN (fun hw => ?_) (fun hw => ?_)
          · walk_at "go"
            have ef : numOk g [t, b] = false := by
              cases h : wholeB t with
              | false => exact numOk_l h
              | true =>
                rw [h] at hw
                exact numOk_r hw
            rw [ef] at q
            exact q _ sm
          · rw [Bool.and_eq_true] at hw
            obtain ⟨t, rfl⟩ := whole_int hw.1
            obtain ⟨b, rfl⟩ := whole_int hw.2
            have hp' := sm _ _ hp
            walk_at "go"
            refine w_ite (fun hg => ?_) (fun hg => ?_)
            · rw [numOk_g (by omega)] at q
              walk_at "go"
              refine w_ite (fun h0 => ?_) (fun h0 => ?_)
              · walk_at "go"
                refine w_ite (fun h1 => ?_) (fun h1 => ?_)
                · walk_at "go"
                  rw [decide_eq_true h0, decide_eq_true h1] at q
                  exact q _ sm
                · rw [decide_eq_true h0, decide_eq_false h1] at q
                  exact q _ sm
              · walk_at "go"
                rw [decide_eq_false h0] at q
                exact q _ sm
            · have e0 : g = 0 := by omega
              subst e0
              rw [numOk_0] at q
              walk_at "go"
              refine w_ite (fun hb => ?_) (fun hb => ?_)
              · walk_at "go"
                refine ⟨t, b, rfl, ?_⟩
                walk_at "go"
                rw [decide_eq_true (show 1 ≤ b by omega)] at q
                exact q _ sm
              · rw [decide_eq_false (show ¬ 1 ≤ b by omega)] at q
                exact q _ sm
    · rw [numOf_no hn] at q
      walk_at "go"
      refine iteT ?_
      walk_at "go"
      exact q _ (Same.refl _)
theorem ok__law_low {f : Addr} {fd : FuncData} (F : FnP K "_law_low" s__law_low f fd)
    {f__law_shared : Addr} {fd__law_shared : FuncData} (F__law_shared : FnP K "_law_shared" s__law_shared f__law_shared fd__law_shared) (b__law_shared : Binds K fd__law_shared ["_law_one", "_law_other"] []) (g__law_shared : mg "_law_shared" = some (.ref f__law_shared)) (G__law_shared : FnOk P w K mg base CX0 1 f__law_shared fd__law_shared ["_law_one", "_law_other"] (sp__law_shared K)) (m_range : mg "range" = none) (m_int : mg "int" = none) :
    FnOk P w K mg base CX0 2 f fd ["_law_g", "_law_up", "_law_down"] (sp__law_low K) := by
  refine F.ok sc__law_low (fun vs H Q E h => ?_) (fun cdv A outer s H vs Q E hr h => ?_)
  · obtain ⟨g, u, d, rfl, hg0, hg, hd, hz, q⟩ := h
    rfl
  · obtain ⟨g, u, d, rfl, hg0, hg, hd, hz, q⟩ := h
    refine ⟨_, PSs.nox (pss_cons (ps_if (pt_cmpR op_gt (pv 0) pe_int (nomark _)) (pss_one (ps_for PassesOwn.never rfl (pi_range1 (by rfl) m_range (pa_cons (pv 0) pa_nil)) (pg_name (i := 3) sc__law_low.nd rfl (.inl rfl)) (pss_one (ps_if (pt_cmpR op_eq (pe_op op_modN (pe_op op_mul (pv 3) (pv 2)) (pv 0)) (pe_op op_modN (pv 1) (pv 0)) (nomark _)) (pss_one (ps_ret (pe_tup (pa_cons (pv 3) (pa_cons pe_int pa_nil))))) pss_nil)))) pss_nil)
        (pss_cons (ps_set (i := 4) sc__law_low.nd rfl (.inl rfl) (pe_op op_mul (pe_call G__law_shared hr (by rfl) g__law_shared F__law_shared.kp b__law_shared .nil pass0 (pa_cons (pv 1) (pa_cons (pv 2) pa_nil))) (pe_ix ix_list (pe_lst (pa_cons pe_int (pa_cons (pe_un un_neg pe_int) pa_nil))) (pe_callTy call_int1 (by rfl) m_int (by decide +kernel) (pa_cons (pe_cmpR op_lt (pv 2) pe_int (nomark _)) pa_nil)) (fun _ _ => rfl))))
        (pss_one (ps_ret (pe_tup (pa_cons (pe_op op_fdivZ (pv 1) (pv 4)) (pa_cons (pe_op op_fdivZ (pv 2) (pv 4)) pa_nil))))))), ?_⟩
    walk_at "go"
    refine w_ite (fun hc => ?a) (fun hc => ?b)
    case' a =>
      walk_at "go"
      refine ⟨by omega, by omega, ?_⟩
      refine for_range (fun i σ H' => H' = H ∧ (∃ y y2, σ = [some (.int g), some (.int u), some (.int d), y, y2]) ∧ ∀ j : Nat, j < i → ¬ ((j : Int) * d).fmod g = u.fmod g) ⟨rfl, ⟨none, none, rfl⟩, fun j hj => absurd hj (Nat.not_lt_zero _)⟩ (fun i σ H' hi hP => ?s1) (fun σ H' hP => ?s2)
    case' s1 =>
      obtain ⟨rfl, ⟨y, y2, rfl⟩, hn⟩ := hP
      walk_at "go"
      rw [Int.zero_add]
      refine w_I (.inl ⟨by omega, by omega⟩) ?_
      walk_at "go"
      refine w_I (by omega) ?_
      walk_at "go"
      refine w_I (by omega) ?_
      walk_at "go"
      refine w_ite (fun hc2 => ?_) (fun hc2 => ?_)
      · walk_at "go"
        refine w_new (by simp) fun p1 H1 hp1 s1 h1 => ?_
        refine q p1 H1 hp1 s1 ?_
        have e : lowF g u d = ((i : Int), 1) := by
          unfold lowF
          rw [lowI_some hi hc2 hn]
        rw [e]
        exact h1
      · walk_at "go"
        refine ⟨rfl, ⟨_, _, rfl⟩, fun j hj => ?_⟩
        by_cases e : j = i
        · rw [e]; exact hc2
        · exact hn j (by omega)
    case' s2 =>
      obtain ⟨rfl, ⟨y, y2, rfl⟩, hn⟩ := hP
      have hI : lowI g u d = none := lowI_none hn
    case' b =>
      have hI : lowI g u d = none := lowI_none (fun j hj => by omega)
    all_goals
      walk_at "go"
      refine ⟨u, d, rfl, ?_⟩
      walk_at "go"
      refine w_new (by simp) fun p1 H1 hp1 s1 h1 => ?_
      walk_at "go"
      refine .inr ⟨_, rfl, ?_⟩
      refine w_ixL h1 (low_sign d) ?_
      refine w_I (.inr (by split <;> decide)) ?_
      walk_at "go"
      refine w_I (low_cb hd hz _) ?_
      walk_at "go"
      refine w_I (low_cb hd hz _) ?_
      walk_at "go"
      refine w_new (by simp) fun p2 H2 hp2 s2 h2 => ?_
      refine q p2 H2 (s1.free hp2) (s1.trans s2) ?_
      have e : lowF g u d = (u.fdiv (lowC u d), d.fdiv (lowC u d)) := by
        unfold lowF
        rw [hI]
      rw [e]
      exact h2
theorem ok__law_ground {f : Addr} {fd : FuncData} (F : FnP K "_law_ground" s__law_ground f fd)
    {f__law_take : Addr} {fd__law_take : FuncData} (F__law_take : FnP K "_law_take" s__law_take f__law_take fd__law_take) (b__law_take : Binds K fd__law_take ["_law_bag_here", "_law_many"] []) (g__law_take : mg "_law_take" = some (.ref f__law_take)) (G__law_take : FnOk P w K mg base CX0 1 f__law_take fd__law_take ["_law_bag_here", "_law_many"] (sp__law_take K)) :
    FnOk P w K mg base CX0 2 f fd ["_law_bag_here"] (sp__law_ground K) := by
  refine F.ok sc__law_ground (fun vs H Q E h => ?_) (fun cdv A outer s H vs Q E hr h => ?_)
  · obtain ⟨b, rfl, hb, q⟩ := h
    rfl
  · obtain ⟨b, rfl, hb, q⟩ := h
    refine ⟨_, PSs.nox (pss_one (ps_ret (pe_ix ix_list (pe_lst (pa_cons pe_int (pa_cons pe_int (pa_cons pe_int (pa_cons pe_int (pa_cons pe_int (pa_cons pe_int (pa_cons pe_int (pa_cons (pe_ix ix_list (pe_lst (pa_cons pe_int (pa_cons pe_int (pa_cons pe_int pa_nil)))) (pe_call G__law_take hr (by rfl) g__law_take F__law_take.kp b__law_take .nil pass0 (pa_cons (pv 0) (pa_cons pe_int pa_nil))) (fun _ _ => rfl)) pa_nil))))))))) (pe_call G__law_take hr (by rfl) g__law_take F__law_take.kp b__law_take .nil pass0 (pa_cons (pv 0) (pa_cons pe_int pa_nil))) (fun _ _ => rfl)))), ?_⟩
    walk_at "go"
    refine w_new (by simp) fun p1 H1 hp1 s1 h1 => ?_
    walk_at "go"
    refine ⟨b, 3, rfl, by decide, by decide, hb.same s1, fun H2 d hd0 hd1 mv2 hb2 => ?_⟩
    obtain ⟨m, em, hm⟩ := gr_three hd0 hd1
    have n1 : p1 ≠ b := fun e => by
      subst e
      obtain ⟨A, B, h2, _⟩ := hb
      rw [hp1] at h2
      cases h2
    refine w_ixL (mv2 _ _ n1 h1) em ?_
    walk_at "go"
    refine w_new (by simp) fun p3 H3 hp3 s3 h3 => ?_
    walk_at "go"
    refine ⟨b, 8, rfl, by decide, by decide, hb2.same s3, fun H4 e he0 he1 mv4 hb4 => ?_⟩
    obtain ⟨g, eg, hg⟩ := gr_eight he0 he1 hm
    have n3 : p3 ≠ b := fun e => by
      subst e
      obtain ⟨A, B, h2, _⟩ := hb2
      rw [hp3] at h2
      cases h2
    refine w_ixL (mv4 _ _ n3 h3) eg ?_
    exact q _ _ hg ((Mv.same s1).trans (mv2.trans ((Mv.same s3).trans mv4))) hb4
theorem ok__law_odd {f : Addr} {fd : FuncData} (F : FnP K "_law_odd" s__law_odd f fd)
    {f__law_take : Addr} {fd__law_take : FuncData} (F__law_take : FnP K "_law_take" s__law_take f__law_take fd__law_take) (b__law_take : Binds K fd__law_take ["_law_bag_here", "_law_many"] []) (g__law_take : mg "_law_take" = some (.ref f__law_take)) (G__law_take : FnOk P w K mg base CX0 1 f__law_take fd__law_take ["_law_bag_here", "_law_many"] (sp__law_take K)) :
    FnOk P w K mg base CX0 2 f fd ["_law_bag_here"] (sp__law_odd K) := by
  refine F.ok sc__law_odd (fun vs H Q E h => ?_) (fun cdv A outer s H vs Q E hr h => ?_)
  · obtain ⟨b, rfl, hb, q⟩ := h
    rfl
  · obtain ⟨b, rfl, hb, q⟩ := h
    refine ⟨_, PSs.nox (pss_cons (ps_set (i := 1) sc__law_odd.nd rfl (.inl rfl) (pe_lst (pa_cons pe_non (pa_cons pe_bl (pa_cons pe_bl (pa_cons pe_str (pa_cons pe_str (pa_cons (pe_un un_neg pe_int) (pa_cons pe_int (pa_cons pe_int (pa_cons (pe_op op_pow pe_int pe_int) (pa_cons (pe_tup pa_nil) (pa_cons (pe_lst pa_nil) (pa_cons (pe_lst (pa_cons pe_int pa_nil)) (pa_cons (pe_tup (pa_cons pe_int (pa_cons pe_int pa_nil))) (pa_cons (pe_tup (pa_cons pe_int (pa_cons pe_int pa_nil))) (pa_cons (pe_tup (pa_cons pe_int (pa_cons pe_int pa_nil))) (pa_cons (pe_tup (pa_cons pe_bl (pa_cons pe_int pa_nil))) (pa_cons (pe_tup (pa_cons pe_int (pa_cons (pe_un un_neg pe_int) pa_nil))) (pa_cons (pe_tup (pa_cons pe_int pa_nil)) (pa_cons (pe_lst (pa_cons pe_int (pa_cons pe_int pa_nil))) (pa_cons (pe_tup (pa_cons pe_int (pa_cons pe_int (pa_cons pe_int pa_nil)))) pa_nil))))))))))))))))))))))
        (pss_one (ps_ret (pe_ix ix_list (pv 1) (pe_call G__law_take hr (by rfl) g__law_take F__law_take.kp b__law_take .nil pass0 (pa_cons (pv 0) (pa_cons pe_int pa_nil))) (fun _ _ => rfl))))), ?_⟩
    walk_at "go"
    refine w_Iv ⟨by decide, by decide, by decide⟩ rfl ?_
    walk_at "go"
    refine w_new (by simp) fun p1 H1 hp1 s1 h1 => ?_
    have t1 : TB 200 1 H1 (.ref p1) := TB.tupA h1 (by simp) (by simp [AtB])
    walk_at "go"
    refine w_new (by simp) fun p2 H2 hp2 s2 h2 => ?_
    have t2 : TB 200 1 H2 (.ref p2) := TB.lst h2
    walk_at "go"
    refine w_new (by simp) fun p3 H3 hp3 s3 h3 => ?_
    have t3 : TB 200 1 H3 (.ref p3) := TB.lst h3
    walk_at "go"
    refine w_new (by simp) fun p4 H4 hp4 s4 h4 => ?_
    have t4 : TB 200 1 H4 (.ref p4) := TB.tupA h4 (by simp) (by simp [AtB])
    walk_at "go"
    refine w_new (by simp) fun p5 H5 hp5 s5 h5 => ?_
    have t5 : TB 200 1 H5 (.ref p5) := TB.tupA h5 (by simp) (by simp [AtB])
    walk_at "go"
    refine w_new (by simp) fun p6 H6 hp6 s6 h6 => ?_
    have t6 : TB 200 1 H6 (.ref p6) := TB.tupA h6 (by simp) (by simp [AtB])
    walk_at "go"
    refine w_new (by simp) fun p7 H7 hp7 s7 h7 => ?_
    have t7 : TB 200 1 H7 (.ref p7) := TB.tupA h7 (by simp) (by simp [AtB])
    walk_at "go"
    refine w_new (by simp) fun p8 H8 hp8 s8 h8 => ?_
    have t8 : TB 200 1 H8 (.ref p8) := TB.tupA h8 (by simp) (by simp [AtB])
    walk_at "go"
    refine w_new (by simp) fun p9 H9 hp9 s9 h9 => ?_
    have t9 : TB 200 1 H9 (.ref p9) := TB.tupA h9 (by simp) (by simp [AtB])
    walk_at "go"
    refine w_new (by simp) fun p10 H10 hp10 s10 h10 => ?_
    have t10 : TB 200 1 H10 (.ref p10) := TB.lst h10
    walk_at "go"
    refine w_new (by simp) fun p11 H11 hp11 s11 h11 => ?_
    have t11 : TB 200 1 H11 (.ref p11) := TB.tupA h11 (by simp) (by simp [AtB])
    walk_at "go"
    refine w_new (by simp) fun L HL hL sL hLL => ?_
    have sA := (s1.trans (s2.trans (s3.trans (s4.trans (s5.trans (s6.trans (s7.trans (s8.trans (s9.trans (s10.trans (s11.trans sL)))))))))))
    walk_at "go"
    refine ⟨b, 20, rfl, by decide, by decide, hb.same sA, fun HZ d hd0 hd1 mZ hbZ => ?_⟩
    have nL : L ≠ b := bag_ne hb ((Same.free ((s1.trans (s2.trans (s3.trans (s4.trans (s5.trans (s6.trans (s7.trans (s8.trans (s9.trans (s10.trans s11))))))))))) hL))
    obtain ⟨v, ev, hv⟩ := atI_some hd0 (show d < (([V.non, V.bl true, V.bl false, V.str (Str.ofString "1"), V.str (Str.ofString ""), V.int (-1), V.int 0, V.int 1, V.int (10 ^ (59 : Nat)), V.ref p1, V.ref p2, V.ref p3, V.ref p4, V.ref p5, V.ref p6, V.ref p7, V.ref p8, V.ref p9, V.ref p10, V.ref p11] : List V).length : Int) from hd1)
    refine w_ixL (mZ _ _ nL hLL) ev ?_
    have hT : TB 200 1 HL v := by
      clear sA
      simp only [List.mem_cons, List.not_mem_nil, or_false] at hv
      rcases hv with rfl | rfl | rfl | rfl | rfl | rfl | rfl | rfl | rfl | rfl | rfl | rfl | rfl | rfl | rfl | rfl | rfl | rfl | rfl | rfl
      iterate 5 exact .inl True.intro
      iterate 3 exact .inl (by unfold AtB; decide +kernel)
      exact .inl (show ((10 : Int) ^ 59).natAbs < 2 ^ 200 by decide +kernel)
      all_goals walk_at "tr"
    exact q _ _ (hT.kd' (Kd.mv mZ (hb.same sA) hbZ)) ((Mv.same sA).trans mZ) hbZ
theorem ok_is_row {f : Addr} {fd : FuncData} (F : FnP K "is_row" s_is_row f fd)
    {f_is_number : Addr} {fd_is_number : FuncData} (F_is_number : FnP K "is_number" s_is_number f_is_number fd_is_number) (b_is_number : Binds K fd_is_number ["ground", "thing"] []) (g_is_number : mg "is_number" = some (.ref f_is_number)) (G_is_number : FnOk P w K mg base CX0 2 f_is_number fd_is_number ["ground", "thing"] (sp_is_number K)) (m_all : mg "all" = none) (m_isinstance : mg "isinstance" = none) (m_tuple : mg "tuple" = none) (m_len : mg "len" = none) :
    FnOk P w K mg base CX0 3 f fd ["ground", "thing", "many"] (sp_is_row K) := by
  refine F.ok sc_is_row (fun vs H Q E h => ?_) (fun cdv A outer s H vs Q E hr h => ?_)
  · obtain ⟨g, v, m, kb, nb, rfl, hv, q⟩ := h
    rfl
  · obtain ⟨g, v, m, kb, nb, rfl, hv, q⟩ := h
    refine ⟨_, PSs.nox (pss_cons (ps_if (PW.pt (pw_or (pt_not (pt_val (pe_callB call_isi (by rfl) m_isinstance (by decide +kernel) (pa_cons (pv 1) (pa_cons (pe_bltn (v := .ty "tuple") (by rfl) m_tuple (by decide +kernel) rfl) pa_nil))))) (pw_or1 (pt_cmpR op_ne (pe_callB call_len_seq (by rfl) m_len (by decide +kernel) (pa_cons (pv 1) pa_nil)) (pv 2) (nomark _))))) (pss_one (ps_ret pe_bl)) pss_nil)
        (pss_one (ps_ret (pe_callB (cr_all rfl) (by rfl) m_all (by decide +kernel) (pa_cons (pe_lc (own := [("x", 3)]) (g := gName 3) (tt := tYes) (by rfl) sc_is_row.nd (pi_tup (pv 1)) (blkOk_by (own := [("x", 3)]) (N := ["ground", "thing", "many", "x"]) (sc := defScope s_is_row) (by decide +kernel)) (fun _ _ _ _ _ => (pg_name (i := 3) sc_is_row.nd rfl (.inl rfl))) (fun _ _ _ _ _ => pts_nil) (fun _ _ _ _ _ => (pe_call G_is_number hr (by rfl) g_is_number F_is_number.kp b_is_number .nil pass0 (pa_cons (pv 0) (pa_cons (pv 3) pa_nil))))) pa_nil))))), ?_⟩
    walk_at "go"
    refine tb_tup hv (fun p xs e hp hz hx => ?_) (fun hn => ?_)
    · subst e
      rw [rowOf_tup hp] at q
      walk_at "go"
      refine iteF ?_
      walk_at "go"
      refine ⟨p, xs, rfl, .inr (SqT.of hp), ?_⟩
      walk_at "go"
      refine w_iteN (fun hl => ?_) (fun hl => ?_)
      · walk_at "go"
        rw [decide_eq_false hl] at q
        exact q _ (Same.refl _)
      · rw [decide_eq_true hl] at q
        walk_at "go"
        refine ⟨p, rfl, ⟨xs, SqT.of hp⟩, fun D hD => ?_⟩
        refine lc_tup (xs := xs) (fun i H' => Same H H' ∧ H' D = some (.lst (((xs.map (numOf H g)).take i).map V.bl))) ⟨Same.updD (Same.refl H) hD, upd_same⟩ (fun i H' _ hP => SqT.of (hP.1 _ _ hp)) (fun i x H' hxi hP => ?_) (fun H' hP => ?_)
        · obtain ⟨sm, hD'⟩ := hP
          have hmem := List.mem_of_getElem? hxi
          walk_at "go"
          refine ⟨rfl, ?_⟩
          walk_at "go"
          refine ⟨g, x, kb, nb, rfl, (hx x hmem).kd (Kd.of sm), ?_⟩
          rw [numOf_tb (hx x hmem) (Kd.of sm)]
          refine ⟨_, hD', ?_, Same.updD sm hD, ?_⟩
          · rw [List.length_map]
            exact small1000 (Nat.le_trans (List.length_take_le' _ _) (by rw [List.length_map]; omega))
          · rw [upd_same, List.take_add_one, List.getElem?_map, hxi, List.map_append]
            rfl
        · obtain ⟨sm, hD'⟩ := hP
          walk_at "go"
          rw [List.take_of_length_le (by rw [List.length_map]; exact Nat.le_refl _)] at hD'
          refine ⟨D, _, rfl, SqL.of hD', ?_⟩
          rw [all_map]
          exact q _ sm
    · rw [rowOf_no hn] at q
      walk_at "go"
      refine iteT ?_
      walk_at "go"
      exact q _ (Same.refl _)
theorem ok_product_row {f : Addr} {fd : FuncData} (F : FnP K "product_row" s_product_row f fd)
    {f_lowest : Addr} {fd_lowest : FuncData} (F_lowest : FnP K "lowest" s_lowest f_lowest fd_lowest) (b_lowest : Binds K fd_lowest ["ground", "top", "bottom"] []) (g_lowest : mg "lowest" = some (.ref f_lowest)) (G_lowest : FnOk P w K mg base CX0 2 f_lowest fd_lowest ["ground", "top", "bottom"] (sp_lowest K))
    {f_dot : Addr} {fd_dot : FuncData} (F_dot : FnP K "dot" s_dot f_dot fd_dot) (b_dot : Binds K fd_dot ["wholes", "others"] []) (g_dot : mg "dot" = some (.ref f_dot)) (G_dot : FnOk P w K mg base CX0 1 f_dot fd_dot ["wholes", "others"] (sp_dot K)) (m_tuple : mg "tuple" = none) :
    FnOk P w K mg base CX0 3 f fd ["ground", "row", "columns"] (sp_product_row K) := by
  refine F.ok sc_product_row (fun vs H Q E h => ?_) (fun cdv A outer s H vs Q E hr h => ?_)
  · obtain ⟨g, v, c, r, ss, cs, k, rfl, hg, hv, hro, hc, hlc, hcs, hss, hk, hlr, hls, q⟩ := h
    rfl
  · obtain ⟨g, v, c, r, ss, cs, k, rfl, hg, hv, hro, hc, hlc, hcs, hss, hk, hlr, hls, q⟩ := h
    refine ⟨_, PSs.nox (pss_cons (ps_asg (pv 1) (pg_tup rfl (pgs_cons (pg_name (i := 3) sc_product_row.nd rfl (.inr rfl)) (pgs_cons (pg_name (i := 4) sc_product_row.nd rfl (.inr rfl)) pgs_nil))))
        (pss_one (ps_ret (pe_callTy call_tuple_of (by rfl) m_tuple (by decide +kernel) (pa_cons (pe_lc (own := [("column", 5), ("under", 6)]) (g := gTup K 2 (gCons (gName 5) (gCons (gName 6) (gNil)))) (tt := tYes) (by rfl) sc_product_row.nd (pi_list (pv 2)) (blkOk_by (own := [("column", 5), ("under", 6)]) (N := ["ground", "row", "columns", "tops", "bottom", "column", "under"]) (sc := defScope s_product_row) (by decide +kernel)) (fun _ _ _ _ _ => (pg_tup rfl (pgs_cons (pg_name (i := 5) sc_product_row.nd rfl (.inl rfl)) (pgs_cons (pg_name (i := 6) sc_product_row.nd rfl (.inl rfl)) pgs_nil)))) (fun _ _ _ _ _ => pts_nil) (fun _ _ _ _ _ => (pe_call G_lowest hr (by rfl) g_lowest F_lowest.kp b_lowest .nil pass0 (pa_cons (pv 0) (pa_cons (pe_call G_dot (hr.mono (by decide)) (by rfl) g_dot F_dot.kp b_dot .nil pass0 (pa_cons (pv 3) (pa_cons (pv 5) pa_nil))) (pa_cons (pe_op op_mulW (pv 4) (pv 6)) pa_nil)))))) pa_nil))))), ?_⟩
    obtain ⟨p, L, rfl, hp, hL⟩ := hv
    walk_at "go"
    refine ⟨c, rfl, ⟨cs, SqL.of hc⟩, fun D hD => ?_⟩
    refine lc_list (xs := cs) (fun i H' => Same H H' ∧ ∃ ys, H' D = some (.lst ys) ∧ Acc NumV H' ys (ss.map (cellF g r)) i) ⟨Same.updD (Same.refl H) hD, [], upd_same, Acc.nil⟩ (fun i H' _ hP => SqL.of (hP.1 _ _ hc)) (fun i x H' hxi hP => ?_) (fun H' hP => ?_)
    · obtain ⟨sm, ys, hD', hacc⟩ := hP
      have hi : i < ss.length := by
        have := (List.getElem?_eq_some_iff.mp hxi).1
        omega
      have hsi : ss[i]? = some ss[i] := List.getElem?_eq_getElem hi
      have hmem := List.getElem_mem hi
      obtain ⟨px, Lx, rfl, hpx, hLx⟩ := hcs i x _ hxi hsi
      have hpx' := sm _ _ hpx
      have e1 : k * r.length ≤ 4000 := Nat.mul_le_mul hk hlr
      have e2 : k * ss[i].length ≤ 4000 := by rw [(hss _ hmem).1]; exact e1
      have b1 := wrB_bd (k := k) (r := r) fun x h => ⟨(hro x h).pos, (hro x h).2.1⟩
      have b2 := wrB_bd (k := k) (r := ss[i]) fun x h => ⟨((hss _ hmem).2 x h).pos, ((hss _ hmem).2 x h).2.1⟩
      walk_at "go"
      refine ⟨rfl, ?_⟩
      walk_at "go"
      refine ⟨L, Lx, wrT r, wrT ss[i], rfl, sm _ _ hL, sm _ _ hLx, by rw [wrT_len, wrT_len, (hss _ hmem).1], by rw [wrT_len]; omega, fun t h => Nat.le_trans (wrT_bd hro t h) (Nat.pow_le_pow_right (by decide) (by omega)), fun t h => Nat.le_trans (wrT_bd (hss _ hmem).2 t h) (Nat.pow_le_pow_right (by decide) (by omega)), fun H2 s2 => ?_⟩
      walk_at "go"
      refine w_I (mulW_le b1 b2 (by omega)) ?_
      walk_at "go"
      refine ⟨g, _, _, rfl, cell_ok hg hro (hss _ hmem).2 hk hlr (by rw [(hss _ hmem).1]; exact hlr), fun p3 H3 hp3 s3 h3 => ?_⟩
      rw [← cell_is hg hro (hss _ hmem).2] at h3
      have h3D := s3 _ _ (s2 _ _ hD')
      have kt : Kt H' (upd H3 D (.lst (ys ++ [V.ref p3]))) := (Kt.of (s2.trans s3)).trans (Kt.updL h3D)
      refine ⟨ys, h3D, small1000 (by rw [hacc.1]; omega), Same.updD ((sm.trans s2).trans s3) hD, _, upd_same, ?_⟩
      refine (hacc.mono fun x a h => NumV.kt h kt).snoc (a := cellF g r ss[i]) (by rw [List.getElem?_map, hsi]; rfl) ⟨p3, rfl, Kt.updL h3D _ _ h3⟩
    · obtain ⟨sm, ys, hD', hacc⟩ := hP
      walk_at "go"
      refine ⟨_, _, rfl, .inl ⟨SqL.of hD', fun l hl => ?_⟩⟩
      exact q _ _ (sm.trans (same_upd hl)) ((hacc.mono fun x a h => NumV.kt h (Kt.of (same_upd hl))).sq (by rw [List.length_map]; exact hlc) upd_same)
theorem ok__law_is_row {f : Addr} {fd : FuncData} (F : FnP K "_law_is_row" s__law_is_row f fd)
    {f__law_is_number : Addr} {fd__law_is_number : FuncData} (F__law_is_number : FnP K "_law_is_number" s__law_is_number f__law_is_number fd__law_is_number) (b__law_is_number : Binds K fd__law_is_number ["_law_g", "_law_thing"] []) (g__law_is_number : mg "_law_is_number" = some (.ref f__law_is_number)) (G__law_is_number : FnOk P w K mg base CX0 2 f__law_is_number fd__law_is_number ["_law_g", "_law_thing"] (sp__law_is_number K)) (m_isinstance : mg "isinstance" = none) (m_tuple : mg "tuple" = none) (m_all : mg "all" = none) (m_len : mg "len" = none) :
    FnOk P w K mg base CX0 3 f fd ["_law_g", "_law_thing", "_law_many"] (sp__law_is_row K) := by
  refine F.ok sc__law_is_row (fun vs H Q E h => ?_) (fun cdv A outer s H vs Q E hr h => ?_)
  · obtain ⟨g, v, m, kb, nb, rfl, hg0, hv, q⟩ := h
    rfl
  · obtain ⟨g, v, m, kb, nb, rfl, hg0, hv, q⟩ := h
    refine ⟨_, PSs.nox (pss_one (ps_ret (pe_and (pe_callB call_isi (by rfl) m_isinstance (by decide +kernel) (pa_cons (pv 1) (pa_cons (pe_bltn (v := .ty "tuple") (by rfl) m_tuple (by decide +kernel) rfl) pa_nil))) (pe_and (pe_cmpR op_eq (pe_callB call_len_seq (by rfl) m_len (by decide +kernel) (pa_cons (pv 1) pa_nil)) (pv 2) (nomark _)) (pe_one (pe_callB (cr_all rfl) (by rfl) m_all (by decide +kernel) (pa_cons (pe_lc (own := [("_law_one", 3)]) (g := gName 3) (tt := tYes) (by rfl) sc__law_is_row.nd (pi_tup (pv 1)) (blkOk_by (own := [("_law_one", 3)]) (N := ["_law_g", "_law_thing", "_law_many", "_law_one"]) (sc := defScope s__law_is_row) (by decide +kernel)) (fun _ _ _ _ _ => (pg_name (i := 3) sc__law_is_row.nd rfl (.inl rfl))) (fun _ _ _ _ _ => pts_nil) (fun _ _ _ _ _ => (pe_call G__law_is_number hr (by rfl) g__law_is_number F__law_is_number.kp b__law_is_number .nil pass0 (pa_cons (pv 0) (pa_cons (pv 3) pa_nil))))) pa_nil))))))), ?_⟩
    walk_at "go"
    refine tb_tup hv (fun p xs e hp hz hx => ?_) (fun hn => ?_)
    · subst e
      rw [rowOf_tup hp] at q
      walk_at "go"
      refine ⟨p, xs, rfl, .inr (SqT.of hp), ?_⟩
      walk_at "go"
      refine w_ite (fun hl => ?_) (fun hl => ?_)
      · rw [decide_eq_true hl] at q
        walk_at "go"
        refine ⟨p, rfl, ⟨xs, SqT.of hp⟩, fun D hD => ?_⟩
        refine lc_tup (xs := xs) (fun i H' => Same H H' ∧ H' D = some (.lst (((xs.map (numOf H g)).take i).map V.bl))) ⟨Same.updD (Same.refl H) hD, upd_same⟩ (fun i H' _ hP => SqT.of (hP.1 _ _ hp)) (fun i x H' hxi hP => ?_) (fun H' hP => ?_)
        · obtain ⟨sm, hD'⟩ := hP
          have hmem := List.mem_of_getElem? hxi
          walk_at "go"
          refine ⟨rfl, ?_⟩
          walk_at "go"
          refine ⟨g, x, kb, nb, rfl, hg0, (hx x hmem).kd (Kd.of sm), fun H2 s2 => ?_⟩
          rw [numOf_tb (hx x hmem) (Kd.of sm)]
          refine ⟨_, s2 _ _ hD', ?_, Same.updD (sm.trans s2) hD, ?_⟩
          · rw [List.length_map]
            exact small1000 (Nat.le_trans (List.length_take_le' _ _) (by rw [List.length_map]; omega))
          · rw [upd_same, List.take_add_one, List.getElem?_map, hxi, List.map_append]
            rfl
        · obtain ⟨sm, hD'⟩ := hP
          walk_at "go"
          rw [List.take_of_length_le (by rw [List.length_map]; exact Nat.le_refl _)] at hD'
          refine ⟨D, _, rfl, SqL.of hD', ?_⟩
          rw [all_map]
          exact q _ sm
      · walk_at "go"
        rw [decide_eq_false hl] at q
        exact q _ (Same.refl _)
    · rw [rowOf_no hn] at q
      walk_at "go"
      exact q _ (Same.refl _)
theorem ok__law_plus {f : Addr} {fd : FuncData} (F : FnP K "_law_plus" s__law_plus f fd)
    {f__law_low : Addr} {fd__law_low : FuncData} (F__law_low : FnP K "_law_low" s__law_low f__law_low fd__law_low) (b__law_low : Binds K fd__law_low ["_law_g", "_law_up", "_law_down"] []) (g__law_low : mg "_law_low" = some (.ref f__law_low)) (G__law_low : FnOk P w K mg base CX0 2 f__law_low fd__law_low ["_law_g", "_law_up", "_law_down"] (sp__law_low K)) :
    FnOk P w K mg base CX0 3 f fd ["_law_g", "_law_x", "_law_y"] (sp__law_plus K) := by
  refine F.ok sc__law_plus (fun vs H Q E h => ?_) (fun cdv A outer s H vs Q E hr h => ?_)
  · obtain ⟨g, x, y, a, c, rfl, hg0, hg, hx, hy, ha, hc, q⟩ := h
    rfl
  · obtain ⟨g, x, y, a, c, rfl, hg0, hg, hx, hy, ha, hc, q⟩ := h
    refine ⟨_, PSs.nox (pss_one (ps_ret (pe_call G__law_low hr (by rfl) g__law_low F__law_low.kp b__law_low .nil pass0 (pa_cons (pv 0) (pa_cons (pe_op op_add (pe_op op_mulW (pe_ix ix_tup (pv 1) pe_int (fun _ _ => rfl)) (pe_ix ix_tup (pv 2) pe_int (fun _ _ => rfl))) (pe_op op_mulW (pe_ix ix_tup (pv 2) pe_int (fun _ _ => rfl)) (pe_ix ix_tup (pv 1) pe_int (fun _ _ => rfl)))) (pa_cons (pe_op op_mulW (pe_ix ix_tup (pv 1) pe_int (fun _ _ => rfl)) (pe_ix ix_tup (pv 2) pe_int (fun _ _ => rfl))) pa_nil)))))), ?_⟩
    obtain ⟨px, rfl, hpx⟩ := hx
    obtain ⟨py, rfl, hpy⟩ := hy
    have hW : ∀ {u v : Int}, u.natAbs < 2 ^ 3000 → v.natAbs < 2 ^ 3000 → CMulW u v := fun h1 h2 => wide_mul h1 h2 (by decide) (by decide) (by decide)
    have hD : (a.2 * c.2).natAbs < 2 ^ 8000 := Nat.lt_of_lt_of_le (wide_lt ha.2.1 hc.2.1) (Nat.pow_le_pow_right (by decide) (by decide))
    walk_at "go"
    refine w_I (hW ha.1 hc.2.1) ?_
    walk_at "go"
    refine w_I (hW hc.1 ha.2.1) ?_
    walk_at "go"
    refine w_I (hW ha.2.1 hc.2.1) ?_
    walk_at "go"
    exact ⟨g, _, _, rfl, hg0, hg, Int.mul_ne_zero ha.2.2 hc.2.2, hD, fun p H1 hp s1 h1 => q p H1 hp s1 h1⟩
theorem ok__law_times {f : Addr} {fd : FuncData} (F : FnP K "_law_times" s__law_times f fd)
    {f__law_low : Addr} {fd__law_low : FuncData} (F__law_low : FnP K "_law_low" s__law_low f__law_low fd__law_low) (b__law_low : Binds K fd__law_low ["_law_g", "_law_up", "_law_down"] []) (g__law_low : mg "_law_low" = some (.ref f__law_low)) (G__law_low : FnOk P w K mg base CX0 2 f__law_low fd__law_low ["_law_g", "_law_up", "_law_down"] (sp__law_low K)) :
    FnOk P w K mg base CX0 3 f fd ["_law_g", "_law_x", "_law_y"] (sp__law_times K) := by
  refine F.ok sc__law_times (fun vs H Q E h => ?_) (fun cdv A outer s H vs Q E hr h => ?_)
  · obtain ⟨g, x, y, a, c, rfl, hg0, hg, hx, hy, ha, hc, q⟩ := h
    rfl
  · obtain ⟨g, x, y, a, c, rfl, hg0, hg, hx, hy, ha, hc, q⟩ := h
    refine ⟨_, PSs.nox (pss_one (ps_ret (pe_call G__law_low hr (by rfl) g__law_low F__law_low.kp b__law_low .nil pass0 (pa_cons (pv 0) (pa_cons (pe_op op_mulW (pe_ix ix_tup (pv 1) pe_int (fun _ _ => rfl)) (pe_ix ix_tup (pv 2) pe_int (fun _ _ => rfl))) (pa_cons (pe_op op_mulW (pe_ix ix_tup (pv 1) pe_int (fun _ _ => rfl)) (pe_ix ix_tup (pv 2) pe_int (fun _ _ => rfl))) pa_nil)))))), ?_⟩
    obtain ⟨px, rfl, hpx⟩ := hx
    obtain ⟨py, rfl, hpy⟩ := hy
    have hW : ∀ {u v : Int}, u.natAbs < 2 ^ 3000 → v.natAbs < 2 ^ 3000 → CMulW u v := fun h1 h2 => wide_mul h1 h2 (by decide) (by decide) (by decide)
    have hD : (a.2 * c.2).natAbs < 2 ^ 8000 := Nat.lt_of_lt_of_le (wide_lt ha.2.1 hc.2.1) (Nat.pow_le_pow_right (by decide) (by decide))
    walk_at "go"
    refine w_I (hW ha.1 hc.1) ?_
    walk_at "go"
    refine w_I (hW ha.2.1 hc.2.1) ?_
    walk_at "go"
    exact ⟨g, _, _, rfl, hg0, hg, Int.mul_ne_zero ha.2.2 hc.2.2, hD, fun p H1 hp s1 h1 => q p H1 hp s1 h1⟩
theorem ok__law_number {f : Addr} {fd : FuncData} (F : FnP K "_law_number" s__law_number f fd)
    {f__law_low : Addr} {fd__law_low : FuncData} (F__law_low : FnP K "_law_low" s__law_low f__law_low fd__law_low) (b__law_low : Binds K fd__law_low ["_law_g", "_law_up", "_law_down"] []) (g__law_low : mg "_law_low" = some (.ref f__law_low)) (G__law_low : FnOk P w K mg base CX0 2 f__law_low fd__law_low ["_law_g", "_law_up", "_law_down"] (sp__law_low K))
    {f__law_take : Addr} {fd__law_take : FuncData} (F__law_take : FnP K "_law_take" s__law_take f__law_take fd__law_take) (b__law_take : Binds K fd__law_take ["_law_bag_here", "_law_many"] []) (g__law_take : mg "_law_take" = some (.ref f__law_take)) (G__law_take : FnOk P w K mg base CX0 1 f__law_take fd__law_take ["_law_bag_here", "_law_many"] (sp__law_take K)) :
    FnOk P w K mg base CX0 3 f fd ["_law_bag_here", "_law_g"] (sp__law_number K) := by
  refine F.ok sc__law_number (fun vs H Q E h => ?_) (fun cdv A outer s H vs Q E hr h => ?_)
  · obtain ⟨b, g, rfl, hgr, hb, q⟩ := h
    rfl
  · obtain ⟨b, g, rfl, hgr, hb, q⟩ := h
    refine ⟨_, PSs.nox (pss_cons (ps_if (pt_cmpR op_gt (pv 1) pe_int (nomark _)) (pss_one (ps_ret (pe_tup (pa_cons (pe_call G__law_take (hr.mono (by decide)) (by rfl) g__law_take F__law_take.kp b__law_take .nil pass0 (pa_cons (pv 0) (pa_cons (pv 1) pa_nil))) (pa_cons pe_int pa_nil))))) pss_nil)
        (pss_cons (ps_set (i := 2) sc__law_number.nd rfl (.inl rfl) (pe_ix ix_list (pe_lst (pa_cons pe_int (pa_cons pe_int (pa_cons pe_int (pa_cons pe_int (pa_cons pe_int (pa_cons pe_int pa_nil))))))) (pe_call G__law_take (hr.mono (by decide)) (by rfl) g__law_take F__law_take.kp b__law_take .nil pass0 (pa_cons (pv 0) (pa_cons pe_int pa_nil))) (fun _ _ => rfl)))
        (pss_cons (ps_set (i := 3) sc__law_number.nd rfl (.inl rfl) (pe_ix ix_list (pe_lst (pa_cons pe_int (pa_cons pe_int (pa_cons pe_int (pa_cons (pe_op op_add pe_int (pe_call G__law_take (hr.mono (by decide)) (by rfl) g__law_take F__law_take.kp b__law_take .nil pass0 (pa_cons (pv 0) (pa_cons pe_int pa_nil)))) pa_nil))))) (pe_call G__law_take (hr.mono (by decide)) (by rfl) g__law_take F__law_take.kp b__law_take .nil pass0 (pa_cons (pv 0) (pa_cons pe_int pa_nil))) (fun _ _ => rfl)))
        (pss_one (ps_ret (pe_call G__law_low hr (by rfl) g__law_low F__law_low.kp b__law_low .nil pass0 (pa_cons pe_int (pa_cons (pe_op op_sub (pe_call G__law_take (hr.mono (by decide)) (by rfl) g__law_take F__law_take.kp b__law_take .nil pass0 (pa_cons (pv 0) (pa_cons (pv 2) pa_nil))) (pe_op op_fdivZ (pv 2) pe_int)) (pa_cons (pv 3) pa_nil))))))))), ?_⟩
    have hg' : g = 0 ∨ (3 ≤ g ∧ g ≤ 13) := by
      unfold Gr at hgr
      omega
    walk_at "go"
    refine w_ite (fun hc => ?_) (fun hc => ?_)
    · walk_at "go"
      refine ⟨b, g, rfl, hc, by omega, hb, fun H1 d hd0 hd1 m1 hb1 => ?_⟩
      walk_at "go"
      refine w_new (by simp) fun p H2 hp s2 h2 => ?_
      refine q _ _ ⟨(d, 1), ⟨p, rfl, h2⟩, show (0 : Int) < 1 by decide, show (1 : Int) ∣ 2520 by decide, ?_, ?_⟩ (m1.trans (Mv.same s2)) (hb1.same s2)
      · show d.natAbs ≤ 64 * 2 ^ 0 * (1 : Int).natAbs
        rw [Nat.pow_zero, Nat.mul_one, show (1 : Int).natAbs = 1 from rfl, Nat.mul_one]
        omega
      · rcases hg' with z | z
        · exact .inl z
        · exact .inr ⟨z.1, z.2, rfl⟩
    · walk_at "go"
      refine w_new (by simp) fun p1 H1 hp1 s1 h1 => ?_
      walk_at "go"
      refine ⟨b, 6, rfl, by decide, by decide, hb.same s1, fun H2 d2 h20 h21 m2 hb2 => ?_⟩
      obtain ⟨wd, ew, hw0, hw1⟩ := nu_six h20 h21
      refine w_ixL (m2 _ _ (bag_ne hb hp1) h1) ew ?_
      walk_at "go"
      refine ⟨b, 8, rfl, by decide, by decide, hb2, fun H3 d3 h30 h31 m3 hb3 => ?_⟩
      walk_at "go"
      refine w_new (by simp) fun p4 H4 hp4 s4 h4 => ?_
      walk_at "go"
      refine ⟨b, 4, rfl, by decide, by decide, hb3.same s4, fun H5 d5 h50 h51 m5 hb5 => ?_⟩
      obtain ⟨dn, ed, hdn0, hdn1⟩ := nu_four h50 h51 h30 h31
      refine w_ixL (m5 _ _ (bag_ne hb3 hp4) h4) ed ?_
      walk_at "go"
      refine ⟨b, wd, rfl, by omega, by omega, hb5, fun H6 d6 h60 h61 m6 hb6 => ?_⟩
      walk_at "go"
      refine w_I (divZ_small (by decide) (by decide)) ?_
      walk_at "go"
      refine ⟨0, _, dn, rfl, by decide, by decide, by omega, Nat.lt_of_lt_of_le (show dn.natAbs < 2 ^ 7 by omega) (Nat.pow_le_pow_right (by decide) (by decide)), fun p H7 hp s7 h7 => ?_⟩
      have hu : (d6 - wd.fdiv 2).natAbs ≤ 64 := by
        rw [fdiv_pos _ (by decide)]
        omega
      have e0 : g = 0 := by omega
      subst e0
      exact q _ _ ⟨_, ⟨p, rfl, h7⟩, ng_low hu hdn0 hdn1⟩ ((Mv.same s1).trans (m2.trans (m3.trans ((Mv.same s4).trans (m5.trans (m6.trans (Mv.same s7))))))) (hb6.same s7)
theorem ok__law_bent_number {f : Addr} {fd : FuncData} (F : FnP K "_law_bent_number" s__law_bent_number f fd)
    {f__law_odd : Addr} {fd__law_odd : FuncData} (F__law_odd : FnP K "_law_odd" s__law_odd f__law_odd fd__law_odd) (b__law_odd : Binds K fd__law_odd ["_law_bag_here"] []) (g__law_odd : mg "_law_odd" = some (.ref f__law_odd)) (G__law_odd : FnOk P w K mg base CX0 2 f__law_odd fd__law_odd ["_law_bag_here"] (sp__law_odd K))
    {f__law_take : Addr} {fd__law_take : FuncData} (F__law_take : FnP K "_law_take" s__law_take f__law_take fd__law_take) (b__law_take : Binds K fd__law_take ["_law_bag_here", "_law_many"] []) (g__law_take : mg "_law_take" = some (.ref f__law_take)) (G__law_take : FnOk P w K mg base CX0 1 f__law_take fd__law_take ["_law_bag_here", "_law_many"] (sp__law_take K)) (m_str : mg "str" = none) :
    FnOk P w K mg base CX0 3 f fd ["_law_bag_here", "_law_g", "_law_x"] (sp__law_bent_number K) := by
  refine F.ok sc__law_bent_number (fun vs H Q E h => ?_) (fun cdv A outer s H vs Q E hr h => ?_)
  · obtain ⟨b, g, x, kb, rfl, hx, hk0, hk, hg0, hg, hb, q⟩ := h
    rfl
  · obtain ⟨b, g, x, kb, rfl, hx, hk0, hk, hg0, hg, hb, q⟩ := h
    refine ⟨_, PSs.nox (pss_cons (ps_set (i := 3) sc__law_bent_number.nd rfl (.inl rfl) (pe_lst (pa_cons (pe_tup (pa_cons (pe_op op_mul (pe_ix ix_tup (pv 2) pe_int (fun _ _ => rfl)) pe_int) (pa_cons (pe_op op_mul (pe_ix ix_tup (pv 2) pe_int (fun _ _ => rfl)) pe_int) pa_nil))) (pa_cons (pe_tup (pa_cons (pe_ix ix_tup (pv 2) pe_int (fun _ _ => rfl)) (pa_cons (pe_op op_sub pe_int (pe_ix ix_tup (pv 2) pe_int (fun _ _ => rfl))) pa_nil))) (pa_cons (pe_tup (pa_cons (pe_ix ix_tup (pv 2) pe_int (fun _ _ => rfl)) (pa_cons pe_int pa_nil))) (pa_cons (pe_lst (pa_cons (pe_ix ix_tup (pv 2) pe_int (fun _ _ => rfl)) (pa_cons (pe_ix ix_tup (pv 2) pe_int (fun _ _ => rfl)) pa_nil))) (pa_cons (pe_tup (pa_cons (pe_ix ix_tup (pv 2) pe_int (fun _ _ => rfl)) pa_nil)) (pa_cons (pe_tup (pa_cons (pe_ix ix_tup (pv 2) pe_int (fun _ _ => rfl)) (pa_cons (pe_ix ix_tup (pv 2) pe_int (fun _ _ => rfl)) (pa_cons pe_int pa_nil)))) (pa_cons (pe_tup (pa_cons (pe_cmpR op_eq (pe_ix ix_tup (pv 2) pe_int (fun _ _ => rfl)) pe_int (nomark _)) (pa_cons (pe_ix ix_tup (pv 2) pe_int (fun _ _ => rfl)) pa_nil))) (pa_cons (pe_tup (pa_cons (pe_ix ix_tup (pv 2) pe_int (fun _ _ => rfl)) (pa_cons pe_bl pa_nil))) (pa_cons (pe_ix ix_tup (pv 2) pe_int (fun _ _ => rfl)) (pa_cons (pe_tup (pa_cons (pe_op op_add (pe_ix ix_tup (pv 2) pe_int (fun _ _ => rfl)) (pv 1)) (pa_cons (pe_ix ix_tup (pv 2) pe_int (fun _ _ => rfl)) pa_nil))) (pa_cons (pe_tup (pa_cons (pe_op op_sub (pe_ix ix_tup (pv 2) pe_int (fun _ _ => rfl)) (pv 1)) (pa_cons (pe_ix ix_tup (pv 2) pe_int (fun _ _ => rfl)) pa_nil))) (pa_cons (pe_tup (pa_cons (pe_ix ix_tup (pv 2) pe_int (fun _ _ => rfl)) (pa_cons (pe_ix ix_tup (pv 2) pe_int (fun _ _ => rfl)) pa_nil))) (pa_cons (pe_tup (pa_cons pe_int (pa_cons pe_int pa_nil))) (pa_cons (pe_tup (pa_cons (pe_callTy call_str_int (by rfl) m_str (by decide +kernel) (pa_cons (pe_ix ix_tup (pv 2) pe_int (fun _ _ => rfl)) pa_nil)) (pa_cons (pe_ix ix_tup (pv 2) pe_int (fun _ _ => rfl)) pa_nil))) (pa_cons (pe_call G__law_odd hr (by rfl) g__law_odd F__law_odd.kp b__law_odd .nil pass0 (pa_cons (pv 0) pa_nil)) (pa_cons (pe_tup (pa_cons (pe_op op_add (pe_ix ix_tup (pv 2) pe_int (fun _ _ => rfl)) pe_int) (pa_cons (pe_ix ix_tup (pv 2) pe_int (fun _ _ => rfl)) pa_nil))) pa_nil))))))))))))))))))
        (pss_one (ps_ret (pe_ix ix_list (pv 3) (pe_call G__law_take (hr.mono (by decide)) (by rfl) g__law_take F__law_take.kp b__law_take .nil pass0 (pa_cons (pv 0) (pa_cons pe_int pa_nil))) (fun _ _ => rfl))))), ?_⟩
    obtain ⟨⟨x0, x1⟩, ⟨px, rfl, hx⟩, hx0, hx1⟩ := hx
    have h16 : 16 ≤ 2 ^ kb := Nat.le_trans (by decide : 16 ≤ 2 ^ 4) (Nat.pow_le_pow_right (by decide) (by omega))
    have e2 : 2 ^ (kb + 1) = 2 ^ kb * 2 := Nat.pow_succ ..
    have k0 : x0.natAbs < 2 ^ (kb + 1) := by omega
    have k1 : x1.natAbs < 2 ^ (kb + 1) := by omega
    have k2 : (x0 * 2).natAbs < 2 ^ (kb + 1) := by omega
    have k3 : (x1 * 2).natAbs < 2 ^ (kb + 1) := by omega
    have k4 : (0 - x1).natAbs < 2 ^ (kb + 1) := by omega
    have k5 : (x0 + g).natAbs < 2 ^ (kb + 1) := by omega
    have k6 : (x0 - g).natAbs < 2 ^ (kb + 1) := by omega
    have k7 : (x0 + 1).natAbs < 2 ^ (kb + 1) := by omega
    have k8 : (0 : Int).natAbs < 2 ^ (kb + 1) := by omega
    have k9 : (1 : Int).natAbs < 2 ^ (kb + 1) := by omega
    have k10 : (2 : Int).natAbs < 2 ^ (kb + 1) := by omega
    walk_at "go"
    refine w_I (.inr ⟨by decide, by decide⟩) ?_
    walk_at "go"
    refine w_I (.inr ⟨by decide, by decide⟩) ?_
    walk_at "go"
    refine w_new (by simp) fun p1 H1 hp1 s1 h1 => ?_
    have t1 : TB (kb + 1) 1 H1 (.ref p1) := TB.tupA h1 (by simp) (by simp only [List.mem_cons, List.not_mem_nil, or_false]; intro z hz; (repeat' (rcases hz with rfl | hz)); all_goals first | (subst hz; first | exact True.intro | assumption) | exact True.intro | assumption)
    have hx1' : H1 px = some (.tup [.int x0, .int x1]) := s1 _ _ hx
    walk_at "go"
    refine w_new (by simp) fun p2 H2 hp2 s2 h2 => ?_
    have t2 : TB (kb + 1) 1 H2 (.ref p2) := TB.tupA h2 (by simp) (by simp only [List.mem_cons, List.not_mem_nil, or_false]; intro z hz; (repeat' (rcases hz with rfl | hz)); all_goals first | (subst hz; first | exact True.intro | assumption) | exact True.intro | assumption)
    have hx2' : H2 px = some (.tup [.int x0, .int x1]) := s2 _ _ hx1'
    walk_at "go"
    refine w_new (by simp) fun p3 H3 hp3 s3 h3 => ?_
    have t3 : TB (kb + 1) 1 H3 (.ref p3) := TB.tupA h3 (by simp) (by simp only [List.mem_cons, List.not_mem_nil, or_false]; intro z hz; (repeat' (rcases hz with rfl | hz)); all_goals first | (subst hz; first | exact True.intro | assumption) | exact True.intro | assumption)
    have hx3' : H3 px = some (.tup [.int x0, .int x1]) := s3 _ _ hx2'
    walk_at "go"
    refine w_new (by simp) fun p4 H4 hp4 s4 h4 => ?_
    have t4 : TB (kb + 1) 1 H4 (.ref p4) := TB.lst h4
    have hx4' : H4 px = some (.tup [.int x0, .int x1]) := s4 _ _ hx3'
    walk_at "go"
    refine w_new (by simp) fun p5 H5 hp5 s5 h5 => ?_
    have t5 : TB (kb + 1) 1 H5 (.ref p5) := TB.tupA h5 (by simp) (by simp only [List.mem_cons, List.not_mem_nil, or_false]; intro z hz; (repeat' (rcases hz with rfl | hz)); all_goals first | (subst hz; first | exact True.intro | assumption) | exact True.intro | assumption)
    have hx5' : H5 px = some (.tup [.int x0, .int x1]) := s5 _ _ hx4'
    walk_at "go"
    refine w_new (by simp) fun p6 H6 hp6 s6 h6 => ?_
    have t6 : TB (kb + 1) 1 H6 (.ref p6) := TB.tupA h6 (by simp) (by simp only [List.mem_cons, List.not_mem_nil, or_false]; intro z hz; (repeat' (rcases hz with rfl | hz)); all_goals first | (subst hz; first | exact True.intro | assumption) | exact True.intro | assumption)
    have hx6' : H6 px = some (.tup [.int x0, .int x1]) := s6 _ _ hx5'
    walk_at "go"
    refine w_new (by simp) fun p7 H7 hp7 s7 h7 => ?_
    have t7 : TB (kb + 1) 1 H7 (.ref p7) := TB.tupA h7 (by simp) (by simp only [List.mem_cons, List.not_mem_nil, or_false]; intro z hz; (repeat' (rcases hz with rfl | hz)); all_goals first | (subst hz; first | exact True.intro | assumption) | exact True.intro | assumption)
    have hx7' : H7 px = some (.tup [.int x0, .int x1]) := s7 _ _ hx6'
    walk_at "go"
    refine w_new (by simp) fun p8 H8 hp8 s8 h8 => ?_
    have t8 : TB (kb + 1) 1 H8 (.ref p8) := TB.tupA h8 (by simp) (by simp only [List.mem_cons, List.not_mem_nil, or_false]; intro z hz; (repeat' (rcases hz with rfl | hz)); all_goals first | (subst hz; first | exact True.intro | assumption) | exact True.intro | assumption)
    have hx8' : H8 px = some (.tup [.int x0, .int x1]) := s8 _ _ hx7'
    walk_at "go"
    refine w_new (by simp) fun p9 H9 hp9 s9 h9 => ?_
    have t9 : TB (kb + 1) 1 H9 (.ref p9) := TB.tupA h9 (by simp) (by simp only [List.mem_cons, List.not_mem_nil, or_false]; intro z hz; (repeat' (rcases hz with rfl | hz)); all_goals first | (subst hz; first | exact True.intro | assumption) | exact True.intro | assumption)
    have hx9' : H9 px = some (.tup [.int x0, .int x1]) := s9 _ _ hx8'
    walk_at "go"
    refine w_new (by simp) fun p10 H10 hp10 s10 h10 => ?_
    have t10 : TB (kb + 1) 1 H10 (.ref p10) := TB.tupA h10 (by simp) (by simp only [List.mem_cons, List.not_mem_nil, or_false]; intro z hz; (repeat' (rcases hz with rfl | hz)); all_goals first | (subst hz; first | exact True.intro | assumption) | exact True.intro | assumption)
    have hx10' : H10 px = some (.tup [.int x0, .int x1]) := s10 _ _ hx9'
    walk_at "go"
    refine w_new (by simp) fun p11 H11 hp11 s11 h11 => ?_
    have t11 : TB (kb + 1) 1 H11 (.ref p11) := TB.tupA h11 (by simp) (by simp only [List.mem_cons, List.not_mem_nil, or_false]; intro z hz; (repeat' (rcases hz with rfl | hz)); all_goals first | (subst hz; first | exact True.intro | assumption) | exact True.intro | assumption)
    have hx11' : H11 px = some (.tup [.int x0, .int x1]) := s11 _ _ hx10'
    walk_at "go"
    refine w_new (by simp) fun p12 H12 hp12 s12 h12 => ?_
    have t12 : TB (kb + 1) 1 H12 (.ref p12) := TB.tupA h12 (by simp) (by simp only [List.mem_cons, List.not_mem_nil, or_false]; intro z hz; (repeat' (rcases hz with rfl | hz)); all_goals first | (subst hz; first | exact True.intro | assumption) | exact True.intro | assumption)
    have hx12' : H12 px = some (.tup [.int x0, .int x1]) := s12 _ _ hx11'
    walk_at "go"
    refine ⟨sm_of hx0 (by omega) (by omega), ?_⟩
    walk_at "go"
    refine w_new (by simp) fun p13 H13 hp13 s13 h13 => ?_
    have t13 : TB (kb + 1) 1 H13 (.ref p13) := TB.tupA h13 (by simp) (by simp only [List.mem_cons, List.not_mem_nil, or_false]; intro z hz; (repeat' (rcases hz with rfl | hz)); all_goals first | (subst hz; first | exact True.intro | assumption) | exact True.intro | assumption)
    have hx13' : H13 px = some (.tup [.int x0, .int x1]) := s13 _ _ hx12'
    walk_at "go"
    have sA := (s1.trans (s2.trans (s3.trans (s4.trans (s5.trans (s6.trans (s7.trans (s8.trans (s9.trans (s10.trans (s11.trans (s12.trans s13))))))))))))
    refine ⟨b, rfl, hb.same sA, fun HO v0 t0' mO hbO => ?_⟩
    have t0 : TB (kb + 1) 1 HO v0 := t0'.wide (by omega)
    clear t0'
    have kO := Kd.mv mO (hb.same sA) hbO
    have hxO := kO.1 _ _ hx13'
    walk_at "go"
    refine w_new (by simp) fun p14 H14 hp14 s14 h14 => ?_
    have t14 : TB (kb + 1) 1 H14 (.ref p14) := TB.tupA h14 (by simp) (by simp only [List.mem_cons, List.not_mem_nil, or_false]; intro z hz; (repeat' (rcases hz with rfl | hz)); all_goals first | (subst hz; first | exact True.intro | assumption) | exact True.intro | assumption)
    walk_at "go"
    refine w_new (by simp) fun L HL hL sL hLL => ?_
    walk_at "go"
    have hbL := (hbO.same s14).same sL
    refine ⟨b, 16, rfl, by decide, by decide, hbL, fun HZ d hd0 hd1 mZ hbZ => ?_⟩
    have nL : L ≠ b := bag_ne hbO (s14.free hL)
    obtain ⟨v, ev, hv⟩ := atI_some hd0 (show d < (([V.ref p1, V.ref p2, V.ref p3, V.ref p4, V.ref p5, V.ref p6, V.ref p7, V.ref p8, V.int x0, V.ref p9, V.ref p10, V.ref p11, V.ref p12, V.ref p13, v0, V.ref p14] : List V).length : Int) from hd1)
    refine w_ixL (mZ _ _ nL hLL) ev ?_
    have hT : TB (kb + 1) 1 HL v := by
      clear sA
      simp only [List.mem_cons, List.not_mem_nil, or_false] at hv
      rcases hv with rfl | rfl | rfl | rfl | rfl | rfl | rfl | rfl | rfl | rfl | rfl | rfl | rfl | rfl | rfl | rfl
      all_goals first | exact .inl k0 | walk_at "tr"
    exact q _ _ (hT.kd' (Kd.mv mZ hbL hbZ)) (((Mv.same sA).trans mO).trans (((Mv.same s14).trans (Mv.same sL)).trans mZ)) hbZ
theorem ok_is_table {f : Addr} {fd : FuncData} (F : FnP K "is_table" s_is_table f fd)
    {f_is_row : Addr} {fd_is_row : FuncData} (F_is_row : FnP K "is_row" s_is_row f_is_row fd_is_row) (b_is_row : Binds K fd_is_row ["ground", "thing", "many"] []) (g_is_row : mg "is_row" = some (.ref f_is_row)) (G_is_row : FnOk P w K mg base CX0 3 f_is_row fd_is_row ["ground", "thing", "many"] (sp_is_row K)) (m_all : mg "all" = none) (m_isinstance : mg "isinstance" = none) (m_tuple : mg "tuple" = none) (m_len : mg "len" = none) :
    FnOk P w K mg base CX0 4 f fd ["ground", "thing", "high", "wide"] (sp_is_table K) := by
  refine F.ok sc_is_table (fun vs H Q E h => ?_) (fun cdv A outer s H vs Q E hr h => ?_)
  · obtain ⟨g, v, m, w, kb, nb, rfl, hv, q⟩ := h
    rfl
  · obtain ⟨g, v, m, w, kb, nb, rfl, hv, q⟩ := h
    refine ⟨_, PSs.nox (pss_cons (ps_if (PW.pt (pw_or (pt_not (pt_val (pe_callB call_isi (by rfl) m_isinstance (by decide +kernel) (pa_cons (pv 1) (pa_cons (pe_bltn (v := .ty "tuple") (by rfl) m_tuple (by decide +kernel) rfl) pa_nil))))) (pw_or1 (pt_cmpR op_ne (pe_callB call_len_seq (by rfl) m_len (by decide +kernel) (pa_cons (pv 1) pa_nil)) (pv 2) (nomark _))))) (pss_one (ps_ret pe_bl)) pss_nil)
        (pss_one (ps_ret (pe_callB (cr_all rfl) (by rfl) m_all (by decide +kernel) (pa_cons (pe_lc (own := [("row", 4)]) (g := gName 4) (tt := tYes) (by rfl) sc_is_table.nd (pi_tup (pv 1)) (blkOk_by (own := [("row", 4)]) (N := ["ground", "thing", "high", "wide", "row"]) (sc := defScope s_is_table) (by decide +kernel)) (fun _ _ _ _ _ => (pg_name (i := 4) sc_is_table.nd rfl (.inl rfl))) (fun _ _ _ _ _ => pts_nil) (fun _ _ _ _ _ => (pe_call G_is_row hr (by rfl) g_is_row F_is_row.kp b_is_row .nil pass0 (pa_cons (pv 0) (pa_cons (pv 4) (pa_cons (pv 3) pa_nil)))))) pa_nil))))), ?_⟩
    walk_at "go"
    refine tb_tup hv (fun p xs e hp hz hx => ?_) (fun hn => ?_)
    · subst e
      rw [tabOf_tup hp] at q
      walk_at "go"
      refine iteF ?_
      walk_at "go"
      refine ⟨p, xs, rfl, .inr (SqT.of hp), ?_⟩
      walk_at "go"
      refine w_iteN (fun hl => ?_) (fun hl => ?_)
      · walk_at "go"
        rw [decide_eq_false hl] at q
        exact q _ (Same.refl _)
      · rw [decide_eq_true hl] at q
        walk_at "go"
        refine ⟨p, rfl, ⟨xs, SqT.of hp⟩, fun D hD => ?_⟩
        refine lc_tup (xs := xs) (fun i H' => Same H H' ∧ H' D = some (.lst (((xs.map (rowOf H g w)).take i).map V.bl))) ⟨Same.updD (Same.refl H) hD, upd_same⟩ (fun i H' _ hP => SqT.of (hP.1 _ _ hp)) (fun i x H' hxi hP => ?_) (fun H' hP => ?_)
        · obtain ⟨sm, hD'⟩ := hP
          have hmem := List.mem_of_getElem? hxi
          walk_at "go"
          refine ⟨rfl, ?_⟩
          walk_at "go"
          refine ⟨g, x, w, kb, nb, rfl, (hx x hmem).kd (Kd.of sm), fun H2 s2 => ?_⟩
          rw [rowOf_tb (hx x hmem) (Kd.of sm)]
          refine ⟨_, s2 _ _ hD', ?_, Same.updD (sm.trans s2) hD, ?_⟩
          · rw [List.length_map]
            exact small1000 (Nat.le_trans (List.length_take_le' _ _) (by rw [List.length_map]; omega))
          · rw [upd_same, List.take_add_one, List.getElem?_map, hxi, List.map_append]
            rfl
        · obtain ⟨sm, hD'⟩ := hP
          walk_at "go"
          rw [List.take_of_length_le (by rw [List.length_map]; exact Nat.le_refl _)] at hD'
          refine ⟨D, _, rfl, SqL.of hD', ?_⟩
          rw [all_map]
          exact q _ sm
    · rw [tabOf_no hn] at q
      walk_at "go"
      refine iteT ?_
      walk_at "go"
      exact q _ (Same.refl _)
theorem ok_product {f : Addr} {fd : FuncData} (F : FnP K "product" s_product f fd)
    {f_whole_row : Addr} {fd_whole_row : FuncData} (F_whole_row : FnP K "whole_row" s_whole_row f_whole_row fd_whole_row) (b_whole_row : Binds K fd_whole_row ["row"] []) (g_whole_row : mg "whole_row" = some (.ref f_whole_row)) (G_whole_row : FnOk P w K mg base CX0 2 f_whole_row fd_whole_row ["row"] (sp_whole_row K))
    {f_turned : Addr} {fd_turned : FuncData} (F_turned : FnP K "turned" s_turned f_turned fd_turned) (b_turned : Binds K fd_turned ["table"] []) (g_turned : mg "turned" = some (.ref f_turned)) (G_turned : FnOk P w K mg base CX0 1 f_turned fd_turned ["table"] (sp_turned K))
    {f_product_row : Addr} {fd_product_row : FuncData} (F_product_row : FnP K "product_row" s_product_row f_product_row fd_product_row) (b_product_row : Binds K fd_product_row ["ground", "row", "columns"] []) (g_product_row : mg "product_row" = some (.ref f_product_row)) (G_product_row : FnOk P w K mg base CX0 3 f_product_row fd_product_row ["ground", "row", "columns"] (sp_product_row K)) (m_tuple : mg "tuple" = none) :
    FnOk P w K mg base CX0 4 f fd ["ground", "one", "other"] (sp_product K) := by
  refine F.ok sc_product (fun vs H Q E h => ?_) (fun cdv A outer s H vs Q E hr h => ?_)
  · obtain ⟨g, v1, v2, t1, t2, n, l, k, rfl, hg, hv1, hv2, h1, ht2, h2, hn0, hn, hl, ht1, hk0, hk, q⟩ := h
    rfl
  · obtain ⟨g, v1, v2, t1, t2, n, l, k, rfl, hg, hv1, hv2, h1, ht2, h2, hn0, hn, hl, ht1, hk0, hk, q⟩ := h
    refine ⟨_, PSs.nox (pss_cons (ps_set (i := 3) sc_product.nd rfl (.inr rfl) (pe_lc (own := [("column", 4)]) (g := gName 4) (tt := tYes) (by rfl) sc_product.nd (pi_tup (pe_call G_turned (hr.mono (by decide)) (by rfl) g_turned F_turned.kp b_turned .nil pass0 (pa_cons (pv 2) pa_nil))) (blkOk_by (own := [("column", 4)]) (N := ["ground", "one", "other", "columns", "column", "row"]) (sc := defScope s_product) (by decide +kernel)) (fun _ _ _ _ _ => (pg_name (i := 4) sc_product.nd rfl (.inl rfl))) (fun _ _ _ _ _ => pts_nil) (fun _ _ _ _ _ => (pe_call G_whole_row (hr.mono (by decide)) (by rfl) g_whole_row F_whole_row.kp b_whole_row .nil pass0 (pa_cons (pv 4) pa_nil)))))
        (pss_one (ps_ret (pe_callTy call_tuple_of (by rfl) m_tuple (by decide +kernel) (pa_cons (pe_lc (own := [("row", 5)]) (g := gName 5) (tt := tYes) (by rfl) sc_product.nd (pi_tup (pv 1)) (blkOk_by (own := [("row", 5)]) (N := ["ground", "one", "other", "columns", "column", "row"]) (sc := defScope s_product) (by decide +kernel)) (fun _ _ _ _ _ => (pg_name (i := 5) sc_product.nd rfl (.inl rfl))) (fun _ _ _ _ _ => pts_nil) (fun _ _ _ _ _ => (pe_call G_product_row hr (by rfl) g_product_row F_product_row.kp b_product_row .nil pass0 (pa_cons (pv 0) (pa_cons (pe_call G_whole_row (hr.mono (by decide)) (by rfl) g_whole_row F_whole_row.kp b_whole_row .nil pass0 (pa_cons (pv 5) pa_nil)) (pa_cons (pv 3) pa_nil)))))) pa_nil))))), ?_⟩
    walk_at "go"
    refine ⟨v2, t2, l, rfl, hv2, by omega, by omega, fun r hr' => (h2 r hr').1, hl, fun vt H1 s1 htv => ?_⟩
    obtain ⟨pt, cx, rfl, hpt, hlcx, hcx⟩ := htv
    have hcols := turn_ok ht2 h2
    have hlt : (turnF l t2).length = l := by unfold turnF; rw [List.length_map, List.length_range]
    refine ⟨pt, rfl, ⟨cx, SqT.of hpt⟩, fun D hD => ?_⟩
    refine lc_tup (xs := cx) (fun i H' => Same H1 H' ∧ ∃ cs, H' D = some (.lst cs) ∧ Acc (WRn D) H' cs (turnF l t2) i) ⟨Same.updD (Same.refl H1) hD, [], upd_same, Acc.nil⟩ (fun i H' _ hP => SqT.of (hP.1 _ _ hpt)) (fun i x H' hxi hP => ?_) (fun H2 hP => ?_)
    · obtain ⟨sm, cs, hD', hacc⟩ := hP
      have hi : i < (turnF l t2).length := by
        have := (List.getElem?_eq_some_iff.mp hxi).1
        omega
      have hti : (turnF l t2)[i]? = some (turnF l t2)[i] := List.getElem?_eq_getElem hi
      have hmem := List.getElem_mem hi
      walk_at "go"
      refine ⟨rfl, ?_⟩
      walk_at "go"
      refine ⟨x, (turnF l t2)[i], g, k, rfl, RowV.kt (hcx i x _ hxi hti) (Kt.of sm), (hcols _ hmem).2, hk0, hk, by have := (hcols _ hmem).1; omega, fun p3 L3 H3 s3 hL3 h3 h3L => ?_⟩
      have h3D := s3 _ _ hD'
      have nL : L3 ≠ D := fun e => by
        rw [e, hD'] at hL3
        cases hL3
      refine ⟨cs, h3D, small1000 (by rw [hacc.1]; omega), Same.updD (sm.trans s3) hD, _, upd_same, ?_⟩
      exact (hacc.mono fun x a h => (h.sm s3).upd h3D).snoc hti (WRn.upd ⟨p3, L3, rfl, nL, h3, h3L⟩ h3D)
    · obtain ⟨sm, cs, hD', hacc⟩ := hP
      obtain ⟨p1, xs, rfl, hp1, hlx, hx⟩ := hv1
      have s02 := s1.trans sm
      have hp1' := s02 _ _ hp1
      walk_at "go"
      refine ⟨p1, rfl, ⟨xs, SqT.of hp1'⟩, fun D2 hD2 => ?_⟩
      refine lc_tup (xs := xs) (fun i H' => Same H2 H' ∧ ∃ ys, H' D2 = some (.lst ys) ∧ Acc RowV H' ys (t1.map fun r => (turnF l t2).map (cellF g r)) i) ⟨Same.updD (Same.refl H2) hD2, [], upd_same, Acc.nil⟩ (fun i H' _ hP => SqT.of (hP.1 _ _ hp1')) (fun i x H' hxi hP => ?_) (fun H' hP => ?_)
      · obtain ⟨sm3, ys, hD2', hacc2⟩ := hP
        have hi : i < t1.length := by
          have := (List.getElem?_eq_some_iff.mp hxi).1
          omega
        have hti : t1[i]? = some t1[i] := List.getElem?_eq_getElem hi
        have hmem := List.getElem_mem hi
        walk_at "go"
        refine ⟨rfl, ?_⟩
        walk_at "go"
        refine ⟨x, t1[i], g, k, rfl, RowV.kt (hx i x _ hxi hti) (Kt.of (s02.trans sm3)), (h1 _ hmem).2, hk0, hk, by have := (h1 _ hmem).1; omega, fun p4 L4 H4 s4 hL4 h4 h4L => ?_⟩
        walk_at "go"
        have s24 := sm3.trans s4
        refine ⟨g, .ref p4, D, t1[i], turnF l t2, cs, k, rfl, hg, ⟨p4, L4, rfl, h4, h4L⟩, (h1 _ hmem).2, s24 _ _ hD', by rw [hacc.1]; exact hlcx, fun j y s hy hs => ?_, fun s hs => ⟨by rw [(hcols s hs).1, (h1 _ hmem).1], (hcols s hs).2⟩, hk, by have := (h1 _ hmem).1; omega, by omega, fun v5 H5 s5 h5 => ?_⟩
        · obtain ⟨pp, LL, e1, _, e2, e3⟩ := hacc.2 j y s hy hs
          exact ⟨pp, LL, e1, s24 _ _ e2, s24 _ _ e3⟩
        · have hD5 := s5 _ _ (s4 _ _ hD2')
          have kt : Kt H' (upd H5 D2 (.lst (ys ++ [v5]))) := (Kt.of (s4.trans s5)).trans (Kt.updL hD5)
          refine ⟨ys, hD5, small1000 (by rw [hacc2.1]; omega), Same.updD ((sm3.trans s4).trans s5) hD2, _, upd_same, ?_⟩
          exact (hacc2.mono fun x a h => RowV.kt h kt).snoc (by rw [List.getElem?_map, hti]; rfl) (RowV.kt h5 (Kt.updL hD5))
      · obtain ⟨sm3, ys, hD2', hacc2⟩ := hP
        walk_at "go"
        refine ⟨_, _, rfl, .inl ⟨SqL.of hD2', fun m hm => ?_⟩⟩
        exact q _ _ (s02.trans (sm3.trans (same_upd hm))) ((hacc2.mono fun x a h => RowV.kt h (Kt.of (same_upd hm))).sq (by rw [List.length_map]; exact hlx) upd_same)
theorem ok__law_is_table {f : Addr} {fd : FuncData} (F : FnP K "_law_is_table" s__law_is_table f fd)
    {f__law_is_row : Addr} {fd__law_is_row : FuncData} (F__law_is_row : FnP K "_law_is_row" s__law_is_row f__law_is_row fd__law_is_row) (b__law_is_row : Binds K fd__law_is_row ["_law_g", "_law_thing", "_law_many"] []) (g__law_is_row : mg "_law_is_row" = some (.ref f__law_is_row)) (G__law_is_row : FnOk P w K mg base CX0 3 f__law_is_row fd__law_is_row ["_law_g", "_law_thing", "_law_many"] (sp__law_is_row K)) (m_isinstance : mg "isinstance" = none) (m_tuple : mg "tuple" = none) (m_all : mg "all" = none) (m_len : mg "len" = none) :
    FnOk P w K mg base CX0 4 f fd ["_law_g", "_law_thing", "_law_high", "_law_wide"] (sp__law_is_table K) := by
  refine F.ok sc__law_is_table (fun vs H Q E h => ?_) (fun cdv A outer s H vs Q E hr h => ?_)
  · obtain ⟨g, v, m, w, kb, nb, rfl, hg0, hv, q⟩ := h
    rfl
  · obtain ⟨g, v, m, w, kb, nb, rfl, hg0, hv, q⟩ := h
    refine ⟨_, PSs.nox (pss_one (ps_ret (pe_and (pe_callB call_isi (by rfl) m_isinstance (by decide +kernel) (pa_cons (pv 1) (pa_cons (pe_bltn (v := .ty "tuple") (by rfl) m_tuple (by decide +kernel) rfl) pa_nil))) (pe_and (pe_cmpR op_eq (pe_callB call_len_seq (by rfl) m_len (by decide +kernel) (pa_cons (pv 1) pa_nil)) (pv 2) (nomark _)) (pe_one (pe_callB (cr_all rfl) (by rfl) m_all (by decide +kernel) (pa_cons (pe_lc (own := [("_law_row_here", 4)]) (g := gName 4) (tt := tYes) (by rfl) sc__law_is_table.nd (pi_tup (pv 1)) (blkOk_by (own := [("_law_row_here", 4)]) (N := ["_law_g", "_law_thing", "_law_high", "_law_wide", "_law_row_here"]) (sc := defScope s__law_is_table) (by decide +kernel)) (fun _ _ _ _ _ => (pg_name (i := 4) sc__law_is_table.nd rfl (.inl rfl))) (fun _ _ _ _ _ => pts_nil) (fun _ _ _ _ _ => (pe_call G__law_is_row hr (by rfl) g__law_is_row F__law_is_row.kp b__law_is_row .nil pass0 (pa_cons (pv 0) (pa_cons (pv 4) (pa_cons (pv 3) pa_nil)))))) pa_nil))))))), ?_⟩
    walk_at "go"
    refine tb_tup hv (fun p xs e hp hz hx => ?_) (fun hn => ?_)
    · subst e
      rw [tabOf_tup hp] at q
      walk_at "go"
      refine ⟨p, xs, rfl, .inr (SqT.of hp), ?_⟩
      walk_at "go"
      refine w_ite (fun hl => ?_) (fun hl => ?_)
      · rw [decide_eq_true hl] at q
        walk_at "go"
        refine ⟨p, rfl, ⟨xs, SqT.of hp⟩, fun D hD => ?_⟩
        refine lc_tup (xs := xs) (fun i H' => Same H H' ∧ H' D = some (.lst (((xs.map (rowOf H g w)).take i).map V.bl))) ⟨Same.updD (Same.refl H) hD, upd_same⟩ (fun i H' _ hP => SqT.of (hP.1 _ _ hp)) (fun i x H' hxi hP => ?_) (fun H' hP => ?_)
        · obtain ⟨sm, hD'⟩ := hP
          have hmem := List.mem_of_getElem? hxi
          walk_at "go"
          refine ⟨rfl, ?_⟩
          walk_at "go"
          refine ⟨g, x, w, kb, nb, rfl, hg0, (hx x hmem).kd (Kd.of sm), fun H2 s2 => ?_⟩
          rw [rowOf_tb (hx x hmem) (Kd.of sm)]
          refine ⟨_, s2 _ _ hD', ?_, Same.updD (sm.trans s2) hD, ?_⟩
          · rw [List.length_map]
            exact small1000 (Nat.le_trans (List.length_take_le' _ _) (by rw [List.length_map]; omega))
          · rw [upd_same, List.take_add_one, List.getElem?_map, hxi, List.map_append]
            rfl
        · obtain ⟨sm, hD'⟩ := hP
          walk_at "go"
          rw [List.take_of_length_le (by rw [List.length_map]; exact Nat.le_refl _)] at hD'
          refine ⟨D, _, rfl, SqL.of hD', ?_⟩
          rw [all_map]
          exact q _ sm
      · walk_at "go"
        rw [decide_eq_false hl] at q
        exact q _ (Same.refl _)
    · rw [tabOf_no hn] at q
      walk_at "go"
      exact q _ (Same.refl _)
theorem ok__law_sum {f : Addr} {fd : FuncData} (F : FnP K "_law_sum" s__law_sum f fd)
    {f__law_plus : Addr} {fd__law_plus : FuncData} (F__law_plus : FnP K "_law_plus" s__law_plus f__law_plus fd__law_plus) (b__law_plus : Binds K fd__law_plus ["_law_g", "_law_x", "_law_y"] []) (g__law_plus : mg "_law_plus" = some (.ref f__law_plus)) (G__law_plus : FnOk P w K mg base CX0 3 f__law_plus fd__law_plus ["_law_g", "_law_x", "_law_y"] (sp__law_plus K)) :
    FnOk P w K mg base CX0 4 f fd ["_law_g", "_law_some"] (sp__law_sum K) := by
  refine F.ok sc__law_sum (fun vs H Q E h => ?_) (fun cdv A outer s H vs Q E hr h => ?_)
  · obtain ⟨g, L, xs, as, rfl, hg0, hg, hL, hacc, has, hps, q⟩ := h
    rfl
  · obtain ⟨g, L, xs, as, rfl, hg0, hg, hL, hacc, has, hps, q⟩ := h
    refine ⟨_, PSs.nox (pss_cons (ps_set (i := 2) sc__law_sum.nd rfl (.inl rfl) (pe_tup (pa_cons pe_int (pa_cons pe_int pa_nil))))
        (pss_cons (ps_for PassesOwn.never rfl (pi_list (pv 1)) (pg_name (i := 3) sc__law_sum.nd rfl (.inl rfl)) (pss_one (ps_set (i := 2) sc__law_sum.nd rfl (.inl rfl) (pe_call G__law_plus hr (by rfl) g__law_plus F__law_plus.kp b__law_plus .nil pass0 (pa_cons (pv 0) (pa_cons (pv 2) (pa_cons (pv 3) pa_nil)))))))
        (pss_one (ps_ret (pv 2))))), ?_⟩
    walk_at "go"
    refine w_new (by simp) fun p1 H1 hp1 s1 h1 => ?_
    walk_at "go"
    refine ⟨L, rfl, ⟨xs, SqL.of (s1 _ _ hL)⟩, ?_⟩
    refine for_list (xs := xs) (fun i σ H' => Same H H' ∧ ∃ v y, σ = [some (.int g), some (.ref L), some v, y] ∧ NumV H' v ((as.take i).foldl (plusF g) (0, 1))) ⟨s1, _, _, rfl, p1, rfl, h1⟩ (fun i σ H' _ hP => SqL.of (hP.1 _ _ hL)) (fun i x σ H' hxi hP => ?_) (fun σ H' hP => ?_)
    · obtain ⟨sm, v, y, rfl, hv⟩ := hP
      have hi : i < as.length := by
        have := (List.getElem?_eq_some_iff.mp hxi).1
        have := hacc.1
        omega
      have hai : as[i]? = some as[i] := List.getElem?_eq_getElem hi
      walk_at "go"
      refine ⟨g, v, x, _, as[i], rfl, hg0, hg, hv, (hacc.2 i x _ hxi hai).kt (Kt.of sm), hps i, has _ (List.getElem_mem hi), fun p2 H2 hp2 s2 h2 => ?_⟩
      walk_at "go"
      refine ⟨sm.trans s2, _, _, rfl, p2, rfl, ?_⟩
      rw [List.take_add_one, hai]
      simp only [Option.toList_some, List.foldl_append, List.foldl_cons, List.foldl_nil]
      exact h2
    · obtain ⟨sm, v, y, rfl, hv⟩ := hP
      rw [List.take_of_length_le (by have := hacc.1; omega)] at hv
      walk_at "go"
      exact q _ _ sm hv
theorem ok__law_row {f : Addr} {fd : FuncData} (F : FnP K "_law_row" s__law_row f fd)
    {f__law_number : Addr} {fd__law_number : FuncData} (F__law_number : FnP K "_law_number" s__law_number f__law_number fd__law_number) (b__law_number : Binds K fd__law_number ["_law_bag_here", "_law_g"] []) (g__law_number : mg "_law_number" = some (.ref f__law_number)) (G__law_number : FnOk P w K mg base CX0 3 f__law_number fd__law_number ["_law_bag_here", "_law_g"] (sp__law_number K)) (m_tuple : mg "tuple" = none) (m_range : mg "range" = none) :
    FnOk P w K mg base CX0 4 f fd ["_law_bag_here", "_law_g", "_law_many"] (sp__law_row K) := by
  refine F.ok sc__law_row (fun vs H Q E h => ?_) (fun cdv A outer s H vs Q E hr h => ?_)
  · obtain ⟨b, g, m, rfl, hgr, hm0, hm, hb, q⟩ := h
    rfl
  · obtain ⟨b, g, m, rfl, hgr, hm0, hm, hb, q⟩ := h
    refine ⟨_, PSs.nox (pss_one (ps_ret (pe_callTy call_tuple_of (by rfl) m_tuple (by decide +kernel) (pa_cons (pe_lc (own := [("_law_k", 3)]) (g := gName 3) (tt := tYes) (by rfl) sc__law_row.nd (pi_range1 (by rfl) m_range (pa_cons (pv 2) pa_nil)) (blkOk_by (own := [("_law_k", 3)]) (N := ["_law_bag_here", "_law_g", "_law_many", "_law_k"]) (sc := defScope s__law_row) (by decide +kernel)) (fun _ _ _ _ _ => (pg_name (i := 3) sc__law_row.nd rfl (.inl rfl))) (fun _ _ _ _ _ => pts_nil) (fun _ _ _ _ _ => (pe_call G__law_number hr (by rfl) g__law_number F__law_number.kp b__law_number .nil pass0 (pa_cons (pv 0) (pa_cons (pv 1) pa_nil))))) pa_nil)))), ?_⟩
    walk_at "go"
    refine ⟨by omega, by omega, fun D hD => ?_⟩
    have nD := bag_ne hb hD
    refine lc_range (fun i H' => Mv b H H' ∧ Bag H' b ∧ ∃ xs : List V, H' D = some (.lst xs) ∧ xs.length = i ∧ ∀ x ∈ xs, NumG g H' x 0) ⟨(Mv.refl b H).updD hD, hb.upd nD, [], upd_same, rfl, fun x hx => nomatch hx⟩ (fun i H' hi hP => ?_) (fun H' hP => ?_)
    · obtain ⟨mv, hbi, xs, hxs, hl, hx⟩ := hP
      walk_at "go"
      refine ⟨rfl, ?_⟩
      walk_at "go"
      refine ⟨b, g, rfl, hgr, hbi, fun H2 v hv m2 hb2 => ?_⟩
      have h2D := m2 _ _ nD hxs
      refine ⟨xs, h2D, small1000 (by omega), (mv.trans m2).updD hD, hb2.upd nD, xs ++ [v], upd_same, by rw [List.length_append, hl]; rfl, fun x hx' => ?_⟩
      rcases List.mem_append.mp hx' with h | h
      · exact ((hx x h).kt (m2.kt hbi)).kt (Kt.updL h2D)
      · rw [List.mem_singleton.mp h]
        exact hv.kt (Kt.updL h2D)
    · obtain ⟨mv, hbi, xs, hxs, hl, hx⟩ := hP
      walk_at "go"
      refine ⟨D, xs, rfl, .inl ⟨SqL.of hxs, fun l hl' => ?_⟩⟩
      exact q _ _ (rowG_mk upd_same hl fun x h => (hx x h).kt (Kt.of (same_upd hl'))) (mv.trans (Mv.same (same_upd hl'))) (hbi.same (same_upd hl'))
theorem ok__law_added {f : Addr} {fd : FuncData} (F : FnP K "_law_added" s__law_added f fd)
    {f__law_plus : Addr} {fd__law_plus : FuncData} (F__law_plus : FnP K "_law_plus" s__law_plus f__law_plus fd__law_plus) (b__law_plus : Binds K fd__law_plus ["_law_g", "_law_x", "_law_y"] []) (g__law_plus : mg "_law_plus" = some (.ref f__law_plus)) (G__law_plus : FnOk P w K mg base CX0 3 f__law_plus fd__law_plus ["_law_g", "_law_x", "_law_y"] (sp__law_plus K)) (m_tuple : mg "tuple" = none) (m_zip : mg "zip" = none) :
    FnOk P w K mg base CX0 4 f fd ["_law_g", "_law_row_here", "_law_other"] (sp__law_added K) := by
  refine F.ok sc__law_added (fun vs H Q E h => ?_) (fun cdv A outer s H vs Q E hr h => ?_)
  · obtain ⟨g, x, y, n, ii, rfl, hgr, hx, hy, hn, hi10, q⟩ := h
    rfl
  · obtain ⟨g, x, y, n, ii, rfl, hgr, hx, hy, hn, hi10, q⟩ := h
    refine ⟨_, PSs.nox (pss_one (ps_ret (pe_callTy call_tuple_of (by rfl) m_tuple (by decide +kernel) (pa_cons (pe_lc (own := [("_law_one", 3), ("_law_two", 4)]) (g := gTup K 2 (gCons (gName 3) (gCons (gName 4) (gNil)))) (tt := tYes) (by rfl) sc__law_added.nd (RZ.pi_zipA (by rfl) m_zip (pa_cons (pv 1) (pa_cons (pv 2) pa_nil))) (blkOk_by (own := [("_law_one", 3), ("_law_two", 4)]) (N := ["_law_g", "_law_row_here", "_law_other", "_law_one", "_law_two"]) (sc := defScope s__law_added) (by decide +kernel)) (fun _ _ _ _ _ => (pg_tup rfl (pgs_cons (pg_name (i := 3) sc__law_added.nd rfl (.inl rfl)) (pgs_cons (pg_name (i := 4) sc__law_added.nd rfl (.inl rfl)) pgs_nil)))) (fun _ _ _ _ _ => pts_nil) (fun _ _ _ _ _ => (pe_call G__law_plus hr (by rfl) g__law_plus F__law_plus.kp b__law_plus .nil pass0 (pa_cons (pv 0) (pa_cons (pv 3) (pa_cons (pv 4) pa_nil)))))) pa_nil)))), ?_⟩
    obtain ⟨rx, ⟨px, xs, rfl, hpx, hlx, hxs⟩, hrx, hgx⟩ := hx
    obtain ⟨ry, ⟨py, ys, rfl, hpy, hly, hys⟩, hry, hgy⟩ := hy
    have hg' : 0 ≤ g ∧ g ≤ 13 := by
      unfold Gr at hgr
      omega
    walk_at "go"
    refine ⟨px, py, xs, ys, rfl, .inr ⟨SqT.of hpx, SqT.of hpy, fun D hD => ?_⟩⟩
    refine lc_it (walk_zipT (xs := xs) (ys := ys) (n := n) (by omega)) (fun i H' => Same H H' ∧ ∃ zs : List V, H' D = some (.lst zs) ∧ zs.length = i ∧ ∀ x ∈ zs, NumG g H' x (ii + 1)) ⟨Same.updD (Same.refl H) hD, [], upd_same, rfl, fun x hx => nomatch hx⟩ (fun i H' _ hP => ⟨SqT.of (hP.1 _ _ hpx), SqT.of (hP.1 _ _ hpy)⟩) (fun i v H1 H2 hi hP hY => ?_) (fun H' hP => ?_)
    · obtain ⟨sm, zs, hzs, hl, hz⟩ := hP
      obtain ⟨T, u, v', rfl, hT, rfl, hu, hv⟩ := hY
      have s2 : Same H1 (upd H1 T (.tup [u, v'])) := same_upd hT
      have hTT : (upd H1 T (.tup [u, v'])) T = some (.tup [u, v']) := upd_same
      generalize upd H1 T (.tup [u, v']) = H2 at s2 hTT ⊢
      have ga : rx[i]? = some (rx[i]'(by omega)) := List.getElem?_eq_getElem (by omega)
      have gc : ry[i]? = some (ry[i]'(by omega)) := List.getElem?_eq_getElem (by omega)
      have na := hgx _ (List.getElem_mem (show i < rx.length by omega))
      have nc := hgy _ (List.getElem_mem (show i < ry.length by omega))
      walk_at "go"
      refine ⟨rfl, ?_⟩
      walk_at "go"
      have s02 := sm.trans s2
      refine ⟨g, u, v', _, _, rfl, hg'.1, hg'.2, (hxs i u _ hu ga).kt (Kt.of s02), (hys i v' _ hv gc).kt (Kt.of s02), (na.ok hi10).pb (by decide), (nc.ok hi10).pb (by decide), fun p3 H3 hp3 s3 h3 => ?_⟩
      have h3D := s3 _ _ (s2 _ _ hzs)
      refine ⟨zs, h3D, small1000 (by omega), Same.updD (s02.trans s3) hD, zs ++ [.ref p3], upd_same, by rw [List.length_append, hl]; rfl, fun x hx' => ?_⟩
      rcases List.mem_append.mp hx' with h | h
      · exact ((hz x h).kt (Kt.of (s2.trans s3))).kt (Kt.updL h3D)
      · rw [List.mem_singleton.mp h]
        exact NumG.kt ⟨_, ⟨p3, rfl, h3⟩, ng_plus na nc⟩ (Kt.updL h3D)
    · obtain ⟨sm, zs, hzs, hl, hz⟩ := hP
      walk_at "go"
      refine ⟨D, zs, rfl, .inl ⟨SqL.of hzs, fun l hl' => ?_⟩⟩
      exact q _ _ (rowG_mk upd_same hl fun x h => (hz x h).kt (Kt.of (same_upd hl'))) (sm.trans (same_upd hl'))
theorem ok__law_bent_row {f : Addr} {fd : FuncData} (F : FnP K "_law_bent_row" s__law_bent_row f fd)
    {f__law_take : Addr} {fd__law_take : FuncData} (F__law_take : FnP K "_law_take" s__law_take f__law_take fd__law_take) (b__law_take : Binds K fd__law_take ["_law_bag_here", "_law_many"] []) (g__law_take : mg "_law_take" = some (.ref f__law_take)) (G__law_take : FnOk P w K mg base CX0 1 f__law_take fd__law_take ["_law_bag_here", "_law_many"] (sp__law_take K))
    {f__law_swapped : Addr} {fd__law_swapped : FuncData} (F__law_swapped : FnP K "_law_swapped" s__law_swapped f__law_swapped fd__law_swapped) (b__law_swapped : Binds K fd__law_swapped ["_law_row_here", "_law_at", "_law_thing"] []) (g__law_swapped : mg "_law_swapped" = some (.ref f__law_swapped)) (G__law_swapped : FnOk P w K mg base CX0 1 f__law_swapped fd__law_swapped ["_law_row_here", "_law_at", "_law_thing"] (sp__law_swapped K))
    {f__law_bent_number : Addr} {fd__law_bent_number : FuncData} (F__law_bent_number : FnP K "_law_bent_number" s__law_bent_number f__law_bent_number fd__law_bent_number) (b__law_bent_number : Binds K fd__law_bent_number ["_law_bag_here", "_law_g", "_law_x"] []) (g__law_bent_number : mg "_law_bent_number" = some (.ref f__law_bent_number)) (G__law_bent_number : FnOk P w K mg base CX0 3 f__law_bent_number fd__law_bent_number ["_law_bag_here", "_law_g", "_law_x"] (sp__law_bent_number K)) (m_len : mg "len" = none) (m_list : mg "list" = none) :
    FnOk P w K mg base CX0 4 f fd ["_law_bag_here", "_law_g", "_law_row_here"] (sp__law_bent_row K) := by
  refine F.ok sc__law_bent_row (fun vs H Q E h => ?_) (fun cdv A outer s H vs Q E hr h => ?_)
  · obtain ⟨b, g, x, kb, rfl, hx, hk0, hk, hg0, hg, hb, q⟩ := h
    rfl
  · obtain ⟨b, g, x, kb, rfl, hx, hk0, hk, hg0, hg, hb, q⟩ := h
    refine ⟨_, PSs.nox (pss_cons (ps_set (i := 3) sc__law_bent_row.nd rfl (.inl rfl) (pe_call G__law_take (hr.mono (by decide)) (by rfl) g__law_take F__law_take.kp b__law_take .nil pass0 (pa_cons (pv 0) (pa_cons (pe_callB call_len_seq (by rfl) m_len (by decide +kernel) (pa_cons (pv 2) pa_nil)) pa_nil))))
        (pss_cons (ps_set (i := 4) sc__law_bent_row.nd rfl (.inl rfl) (pe_call G__law_take (hr.mono (by decide)) (by rfl) g__law_take F__law_take.kp b__law_take .nil pass0 (pa_cons (pv 0) (pa_cons pe_int pa_nil))))
        (pss_cons (ps_if (pt_cmpR op_lt (pv 4) pe_int (nomark _)) (pss_one (ps_ret (pe_call G__law_swapped (hr.mono (by decide)) (by rfl) g__law_swapped F__law_swapped.kp b__law_swapped .nil pass0 (pa_cons (pv 2) (pa_cons (pv 3) (pa_cons (pe_call G__law_bent_number hr (by rfl) g__law_bent_number F__law_bent_number.kp b__law_bent_number .nil pass0 (pa_cons (pv 0) (pa_cons (pv 1) (pa_cons (pe_ix ix_tup (pv 2) (pv 3) (fun _ _ => rfl)) pa_nil)))) pa_nil)))))) pss_nil)
        (pss_one (ps_ret (pe_ix ix_list (pe_lst (pa_cons (pe_op op_catA (pv 2) (pe_tup (pa_cons (pe_ix ix_tup (pv 2) (pv 3) (fun _ _ => rfl)) pa_nil))) (pa_cons (pe_op op_catA (pe_slice sl_tupA (pv 2) po_none (po_some (pv 3))) (pe_slice sl_tupA (pv 2) (po_some (pe_op op_add (pv 3) pe_int)) po_none)) (pa_cons (pe_callTy call_list_of (by rfl) m_list (by decide +kernel) (pa_cons (pv 2) pa_nil)) pa_nil)))) (pe_op op_sub (pv 4) pe_int) (fun _ _ => rfl))))))), ?_⟩
    obtain ⟨p, xs, rfl, hp, hl0, hl, hnk⟩ := hx
    walk_at "go"
    refine ⟨p, xs, rfl, .inr (SqT.of hp), ?_⟩
    walk_at "go"
    refine ⟨b, xs.length, rfl, by omega, by omega, hb, fun H1 at1 h10 h11 m1 hb1 => ?_⟩
    walk_at "go"
    refine ⟨b, 6, rfl, by decide, by decide, hb1, fun H2 wy h20 h21 m2 hb2 => ?_⟩
    have kt2 : Kt H H2 := (m1.kt hb).trans (m2.kt hb1)
    have mv2 : Mv b H H2 := m1.trans m2
    have hp2 := kt2 _ _ hp
    have hnk2 : ∀ x ∈ xs, NK kb H2 x := fun x h => (hnk x h).kt kt2
    obtain ⟨x1, e1, hx1⟩ := atI_some h10 h11
    walk_at "go"
    refine w_ite (fun hc => ?_) (fun hc => ?_)
    · walk_at "go"
      refine w_ixT hp2 e1 ?_
      walk_at "go"
      refine ⟨b, g, x1, kb, rfl, hnk2 x1 hx1, hk0, hk, hg0, hg, hb2, fun H3 v3 t3 m3 hb3 => ?_⟩
      walk_at "go"
      have kt3 := m3.kt hb2
      refine ⟨p, xs, at1, v3, rfl, kt3 _ _ hp2, hl, fun q4 H4 ys s4 h4 hl4 hm4 => ?_⟩
      refine q _ _ (TB.tup h4 hl4 fun y hy => ?_) (mv2.trans (m3.trans (Mv.same s4))) (hb3.same s4)
      rcases hm4 y hy with h | h
      · exact (((hnk2 y h).kt kt3).kt (Kt.of s4)).tb (by omega)
      · rw [h]
        exact t3.kd' (Kd.of s4)
    · walk_at "go"
      refine w_ixT hp2 e1 ?_
      walk_at "go"
      refine w_new (by simp) fun q3 H3 hq3 s3 h3 => ?_
      refine w_catA (s3 _ _ hp2) h3 (by simp; omega) fun q4 H4 ys4 s4 h4 hl4 hm4 => ?_
      rw [List.length_singleton] at hl4
      have s24 := s3.trans s4
      walk_at "go"
      refine w_slA (s24 _ _ hp2) fun q5 H5 ys5 s5 h5 hl5 hm5 => ?_
      walk_at "go"
      refine w_slA (s5 _ _ (s24 _ _ hp2)) fun q6 H6 ys6 s6 h6 hl6 hm6 => ?_
      refine w_catA (s6 _ _ h5) h6 (by omega) fun q7 H7 ys7 s7 h7 hl7 hm7 => ?_
      have s27 := s24.trans (s5.trans (s6.trans s7))
      walk_at "go"
      refine ⟨p, xs, rfl, .inr (SqT.of (s27 _ _ hp2)), fun l8 hl8 => ?_⟩
      have s8 := same_upd (o := .lst xs) hl8
      have h8 : (upd H7 l8 (.lst xs)) l8 = some (.lst xs) := upd_same
      generalize upd H7 l8 (.lst xs) = H8 at s8 h8 ⊢
      walk_at "go"
      refine w_new (by simp) fun L H9 hL s9 h9 => ?_
      walk_at "go"
      have s29 := s27.trans (s8.trans s9)
      obtain ⟨v, ev, hv⟩ := atI_some (xs := [V.ref q4, V.ref q7, V.ref l8]) (d := wy - 3) (by omega) (show wy - 3 < 3 by omega)
      refine w_ixL h9 ev ?_
      have nk9 : ∀ x ∈ xs, TB (kb + 1) 1 H9 x := fun x h => ((hnk2 x h).kt (Kt.of s29)).tb (by omega)
      refine q _ _ ?_ (mv2.trans (Mv.same s29)) (hb2.same s29)
      simp only [List.mem_cons, List.not_mem_nil, or_false] at hv
      rcases hv with rfl | rfl | rfl
      · refine TB.tup ((((s5.trans s6).trans (s7.trans (s8.trans s9)))) _ _ h4) (by omega) fun y hy => ?_
        rcases hm4 y hy with h | h
        · exact nk9 y h
        · rw [List.mem_singleton.mp h]
          exact nk9 x1 hx1
      · refine TB.tup ((s8.trans s9) _ _ h7) (by omega) fun y hy => ?_
        rcases hm7 y hy with h | h
        · exact nk9 y (hm5 y h)
        · exact nk9 y (hm6 y h)
      · exact TB.lst (s9 _ _ h8)
theorem ok_through {f : Addr} {fd : FuncData} (F : FnP K "through" s_through f fd)
    {f_product : Addr} {fd_product : FuncData} (F_product : FnP K "product" s_product f_product fd_product) (b_product : Binds K fd_product ["ground", "one", "other"] []) (g_product : mg "product" = some (.ref f_product)) (G_product : FnOk P w K mg base CX0 4 f_product fd_product ["ground", "one", "other"] (sp_product K)) :
    FnOk P w K mg base CX0 5 f fd ["ground", "row", "table"] (sp_through K) := by
  refine F.ok sc_through (fun vs H Q E h => ?_) (fun cdv A outer s H vs Q E hr h => ?_)
  · obtain ⟨g, v1, v2, r, t2, n, l, k, rfl, hg, hv1, hv2, h1, ht2, h2, hn0, hn, hl, hk0, hk, q⟩ := h
    rfl
  · obtain ⟨g, v1, v2, r, t2, n, l, k, rfl, hg, hv1, hv2, h1, ht2, h2, hn0, hn, hl, hk0, hk, q⟩ := h
    refine ⟨_, PSs.nox (pss_one (ps_ret (pe_ix ix_tup (pe_call G_product hr (by rfl) g_product F_product.kp b_product .nil pass0 (pa_cons (pv 0) (pa_cons (pe_tup (pa_cons (pv 1) pa_nil)) (pa_cons (pv 2) pa_nil)))) pe_int (fun _ _ => rfl)))), ?_⟩
    walk_at "go"
    refine w_new (by simp) fun p1 H1 hp1 s1 h1' => ?_
    walk_at "go"
    refine ⟨g, .ref p1, v2, [r], t2, n, l, k, rfl, hg, sqv1 h1' (RowV.kt hv1 (Kt.of s1)), TabV.kt hv2 (Kt.of s1), fun r' h => (by rw [List.mem_singleton.mp h]; exact h1), ht2, h2, hn0, hn, hl, (by simp), hk0, hk, fun v3 H3 s3 h3 => ?_⟩
    obtain ⟨p3, ys, rfl, hp3, hly, hy⟩ := h3
    have hl1 : ys.length = 1 := by rw [hly]; rfl
    obtain ⟨y, hy0⟩ : ∃ y, ys[0]? = some y := ⟨_, List.getElem?_eq_getElem (by omega)⟩
    walk_at "go"
    refine w_ixT hp3 (atI_nat (j := 0) hy0) ?_
    exact q _ _ (s1.trans s3) (hy 0 y _ hy0 rfl)
theorem ok__law_rows {f : Addr} {fd : FuncData} (F : FnP K "_law_rows" s__law_rows f fd)
    {f__law_row : Addr} {fd__law_row : FuncData} (F__law_row : FnP K "_law_row" s__law_row f__law_row fd__law_row) (b__law_row : Binds K fd__law_row ["_law_bag_here", "_law_g", "_law_many"] []) (g__law_row : mg "_law_row" = some (.ref f__law_row)) (G__law_row : FnOk P w K mg base CX0 4 f__law_row fd__law_row ["_law_bag_here", "_law_g", "_law_many"] (sp__law_row K))
    {f__law_take : Addr} {fd__law_take : FuncData} (F__law_take : FnP K "_law_take" s__law_take f__law_take fd__law_take) (b__law_take : Binds K fd__law_take ["_law_bag_here", "_law_many"] []) (g__law_take : mg "_law_take" = some (.ref f__law_take)) (G__law_take : FnOk P w K mg base CX0 1 f__law_take fd__law_take ["_law_bag_here", "_law_many"] (sp__law_take K))
    {f__law_added : Addr} {fd__law_added : FuncData} (F__law_added : FnP K "_law_added" s__law_added f__law_added fd__law_added) (b__law_added : Binds K fd__law_added ["_law_g", "_law_row_here", "_law_other"] []) (g__law_added : mg "_law_added" = some (.ref f__law_added)) (G__law_added : FnOk P w K mg base CX0 4 f__law_added fd__law_added ["_law_g", "_law_row_here", "_law_other"] (sp__law_added K)) (m_range : mg "range" = none) (m_tuple : mg "tuple" = none) (m_len : mg "len" = none) :
    FnOk P w K mg base CX0 5 f fd ["_law_bag_here", "_law_g", "_law_high", "_law_wide"] (sp__law_rows K) := by
  refine F.ok sc__law_rows (fun vs H Q E h => ?_) (fun cdv A outer s H vs Q E hr h => ?_)
  · obtain ⟨b, g, hi, wi, rfl, hgr, hh0, hh, hw0, hw, hb, q⟩ := h
    rfl
  · obtain ⟨b, g, hi, wi, rfl, hgr, hh0, hh, hw0, hw, hb, q⟩ := h
    refine ⟨_, PSs.nox (pss_cons (ps_set (i := 4) sc__law_rows.nd rfl (.inl rfl) (pe_lst pa_nil))
        (pss_cons (ps_for PassesOwn.never rfl (pi_range1 (by rfl) m_range (pa_cons (pv 2) pa_nil)) (pg_name (i := 5) sc__law_rows.nd rfl (.inl rfl)) (pss_cons (ps_set (i := 6) sc__law_rows.nd rfl (.inl rfl) (pe_call G__law_row hr (by rfl) g__law_row F__law_row.kp b__law_row .nil pass0 (pa_cons (pv 0) (pa_cons (pv 1) (pa_cons (pv 3) pa_nil)))))
        (pss_cons (ps_set (i := 7) sc__law_rows.nd rfl (.inl rfl) (pe_call G__law_take (hr.mono (by decide)) (by rfl) g__law_take F__law_take.kp b__law_take .nil pass0 (pa_cons (pv 0) (pa_cons pe_int pa_nil))))
        (pss_cons (ps_if (pt_cmpR op_eq (pv 7) pe_int (nomark _)) (pss_one (ps_set (i := 6) sc__law_rows.nd rfl (.inl rfl) (pe_callTy call_tuple_of (by rfl) m_tuple (by decide +kernel) (pa_cons (pe_op op_rep (pe_lst (pa_cons (pe_tup (pa_cons pe_int (pa_cons pe_int pa_nil))) pa_nil)) (pv 3)) pa_nil)))) pss_nil)
        (pss_cons (ps_if (PW.pt (pw_and (pt_cmpR op_eq (pv 7) pe_int (nomark _)) (pw_and1 (pt_cmpR (op_neD hr.units) (pv 4) (pe_lst pa_nil) (nomark _))))) (pss_one (ps_set (i := 6) sc__law_rows.nd rfl (.inl rfl) (pe_call G__law_added hr (by rfl) g__law_added F__law_added.kp b__law_added .nil pass0 (pa_cons (pv 1) (pa_cons (pe_ix ix_list (pv 4) (pe_call G__law_take (hr.mono (by decide)) (by rfl) g__law_take F__law_take.kp b__law_take .nil pass0 (pa_cons (pv 0) (pa_cons (pe_callB call_len_seq (by rfl) m_len (by decide +kernel) (pa_cons (pv 4) pa_nil)) pa_nil))) (fun _ _ => rfl)) (pa_cons (pe_ix ix_list (pv 4) (pe_un un_neg pe_int) (fun _ _ => rfl)) pa_nil)))))) pss_nil)
        (pss_one (ps_expr (pe_bm PySem.F.plainAttrs_list PySem.F.slot_list_append PySem.F.type_list_append mt_append (pv 4) (pa_cons (pv 6) pa_nil)))))))))
        (pss_one (ps_ret (pe_callTy call_tuple_of (by rfl) m_tuple (by decide +kernel) (pa_cons (pv 4) pa_nil)))))), ?_⟩
    have hg' : g = 0 ∨ (3 ≤ g ∧ g ≤ 13) := by
      unfold Gr at hgr
      omega
    walk_at "go"
    refine w_new (by simp) fun F H1 hF0 s1 hF1 => ?_
    walk_at "go"
    refine ⟨by omega, by omega, ?_⟩
    have nF := bag_ne hb hF0
    refine for_range (fun i σ H' => (∃ y5 y6 y7, σ = [some (.ref b), some (.int g), some (.int hi), some (.int wi), some (.ref F), y5, y6, y7]) ∧ Mv b H H' ∧ Bag H' b ∧ ∃ xs : List V, H' F = some (.lst xs) ∧ xs.length = i ∧ ∀ x ∈ xs, RowG g H' x wi.toNat i) ⟨⟨_, _, _, rfl⟩, Mv.same s1, hb.same s1, [], hF1, rfl, fun x hx => nomatch hx⟩ (fun i σ H' hi' hP => ?_) (fun σ H' hP => ?_)
    · obtain ⟨⟨y5, y6, y7, rfl⟩, mv, hbi, xs, hxs, hl, hx⟩ := hP
      walk_at "go"
      refine ⟨b, g, wi, rfl, hgr, by omega, by omega, hbi, fun H2 rw2 hr2 m2 hb2 => ?_⟩
      walk_at "go"
      refine ⟨b, 5, rfl, by decide, by decide, hb2, fun H3 wy h30 h31 m3 hb3 => ?_⟩
      walk_at "go"
      have mv3 := mv.trans (m2.trans m3)
      have kt3 : Kt H' H3 := (m2.kt hbi).trans (m3.kt hb2)
      have hF3 : H3 F = some (.lst xs) := m3 _ _ nF (m2 _ _ nF hxs)
      have hx3 : ∀ x ∈ xs, RowG g H3 x wi.toNat i := fun x h => (hx x h).kt kt3
      have hr3 : RowG g H3 rw2 wi.toNat 0 := hr2.kt (m3.kt hb2)
      refine w_ite (fun hc => ?_) (fun hc => ?_)
      · walk_at "go"
        refine w_new (by simp) fun u H4 hu s4 h4 => ?_
        walk_at "go"
        refine w_new (by simp) fun l H5 hl5 s5 h5 => ?_
        walk_at "go"
        refine w_rep h5 (by omega) (by omega) (by simp) ?_
        refine w_newO fun l6 H6 hl6 s6 h6 => ?_
        walk_at "go"
        refine ⟨_, _, rfl, .inl ⟨SqL.of h6, fun l7 hl7 => ?_⟩⟩
        have s7 := same_upd (o := .tup (List.replicate wi.toNat [V.ref u]).flatten) hl7
        have h7 : (upd H6 l7 (.tup (List.replicate wi.toNat [V.ref u]).flatten)) l7 = some (.tup (List.replicate wi.toNat [V.ref u]).flatten) := upd_same
        generalize upd H6 l7 (.tup (List.replicate wi.toNat [V.ref u]).flatten) = H7 at s7 h7 ⊢
        walk_at "go"
        have s37 := s4.trans (s5.trans (s6.trans s7))
        refine w_iteN' ?_ (show ¬ wy = 1 by omega)
        walk_at "go"
        refine ⟨.inl ⟨rfl, _, SqL.of (s37 _ _ hF3)⟩, ?_⟩
        walk_at "go"
        refine w_append (s37 _ _ hF3) (by omega) ?_
        exact ⟨⟨_, _, _, rfl⟩, rowsG_end (mv3.trans (Mv.same s37)) (hb3.same s37) hF0 nF (s37 _ _ hF3) hl (fun x h => (hx3 x h).kt (Kt.of s37)) ((RowG.zeros hg' (s7 _ _ (s6 _ _ (s5 _ _ h4))) h7).mono (Nat.zero_le _))⟩
      · walk_at "go"
        refine w_ite (fun hc1 => ?_) (fun hc1 => ?_)
        · walk_at "go"
          refine w_new (by simp) fun u H4 hu s4 h4 => ?_
          walk_at "go"
          refine w_neNil (s4 _ _ hF3) h4 (fun x h => by obtain ⟨r, hr', _⟩ := (hx3 x h).kt (Kt.of s4); exact RowV.dat hr') (by decide) ?_
          walk_at "go"
          refine w_iteN (fun hne => ?_) (fun hne => ?_)
          · walk_at "go"
            have hF4 := s4 _ _ hF3
            have hlen : 0 < xs.length := List.length_pos_iff.mpr hne
            refine ⟨F, xs, rfl, .inl (SqL.of hF4), ?_⟩
            walk_at "go"
            refine ⟨b, xs.length, rfl, by omega, by omega, hb3.same s4, fun H5 d h50 h51 m5 hb5 => ?_⟩
            have hF5 := m5 _ _ nF hF4
            have kt5 : Kt H3 H5 := (Kt.of s4).trans (m5.kt (hb3.same s4))
            obtain ⟨x1, hx1⟩ : ∃ x1, xs[d.toNat]? = some x1 := ⟨_, List.getElem?_eq_getElem (by omega)⟩
            have e1 : atI xs d = some x1 := by
              have := atI_nat hx1
              rw [show ((d.toNat : Nat) : Int) = d by omega] at this
              exact this
            refine w_ixL hF5 e1 ?_
            walk_at "go"
            obtain ⟨x2, hx2⟩ : ∃ x2, xs.getLast? = some x2 := ⟨_, List.getLast?_eq_some_getLast hne⟩
            have e2 : atI xs (-1) = some x2 := by
              obtain ⟨ys, rfl⟩ := List.getLast?_eq_some_iff.mp hx2
              exact atI_last _ _
            refine w_ixL hF5 e2 ?_
            walk_at "go"
            refine ⟨g, x1, x2, wi.toNat, i, rfl, hgr, (hx3 x1 (List.mem_of_getElem? hx1)).kt kt5, (hx3 x2 (List.mem_of_getLast? hx2)).kt kt5, by omega, by omega, fun H6 r6 hr6 s6 => ?_⟩
            walk_at "go"
            have hF6 := s6 _ _ hF5
            refine ⟨.inl ⟨rfl, _, SqL.of hF6⟩, ?_⟩
            walk_at "go"
            refine w_append hF6 (by omega) ?_
            exact ⟨⟨_, _, _, rfl⟩, rowsG_end (mv3.trans ((Mv.same s4).trans (m5.trans (Mv.same s6)))) (hb5.same s6) hF0 nF hF6 hl (fun x h => ((hx3 x h).kt kt5).kt (Kt.of s6)) hr6⟩
          · walk_at "go"
            refine ⟨.inl ⟨rfl, _, SqL.of (s4 _ _ hF3)⟩, ?_⟩
            walk_at "go"
            refine w_append (s4 _ _ hF3) (by omega) ?_
            exact ⟨⟨_, _, _, rfl⟩, rowsG_end (mv3.trans (Mv.same s4)) (hb3.same s4) hF0 nF (s4 _ _ hF3) hl (fun x h => (hx3 x h).kt (Kt.of s4)) ((hr3.kt (Kt.of s4)).mono (Nat.zero_le _))⟩
        · walk_at "go"
          refine ⟨.inl ⟨rfl, _, SqL.of hF3⟩, ?_⟩
          walk_at "go"
          refine w_append hF3 (by omega) ?_
          exact ⟨⟨_, _, _, rfl⟩, rowsG_end mv3 hb3 hF0 nF hF3 hl hx3 (hr3.mono (Nat.zero_le _))⟩
    · obtain ⟨⟨y5, y6, y7, rfl⟩, mv, hbi, xs, hxs, hl, hx⟩ := hP
      walk_at "go"
      refine ⟨_, _, rfl, .inl ⟨SqL.of hxs, fun l hl2 => ?_⟩⟩
      have s2 := same_upd (o := .tup xs) hl2
      have h2 : (upd H' l (.tup xs)) l = some (.tup xs) := upd_same
      exact q _ _ (tabG_mk h2 hl fun x h => ((hx x h).kt (Kt.of s2)).mono (by omega)) (mv.trans (Mv.same s2)) (hbi.same s2)
theorem ok__law_bent_table {f : Addr} {fd : FuncData} (F : FnP K "_law_bent_table" s__law_bent_table f fd)
    {f__law_take : Addr} {fd__law_take : FuncData} (F__law_take : FnP K "_law_take" s__law_take f__law_take fd__law_take) (b__law_take : Binds K fd__law_take ["_law_bag_here", "_law_many"] []) (g__law_take : mg "_law_take" = some (.ref f__law_take)) (G__law_take : FnOk P w K mg base CX0 1 f__law_take fd__law_take ["_law_bag_here", "_law_many"] (sp__law_take K))
    {f__law_swapped : Addr} {fd__law_swapped : FuncData} (F__law_swapped : FnP K "_law_swapped" s__law_swapped f__law_swapped fd__law_swapped) (b__law_swapped : Binds K fd__law_swapped ["_law_row_here", "_law_at", "_law_thing"] []) (g__law_swapped : mg "_law_swapped" = some (.ref f__law_swapped)) (G__law_swapped : FnOk P w K mg base CX0 1 f__law_swapped fd__law_swapped ["_law_row_here", "_law_at", "_law_thing"] (sp__law_swapped K))
    {f__law_bent_row : Addr} {fd__law_bent_row : FuncData} (F__law_bent_row : FnP K "_law_bent_row" s__law_bent_row f__law_bent_row fd__law_bent_row) (b__law_bent_row : Binds K fd__law_bent_row ["_law_bag_here", "_law_g", "_law_row_here"] []) (g__law_bent_row : mg "_law_bent_row" = some (.ref f__law_bent_row)) (G__law_bent_row : FnOk P w K mg base CX0 4 f__law_bent_row fd__law_bent_row ["_law_bag_here", "_law_g", "_law_row_here"] (sp__law_bent_row K))
    {f__law_odd : Addr} {fd__law_odd : FuncData} (F__law_odd : FnP K "_law_odd" s__law_odd f__law_odd fd__law_odd) (b__law_odd : Binds K fd__law_odd ["_law_bag_here"] []) (g__law_odd : mg "_law_odd" = some (.ref f__law_odd)) (G__law_odd : FnOk P w K mg base CX0 2 f__law_odd fd__law_odd ["_law_bag_here"] (sp__law_odd K)) (m_len : mg "len" = none) (m_list : mg "list" = none) :
    FnOk P w K mg base CX0 5 f fd ["_law_bag_here", "_law_g", "_law_table"] (sp__law_bent_table K) := by
  refine F.ok sc__law_bent_table (fun vs H Q E h => ?_) (fun cdv A outer s H vs Q E hr h => ?_)
  · obtain ⟨b, g, x, kb, rfl, hx, hk0, hk, hg0, hg, hb, q⟩ := h
    rfl
  · obtain ⟨b, g, x, kb, rfl, hx, hk0, hk, hg0, hg, hb, q⟩ := h
    refine ⟨_, PSs.nox (pss_cons (ps_set (i := 3) sc__law_bent_table.nd rfl (.inl rfl) (pe_call G__law_take (hr.mono (by decide)) (by rfl) g__law_take F__law_take.kp b__law_take .nil pass0 (pa_cons (pv 0) (pa_cons (pe_callB call_len_seq (by rfl) m_len (by decide +kernel) (pa_cons (pv 2) pa_nil)) pa_nil))))
        (pss_cons (ps_set (i := 4) sc__law_bent_table.nd rfl (.inl rfl) (pe_call G__law_take (hr.mono (by decide)) (by rfl) g__law_take F__law_take.kp b__law_take .nil pass0 (pa_cons (pv 0) (pa_cons pe_int pa_nil))))
        (pss_cons (ps_if (pt_cmpR op_lt (pv 4) pe_int (nomark _)) (pss_one (ps_ret (pe_call G__law_swapped (hr.mono (by decide)) (by rfl) g__law_swapped F__law_swapped.kp b__law_swapped .nil pass0 (pa_cons (pv 2) (pa_cons (pv 3) (pa_cons (pe_call G__law_bent_row hr (by rfl) g__law_bent_row F__law_bent_row.kp b__law_bent_row .nil pass0 (pa_cons (pv 0) (pa_cons (pv 1) (pa_cons (pe_ix ix_tup (pv 2) (pv 3) (fun _ _ => rfl)) pa_nil)))) pa_nil)))))) pss_nil)
        (pss_one (ps_ret (pe_ix ix_list (pe_lst (pa_cons (pe_op op_catA (pv 2) (pe_tup (pa_cons (pe_ix ix_tup (pv 2) (pv 3) (fun _ _ => rfl)) pa_nil))) (pa_cons (pe_op op_catA (pe_slice sl_tupA (pv 2) po_none (po_some (pv 3))) (pe_slice sl_tupA (pv 2) (po_some (pe_op op_add (pv 3) pe_int)) po_none)) (pa_cons (pe_callTy call_list_of (by rfl) m_list (by decide +kernel) (pa_cons (pv 2) pa_nil)) (pa_cons (pe_call G__law_odd (hr.mono (by decide)) (by rfl) g__law_odd F__law_odd.kp b__law_odd .nil pass0 (pa_cons (pv 0) pa_nil)) pa_nil))))) (pe_op op_sub (pv 4) pe_int) (fun _ _ => rfl))))))), ?_⟩
    obtain ⟨p, xs, rfl, hp, hl0, hl, hnk⟩ := hx
    walk_at "go"
    refine ⟨p, xs, rfl, .inr (SqT.of hp), ?_⟩
    walk_at "go"
    refine ⟨b, xs.length, rfl, by omega, by omega, hb, fun H1 at1 h10 h11 m1 hb1 => ?_⟩
    walk_at "go"
    refine ⟨b, 8, rfl, by decide, by decide, hb1, fun H2 wy h20 h21 m2 hb2 => ?_⟩
    have kt2 : Kt H H2 := (m1.kt hb).trans (m2.kt hb1)
    have mv2 : Mv b H H2 := m1.trans m2
    have hp2 := kt2 _ _ hp
    have hnk2 : ∀ x ∈ xs, RK kb H2 x := fun x h => (hnk x h).kt kt2
    obtain ⟨x1, e1, hx1⟩ := atI_some h10 h11
    walk_at "go"
    refine w_ite (fun hc => ?_) (fun hc => ?_)
    · walk_at "go"
      refine w_ixT hp2 e1 ?_
      walk_at "go"
      refine ⟨b, g, x1, kb, rfl, hnk2 x1 hx1, hk0, hk, hg0, hg, hb2, fun H3 v3 t3 m3 hb3 => ?_⟩
      walk_at "go"
      have kt3 := m3.kt hb2
      refine ⟨p, xs, at1, v3, rfl, kt3 _ _ hp2, hl, fun q4 H4 ys s4 h4 hl4 hm4 => ?_⟩
      refine q _ _ (TB.tup h4 hl4 fun y hy => ?_) (mv2.trans (m3.trans (Mv.same s4))) (hb3.same s4)
      rcases hm4 y hy with h | h
      · exact (((hnk2 y h).kt kt3).kt (Kt.of s4)).tb (by omega)
      · rw [h]
        exact t3.kd' (Kd.of s4)
    · walk_at "go"
      refine w_ixT hp2 e1 ?_
      walk_at "go"
      refine w_new (by simp) fun q3 H3 hq3 s3 h3 => ?_
      refine w_catA (s3 _ _ hp2) h3 (by simp; omega) fun q4 H4 ys4 s4 h4 hl4 hm4 => ?_
      rw [List.length_singleton] at hl4
      have s24 := s3.trans s4
      walk_at "go"
      refine w_slA (s24 _ _ hp2) fun q5 H5 ys5 s5 h5 hl5 hm5 => ?_
      walk_at "go"
      refine w_slA (s5 _ _ (s24 _ _ hp2)) fun q6 H6 ys6 s6 h6 hl6 hm6 => ?_
      refine w_catA (s6 _ _ h5) h6 (by omega) fun q7 H7 ys7 s7 h7 hl7 hm7 => ?_
      have s27 := s24.trans (s5.trans (s6.trans s7))
      walk_at "go"
      refine ⟨p, xs, rfl, .inr (SqT.of (s27 _ _ hp2)), fun l8 hl8 => ?_⟩
      have s8 := same_upd (o := .lst xs) hl8
      have h8 : (upd H7 l8 (.lst xs)) l8 = some (.lst xs) := upd_same
      generalize upd H7 l8 (.lst xs) = H8 at s8 h8 ⊢
      walk_at "go"
      have s28 := s27.trans s8
      refine ⟨b, rfl, hb2.same s28, fun HO v0 t0 mO hbO => ?_⟩
      have kO := Kd.mv mO (hb2.same s28) hbO
      walk_at "go"
      refine w_new (by simp) fun L H9 hL s9 h9 => ?_
      walk_at "go"
      have k29 : Kd H2 H9 := (Kd.of s28).trans (kO.trans (Kd.of s9))
      obtain ⟨v, ev, hv⟩ := atI_some (xs := [V.ref q4, V.ref q7, V.ref l8, v0]) (d := wy - 4) (by omega) (show wy - 4 < 4 by omega)
      refine w_ixL h9 ev ?_
      have nk9 : ∀ x ∈ xs, TB (kb + 1) 2 H9 x := fun x h => ((hnk2 x h).kt k29.1).tb (by omega)
      refine q _ _ ?_ (mv2.trans ((Mv.same s28).trans (mO.trans (Mv.same s9)))) (hbO.same s9)
      have kO9 : Kd H8 H9 := kO.trans (Kd.of s9)
      simp only [List.mem_cons, List.not_mem_nil, or_false] at hv
      rcases hv with rfl | rfl | rfl | rfl
      · refine TB.tup (kO9.1 _ _ ((((s5.trans s6).trans (s7.trans s8))) _ _ h4)) (by omega) fun y hy => ?_
        rcases hm4 y hy with h | h
        · exact nk9 y h
        · rw [List.mem_singleton.mp h]
          exact nk9 x1 hx1
      · refine TB.tup (kO9.1 _ _ (s8 _ _ h7)) (by omega) fun y hy => ?_
        rcases hm7 y hy with h | h
        · exact nk9 y (hm5 y h)
        · exact nk9 y (hm6 y h)
      · obtain ⟨ys8, h8'⟩ := kO9.2 _ _ h8
        exact TB.lst h8'
      · exact ((t0.kd' (Kd.of s9)).wide (by omega)).up.up
theorem ok__law_are_told {f : Addr} {fd : FuncData} (F : FnP K "_law_are_told" s__law_are_told f fd)
    {f_is_row : Addr} {fd_is_row : FuncData} (F_is_row : FnP K "is_row" s_is_row f_is_row fd_is_row) (b_is_row : Binds K fd_is_row ["ground", "thing", "many"] []) (g_is_row : mg "is_row" = some (.ref f_is_row)) (G_is_row : FnOk P w K mg base CX0 3 f_is_row fd_is_row ["ground", "thing", "many"] (sp_is_row K))
    {f_is_table : Addr} {fd_is_table : FuncData} (F_is_table : FnP K "is_table" s_is_table f_is_table fd_is_table) (b_is_table : Binds K fd_is_table ["ground", "thing", "high", "wide"] []) (g_is_table : mg "is_table" = some (.ref f_is_table)) (G_is_table : FnOk P w K mg base CX0 4 f_is_table fd_is_table ["ground", "thing", "high", "wide"] (sp_is_table K))
    {f__law_is_row : Addr} {fd__law_is_row : FuncData} (F__law_is_row : FnP K "_law_is_row" s__law_is_row f__law_is_row fd__law_is_row) (b__law_is_row : Binds K fd__law_is_row ["_law_g", "_law_thing", "_law_many"] []) (g__law_is_row : mg "_law_is_row" = some (.ref f__law_is_row)) (G__law_is_row : FnOk P w K mg base CX0 3 f__law_is_row fd__law_is_row ["_law_g", "_law_thing", "_law_many"] (sp__law_is_row K))
    {f__law_is_table : Addr} {fd__law_is_table : FuncData} (F__law_is_table : FnP K "_law_is_table" s__law_is_table f__law_is_table fd__law_is_table) (b__law_is_table : Binds K fd__law_is_table ["_law_g", "_law_thing", "_law_high", "_law_wide"] []) (g__law_is_table : mg "_law_is_table" = some (.ref f__law_is_table)) (G__law_is_table : FnOk P w K mg base CX0 4 f__law_is_table fd__law_is_table ["_law_g", "_law_thing", "_law_high", "_law_wide"] (sp__law_is_table K)) (m_all : mg "all" = none) (m_isinstance : mg "isinstance" = none) (m_bool : mg "bool" = none) :
    FnOk P w K mg base CX0 5 f fd ["_law_g", "_law_things", "_law_high", "_law_wide"] (sp__law_are_told K) := by
  refine F.ok sc__law_are_told (fun vs H Q E h => ?_) (fun cdv A outer s H vs Q E hr h => ?_)
  · obtain ⟨g, L, m, w, xs, kb, rfl, hg0, hL, hxs, q⟩ := h
    rfl
  · obtain ⟨g, L, m, w, xs, kb, rfl, hg0, hL, hxs, q⟩ := h
    refine ⟨_, PSs.nox (pss_cons (ps_for PassesOwn.never rfl (pi_list (pv 1)) (pg_name (i := 4) sc__law_are_told.nd rfl (.inl rfl)) (pss_cons (ps_set (i := 5) sc__law_are_told.nd rfl (.inl rfl) (pe_lst (pa_cons (pe_call G_is_row (hr.mono (by decide)) (by rfl) g_is_row F_is_row.kp b_is_row .nil pass0 (pa_cons (pv 0) (pa_cons (pv 4) (pa_cons (pv 3) pa_nil)))) (pa_cons (pe_call G_is_table hr (by rfl) g_is_table F_is_table.kp b_is_table .nil pass0 (pa_cons (pv 0) (pa_cons (pv 4) (pa_cons (pv 2) (pa_cons (pv 3) pa_nil))))) pa_nil))))
        (pss_cons (ps_if (pt_cmpR (op_neD hr.units) (pv 5) (pe_lst (pa_cons (pe_call G__law_is_row (hr.mono (by decide)) (by rfl) g__law_is_row F__law_is_row.kp b__law_is_row .nil pass0 (pa_cons (pv 0) (pa_cons (pv 4) (pa_cons (pv 3) pa_nil)))) (pa_cons (pe_call G__law_is_table hr (by rfl) g__law_is_table F__law_is_table.kp b__law_is_table .nil pass0 (pa_cons (pv 0) (pa_cons (pv 4) (pa_cons (pv 2) (pa_cons (pv 3) pa_nil))))) pa_nil))) (nomark _)) (pss_one (ps_ret pe_bl)) pss_nil)
        (pss_one (ps_if (pt_not (pt_val (pe_callB (cr_all rfl) (by rfl) m_all (by decide +kernel) (pa_cons (pe_lc (own := [("_law_one", 6)]) (g := gName 6) (tt := tYes) (by rfl) sc__law_are_told.nd (pi_list (pv 5)) (blkOk_by (own := [("_law_one", 6)]) (N := ["_law_g", "_law_things", "_law_high", "_law_wide", "_law_thing", "_law_told", "_law_one"]) (sc := defScope s__law_are_told) (by decide +kernel)) (fun _ _ _ _ _ => (pg_name (i := 6) sc__law_are_told.nd rfl (.inl rfl))) (fun _ _ _ _ _ => pts_nil) (fun _ _ _ _ _ => (pe_callB (r := rIsi K) call_isi (by rfl) m_isinstance (by decide +kernel) (pa_cons (pv 6) (pa_cons (pe_bltn (v := .ty "bool") (by rfl) m_bool (by decide +kernel) rfl) pa_nil))))) pa_nil)))) (pss_one (ps_ret pe_bl)) pss_nil)))))
        (pss_one (ps_ret pe_bl))), ?_⟩
    walk_at "go"
    refine ⟨L, rfl, ⟨xs, SqL.of hL⟩, ?_⟩
    refine for_list (xs := xs) (fun i σ H' => Same H H' ∧ ∃ y4 y5 y6, σ = [some (.int g), some (.ref L), some (.int m), some (.int w), y4, y5, y6]) ⟨Same.refl H, _, _, _, rfl⟩ (fun i σ H' _ hP => SqL.of (hP.1 _ _ hL)) (fun i v σ H' hv hP => ?_) (fun σ H' hP => ?_)
    · obtain ⟨sm, y4, y5, y6, rfl⟩ := hP
      have tv : TB kb 3 H' v := (hxs v (List.mem_of_getElem? hv)).kd' (Kd.of sm)
      walk_at "go"
      refine ⟨g, v, w, kb, 1, rfl, tv, fun H1 s1 => ?_⟩
      walk_at "go"
      refine ⟨g, v, m, w, kb, 0, rfl, tv.kd' (Kd.of s1), fun H2 s2 => ?_⟩
      walk_at "go"
      refine w_new (by simp) fun q3 H3 hq3 s3 h3 => ?_
      have s03 := s1.trans (s2.trans s3)
      walk_at "go"
      refine ⟨g, v, w, kb, 1, rfl, hg0, tv.kd' (Kd.of s03), fun H4 s4 => ?_⟩
      walk_at "go"
      refine ⟨g, v, m, w, kb, 0, rfl, hg0, tv.kd' (Kd.of (s03.trans s4)), fun H5 s5 => ?_⟩
      walk_at "go"
      refine w_new (by simp) fun q6 H6 hq6 s6 h6 => ?_
      have h36 := s6 _ _ (s5 _ _ (s4 _ _ h3))
      refine w_neBB h36 h6 (rowOf_tb tv (Kd.of s03)).symm ((tabOf_tb tv (Kd.of s1)).trans (tabOf_tb tv (Kd.of (s03.trans s4))).symm) ?_
      walk_at "go"
      refine ⟨q3, rfl, ⟨_, SqL.of h36⟩, fun D hD => ?_⟩
      refine lc_list (xs := [V.bl (rowOf H' g w v), V.bl (tabOf H1 g m w v)]) (fun n H'' => Same H6 H'' ∧ H'' D = some (.lst ((List.replicate n true).map V.bl))) ⟨Same.updD (Same.refl H6) hD, upd_same⟩ (fun n H'' _ hP => SqL.of (hP.1 _ _ h36)) (fun n z H'' hz hP => ?_) (fun J2 hP => ?_)
      · obtain ⟨sn, hD'⟩ := hP
        obtain ⟨zz, rfl⟩ : ∃ zz, z = .bl zz := by
          have := List.mem_of_getElem? hz
          simp only [List.mem_cons, List.not_mem_nil, or_false] at this
          rcases this with rfl | rfl <;> exact ⟨_, rfl⟩
        have hn2 : n < 2 := (List.getElem?_eq_some_iff.mp hz).1
        walk_at "go"
        refine ⟨rfl, ?_⟩
        walk_at "go"
        refine tv_bool (.inl rfl) ?_
        refine ⟨_, hD', ?_, Same.updD sn hD, ?_⟩
        · rw [List.length_map, List.length_replicate]
          exact small1000 (by omega)
        · rw [upd_same, List.replicate_succ', List.map_append]
          rfl
      · obtain ⟨k2, hD'⟩ := hP
        walk_at "go"
        refine ⟨D, _, rfl, SqL.of hD', ?_⟩
        rw [all_true]
        walk_at "go"
        refine iteF ?_
        walk_at "go"
        exact ⟨sm.trans (s03.trans (s4.trans (s5.trans (s6.trans k2)))), _, _, _, rfl⟩
    · obtain ⟨sm, y4, y5, y6, rfl⟩ := hP
      walk_at "go"
      exact q _ sm
theorem ok__law_cell {f : Addr} {fd : FuncData} (F : FnP K "_law_cell" s__law_cell f fd)
    {f__law_sum : Addr} {fd__law_sum : FuncData} (F__law_sum : FnP K "_law_sum" s__law_sum f__law_sum fd__law_sum) (b__law_sum : Binds K fd__law_sum ["_law_g", "_law_some"] []) (g__law_sum : mg "_law_sum" = some (.ref f__law_sum)) (G__law_sum : FnOk P w K mg base CX0 4 f__law_sum fd__law_sum ["_law_g", "_law_some"] (sp__law_sum K))
    {f__law_times : Addr} {fd__law_times : FuncData} (F__law_times : FnP K "_law_times" s__law_times f__law_times fd__law_times) (b__law_times : Binds K fd__law_times ["_law_g", "_law_x", "_law_y"] []) (g__law_times : mg "_law_times" = some (.ref f__law_times)) (G__law_times : FnOk P w K mg base CX0 3 f__law_times fd__law_times ["_law_g", "_law_x", "_law_y"] (sp__law_times K)) (m_range : mg "range" = none) (m_len : mg "len" = none) :
    FnOk P w K mg base CX0 5 f fd ["_law_g", "_law_one", "_law_other", "_law_i", "_law_j"] (sp__law_cell K) := by
  refine F.ok sc__law_cell (fun vs H Q E h => ?_) (fun cdv A outer s H vs Q E hr h => ?_)
  · obtain ⟨g, v1, v2, i, j, t1, t2, r, n, l, rfl, hg, hv1, hv2, hr1, hln, hok, ht2, hok2, hj, hn, q⟩ := h
    rfl
  · obtain ⟨g, v1, v2, i, j, t1, t2, r, n, l, rfl, hg, hv1, hv2, hr1, hln, hok, ht2, hok2, hj, hn, q⟩ := h
    refine ⟨_, PSs.nox (pss_one (ps_ret (pe_call G__law_sum hr (by rfl) g__law_sum F__law_sum.kp b__law_sum .nil pass0 (pa_cons (pv 0) (pa_cons (pe_lc (own := [("_law_k", 5)]) (g := gName 5) (tt := tYes) (by rfl) sc__law_cell.nd (pi_range1 (by rfl) m_range (pa_cons (pe_callB call_len_seq (by rfl) m_len (by decide +kernel) (pa_cons (pv 2) pa_nil)) pa_nil)) (blkOk_by (own := [("_law_k", 5)]) (N := ["_law_g", "_law_one", "_law_other", "_law_i", "_law_j", "_law_k"]) (sc := defScope s__law_cell) (by decide +kernel)) (fun _ _ _ _ _ => (pg_name (i := 5) sc__law_cell.nd rfl (.inl rfl))) (fun _ _ _ _ _ => pts_nil) (fun _ _ _ _ _ => (pe_call G__law_times (hr.mono (by decide)) (by rfl) g__law_times F__law_times.kp b__law_times .nil pass0 (pa_cons (pv 0) (pa_cons (pe_ix (r := rIxT K) ix_tup (pe_ix (r := rIxT K) ix_tup (pv 1) (pv 3) (fun _ _ => rfl)) (pv 5) (fun _ _ => rfl)) (pa_cons (pe_ix (r := rIxT K) ix_tup (pe_ix (r := rIxT K) ix_tup (pv 2) (pv 5) (fun _ _ => rfl)) (pv 4) (fun _ _ => rfl)) pa_nil)))))) pa_nil))))), ?_⟩
    obtain ⟨p1, xs1, rfl, hp1, hl1, hx1⟩ := hv1
    obtain ⟨p2, xs2, rfl, hp2, hl2, hx2⟩ := hv2
    obtain ⟨y1, hy1⟩ : ∃ y1, xs1[i]? = some y1 := ⟨_, List.getElem?_eq_getElem (by have := (List.getElem?_eq_some_iff.mp hr1).1; omega)⟩
    obtain ⟨q1, ns1, rfl, hq1, hm1, hn1⟩ := hx1 i y1 r hy1 hr1
    have hg' : 0 ≤ g ∧ g ≤ 13 := by omega
    have hcok : ∀ x ∈ (t2.map fun row => row.getD j (0, 1)), OkN g 40 x := fun x hx => by
      obtain ⟨s, hs, rfl⟩ := List.mem_map.mp hx
      refine (hok2 s hs).2 _ ?_
      have := (hok2 s hs).1
      rw [List.getD_eq_getElem?_getD, List.getElem?_eq_getElem (by omega)]
      exact List.getElem_mem (by omega)
    walk_at "go"
    refine ⟨p2, xs2, rfl, .inr (SqT.of hp2), ?_⟩
    walk_at "go"
    refine ⟨by omega, by omega, fun D hD => ?_⟩
    refine lc_range (fun m H' => Same H H' ∧ ∃ zs, H' D = some (.lst zs) ∧ Acc NumV H' zs (List.zipWith (timesF g) r (t2.map fun row => row.getD j (0, 1))) m) ⟨Same.updD (Same.refl H) hD, [], upd_same, Acc.nil⟩ (fun m H' hm hP => ?_) (fun H' hP => ?_)
    · obtain ⟨sm, zs, hD', hacc⟩ := hP
      have hm' : m < n := by omega
      have hrm : r[m]? = some (r[m]'(by omega)) := List.getElem?_eq_getElem (by omega)
      have htm : t2[m]? = some (t2[m]'(by omega)) := List.getElem?_eq_getElem (by omega)
      obtain ⟨z1, hz1⟩ : ∃ z1, ns1[m]? = some z1 := ⟨_, List.getElem?_eq_getElem (by omega)⟩
      obtain ⟨y2, hy2⟩ : ∃ y2, xs2[m]? = some y2 := ⟨_, List.getElem?_eq_getElem (by omega)⟩
      obtain ⟨q2, ns2, rfl, hq2, hm2, hn2⟩ := hx2 m y2 _ hy2 htm
      have hsl := (hok2 _ (List.getElem_mem (show m < t2.length by omega))).1
      obtain ⟨z2, hz2⟩ : ∃ z2, ns2[j]? = some z2 := ⟨_, List.getElem?_eq_getElem (by omega)⟩
      have htj : (t2[m]'(by omega))[j]? = some ((t2[m]'(by omega)).getD j (0, 1)) := by
        rw [List.getD_eq_getElem?_getD, List.getElem?_eq_getElem (by omega)]
        rfl
      have na := (hn1 m z1 _ hz1 hrm).kt (Kt.of sm)
      have nb := (hn2 j z2 _ hz2 htj).kt (Kt.of sm)
      have oa := hok _ (List.getElem_mem (show m < r.length by omega))
      have ob' := hcok ((t2[m]'(by omega)).getD j (0, 1)) (List.mem_map.mpr ⟨_, List.getElem_mem (by omega), rfl⟩)
      walk_at "go"
      refine ⟨rfl, ?_⟩
      walk_at "go"
      refine w_ixT (sm _ _ hp1) (atI_nat hy1) ?_
      walk_at "go"
      rw [Int.zero_add]
      refine w_ixT (sm _ _ hq1) (atI_nat hz1) ?_
      walk_at "go"
      refine w_ixT (sm _ _ hp2) (atI_nat hy2) ?_
      walk_at "go"
      refine w_ixT (sm _ _ hq2) (atI_nat hz2) ?_
      walk_at "go"
      refine ⟨g, z1, z2, _, _, rfl, hg'.1, hg'.2, na, nb, oa.pb (by decide), ob'.pb (by decide), fun p3 H3 hp3 s3 h3 => ?_⟩
      have h3D := s3 _ _ hD'
      have kt : Kt H' (upd H3 D (.lst (zs ++ [V.ref p3]))) := (Kt.of s3).trans (Kt.updL h3D)
      refine ⟨zs, h3D, small1000 (by rw [hacc.1]; omega), Same.updD (sm.trans s3) hD, _, upd_same, ?_⟩
      refine (hacc.mono fun x a h => NumV.kt h kt).snoc (a := timesF g (r[m]'(by omega)) ((t2[m]'(by omega)).getD j (0, 1))) ?_ ⟨p3, rfl, Kt.updL h3D _ _ h3⟩
      rw [List.getElem?_zipWith, hrm, List.getElem?_map, htm]
      rfl
    · obtain ⟨sm, zs, hD', hacc⟩ := hP
      have hlz : (List.zipWith (timesF g) r (t2.map fun row => row.getD j (0, 1))).length = n := by
        rw [List.length_zipWith, List.length_map]
        omega
      walk_at "go"
      refine ⟨g, D, zs, _, rfl, hg'.1, hg'.2, hD', ?_, fun a ha => ?_, fun m => ?_, fun v H2 s2 hv => q _ _ (sm.trans s2) hv⟩
      · rw [hlz]
        have e : (xs2.length : Int).toNat = n := by omega
        rw [e] at hacc
        exact hacc
      · obtain ⟨m, hm, rfl⟩ := List.mem_iff_getElem.mp ha
        rw [List.getElem_zipWith]
        exact times_ok hg'.2 (hok _ (List.getElem_mem _)) (hcok _ (List.getElem_mem _))
      · rw [List.take_zipWith]
        exact part_ok hg (ok_take hok) (ok_take hcok) (by rw [List.length_take]; omega) (by rw [List.length_take, List.length_map]; omega)
theorem ok_law {f : Addr} {fd : FuncData} (F : FnP K "law" s_law f fd)
    {f__law_bag : Addr} {fd__law_bag : FuncData} (F__law_bag : FnP K "_law_bag" s__law_bag f__law_bag fd__law_bag) (b__law_bag : Binds K fd__law_bag ["_law_script", "_law_at"] []) (g__law_bag : mg "_law_bag" = some (.ref f__law_bag)) (G__law_bag : FnOk P w K mg base CX0 1 f__law_bag fd__law_bag ["_law_script", "_law_at"] (sp__law_bag K))
    {f__law_ground : Addr} {fd__law_ground : FuncData} (F__law_ground : FnP K "_law_ground" s__law_ground f__law_ground fd__law_ground) (b__law_ground : Binds K fd__law_ground ["_law_bag_here"] []) (g__law_ground : mg "_law_ground" = some (.ref f__law_ground)) (G__law_ground : FnOk P w K mg base CX0 2 f__law_ground fd__law_ground ["_law_bag_here"] (sp__law_ground K))
    {f_through : Addr} {fd_through : FuncData} (F_through : FnP K "through" s_through f_through fd_through) (b_through : Binds K fd_through ["ground", "row", "table"] []) (g_through : mg "through" = some (.ref f_through)) (G_through : FnOk P w K mg base CX0 5 f_through fd_through ["ground", "row", "table"] (sp_through K))
    {f__law_rows : Addr} {fd__law_rows : FuncData} (F__law_rows : FnP K "_law_rows" s__law_rows f__law_rows fd__law_rows) (b__law_rows : Binds K fd__law_rows ["_law_bag_here", "_law_g", "_law_high", "_law_wide"] []) (g__law_rows : mg "_law_rows" = some (.ref f__law_rows)) (G__law_rows : FnOk P w K mg base CX0 5 f__law_rows fd__law_rows ["_law_bag_here", "_law_g", "_law_high", "_law_wide"] (sp__law_rows K))
    {f__law_odd : Addr} {fd__law_odd : FuncData} (F__law_odd : FnP K "_law_odd" s__law_odd f__law_odd fd__law_odd) (b__law_odd : Binds K fd__law_odd ["_law_bag_here"] []) (g__law_odd : mg "_law_odd" = some (.ref f__law_odd)) (G__law_odd : FnOk P w K mg base CX0 2 f__law_odd fd__law_odd ["_law_bag_here"] (sp__law_odd K))
    {f__law_bent_table : Addr} {fd__law_bent_table : FuncData} (F__law_bent_table : FnP K "_law_bent_table" s__law_bent_table f__law_bent_table fd__law_bent_table) (b__law_bent_table : Binds K fd__law_bent_table ["_law_bag_here", "_law_g", "_law_table"] []) (g__law_bent_table : mg "_law_bent_table" = some (.ref f__law_bent_table)) (G__law_bent_table : FnOk P w K mg base CX0 5 f__law_bent_table fd__law_bent_table ["_law_bag_here", "_law_g", "_law_table"] (sp__law_bent_table K))
    {f__law_is_table : Addr} {fd__law_is_table : FuncData} (F__law_is_table : FnP K "_law_is_table" s__law_is_table f__law_is_table fd__law_is_table) (b__law_is_table : Binds K fd__law_is_table ["_law_g", "_law_thing", "_law_high", "_law_wide"] []) (g__law_is_table : mg "_law_is_table" = some (.ref f__law_is_table)) (G__law_is_table : FnOk P w K mg base CX0 4 f__law_is_table fd__law_is_table ["_law_g", "_law_thing", "_law_high", "_law_wide"] (sp__law_is_table K))
    {f_turned : Addr} {fd_turned : FuncData} (F_turned : FnP K "turned" s_turned f_turned fd_turned) (b_turned : Binds K fd_turned ["table"] []) (g_turned : mg "turned" = some (.ref f_turned)) (G_turned : FnOk P w K mg base CX0 1 f_turned fd_turned ["table"] (sp_turned K))
    {f__law_take : Addr} {fd__law_take : FuncData} (F__law_take : FnP K "_law_take" s__law_take f__law_take fd__law_take) (b__law_take : Binds K fd__law_take ["_law_bag_here", "_law_many"] []) (g__law_take : mg "_law_take" = some (.ref f__law_take)) (G__law_take : FnOk P w K mg base CX0 1 f__law_take fd__law_take ["_law_bag_here", "_law_many"] (sp__law_take K))
    {f__law_are_told : Addr} {fd__law_are_told : FuncData} (F__law_are_told : FnP K "_law_are_told" s__law_are_told f__law_are_told fd__law_are_told) (b__law_are_told : Binds K fd__law_are_told ["_law_g", "_law_things", "_law_high", "_law_wide"] []) (g__law_are_told : mg "_law_are_told" = some (.ref f__law_are_told)) (G__law_are_told : FnOk P w K mg base CX0 5 f__law_are_told fd__law_are_told ["_law_g", "_law_things", "_law_high", "_law_wide"] (sp__law_are_told K))
    {f_product : Addr} {fd_product : FuncData} (F_product : FnP K "product" s_product f_product fd_product) (b_product : Binds K fd_product ["ground", "one", "other"] []) (g_product : mg "product" = some (.ref f_product)) (G_product : FnOk P w K mg base CX0 4 f_product fd_product ["ground", "one", "other"] (sp_product K))
    {f__law_bent_row : Addr} {fd__law_bent_row : FuncData} (F__law_bent_row : FnP K "_law_bent_row" s__law_bent_row f__law_bent_row fd__law_bent_row) (b__law_bent_row : Binds K fd__law_bent_row ["_law_bag_here", "_law_g", "_law_row_here"] []) (g__law_bent_row : mg "_law_bent_row" = some (.ref f__law_bent_row)) (G__law_bent_row : FnOk P w K mg base CX0 4 f__law_bent_row fd__law_bent_row ["_law_bag_here", "_law_g", "_law_row_here"] (sp__law_bent_row K))
    {f__law_cell : Addr} {fd__law_cell : FuncData} (F__law_cell : FnP K "_law_cell" s__law_cell f__law_cell fd__law_cell) (b__law_cell : Binds K fd__law_cell ["_law_g", "_law_one", "_law_other", "_law_i", "_law_j"] []) (g__law_cell : mg "_law_cell" = some (.ref f__law_cell)) (G__law_cell : FnOk P w K mg base CX0 5 f__law_cell fd__law_cell ["_law_g", "_law_one", "_law_other", "_law_i", "_law_j"] (sp__law_cell K)) (m_range : mg "range" = none) (m_max : mg "max" = none) (m_tuple : mg "tuple" = none) (m_min : mg "min" = none) (m_len : mg "len" = none) (m_list : mg "list" = none) :
    FnOk P w K mg base CX0 6 f fd ["_law_script"] (sp_law K) := by
  refine F.ok sc_law (fun vs H Q E h => ?_) (fun cdv A outer s H vs Q E hr h => ?_)
  · obtain ⟨a, ns, rfl, hA, q⟩ := h
    rfl
  · obtain ⟨a, ns, rfl, hA, q⟩ := h
    refine ⟨_, PSs.nox (pss_cons (ps_for PassesOwn.never rfl (pi_range1 (by rfl) m_range (pa_cons (pe_callB (call_max2 rfl) (by rfl) m_max (by decide +kernel) (pa_cons pe_int (pa_cons (pe_callB (call_min2 rfl) (by rfl) m_min (by decide +kernel) (pa_cons pe_int (pa_cons (pe_callB call_len_seq (by rfl) m_len (by decide +kernel) (pa_cons (pv 0) pa_nil)) pa_nil))) pa_nil))) pa_nil)) (pg_name (i := 1) sc_law.nd rfl (.inl rfl)) (pss_cons (ps_set (i := 2) sc_law.nd rfl (.inl rfl) (pe_call G__law_bag (hr.mono (by decide)) (by rfl) g__law_bag F__law_bag.kp b__law_bag .nil pass0 (pa_cons (pv 0) (pa_cons (pv 1) pa_nil))))
        (pss_cons (ps_set (i := 3) sc_law.nd rfl (.inr rfl) (pe_call G__law_ground (hr.mono (by decide)) (by rfl) g__law_ground F__law_ground.kp b__law_ground .nil pass0 (pa_cons (pv 2) pa_nil)))
        (pss_cons (ps_set (i := 4) sc_law.nd rfl (.inl rfl) (pe_ix ix_list (pe_lst (pa_cons pe_int (pa_cons pe_int pa_nil))) (pe_op op_fdivZ (pe_call G__law_take (hr.mono (by decide)) (by rfl) g__law_take F__law_take.kp b__law_take .nil pass0 (pa_cons (pv 2) (pa_cons pe_int pa_nil))) pe_int) (fun _ _ => rfl)))
        (pss_cons (ps_asg (pe_tup (pa_cons (pe_op op_add pe_int (pe_call G__law_take (hr.mono (by decide)) (by rfl) g__law_take F__law_take.kp b__law_take .nil pass0 (pa_cons (pv 2) (pa_cons (pv 4) pa_nil)))) (pa_cons (pe_op op_add pe_int (pe_call G__law_take (hr.mono (by decide)) (by rfl) g__law_take F__law_take.kp b__law_take .nil pass0 (pa_cons (pv 2) (pa_cons (pv 4) pa_nil)))) (pa_cons (pe_op op_add pe_int (pe_call G__law_take (hr.mono (by decide)) (by rfl) g__law_take F__law_take.kp b__law_take .nil pass0 (pa_cons (pv 2) (pa_cons (pv 4) pa_nil)))) pa_nil)))) (pg_tup rfl (pgs_cons (pg_name (i := 5) sc_law.nd rfl (.inl rfl)) (pgs_cons (pg_name (i := 6) sc_law.nd rfl (.inl rfl)) (pgs_cons (pg_name (i := 7) sc_law.nd rfl (.inr rfl)) pgs_nil)))))
        (pss_cons (ps_asg (pe_tup (pa_cons (pe_call G__law_rows hr (by rfl) g__law_rows F__law_rows.kp b__law_rows .nil pass0 (pa_cons (pv 2) (pa_cons (pv 3) (pa_cons (pv 5) (pa_cons (pv 6) pa_nil))))) (pa_cons (pe_call G__law_rows hr (by rfl) g__law_rows F__law_rows.kp b__law_rows .nil pass0 (pa_cons (pv 2) (pa_cons (pv 3) (pa_cons (pv 6) (pa_cons (pv 7) pa_nil))))) pa_nil))) (pg_tup rfl (pgs_cons (pg_name (i := 8) sc_law.nd rfl (.inr rfl)) (pgs_cons (pg_name (i := 9) sc_law.nd rfl (.inr rfl)) pgs_nil))))
        (pss_cons (ps_set (i := 10) sc_law.nd rfl (.inl rfl) (pe_lst (pa_cons (pv 8) (pa_cons (pe_ix ix_tup (pv 8) pe_int (fun _ _ => rfl)) (pa_cons (pv 9) (pa_cons (pe_ix ix_tup (pv 9) pe_int (fun _ _ => rfl)) (pa_cons (pe_call G__law_odd (hr.mono (by decide)) (by rfl) g__law_odd F__law_odd.kp b__law_odd .nil pass0 (pa_cons (pv 2) pa_nil)) pa_nil)))))))
        (pss_cons (ps_for PassesOwn.never rfl (pi_range1 (by rfl) m_range (pa_cons pe_int pa_nil)) (pg_name (i := 11) sc_law.nd rfl (.inl rfl)) (pss_cons (ps_set (i := 12) sc_law.nd rfl (.inl rfl) (pe_call G__law_bent_table hr (by rfl) g__law_bent_table F__law_bent_table.kp b__law_bent_table .nil pass0 (pa_cons (pv 2) (pa_cons (pv 3) (pa_cons (pv 8) pa_nil)))))
        (pss_cons (ps_expr (pe_bm PySem.F.plainAttrs_list PySem.F.slot_list_extend PySem.F.type_list_extend mt_extend (pv 10) (pa_cons (pe_lst (pa_cons (pv 12) (pa_cons (pe_call G__law_bent_row (hr.mono (by decide)) (by rfl) g__law_bent_row F__law_bent_row.kp b__law_bent_row .nil pass0 (pa_cons (pv 2) (pa_cons (pv 3) (pa_cons (pe_ix ix_tup (pv 8) pe_int (fun _ _ => rfl)) pa_nil)))) pa_nil))) pa_nil)))
        (pss_one (ps_if (pt_val (pe_call G__law_is_table (hr.mono (by decide)) (by rfl) g__law_is_table F__law_is_table.kp b__law_is_table .nil pass0 (pa_cons (pv 3) (pa_cons (pv 12) (pa_cons (pv 5) (pa_cons (pv 6) pa_nil)))))) (pss_one (ps_expr (pe_bm PySem.F.plainAttrs_list PySem.F.slot_list_append PySem.F.type_list_append mt_append (pv 10) (pa_cons (pe_call G__law_bent_table hr (by rfl) g__law_bent_table F__law_bent_table.kp b__law_bent_table .nil pass0 (pa_cons (pv 2) (pa_cons (pv 3) (pa_cons (pv 12) pa_nil)))) pa_nil)))) pss_nil)))))
        (pss_cons (ps_if (PW.pt (pw_or (pt_not (pt_val (pe_call G__law_are_told hr (by rfl) g__law_are_told F__law_are_told.kp b__law_are_told .nil pass0 (pa_cons (pv 3) (pa_cons (pe_op op_cat (pv 10) (pe_revL (pv 10))) (pa_cons (pv 5) (pa_cons (pv 6) pa_nil))))))) (pw_or1 (pt_not (pt_val (pe_call G__law_are_told hr (by rfl) g__law_are_told F__law_are_told.kp b__law_are_told .nil pass0 (pa_cons (pv 3) (pa_cons (pv 10) (pa_cons (pv 6) (pa_cons (pv 5) pa_nil)))))))))) (pss_one (ps_ret pe_bl)) pss_nil)
        (pss_cons (ps_set (i := 13) sc_law.nd rfl (.inl rfl) (pe_callTy call_tuple_of (by rfl) m_tuple (by decide +kernel) (pa_cons (pe_lc (own := [("_law_i", 14)]) (g := gName 14) (tt := tYes) (by rfl) sc_law.nd (pi_range1 (by rfl) m_range (pa_cons (pv 5) pa_nil)) (blkOk_by (own := [("_law_i", 14)]) (N := ["_law_script", "_law_k", "_law_bag_here", "_law_g", "_law_size", "_law_high", "_law_wide", "_law_more", "_law_one", "_law_other", "_law_things", "_law_turn", "_law_thing", "_law_due", "_law_i", "_law_row_here", "_law_j"]) (sc := defScope s_law) (by decide +kernel)) (fun _ _ _ _ _ => (pg_name (i := 14) sc_law.nd rfl (.inr rfl))) (fun _ _ _ _ _ => pts_nil) (fun _ _ _ _ _ => (pe_callTy (r := rTupOf K) call_tupOf (by rfl) m_tuple (by decide +kernel) (pa_cons (pe_lc (own := [("_law_j", 16)]) (g := gName 16) (tt := tYes) (wi := iRng1 (tCons (tVar 7) tNil)) (by rfl) sc_law.nd (pi_range1 (by rfl) m_range (pa_cons (pv 7) pa_nil)) (blkOk_by (own := [("_law_j", 16)]) (N := ["_law_script", "_law_k", "_law_bag_here", "_law_g", "_law_size", "_law_high", "_law_wide", "_law_more", "_law_one", "_law_other", "_law_things", "_law_turn", "_law_thing", "_law_due", "_law_i", "_law_row_here", "_law_j"]) (sc := ({ kind := PySem.ScopeKind.function, names := [ (PySem.Str.ofString ".0", PySem.NameKind.local), (PySem.Str.ofString "_law_i", PySem.NameKind.cell), (PySem.Str.ofString "tuple", PySem.NameKind.globalImplicit), (PySem.Str.ofString "range", PySem.NameKind.globalImplicit), (PySem.Str.ofString "_law_g", PySem.NameKind.cell), (PySem.Str.ofString "_law_more", PySem.NameKind.cell), (PySem.Str.ofString "_law_one", PySem.NameKind.cell), (PySem.Str.ofString "_law_other", PySem.NameKind.cell)], isGenerator := false, isCoroutine := false, more := [] } : Scope)) (by decide +kernel)) (fun _ _ _ _ _ => (pg_name (i := 16) sc_law.nd rfl (.inl rfl))) (fun _ _ _ _ _ => pts_nil) (fun _ _ _ _ _ => (pe_call G__law_cell hr (by rfl) g__law_cell F__law_cell.kp b__law_cell .nil pass0 (pa_cons (pv 3) (pa_cons (pv 8) (pa_cons (pv 9) (pa_cons (pv 14) (pa_cons (pv 16) pa_nil)))))))) pa_nil)))) pa_nil)))
        (pss_cons (ps_if (PW.pt (pw_or (pt_cmpR (op_neD hr.units) (pe_call G_product (hr.mono (by decide)) (by rfl) g_product F_product.kp b_product .nil pass0 (pa_cons (pv 3) (pa_cons (pv 8) (pa_cons (pv 9) pa_nil)))) (pv 13) (nomark _)) (pw_or1 (pt_cmpR (op_neD hr.units) (pe_lc (own := [("_law_row_here", 15)]) (g := gName 15) (tt := tYes) (by rfl) sc_law.nd (pi_tup (pv 8)) (blkOk_by (own := [("_law_row_here", 15)]) (N := ["_law_script", "_law_k", "_law_bag_here", "_law_g", "_law_size", "_law_high", "_law_wide", "_law_more", "_law_one", "_law_other", "_law_things", "_law_turn", "_law_thing", "_law_due", "_law_i", "_law_row_here", "_law_j"]) (sc := defScope s_law) (by decide +kernel)) (fun _ _ _ _ _ => (pg_name (i := 15) sc_law.nd rfl (.inl rfl))) (fun _ _ _ _ _ => pts_nil) (fun _ _ _ _ _ => (pe_call G_through hr (by rfl) g_through F_through.kp b_through .nil pass0 (pa_cons (pv 3) (pa_cons (pv 15) (pa_cons (pv 9) pa_nil)))))) (pe_callTy call_list_of (by rfl) m_list (by decide +kernel) (pa_cons (pv 13) pa_nil)) (nomark _))))) (pss_one (ps_ret pe_bl)) pss_nil)
        (pss_cons (ps_if (pt_cmpR (op_neD hr.units) (pe_call G_turned (hr.mono (by decide)) (by rfl) g_turned F_turned.kp b_turned .nil pass0 (pa_cons (pv 8) pa_nil)) (pe_callTy call_tuple_of (by rfl) m_tuple (by decide +kernel) (pa_cons (pe_lc (own := [("_law_j", 16)]) (g := gName 16) (tt := tYes) (by rfl) sc_law.nd (pi_range1 (by rfl) m_range (pa_cons (pv 6) pa_nil)) (blkOk_by (own := [("_law_j", 16)]) (N := ["_law_script", "_law_k", "_law_bag_here", "_law_g", "_law_size", "_law_high", "_law_wide", "_law_more", "_law_one", "_law_other", "_law_things", "_law_turn", "_law_thing", "_law_due", "_law_i", "_law_row_here", "_law_j"]) (sc := defScope s_law) (by decide +kernel)) (fun _ _ _ _ _ => (pg_name (i := 16) sc_law.nd rfl (.inr rfl))) (fun _ _ _ _ _ => pts_nil) (fun _ _ _ _ _ => (pe_callTy (r := rTupOf K) call_tupOf (by rfl) m_tuple (by decide +kernel) (pa_cons (pe_lc (own := [("_law_row_here", 15)]) (g := gName 15) (tt := tYes) (wi := iTup K (tVar 8)) (by rfl) sc_law.nd (pi_tup (pv 8)) (blkOk_by (own := [("_law_row_here", 15)]) (N := ["_law_script", "_law_k", "_law_bag_here", "_law_g", "_law_size", "_law_high", "_law_wide", "_law_more", "_law_one", "_law_other", "_law_things", "_law_turn", "_law_thing", "_law_due", "_law_i", "_law_row_here", "_law_j"]) (sc := ({ kind := PySem.ScopeKind.function, names := [ (PySem.Str.ofString ".0", PySem.NameKind.local), (PySem.Str.ofString "_law_j", PySem.NameKind.cell), (PySem.Str.ofString "tuple", PySem.NameKind.globalImplicit), (PySem.Str.ofString "_law_one", PySem.NameKind.cell)], isGenerator := false, isCoroutine := false, more := [] } : Scope)) (by decide +kernel)) (fun _ _ _ _ _ => (pg_name (i := 15) sc_law.nd rfl (.inl rfl))) (fun _ _ _ _ _ => pts_nil) (fun _ _ _ _ _ => (pe_ix (r := rIxT K) ix_tup (pv 15) (pv 16) (fun _ _ => rfl)))) pa_nil)))) pa_nil)) (nomark _)) (pss_one (ps_ret pe_bl)) pss_nil)
        (pss_cons (ps_if (pt_cmpR (op_neD hr.units) (pe_call G_turned (hr.mono (by decide)) (by rfl) g_turned F_turned.kp b_turned .nil pass0 (pa_cons (pe_call G_turned (hr.mono (by decide)) (by rfl) g_turned F_turned.kp b_turned .nil pass0 (pa_cons (pv 9) pa_nil)) pa_nil)) (pv 9) (nomark _)) (pss_one (ps_ret pe_bl)) pss_nil)
        (pss_one (ps_if (PW.pt (pw_or (pt_cmpR (op_neD hr.units) (pe_call G_product (hr.mono (by decide)) (by rfl) g_product F_product.kp b_product .nil pass0 (pa_cons (pv 3) (pa_cons (pv 8) (pa_cons (pv 9) pa_nil)))) (pv 13) (nomark _)) (pw_or1 (pt_not (pt_val (pe_call G__law_is_table (hr.mono (by decide)) (by rfl) g__law_is_table F__law_is_table.kp b__law_is_table .nil pass0 (pa_cons (pv 3) (pa_cons (pe_call G_product (hr.mono (by decide)) (by rfl) g_product F_product.kp b_product .nil pass0 (pa_cons (pv 3) (pa_cons (pv 8) (pa_cons (pv 9) pa_nil)))) (pa_cons (pv 5) (pa_cons (pv 7) pa_nil)))))))))) (pss_one (ps_ret pe_bl)) pss_nil)))))))))))))))
        (pss_one (ps_ret (pe_cmpR (op_eqD hr.units) (pe_call G_through hr (by rfl) g_through F_through.kp b_through .nil pass0 (pa_cons pe_int (pa_cons (pe_tup (pa_cons (pe_tup (pa_cons pe_int (pa_cons pe_int pa_nil))) (pa_cons (pe_tup (pa_cons pe_int (pa_cons pe_int pa_nil))) pa_nil))) (pa_cons (pe_tup (pa_cons (pe_tup (pa_cons (pe_tup (pa_cons pe_int (pa_cons pe_int pa_nil))) pa_nil)) (pa_cons (pe_tup (pa_cons (pe_tup (pa_cons pe_int (pa_cons pe_int pa_nil))) pa_nil)) pa_nil))) pa_nil)))) (pe_tup (pa_cons (pe_tup (pa_cons pe_int (pa_cons pe_int pa_nil))) pa_nil)) (nomark _))))), ?_⟩
    walk_at "go"
    refine ⟨a, _, rfl, .inl hA, ?_⟩
    walk_at "go"
    refine ⟨by split <;> (try split) <;> omega, by split <;> (try split) <;> omega, ?_⟩
    refine for_range (fun i σ H' => (∃ y1 y2 y3 y4 y5 y6 y7 y8 y9 y10 y11 y12 y13 y14 y15 y16, σ = [some (.ref a), y1, y2, y3, y4, y5, y6, y7, y8, y9, y10, y11, y12, y13, y14, y15, y16]) ∧ Same H H') ⟨⟨_, _, _, _, _, _, _, _, _, _, _, _, _, _, _, _, rfl⟩, Same.refl H⟩ (fun i σ H' hi hP => ?_) (fun σ H' hP => ?_)
    · have hi6 : i < 6 := by
        revert hi
        split <;> (try split) <;> omega
      clear hi
      obtain ⟨⟨y1, y2, y3, y4, y5, y6, y7, y8, y9, y10, y11, y12, y13, y14, y15, y16, rfl⟩, sm⟩ := hP
      walk_at "go"
      refine ⟨a, ns, 0 + i, rfl, sm.seq hA, by omega, by omega, fun b H2 hb0 s2 hb2 => ?_⟩
      have hb00 : H b = none := sm.free hb0
      walk_at "go"
      refine ⟨b, rfl, hb2, fun H3 g hgr m3 hb3 => ?_⟩
      have hgz : g = 0 ∨ (3 ≤ g ∧ g ≤ 13) := by
        unfold Gr at hgr
        omega
      have hg' : 0 ≤ g ∧ g ≤ 13 := by omega
      have sm3 : Same H H3 := Same.mv (sm.trans s2) hb00 m3
      walk_at "go"
      refine w_new (by simp) fun p4 H4 hp4 s4 h4 => ?_
      walk_at "go"
      refine ⟨b, 8, rfl, by decide, by decide, hb3.same s4, fun H5 d5 h50 h51 m5 hb5 => ?_⟩
      walk_at "go"
      refine w_I (divZ_small (by decide) (by decide)) ?_
      obtain ⟨sz, esz, hsz0, hsz1⟩ := pick2 (i := d5.fdiv 7) (by rw [fdiv_pos _ (by decide)]; omega)
      refine w_ixL (m5 _ _ (bag_ne hb3 hp4) h4) esz ?_
      have sm5 : Same H H5 := Same.mv (sm3.trans s4) hb00 m5
      walk_at "go"
      refine ⟨b, sz, rfl, by omega, by omega, hb5, fun H6 d6 h60 h61 m6 hb6 => ?_⟩
      walk_at "go"
      refine ⟨b, sz, rfl, by omega, by omega, hb6, fun H7 d7 h70 h71 m7 hb7 => ?_⟩
      walk_at "go"
      refine ⟨b, sz, rfl, by omega, by omega, hb7, fun H8 d8 h80 h81 m8 hb8 => ?_⟩
      walk_at "go"
      refine w_new (by simp) fun p9 H9 hp9 s9 h9 => ?_
      have sm9 : Same H H9 := (Same.mv (Same.mv (Same.mv sm5 hb00 m6) hb00 m7) hb00 m8).trans s9
      walk_at "go"
      have hhi : 1 ≤ 1 + d6 ∧ 1 + d6 ≤ 10 := by omega
      have hwi : 1 ≤ 1 + d7 ∧ 1 + d7 ≤ 10 := by omega
      have hmo : 1 ≤ 1 + d8 ∧ 1 + d8 ≤ 10 := by omega
      generalize 1 + d6 = hi at hhi ⊢
      generalize 1 + d7 = wi at hwi ⊢
      generalize 1 + d8 = mo at hmo ⊢
      refine ⟨b, g, hi, wi, rfl, hgr, hhi.1, hhi.2, hwi.1, hwi.2, hb8.same s9, fun H10 v1 hv1 m10 hb10 => ?_⟩
      walk_at "go"
      refine ⟨b, g, wi, mo, rfl, hgr, hwi.1, hwi.2, hmo.1, hmo.2, hb10, fun H11 v2 hv2 m11 hb11 => ?_⟩
      walk_at "go"
      refine w_new (by simp) fun p12 H12 hp12 s12 h12 => ?_
      have sm12 : Same H H12 := (Same.mv (Same.mv sm9 hb00 m10) hb00 m11).trans s12
      have hb12 := hb11.same s12
      obtain ⟨t1, hv1, ht1, hg1⟩ := (hv1.kt (m11.kt hb10)).kt (Kt.of s12)
      obtain ⟨t2, hv2, ht2, hg2⟩ := hv2.kt (Kt.of s12)
      have ho1 : ∀ r ∈ t1, r.length = wi.toNat ∧ ∀ x ∈ r, OkN g 40 x := fun r h => ⟨(hg1 r h).1, fun x m => ((hg1 r h).2 x m).ok (by decide)⟩
      have ho2 : ∀ r ∈ t2, r.length = mo.toNat ∧ ∀ x ∈ r, OkN g 40 x := fun r h => ⟨(hg2 r h).1, fun x m => ((hg2 r h).2 x m).ok (by decide)⟩
      have tk1 : ∀ {H' : Hp}, TabV H' v1 t1 → TK 205 H' v1 := fun h => TabG.tk ⟨t1, h, ht1, hg1⟩ (by decide) (by decide) (by omega) (by omega) (by omega) (by omega)
      have tk2 : ∀ {H' : Hp}, TabV H' v2 t2 → TK 205 H' v2 := fun h => TabG.tk ⟨t2, h, ht2, hg2⟩ (by decide) (by decide) (by omega) (by omega) (by omega) (by omega)
      obtain ⟨q1, xs1, ev1, hq1, h10, h11', hr1⟩ := tk1 hv1
      subst ev1
      obtain ⟨q2, xs2, ev2, hq2, h20, h21', hr2⟩ := tk2 hv2
      subst ev2
      obtain ⟨x10, hx10⟩ : ∃ x, xs1[0]? = some x := ⟨_, List.getElem?_eq_getElem h10⟩
      obtain ⟨x20, hx20⟩ : ∃ x, xs2[0]? = some x := ⟨_, List.getElem?_eq_getElem h20⟩
      walk_at "go"
      refine w_ixT hq1 (atI_nat (j := 0) hx10) ?_
      walk_at "go"
      refine w_ixT hq2 (atI_nat (j := 0) hx20) ?_
      walk_at "go"
      refine ⟨b, rfl, hb12, fun H13 v0 t0 m13 hb13 => ?_⟩
      have kd13 := Kd.mv m13 hb12 hb13
      walk_at "go"
      refine w_new (by simp) fun T H14 hT0 s14 hT14 => ?_
      have sm14 : Same H H14 := (Same.mv sm12 hb00 m13).trans s14
      have nT : T ≠ b := bag_ne hb13 hT0
      have hT00 : H T = none := (Same.mv sm12 hb00 m13).free hT0
      have kd14 : Kd H12 H14 := kd13.trans (Kd.of s14)
      walk_at "go"
      refine ⟨by decide, by decide, ?_⟩
      refine for_range (fun j σ H' => (∃ y4 y11 y12 y13 y14 y15 y16, σ = [some (.ref a), some (.int (0 + (i : Int))), some (.ref b), some (.int g), y4, some (.int hi), some (.int wi), some (.int mo), some (.ref q1), some (.ref q2), some (.ref T), y11, y12, y13, y14, y15, y16]) ∧ Same H H' ∧ Bag H' b ∧ Kt H12 H' ∧ ∃ xs : List V, H' T = some (.lst xs) ∧ xs.length ≤ 5 + 3 * j ∧ ∀ v ∈ xs, TB 207 3 H' v) ⟨⟨_, _, _, _, _, _, _, rfl⟩, sm14, hb13.same s14, kd14.1, _, hT14, by simp, fun v hv => ?_⟩ (fun j σ H' hj hP => ?_) (fun σ H16 hP => ?_)
      · simp only [List.mem_cons, List.not_mem_nil, or_false] at hv
        rcases hv with rfl | rfl | rfl | rfl | rfl
        · exact (TK.kt (tk1 hv1) kd14.1).tb (by decide)
        · exact ((hr1 _ (List.mem_of_getElem? hx10)).kt kd14.1 |>.tb (by decide)).up
        · exact (TK.kt (tk2 hv2) kd14.1).tb (by decide)
        · exact ((hr2 _ (List.mem_of_getElem? hx20)).kt kd14.1 |>.tb (by decide)).up
        · exact ((t0.kd' (Kd.of s14)).wide (by decide)).up.up
      · obtain ⟨⟨y4, y11, y12, y13, y14, y15, y16, rfl⟩, smj, hbj, ktj, xs, hxs, hl, hth⟩ := hP
        have hj4 : j < 4 := hj
        walk_at "go"
        refine ⟨b, g, .ref q1, 205, rfl, TK.kt (tk1 hv1) ktj, by decide, by decide, hg'.1, hg'.2, hbj, fun K1 w1 u1 n1 c1 => ?_⟩
        have kd1 := Kd.mv n1 hbj c1
        walk_at "go"
        have hTK1 := n1 _ _ nT hxs
        refine ⟨.inl ⟨rfl, _, SqL.of hTK1⟩, ?_⟩
        walk_at "go"
        refine w_ixT (kd1.1 _ _ (ktj _ _ hq1)) (atI_nat (j := 0) hx10) ?_
        walk_at "go"
        refine ⟨b, g, x10, 205, rfl, (hr1 _ (List.mem_of_getElem? hx10)).kt (ktj.trans kd1.1), by decide, by decide, hg'.1, hg'.2, c1, fun K2 w2 u2 n2 c2 => ?_⟩
        have kd2 := Kd.mv n2 c1 c2
        walk_at "go"
        refine w_new (by simp) fun L K3 hL0 e3 hL3 => ?_
        have hTK3 := e3 _ _ (n2 _ _ nT hTK1)
        walk_at "go"
        refine w_extend hTK3 hL3 (by simp; omega) ?_
        have kU : Kd K3 (upd K3 T (.lst (xs ++ [w1, w2]))) := Kd.updL hTK3
        have smU : Same H (upd K3 T (.lst (xs ++ [w1, w2]))) := Same.updD ((Same.mv (Same.mv smj hb00 n1) hb00 n2).trans e3) hT00
        have hbU : Bag (upd K3 T (.lst (xs ++ [w1, w2]))) b := (c2.same e3).upd nT
        have hTU : (upd K3 T (.lst (xs ++ [w1, w2]))) T = some (.lst (xs ++ [w1, w2])) := upd_same
        generalize upd K3 T (.lst (xs ++ [w1, w2])) = HU at kU smU hbU hTU ⊢
        have k2U : Kd K2 HU := (Kd.of e3).trans kU
        have hthU : ∀ v ∈ xs ++ [w1, w2], TB 207 3 HU v := fun v hv => by
          rcases List.mem_append.mp hv with h | h
          · exact (hth v h).kd' (kd1.trans (kd2.trans k2U))
          · simp only [List.mem_cons, List.not_mem_nil, or_false] at h
            rcases h with rfl | rfl
            · exact (u1.wide (by decide)).kd' (kd2.trans k2U)
            · exact (u2.wide (by decide)).up.kd' k2U
        have ktU : Kt H12 HU := ktj.trans (kd1.1.trans (kd2.1.trans k2U.1))
        have u1U : TB 206 3 HU w1 := u1.kd' (kd2.trans k2U)
        walk_at "go"
        refine ⟨g, w1, hi, wi, 206, 0, rfl, hg'.1, u1U, fun K4 e4 => ?_⟩
        walk_at "go"
        refine w_iteB (fun hw => ?_) (fun hw => ?_)
        · have tk4 : TK 206 K4 w1 := TK.kt (tk_of u1U hw hhi.1 hhi.2 hwi.1 hwi.2) (Kt.of e4)
          walk_at "go"
          refine ⟨.inl ⟨rfl, _, SqL.of (e4 _ _ hTU)⟩, ?_⟩
          walk_at "go"
          refine ⟨b, g, w1, 206, rfl, tk4, by decide, by decide, hg'.1, hg'.2, hbU.same e4, fun K5 w5 u5 n5 c5 => ?_⟩
          have kd5 := Kd.mv n5 (hbU.same e4) c5
          have hTK5 := n5 _ _ nT (e4 _ _ hTU)
          walk_at "go"
          refine w_append hTK5 (by simp; omega) ?_
          have kV : Kd K5 (upd K5 T (.lst (xs ++ [w1, w2] ++ [w5]))) := Kd.updL hTK5
          refine ⟨⟨_, _, _, _, _, _, _, rfl⟩, Same.updD (Same.mv (smU.trans e4) hb00 n5) hT00, c5.upd nT, ktU.trans ((Kt.of e4).trans (kd5.1.trans kV.1)), _, upd_same, by simp; omega, fun v hv => ?_⟩
          rcases List.mem_append.mp hv with h | h
          · exact (hthU v h).kd' ((Kd.of e4).trans (kd5.trans kV))
          · rw [List.mem_singleton.mp h]
            exact u5.kd' kV
        · walk_at "go"
          exact ⟨⟨_, _, _, _, _, _, _, rfl⟩, smU.trans e4, hbU.same e4, ktU.trans (Kt.of e4), _, e4 _ _ hTU, by simp; omega, fun v hv => (hthU v hv).kd' (Kd.of e4)⟩
      · obtain ⟨⟨y4, y11, y12, y13, y14, y15, y16, rfl⟩, sm16, _, kt16, xs, hxs, hl, hth⟩ := hP
        have hl17 : xs.length ≤ 17 := hl
        clear hl
        replace hv1 : TabV H16 (.ref q1) t1 := TabV.kt hv1 kt16
        replace hv2 : TabV H16 (.ref q2) t2 := TabV.kt hv2 kt16
        have hlt1 : t1.length ≤ 10 := by omega
        have hlt2 : t2.length ≤ 10 := by omega
        walk_at "go"
        refine ⟨T, xs, rfl, SqL.of hxs, ?_⟩
        refine w_newO fun R J1 hR j1 hRR => ?_
        refine w_cat (j1 _ _ hxs) hRR (by rw [List.length_reverse]; omega) ?_
        refine w_newO fun L J2 hL j2 hLL => ?_
        walk_at "go"
        have j02 := j1.trans j2
        refine ⟨g, L, hi, wi, xs ++ xs.reverse, 207, rfl, hg'.1, hLL, fun x hx => ?_, fun J3 j3 => ?_⟩
        · have hx' : x ∈ xs := by
            rcases List.mem_append.mp hx with h | h
            · exact h
            · exact List.mem_reverse.mp h
          exact (hth x hx').kd' (Kd.of j02)
        have j03 := j02.trans j3
        walk_at "go"
        refine iteF ?_
        walk_at "go"
        refine ⟨g, T, wi, hi, xs, 207, rfl, hg'.1, j03 _ _ hxs, fun x hx => (hth x hx).kd' (Kd.of j03), fun J4 j4 => ?_⟩
        have j04 := j03.trans j4
        walk_at "go"
        refine iteF ?_
        walk_at "go"
        refine ⟨by omega, by omega, fun D hD => ?_⟩
        refine lc_range (fun m H' => Same J4 H' ∧ ∃ ys, H' D = some (.lst ys) ∧ Acc RowV H' ys (t1.map fun r => (turnF mo.toNat t2).map (cellF g r)) m) ⟨Same.updD (Same.refl J4) hD, [], upd_same, Acc.nil⟩ (fun m H' hm hP => ?_) (fun J5 hP => ?_)
        · obtain ⟨sd, ys, hD', hacc⟩ := hP
          have hm' : m < t1.length := by omega
          have htm : t1[m]? = some t1[m] := List.getElem?_eq_getElem hm'
          have hmem := List.getElem_mem hm'
          walk_at "go"
          refine ⟨rfl, ?_⟩
          walk_at "go"
          refine ⟨by omega, by omega, fun D2 hD2 => ?_⟩
          refine lc_range (fun n' H'' => Same H' H'' ∧ ∃ zs, H'' D2 = some (.lst zs) ∧ Acc NumV H'' zs ((turnF mo.toNat t2).map (cellF g t1[m])) n') ⟨Same.updD (Same.refl H') hD2, [], upd_same, Acc.nil⟩ (fun n' H'' hn' hP => ?_) (fun H'' hP => ?_)
          · obtain ⟨se, zs, hD2', hacc2⟩ := hP
            have hn2 : n' < mo.toNat := hn'
            walk_at "go"
            refine ⟨rfl, ?_⟩
            walk_at "go"
            rw [Int.zero_add, Int.zero_add]
            have sde := j04.trans (sd.trans se)
            refine ⟨g, .ref q1, .ref q2, m, n', t1, t2, t1[m], wi.toNat, mo.toNat, rfl, hgz, TabV.kt hv1 (Kt.of sde), TabV.kt hv2 (Kt.of sde), htm, (ho1 _ hmem).1, (ho1 _ hmem).2, ht2, ho2, hn2, by omega, fun v3 H3 s3 h3 => ?_⟩
            have h3D := s3 _ _ hD2'
            have kt : Kt H'' (upd H3 D2 (.lst (zs ++ [v3]))) := (Kt.of s3).trans (Kt.updL h3D)
            refine ⟨zs, h3D, small1000 (by rw [hacc2.1]; omega), Same.updD (se.trans s3) hD2, _, upd_same, ?_⟩
            exact (hacc2.mono fun x a h => NumV.kt h kt).snoc (by rw [List.getElem?_map, turn_at hn2]; rfl) (h3.kt (Kt.updL h3D))
          · obtain ⟨se, zs, hD2', hacc2⟩ := hP
            walk_at "go"
            refine w_tupOf2 hD2' ?_
            refine w_newO fun q3 H3 hq3 s3 h3 => ?_
            have hD3 := s3 _ _ (se _ _ hD')
            have kt : Kt H' (upd H3 D (.lst (ys ++ [V.ref q3]))) := (Kt.of (se.trans s3)).trans (Kt.updL hD3)
            refine ⟨ys, hD3, small1000 (by rw [hacc.1]; omega), Same.updD ((sd.trans se).trans s3) hD, _, upd_same, ?_⟩
            have hrow : RowV H3 (.ref q3) ((turnF mo.toNat t2).map (cellF g t1[m])) := (hacc2.mono fun x a h => NumV.kt h (Kt.of s3)).sq (by rw [List.length_map, turn_len]) h3
            exact (hacc.mono fun x a h => RowV.kt h kt).snoc (by rw [List.getElem?_map, htm]; rfl) (RowV.kt hrow (Kt.updL hD3))
        · obtain ⟨sd, ys, hD', hacc⟩ := hP
          walk_at "go"
          refine ⟨_, _, rfl, .inl ⟨SqL.of hD', fun du hdu => ?_⟩⟩
          have s6 := same_upd (o := .tup ys) hdu
          have h6 : (upd J5 du (.tup ys)) du = some (.tup ys) := upd_same
          generalize upd J5 du (.tup ys) = J6 at s6 h6 ⊢
          have hdue : TabV J6 (.ref du) (t1.map fun r => (turnF mo.toNat t2).map (cellF g r)) := (hacc.mono fun x a h => RowV.kt h (Kt.of s6)).sq (by rw [List.length_map]; omega) h6
          have j06 := j04.trans (sd.trans s6)
          walk_at "go"
          refine ⟨g, .ref q1, .ref q2, t1, t2, wi.toNat, mo.toNat, 40, rfl, hgz, TabV.kt hv1 (Kt.of j06), TabV.kt hv2 (Kt.of j06), ho1, ht2, ho2, by omega, by omega, by omega, by omega, by decide, by decide, fun v7 J7 s7 h7 => ?_⟩
          walk_at "go"
          refine w_neTab h7 (TabV.kt hdue (Kt.of s7)) rfl ?_
          walk_at "go"
          have j07 := j06.trans s7
          have hv17 := TabV.kt hv1 (Kt.of j07)
          obtain ⟨q1', xs7, e17, hq17, hlx7, hx7⟩ := hv17
          cases e17
          refine ⟨q1, rfl, ⟨xs7, SqT.of hq17⟩, fun E hE => ?_⟩
          refine lc_tup (xs := xs7) (fun m H' => Same J7 H' ∧ ∃ zs, H' E = some (.lst zs) ∧ Acc RowV H' zs (t1.map fun r => (turnF mo.toNat t2).map (cellF g r)) m) ⟨Same.updD (Same.refl J7) hE, [], upd_same, Acc.nil⟩ (fun m H' _ hP => SqT.of (hP.1 _ _ hq17)) (fun m x H' hxm hP => ?_) (fun J8 hP => ?_)
          · obtain ⟨se, zs, hE', hacc2⟩ := hP
            have hm' : m < t1.length := by
              have := (List.getElem?_eq_some_iff.mp hxm).1
              omega
            have htm : t1[m]? = some t1[m] := List.getElem?_eq_getElem hm'
            have hmem := List.getElem_mem hm'
            walk_at "go"
            refine ⟨rfl, ?_⟩
            walk_at "go"
            refine ⟨g, x, .ref q2, t1[m], t2, wi.toNat, mo.toNat, 40, rfl, hgz, RowV.kt (hx7 m x _ hxm htm) (Kt.of se), TabV.kt hv2 (Kt.of (j07.trans se)), ho1 _ hmem, ht2, ho2, by omega, by omega, by omega, by decide, by decide, fun v3 H3 s3 h3 => ?_⟩
            have h3E := s3 _ _ hE'
            have kt : Kt H' (upd H3 E (.lst (zs ++ [v3]))) := (Kt.of s3).trans (Kt.updL h3E)
            refine ⟨zs, h3E, small1000 (by rw [hacc2.1]; omega), Same.updD (se.trans s3) hE, _, upd_same, ?_⟩
            exact (hacc2.mono fun x a h => RowV.kt h kt).snoc (by rw [List.getElem?_map, htm]; rfl) (RowV.kt h3 (Kt.updL h3E))
          · obtain ⟨se, zs, hE', hacc2⟩ := hP
            have s68 := s7.trans se
            have hdue8 := TabV.kt hdue (Kt.of s68)
            obtain ⟨du', ws, ed, hdu8, hlw, hw8⟩ := hdue8
            cases ed
            walk_at "go"
            refine ⟨du, ws, rfl, .inr (SqT.of hdu8), fun l9 hl9 => ?_⟩
            have s9' := same_upd (o := .lst ws) hl9
            have h9' : (upd J8 l9 (.lst ws)) l9 = some (.lst ws) := upd_same
            generalize upd J8 l9 (.lst ws) = J9 at s9' h9' ⊢
            refine w_neRows (s9' _ _ hE') h9' ?_ ⟨hlw, fun i x r e1 e2 => RowV.kt (hw8 i x r e1 e2) (Kt.of s9')⟩ ?_
            · rw [List.length_map]
              rw [hlx7] at hacc2
              exact hacc2.mono fun x a h => RowV.kt h (Kt.of s9')
            have j09 := j07.trans (se.trans s9')
            walk_at "go"
            refine ⟨.ref q1, t1, wi.toNat, rfl, TabV.kt hv1 (Kt.of j09), by omega, by omega, fun r h => (ho1 r h).1, by omega, fun v10 J10 s10 h10' => ?_⟩
            walk_at "go"
            have j010 := j09.trans s10
            have hv1A := TabV.kt hv1 (Kt.of j010)
            obtain ⟨q1', xsA, eA, hqA, hlA, hxA⟩ := hv1A
            cases eA
            refine ⟨by omega, by omega, fun F hF => ?_⟩
            refine lc_range (fun m H' => Same J10 H' ∧ ∃ ys, H' F = some (.lst ys) ∧ Acc RowV H' ys (turnF wi.toNat t1) m) ⟨Same.updD (Same.refl J10) hF, [], upd_same, Acc.nil⟩ (fun m H' hm hP => ?_) (fun J11 hP => ?_)
            · obtain ⟨sf, ys', hF', hacc3⟩ := hP
              have hm' : m < wi.toNat := hm
              have hqA' := sf _ _ hqA
              walk_at "go"
              refine ⟨rfl, ?_⟩
              walk_at "go"
              refine ⟨q1, rfl, ⟨xsA, SqT.of hqA'⟩, fun D2 hD2 => ?_⟩
              refine lc_tup (xs := xsA) (fun n' H'' => Same H' H'' ∧ ∃ zs, H'' D2 = some (.lst zs) ∧ Acc NumV H'' zs (t1.map fun row => row.getD m (0, 1)) n') ⟨Same.updD (Same.refl H') hD2, [], upd_same, Acc.nil⟩ (fun n' H'' _ hP => SqT.of (hP.1 _ _ hqA')) (fun n' x H'' hxn hP => ?_) (fun H'' hP => ?_)
              · obtain ⟨sg, zs', hD2', hacc4⟩ := hP
                have hn2 : n' < t1.length := by
                  have := (List.getElem?_eq_some_iff.mp hxn).1
                  omega
                have htn : t1[n']? = some t1[n'] := List.getElem?_eq_getElem hn2
                obtain ⟨pr, ns', rfl, hpr, hln, hns⟩ := hxA n' x _ hxn htn
                have hlr := (ho1 _ (List.getElem_mem hn2)).1
                obtain ⟨y, hy⟩ : ∃ y, ns'[m]? = some y := ⟨_, List.getElem?_eq_getElem (by omega)⟩
                have htj : t1[n'][m]? = some (t1[n'].getD m (0, 1)) := by
                  rw [List.getD_eq_getElem?_getD, List.getElem?_eq_getElem (by omega)]
                  rfl
                have hn := hns m y _ hy htj
                have hpr' := sg _ _ (sf _ _ hpr)
                walk_at "go"
                refine ⟨rfl, ?_⟩
                walk_at "go"
                rw [Int.zero_add]
                refine w_ixT hpr' (atI_nat hy) ?_
                have kt : Kt H'' (upd H'' D2 (.lst (zs' ++ [y]))) := Kt.updL hD2'
                refine ⟨zs', hD2', small1000 (by rw [hacc4.1]; omega), Same.updD sg hD2, _, upd_same, ?_⟩
                exact (hacc4.mono fun x a h => NumV.kt h kt).snoc (a := t1[n'].getD m (0, 1)) (by rw [List.getElem?_map, htn]; rfl) ((hn.kt (Kt.of (sf.trans sg))).kt kt)
              · obtain ⟨sg, zs', hD2', hacc4⟩ := hP
                walk_at "go"
                refine w_tupOf2 hD2' ?_
                refine w_newO fun q3 H3 hq3 s3 h3 => ?_
                have hF3 := s3 _ _ (sg _ _ hF')
                have kt : Kt H' (upd H3 F (.lst (ys' ++ [V.ref q3]))) := (Kt.of (sg.trans s3)).trans (Kt.updL hF3)
                refine ⟨ys', hF3, small1000 (by rw [hacc3.1]; omega), Same.updD ((sf.trans sg).trans s3) hF, _, upd_same, ?_⟩
                have hrow : RowV H3 (.ref q3) (t1.map fun row => row.getD m (0, 1)) := (hacc4.mono fun x a h => NumV.kt h (Kt.of s3)).sq (by rw [List.length_map]; exact hlA) h3
                exact (hacc3.mono fun x a h => RowV.kt h kt).snoc (turn_at hm') (RowV.kt hrow (Kt.updL hF3))
            · obtain ⟨sf, ys', hF', hacc3⟩ := hP
              walk_at "go"
              refine ⟨_, _, rfl, .inl ⟨SqL.of hF', fun tu htu => ?_⟩⟩
              have s12' := same_upd (o := .tup ys') htu
              have h12' : (upd J11 tu (.tup ys')) tu = some (.tup ys') := upd_same
              generalize upd J11 tu (.tup ys') = J12 at s12' h12' ⊢
              have htur : TabV J12 (.ref tu) (turnF wi.toNat t1) := (hacc3.mono fun x a h => RowV.kt h (Kt.of s12')).sq (by rw [turn_len]) h12'
              have s1012 := sf.trans s12'
              refine w_neTab (TabV.kt h10' (Kt.of s1012)) htur rfl ?_
              have j012 := j010.trans s1012
              walk_at "go"
              refine ⟨.ref q2, t2, mo.toNat, rfl, TabV.kt hv2 (Kt.of j012), by omega, by omega, fun r h => (ho2 r h).1, by omega, fun v13 J13 s13 h13 => ?_⟩
              walk_at "go"
              refine ⟨v13, turnF mo.toNat t2, wi.toNat, rfl, h13, by rw [turn_len]; omega, by rw [turn_len]; omega, turn_rows ht2, by omega, fun v14 J14 s14' h14 => ?_⟩
              walk_at "go"
              have j014 := j012.trans (s13.trans s14')
              rw [turn_turn ht2 fun r h => (ho2 r h).1] at h14
              refine w_neTab h14 (TabV.kt hv2 (Kt.of j014)) rfl ?_
              walk_at "go"
              refine ⟨g, .ref q1, .ref q2, t1, t2, wi.toNat, mo.toNat, 40, rfl, hgz, TabV.kt hv1 (Kt.of j014), TabV.kt hv2 (Kt.of j014), ho1, ht2, ho2, by omega, by omega, by omega, by omega, by decide, by decide, fun v15 J15 s15 h15 => ?_⟩
              walk_at "go"
              have s615 : Same J6 J15 := s68.trans (s9'.trans (s10.trans (s1012.trans (s13.trans (s14'.trans s15)))))
              refine w_neTab h15 (TabV.kt hdue (Kt.of s615)) rfl ?_
              walk_at "go"
              have j015 := j014.trans s15
              refine ⟨g, .ref q1, .ref q2, t1, t2, wi.toNat, mo.toNat, 40, rfl, hgz, TabV.kt hv1 (Kt.of j015), TabV.kt hv2 (Kt.of j015), ho1, ht2, ho2, by omega, by omega, by omega, by omega, by decide, by decide, fun v16 J16 s16 h16 => ?_⟩
              walk_at "go"
              have hcols : ∀ s ∈ turnF mo.toNat t2, s.length = wi.toNat ∧ ∀ x ∈ s, OkN g 40 x := turn_ok ht2 ho2
              have hdims : ∀ r ∈ (t1.map fun r => (turnF mo.toNat t2).map (cellF g r)), (r.length = mo.toNat) ∧ ∀ x ∈ r, PBd x ∧ numOk g [.int x.1, .int x.2] = true := fun r hr' => by
                obtain ⟨r0, hr0, rfl⟩ := List.mem_map.mp hr'
                refine ⟨by rw [List.length_map, turn_len], fun x hx => ?_⟩
                obtain ⟨s0, hs0, rfl⟩ := List.mem_map.mp hx
                exact ⟨part_ok hgz (ho1 r0 hr0).2 (hcols s0 hs0).2 (by have := (ho1 r0 hr0).1; omega) (by have := (hcols s0 hs0).1; omega), cell_num hgz (ho1 r0 hr0).2 (hcols s0 hs0).2⟩
              have htb : TB 3000 3 J16 v16 := TabV.tb h16 (by rw [List.length_map]; omega) fun r hr' => ⟨by have := (hdims r hr').1; omega, fun x hx => ⟨((hdims r hr').2 x hx).1.1, ((hdims r hr').2 x hx).1.2.1⟩⟩
              have htt : tabOf J16 g hi mo v16 = true := tab_true h16 (by rw [List.length_map]; omega) fun r hr' => ⟨by have := (hdims r hr').1; omega, fun x hx => ((hdims r hr').2 x hx).2⟩
              refine ⟨g, v16, hi, mo, 3000, 0, rfl, hg'.1, htb, fun J17 s17 => ?_⟩
              rw [htt]
              walk_at "go"
              refine iteF ?_
              walk_at "go"
              exact ⟨⟨_, _, _, _, _, _, _, _, _, _, _, _, _, _, _, _, rfl⟩, sm16.trans (j015.trans (s16.trans s17))⟩
    · obtain ⟨⟨y1, y2, y3, y4, y5, y6, y7, y8, y9, y10, y11, y12, y13, y14, y15, y16, rfl⟩, sm⟩ := hP
      walk_at "go"
      refine w_new (by simp) fun a1 J1 ha1 j1 i1 => ?_
      walk_at "go"
      refine w_new (by simp) fun a2 J2 ha2 j2 i2 => ?_
      walk_at "go"
      refine w_new (by simp) fun a3 J3 ha3 j3 i3 => ?_
      walk_at "go"
      refine w_new (by simp) fun a4 J4 ha4 j4 i4 => ?_
      walk_at "go"
      refine w_new (by simp) fun a5 J5 ha5 j5 i5 => ?_
      walk_at "go"
      refine w_new (by simp) fun a6 J6 ha6 j6 i6 => ?_
      walk_at "go"
      refine w_new (by simp) fun a7 J7 ha7 j7 i7 => ?_
      walk_at "go"
      refine w_new (by simp) fun a8 J8 ha8 j8 i8 => ?_
      have r3 : RowV J8 (.ref a3) [(1, 1), (2, 1)] := sqv2 (j8 _ _ (j7 _ _ (j6 _ _ (j5 _ _ (j4 _ _ i3))))) ⟨a1, rfl, j8 _ _ (j7 _ _ (j6 _ _ (j5 _ _ (j4 _ _ (j3 _ _ (j2 _ _ i1))))))⟩ ⟨a2, rfl, j8 _ _ (j7 _ _ (j6 _ _ (j5 _ _ (j4 _ _ (j3 _ _ i2)))))⟩
      have r5 : RowV J8 (.ref a5) [(1, 1)] := sqv1 (j8 _ _ (j7 _ _ (j6 _ _ i5))) ⟨a4, rfl, j8 _ _ (j7 _ _ (j6 _ _ (j5 _ _ i4)))⟩
      have r7 : RowV J8 (.ref a7) [(2, 1)] := sqv1 (j8 _ _ i7) ⟨a6, rfl, j8 _ _ (j7 _ _ i6)⟩
      have t8 : TabV J8 (.ref a8) [[(1, 1)], [(2, 1)]] := sqv2 i8 r5 r7
      have okA : OkN 3 40 (1, 1) := ⟨by decide, by decide, .inr ⟨by decide, by decide, rfl⟩⟩
      have okB : OkN 3 40 (2, 1) := ⟨by decide, by decide, .inr ⟨by decide, by decide, rfl⟩⟩
      walk_at "go"
      refine ⟨3, .ref a3, .ref a8, [(1, 1), (2, 1)], [[(1, 1)], [(2, 1)]], 2, 1, 40, rfl, .inr ⟨by decide, by decide⟩, r3, t8, ⟨rfl, fun x hx => ?_⟩, rfl, fun r hr' => ?_, by decide, by decide, by decide, by decide, by decide, fun v9 J9 j9 h9 => ?_⟩
      · simp only [List.mem_cons, List.not_mem_nil, or_false] at hx
        rcases hx with rfl | rfl
        · exact okA
        · exact okB
      · simp only [List.mem_cons, List.not_mem_nil, or_false] at hr'
        rcases hr' with rfl | rfl
        · exact ⟨rfl, fun x hx => by rw [List.mem_singleton.mp hx]; exact okA⟩
        · exact ⟨rfl, fun x hx => by rw [List.mem_singleton.mp hx]; exact okB⟩
      walk_at "go"
      refine w_new (by simp) fun b1 K1 hb1 k1 l1 => ?_
      walk_at "go"
      refine w_new (by simp) fun b2 K2 hb2 k2 l2 => ?_
      have e9 : ((turnF 1 [[(1, 1)], [(2, 1)]]).map (cellF 3 [(1, 1), (2, 1)])) = [(2, 1)] := by decide +kernel
      rw [e9] at h9
      refine w_eqRow (RowV.kt h9 (Kt.of (k1.trans k2))) (sqv1 l2 ⟨b1, rfl, k2 _ _ l1⟩) ?_
      exact q _

def d_is_whole : He.DefD := ⟨("is_whole", none), "is_whole", "is_whole", defArgs (topS 1), defBody (topS 1), defScope (topS 1), [], []⟩
def d_common_divisor : He.DefD := ⟨("common_divisor", none), "common_divisor", "common_divisor", defArgs (topS 2), defBody (topS 2), defScope (topS 2), [], []⟩
def d_is_number : He.DefD := ⟨("is_number", none), "is_number", "is_number", defArgs (topS 4), defBody (topS 4), defScope (topS 4), [], []⟩
def d_lowest : He.DefD := ⟨("lowest", none), "lowest", "lowest", defArgs (topS 5), defBody (topS 5), defScope (topS 5), [], []⟩
def d_wheel_back : He.DefD := ⟨("wheel_back", none), "wheel_back", "wheel_back", defArgs (topS 6), defBody (topS 6), defScope (topS 6), [], []⟩
def d_is_row : He.DefD := ⟨("is_row", none), "is_row", "is_row", defArgs (topS 8), defBody (topS 8), defScope (topS 8), [], []⟩
def d_is_table : He.DefD := ⟨("is_table", none), "is_table", "is_table", defArgs (topS 9), defBody (topS 9), defScope (topS 9), [], []⟩
def d_through : He.DefD := ⟨("through", none), "through", "through", defArgs (topS 10), defBody (topS 10), defScope (topS 10), [], []⟩
def d_product : He.DefD := ⟨("product", none), "product", "product", defArgs (topS 11), defBody (topS 11), defScope (topS 11), [], []⟩
def d_product_row : He.DefD := ⟨("product_row", none), "product_row", "product_row", defArgs (topS 12), defBody (topS 12), defScope (topS 12), [], []⟩
def d_dot : He.DefD := ⟨("dot", none), "dot", "dot", defArgs (topS 13), defBody (topS 13), defScope (topS 13), [], []⟩
def d_whole_row : He.DefD := ⟨("whole_row", none), "whole_row", "whole_row", defArgs (topS 14), defBody (topS 14), defScope (topS 14), [], []⟩
def d_turned : He.DefD := ⟨("turned", none), "turned", "turned", defArgs (topS 15), defBody (topS 15), defScope (topS 15), [], []⟩
def d__law_is_row : He.DefD := ⟨("_law_is_row", none), "_law_is_row", "_law_is_row", defArgs (topS 17), defBody (topS 17), defScope (topS 17), [], []⟩
def d__law_is_number : He.DefD := ⟨("_law_is_number", none), "_law_is_number", "_law_is_number", defArgs (topS 18), defBody (topS 18), defScope (topS 18), [], []⟩
def d__law_is_whole : He.DefD := ⟨("_law_is_whole", none), "_law_is_whole", "_law_is_whole", defArgs (topS 19), defBody (topS 19), defScope (topS 19), [], []⟩
def d__law_shared : He.DefD := ⟨("_law_shared", none), "_law_shared", "_law_shared", defArgs (topS 20), defBody (topS 20), defScope (topS 20), [], []⟩
def d__law_is_table : He.DefD := ⟨("_law_is_table", none), "_law_is_table", "_law_is_table", defArgs (topS 21), defBody (topS 21), defScope (topS 21), [], []⟩
def d__law_sum : He.DefD := ⟨("_law_sum", none), "_law_sum", "_law_sum", defArgs (topS 22), defBody (topS 22), defScope (topS 22), [], []⟩
def d__law_plus : He.DefD := ⟨("_law_plus", none), "_law_plus", "_law_plus", defArgs (topS 23), defBody (topS 23), defScope (topS 23), [], []⟩
def d__law_low : He.DefD := ⟨("_law_low", none), "_law_low", "_law_low", defArgs (topS 24), defBody (topS 24), defScope (topS 24), [], []⟩
def d__law_times : He.DefD := ⟨("_law_times", none), "_law_times", "_law_times", defArgs (topS 25), defBody (topS 25), defScope (topS 25), [], []⟩
def d__law_bag : He.DefD := ⟨("_law_bag", none), "_law_bag", "_law_bag", defArgs (topS 26), defBody (topS 26), defScope (topS 26), [], []⟩
def d__law_ground : He.DefD := ⟨("_law_ground", none), "_law_ground", "_law_ground", defArgs (topS 27), defBody (topS 27), defScope (topS 27), [], []⟩
def d__law_take : He.DefD := ⟨("_law_take", none), "_law_take", "_law_take", defArgs (topS 28), defBody (topS 28), defScope (topS 28), [], []⟩
def d__law_rows : He.DefD := ⟨("_law_rows", none), "_law_rows", "_law_rows", defArgs (topS 29), defBody (topS 29), defScope (topS 29), [], []⟩
def d__law_row : He.DefD := ⟨("_law_row", none), "_law_row", "_law_row", defArgs (topS 30), defBody (topS 30), defScope (topS 30), [], []⟩
def d__law_number : He.DefD := ⟨("_law_number", none), "_law_number", "_law_number", defArgs (topS 31), defBody (topS 31), defScope (topS 31), [], []⟩
def d__law_added : He.DefD := ⟨("_law_added", none), "_law_added", "_law_added", defArgs (topS 32), defBody (topS 32), defScope (topS 32), [], []⟩
def d__law_odd : He.DefD := ⟨("_law_odd", none), "_law_odd", "_law_odd", defArgs (topS 33), defBody (topS 33), defScope (topS 33), [], []⟩
def d__law_bent_table : He.DefD := ⟨("_law_bent_table", none), "_law_bent_table", "_law_bent_table", defArgs (topS 34), defBody (topS 34), defScope (topS 34), [], []⟩
def d__law_swapped : He.DefD := ⟨("_law_swapped", none), "_law_swapped", "_law_swapped", defArgs (topS 35), defBody (topS 35), defScope (topS 35), [], []⟩
def d__law_bent_row : He.DefD := ⟨("_law_bent_row", none), "_law_bent_row", "_law_bent_row", defArgs (topS 36), defBody (topS 36), defScope (topS 36), [], []⟩
def d__law_bent_number : He.DefD := ⟨("_law_bent_number", none), "_law_bent_number", "_law_bent_number", defArgs (topS 37), defBody (topS 37), defScope (topS 37), [], []⟩
def d__law_are_told : He.DefD := ⟨("_law_are_told", none), "_law_are_told", "_law_are_told", defArgs (topS 38), defBody (topS 38), defScope (topS 38), [], []⟩
def d__law_cell : He.DefD := ⟨("_law_cell", none), "_law_cell", "_law_cell", defArgs (topS 39), defBody (topS 39), defScope (topS 39), [], []⟩
def d_law : He.DefD := ⟨("law", none), "law", "law", defArgs (topS 40), defBody (topS 40), defScope (topS 40), [], []⟩
def fn : List He.DefD := [d_is_whole, d_common_divisor, d_is_number, d_lowest, d_wheel_back, d_is_row, d_is_table, d_through, d_product, d_product_row, d_dot, d_whole_row, d_turned, d__law_is_row, d__law_is_number, d__law_is_whole, d__law_shared, d__law_is_table, d__law_sum, d__law_plus, d__law_low, d__law_times, d__law_bag, d__law_ground, d__law_take, d__law_rows, d__law_row, d__law_number, d__law_added, d__law_odd, d__law_bent_table, d__law_swapped, d__law_bent_row, d__law_bent_number, d__law_are_told, d__law_cell, d_law]
def fa : List He.Fa := [.glo "is_whole", .glo "common_divisor", .glo "is_number", .glo "lowest", .glo "wheel_back", .glo "is_row", .glo "is_table", .glo "through", .glo "product", .glo "product_row", .glo "dot", .glo "whole_row", .glo "turned", .glo "_law_is_row", .glo "_law_is_number", .glo "_law_is_whole", .glo "_law_shared", .glo "_law_is_table", .glo "_law_sum", .glo "_law_plus", .glo "_law_low", .glo "_law_times", .glo "_law_bag", .glo "_law_ground", .glo "_law_take", .glo "_law_rows", .glo "_law_row", .glo "_law_number", .glo "_law_added", .glo "_law_odd", .glo "_law_bent_table", .glo "_law_swapped", .glo "_law_bent_row", .glo "_law_bent_number", .glo "_law_are_told", .glo "_law_cell", .glo "law", .free "isinstance", .free "int", .free "bool", .free "abs", .free "tuple", .free "len", .free "all", .free "sum", .free "zip", .free "range", .free "list", .free "str", .free "max", .free "min"]
def more (M : PySem.W.Frag) : Bool := true
abbrev R : PySem.W.OpenRow := PySem.W.OpenLaw.row PySem.Challenge.rw_fewmirrors_k04_rows_and_tables
def seen (M : PySem.W.Frag) : He.AlD × Bool := (He.obsD fa fn M, more M)
def seenG (gt : Addr → Option Obj) : He.AlD × Bool := seen (He.frG gt (He.asD gt 4))
def hk : PySem.W.Hook where
  α := He.AlD × Bool
  obs := fun sh => seenG sh.heap.get?
  val := fun _ => (He.valD fn, true)
  says := fun _ hp => ∃ M : PySem.W.Frag, M.In hp ∧ seen M = (He.valD fn, true)
  of := fun _ _ eq => ⟨_, He.frG_in, eq⟩
  keeps := fun _ _ _ ⟨M, inM, eq⟩ kp => ⟨M, PySem.W.Frag.In.keeps inM kp, eq⟩
def ob (s : PySem.W.SharedT) : He.AlD × Bool := seenG (HandSHeadRun.getT s)
theorem ob_eq (s : PySem.W.SharedT) : ob s = hk.obs s.abs := by
  have eq : HandSHeadRun.getT s = s.abs.heap.get? := funext (HandSHeadRun.getT_eq s)
  unfold ob
  rw [eq]
  rfl
def loose : List PySem.Str := (["is_whole", "common_divisor", "is_number", "lowest", "wheel_back", "is_row", "is_table", "through", "product", "product_row", "dot", "whole_row", "turned", "_law_is_row", "_law_is_number", "_law_is_whole", "_law_shared", "_law_is_table", "_law_sum", "_law_plus"] : List PySem.Str) ++ (["_law_low", "_law_times", "_law_bag", "_law_ground", "_law_take", "_law_rows", "_law_row", "_law_number", "_law_added", "_law_odd", "_law_bent_table", "_law_swapped", "_law_bent_row", "_law_bent_number", "_law_are_told", "_law_cell"] : List PySem.Str)
theorem run (w : World) : HandSHeadRun.RunEq R (PySem.W.view R.prog [40]) hk ob 2000 loose w := by
  intro os
  kernel_rfl
theorem facts {P : Program} {w : World} {K : PySem.W.Frag} {h : Heap} {mg : Str → Option Value} {f : Addr} (X : K.In h) (G : h.Ns mainGlobals mg) (hfa : mg ("law" : Str) = some (.ref f)) (c2 : seen K = (He.valD fn, true)) :
    ∃ fd : FuncData, (∀ (s : Shared) (v : Value), BindsTo s fd ⟨[v], []⟩ [("_law_script", v)]) ∧ ∀ base : Heap, K.In base → base.Ns mainGlobals mg → FnOk P w K mg base CX0 6 f fd ["_law_script"] (sp_law K) := by
  have c : He.SaysD fa fn K := congrArg (fun z : He.AlD × Bool => z.1) c2
  have cm : more K = true := congrArg (fun z : He.AlD × Bool => z.2) c2
  obtain ⟨fd_is_whole, F_is_whole⟩ := c.def_ 0 (d := d_is_whole) rfl
  have g_is_whole := He.glo_ok X G (c.fact 0 (f := .glo "is_whole") rfl)
  have b_is_whole : Binds K fd_is_whole ["thing"] [] := FunD.bindsN (ps := ["thing"]) F_is_whole fun _ _ _ _ _ _ us hl => match us, hl with | [_], _ => rfl
  obtain ⟨fd_common_divisor, F_common_divisor⟩ := c.def_ 1 (d := d_common_divisor) rfl
  have g_common_divisor := He.glo_ok X G (c.fact 1 (f := .glo "common_divisor") rfl)
  have b_common_divisor : Binds K fd_common_divisor ["a", "b"] [] := FunD.bindsN (ps := ["a", "b"]) F_common_divisor fun _ _ _ _ _ _ us hl => match us, hl with | [_, _], _ => rfl
  obtain ⟨fd_is_number, F_is_number⟩ := c.def_ 2 (d := d_is_number) rfl
  have g_is_number := He.glo_ok X G (c.fact 2 (f := .glo "is_number") rfl)
  have b_is_number : Binds K fd_is_number ["ground", "thing"] [] := FunD.bindsN (ps := ["ground", "thing"]) F_is_number fun _ _ _ _ _ _ us hl => match us, hl with | [_, _], _ => rfl
  obtain ⟨fd_lowest, F_lowest⟩ := c.def_ 3 (d := d_lowest) rfl
  have g_lowest := He.glo_ok X G (c.fact 3 (f := .glo "lowest") rfl)
  have b_lowest : Binds K fd_lowest ["ground", "top", "bottom"] [] := FunD.bindsN (ps := ["ground", "top", "bottom"]) F_lowest fun _ _ _ _ _ _ us hl => match us, hl with | [_, _, _], _ => rfl
  obtain ⟨fd_wheel_back, F_wheel_back⟩ := c.def_ 4 (d := d_wheel_back) rfl
  have g_wheel_back := He.glo_ok X G (c.fact 4 (f := .glo "wheel_back") rfl)
  have b_wheel_back : Binds K fd_wheel_back ["wheel", "whole"] [] := FunD.bindsN (ps := ["wheel", "whole"]) F_wheel_back fun _ _ _ _ _ _ us hl => match us, hl with | [_, _], _ => rfl
  obtain ⟨fd_is_row, F_is_row⟩ := c.def_ 5 (d := d_is_row) rfl
  have g_is_row := He.glo_ok X G (c.fact 5 (f := .glo "is_row") rfl)
  have b_is_row : Binds K fd_is_row ["ground", "thing", "many"] [] := FunD.bindsN (ps := ["ground", "thing", "many"]) F_is_row fun _ _ _ _ _ _ us hl => match us, hl with | [_, _, _], _ => rfl
  obtain ⟨fd_is_table, F_is_table⟩ := c.def_ 6 (d := d_is_table) rfl
  have g_is_table := He.glo_ok X G (c.fact 6 (f := .glo "is_table") rfl)
  have b_is_table : Binds K fd_is_table ["ground", "thing", "high", "wide"] [] := FunD.bindsN (ps := ["ground", "thing", "high", "wide"]) F_is_table fun _ _ _ _ _ _ us hl => match us, hl with | [_, _, _, _], _ => rfl
  obtain ⟨fd_through, F_through⟩ := c.def_ 7 (d := d_through) rfl
  have g_through := He.glo_ok X G (c.fact 7 (f := .glo "through") rfl)
  have b_through : Binds K fd_through ["ground", "row", "table"] [] := FunD.bindsN (ps := ["ground", "row", "table"]) F_through fun _ _ _ _ _ _ us hl => match us, hl with | [_, _, _], _ => rfl
  obtain ⟨fd_product, F_product⟩ := c.def_ 8 (d := d_product) rfl
  have g_product := He.glo_ok X G (c.fact 8 (f := .glo "product") rfl)
  have b_product : Binds K fd_product ["ground", "one", "other"] [] := FunD.bindsN (ps := ["ground", "one", "other"]) F_product fun _ _ _ _ _ _ us hl => match us, hl with | [_, _, _], _ => rfl
  obtain ⟨fd_product_row, F_product_row⟩ := c.def_ 9 (d := d_product_row) rfl
  have g_product_row := He.glo_ok X G (c.fact 9 (f := .glo "product_row") rfl)
  have b_product_row : Binds K fd_product_row ["ground", "row", "columns"] [] := FunD.bindsN (ps := ["ground", "row", "columns"]) F_product_row fun _ _ _ _ _ _ us hl => match us, hl with | [_, _, _], _ => rfl
  obtain ⟨fd_dot, F_dot⟩ := c.def_ 10 (d := d_dot) rfl
  have g_dot := He.glo_ok X G (c.fact 10 (f := .glo "dot") rfl)
  have b_dot : Binds K fd_dot ["wholes", "others"] [] := FunD.bindsN (ps := ["wholes", "others"]) F_dot fun _ _ _ _ _ _ us hl => match us, hl with | [_, _], _ => rfl
  obtain ⟨fd_whole_row, F_whole_row⟩ := c.def_ 11 (d := d_whole_row) rfl
  have g_whole_row := He.glo_ok X G (c.fact 11 (f := .glo "whole_row") rfl)
  have b_whole_row : Binds K fd_whole_row ["row"] [] := FunD.bindsN (ps := ["row"]) F_whole_row fun _ _ _ _ _ _ us hl => match us, hl with | [_], _ => rfl
  obtain ⟨fd_turned, F_turned⟩ := c.def_ 12 (d := d_turned) rfl
  have g_turned := He.glo_ok X G (c.fact 12 (f := .glo "turned") rfl)
  have b_turned : Binds K fd_turned ["table"] [] := FunD.bindsN (ps := ["table"]) F_turned fun _ _ _ _ _ _ us hl => match us, hl with | [_], _ => rfl
  obtain ⟨fd__law_is_row, F__law_is_row⟩ := c.def_ 13 (d := d__law_is_row) rfl
  have g__law_is_row := He.glo_ok X G (c.fact 13 (f := .glo "_law_is_row") rfl)
  have b__law_is_row : Binds K fd__law_is_row ["_law_g", "_law_thing", "_law_many"] [] := FunD.bindsN (ps := ["_law_g", "_law_thing", "_law_many"]) F__law_is_row fun _ _ _ _ _ _ us hl => match us, hl with | [_, _, _], _ => rfl
  obtain ⟨fd__law_is_number, F__law_is_number⟩ := c.def_ 14 (d := d__law_is_number) rfl
  have g__law_is_number := He.glo_ok X G (c.fact 14 (f := .glo "_law_is_number") rfl)
  have b__law_is_number : Binds K fd__law_is_number ["_law_g", "_law_thing"] [] := FunD.bindsN (ps := ["_law_g", "_law_thing"]) F__law_is_number fun _ _ _ _ _ _ us hl => match us, hl with | [_, _], _ => rfl
  obtain ⟨fd__law_is_whole, F__law_is_whole⟩ := c.def_ 15 (d := d__law_is_whole) rfl
  have g__law_is_whole := He.glo_ok X G (c.fact 15 (f := .glo "_law_is_whole") rfl)
  have b__law_is_whole : Binds K fd__law_is_whole ["_law_thing"] [] := FunD.bindsN (ps := ["_law_thing"]) F__law_is_whole fun _ _ _ _ _ _ us hl => match us, hl with | [_], _ => rfl
  obtain ⟨fd__law_shared, F__law_shared⟩ := c.def_ 16 (d := d__law_shared) rfl
  have g__law_shared := He.glo_ok X G (c.fact 16 (f := .glo "_law_shared") rfl)
  have b__law_shared : Binds K fd__law_shared ["_law_one", "_law_other"] [] := FunD.bindsN (ps := ["_law_one", "_law_other"]) F__law_shared fun _ _ _ _ _ _ us hl => match us, hl with | [_, _], _ => rfl
  obtain ⟨fd__law_is_table, F__law_is_table⟩ := c.def_ 17 (d := d__law_is_table) rfl
  have g__law_is_table := He.glo_ok X G (c.fact 17 (f := .glo "_law_is_table") rfl)
  have b__law_is_table : Binds K fd__law_is_table ["_law_g", "_law_thing", "_law_high", "_law_wide"] [] := FunD.bindsN (ps := ["_law_g", "_law_thing", "_law_high", "_law_wide"]) F__law_is_table fun _ _ _ _ _ _ us hl => match us, hl with | [_, _, _, _], _ => rfl
  obtain ⟨fd__law_sum, F__law_sum⟩ := c.def_ 18 (d := d__law_sum) rfl
  have g__law_sum := He.glo_ok X G (c.fact 18 (f := .glo "_law_sum") rfl)
  have b__law_sum : Binds K fd__law_sum ["_law_g", "_law_some"] [] := FunD.bindsN (ps := ["_law_g", "_law_some"]) F__law_sum fun _ _ _ _ _ _ us hl => match us, hl with | [_, _], _ => rfl
  obtain ⟨fd__law_plus, F__law_plus⟩ := c.def_ 19 (d := d__law_plus) rfl
  have g__law_plus := He.glo_ok X G (c.fact 19 (f := .glo "_law_plus") rfl)
  have b__law_plus : Binds K fd__law_plus ["_law_g", "_law_x", "_law_y"] [] := FunD.bindsN (ps := ["_law_g", "_law_x", "_law_y"]) F__law_plus fun _ _ _ _ _ _ us hl => match us, hl with | [_, _, _], _ => rfl
  obtain ⟨fd__law_low, F__law_low⟩ := c.def_ 20 (d := d__law_low) rfl
  have g__law_low := He.glo_ok X G (c.fact 20 (f := .glo "_law_low") rfl)
  have b__law_low : Binds K fd__law_low ["_law_g", "_law_up", "_law_down"] [] := FunD.bindsN (ps := ["_law_g", "_law_up", "_law_down"]) F__law_low fun _ _ _ _ _ _ us hl => match us, hl with | [_, _, _], _ => rfl
  obtain ⟨fd__law_times, F__law_times⟩ := c.def_ 21 (d := d__law_times) rfl
  have g__law_times := He.glo_ok X G (c.fact 21 (f := .glo "_law_times") rfl)
  have b__law_times : Binds K fd__law_times ["_law_g", "_law_x", "_law_y"] [] := FunD.bindsN (ps := ["_law_g", "_law_x", "_law_y"]) F__law_times fun _ _ _ _ _ _ us hl => match us, hl with | [_, _, _], _ => rfl
  obtain ⟨fd__law_bag, F__law_bag⟩ := c.def_ 22 (d := d__law_bag) rfl
  have g__law_bag := He.glo_ok X G (c.fact 22 (f := .glo "_law_bag") rfl)
  have b__law_bag : Binds K fd__law_bag ["_law_script", "_law_at"] [] := FunD.bindsN (ps := ["_law_script", "_law_at"]) F__law_bag fun _ _ _ _ _ _ us hl => match us, hl with | [_, _], _ => rfl
  obtain ⟨fd__law_ground, F__law_ground⟩ := c.def_ 23 (d := d__law_ground) rfl
  have g__law_ground := He.glo_ok X G (c.fact 23 (f := .glo "_law_ground") rfl)
  have b__law_ground : Binds K fd__law_ground ["_law_bag_here"] [] := FunD.bindsN (ps := ["_law_bag_here"]) F__law_ground fun _ _ _ _ _ _ us hl => match us, hl with | [_], _ => rfl
  obtain ⟨fd__law_take, F__law_take⟩ := c.def_ 24 (d := d__law_take) rfl
  have g__law_take := He.glo_ok X G (c.fact 24 (f := .glo "_law_take") rfl)
  have b__law_take : Binds K fd__law_take ["_law_bag_here", "_law_many"] [] := FunD.bindsN (ps := ["_law_bag_here", "_law_many"]) F__law_take fun _ _ _ _ _ _ us hl => match us, hl with | [_, _], _ => rfl
  obtain ⟨fd__law_rows, F__law_rows⟩ := c.def_ 25 (d := d__law_rows) rfl
  have g__law_rows := He.glo_ok X G (c.fact 25 (f := .glo "_law_rows") rfl)
  have b__law_rows : Binds K fd__law_rows ["_law_bag_here", "_law_g", "_law_high", "_law_wide"] [] := FunD.bindsN (ps := ["_law_bag_here", "_law_g", "_law_high", "_law_wide"]) F__law_rows fun _ _ _ _ _ _ us hl => match us, hl with | [_, _, _, _], _ => rfl
  obtain ⟨fd__law_row, F__law_row⟩ := c.def_ 26 (d := d__law_row) rfl
  have g__law_row := He.glo_ok X G (c.fact 26 (f := .glo "_law_row") rfl)
  have b__law_row : Binds K fd__law_row ["_law_bag_here", "_law_g", "_law_many"] [] := FunD.bindsN (ps := ["_law_bag_here", "_law_g", "_law_many"]) F__law_row fun _ _ _ _ _ _ us hl => match us, hl with | [_, _, _], _ => rfl
  obtain ⟨fd__law_number, F__law_number⟩ := c.def_ 27 (d := d__law_number) rfl
  have g__law_number := He.glo_ok X G (c.fact 27 (f := .glo "_law_number") rfl)
  have b__law_number : Binds K fd__law_number ["_law_bag_here", "_law_g"] [] := FunD.bindsN (ps := ["_law_bag_here", "_law_g"]) F__law_number fun _ _ _ _ _ _ us hl => match us, hl with | [_, _], _ => rfl
  obtain ⟨fd__law_added, F__law_added⟩ := c.def_ 28 (d := d__law_added) rfl
  have g__law_added := He.glo_ok X G (c.fact 28 (f := .glo "_law_added") rfl)
  have b__law_added : Binds K fd__law_added ["_law_g", "_law_row_here", "_law_other"] [] := FunD.bindsN (ps := ["_law_g", "_law_row_here", "_law_other"]) F__law_added fun _ _ _ _ _ _ us hl => match us, hl with | [_, _, _], _ => rfl
  obtain ⟨fd__law_odd, F__law_odd⟩ := c.def_ 29 (d := d__law_odd) rfl
  have g__law_odd := He.glo_ok X G (c.fact 29 (f := .glo "_law_odd") rfl)
  have b__law_odd : Binds K fd__law_odd ["_law_bag_here"] [] := FunD.bindsN (ps := ["_law_bag_here"]) F__law_odd fun _ _ _ _ _ _ us hl => match us, hl with | [_], _ => rfl
  obtain ⟨fd__law_bent_table, F__law_bent_table⟩ := c.def_ 30 (d := d__law_bent_table) rfl
  have g__law_bent_table := He.glo_ok X G (c.fact 30 (f := .glo "_law_bent_table") rfl)
  have b__law_bent_table : Binds K fd__law_bent_table ["_law_bag_here", "_law_g", "_law_table"] [] := FunD.bindsN (ps := ["_law_bag_here", "_law_g", "_law_table"]) F__law_bent_table fun _ _ _ _ _ _ us hl => match us, hl with | [_, _, _], _ => rfl
  obtain ⟨fd__law_swapped, F__law_swapped⟩ := c.def_ 31 (d := d__law_swapped) rfl
  have g__law_swapped := He.glo_ok X G (c.fact 31 (f := .glo "_law_swapped") rfl)
  have b__law_swapped : Binds K fd__law_swapped ["_law_row_here", "_law_at", "_law_thing"] [] := FunD.bindsN (ps := ["_law_row_here", "_law_at", "_law_thing"]) F__law_swapped fun _ _ _ _ _ _ us hl => match us, hl with | [_, _, _], _ => rfl
  obtain ⟨fd__law_bent_row, F__law_bent_row⟩ := c.def_ 32 (d := d__law_bent_row) rfl
  have g__law_bent_row := He.glo_ok X G (c.fact 32 (f := .glo "_law_bent_row") rfl)
  have b__law_bent_row : Binds K fd__law_bent_row ["_law_bag_here", "_law_g", "_law_row_here"] [] := FunD.bindsN (ps := ["_law_bag_here", "_law_g", "_law_row_here"]) F__law_bent_row fun _ _ _ _ _ _ us hl => match us, hl with | [_, _, _], _ => rfl
  obtain ⟨fd__law_bent_number, F__law_bent_number⟩ := c.def_ 33 (d := d__law_bent_number) rfl
  have g__law_bent_number := He.glo_ok X G (c.fact 33 (f := .glo "_law_bent_number") rfl)
  have b__law_bent_number : Binds K fd__law_bent_number ["_law_bag_here", "_law_g", "_law_x"] [] := FunD.bindsN (ps := ["_law_bag_here", "_law_g", "_law_x"]) F__law_bent_number fun _ _ _ _ _ _ us hl => match us, hl with | [_, _, _], _ => rfl
  obtain ⟨fd__law_are_told, F__law_are_told⟩ := c.def_ 34 (d := d__law_are_told) rfl
  have g__law_are_told := He.glo_ok X G (c.fact 34 (f := .glo "_law_are_told") rfl)
  have b__law_are_told : Binds K fd__law_are_told ["_law_g", "_law_things", "_law_high", "_law_wide"] [] := FunD.bindsN (ps := ["_law_g", "_law_things", "_law_high", "_law_wide"]) F__law_are_told fun _ _ _ _ _ _ us hl => match us, hl with | [_, _, _, _], _ => rfl
  obtain ⟨fd__law_cell, F__law_cell⟩ := c.def_ 35 (d := d__law_cell) rfl
  have g__law_cell := He.glo_ok X G (c.fact 35 (f := .glo "_law_cell") rfl)
  have b__law_cell : Binds K fd__law_cell ["_law_g", "_law_one", "_law_other", "_law_i", "_law_j"] [] := FunD.bindsN (ps := ["_law_g", "_law_one", "_law_other", "_law_i", "_law_j"]) F__law_cell fun _ _ _ _ _ _ us hl => match us, hl with | [_, _, _, _, _], _ => rfl
  obtain ⟨fd_law, F_law⟩ := c.def_ 36 (d := d_law) rfl
  have g_law := He.glo_ok X G (c.fact 36 (f := .glo "law") rfl)
  have m_isinstance := He.free_ok X G (c.fact 37 (f := .free "isinstance") rfl)
  have m_int := He.free_ok X G (c.fact 38 (f := .free "int") rfl)
  have m_bool := He.free_ok X G (c.fact 39 (f := .free "bool") rfl)
  have m_abs := He.free_ok X G (c.fact 40 (f := .free "abs") rfl)
  have m_tuple := He.free_ok X G (c.fact 41 (f := .free "tuple") rfl)
  have m_len := He.free_ok X G (c.fact 42 (f := .free "len") rfl)
  have m_all := He.free_ok X G (c.fact 43 (f := .free "all") rfl)
  have m_sum := He.free_ok X G (c.fact 44 (f := .free "sum") rfl)
  have m_zip := He.free_ok X G (c.fact 45 (f := .free "zip") rfl)
  have m_range := He.free_ok X G (c.fact 46 (f := .free "range") rfl)
  have m_list := He.free_ok X G (c.fact 47 (f := .free "list") rfl)
  have m_str := He.free_ok X G (c.fact 48 (f := .free "str") rfl)
  have m_max := He.free_ok X G (c.fact 49 (f := .free "max") rfl)
  have m_min := He.free_ok X G (c.fact 50 (f := .free "min") rfl)
  have e := hfa.symm.trans g_law
  cases e
  have b := FunD.bindsA (ps := ["_law_script"]) F_law fun _ _ _ _ _ _ us hl => match us, hl with | [_], _ => rfl
  refine ⟨fd_law, fun s v => b s [v] rfl, fun base _ _ => ?_⟩
  have G_is_whole : FnOk P w K mg base CX0 1 _ fd_is_whole ["thing"] (sp_is_whole K) := ok_is_whole F_is_whole m_isinstance m_int m_bool
  have G_common_divisor : FnOk P w K mg base CX0 1 _ fd_common_divisor ["a", "b"] (sp_common_divisor K) := ok_common_divisor F_common_divisor m_abs
  have G_wheel_back : FnOk P w K mg base CX0 1 _ fd_wheel_back ["wheel", "whole"] (sp_wheel_back K) := ok_wheel_back F_wheel_back
  have G_dot : FnOk P w K mg base CX0 1 _ fd_dot ["wholes", "others"] (sp_dot K) := ok_dot F_dot m_sum m_zip
  have G_turned : FnOk P w K mg base CX0 1 _ fd_turned ["table"] (sp_turned K) := ok_turned F_turned m_tuple m_range m_len
  have G__law_is_whole : FnOk P w K mg base CX0 1 _ fd__law_is_whole ["_law_thing"] (sp__law_is_whole K) := ok__law_is_whole F__law_is_whole m_isinstance m_int m_bool
  have G__law_shared : FnOk P w K mg base CX0 1 _ fd__law_shared ["_law_one", "_law_other"] (sp__law_shared K) := ok__law_shared F__law_shared m_abs
  have G__law_bag : FnOk P w K mg base CX0 1 _ fd__law_bag ["_law_script", "_law_at"] (sp__law_bag K) := ok__law_bag F__law_bag m_len m_abs
  have G__law_take : FnOk P w K mg base CX0 1 _ fd__law_take ["_law_bag_here", "_law_many"] (sp__law_take K) := ok__law_take F__law_take
  have G__law_swapped : FnOk P w K mg base CX0 1 _ fd__law_swapped ["_law_row_here", "_law_at", "_law_thing"] (sp__law_swapped K) := ok__law_swapped F__law_swapped
  have G_is_number : FnOk P w K mg base CX0 2 _ fd_is_number ["ground", "thing"] (sp_is_number K) := ok_is_number F_is_number F_is_whole b_is_whole g_is_whole G_is_whole F_common_divisor b_common_divisor g_common_divisor G_common_divisor m_isinstance m_tuple m_len
  have G_lowest : FnOk P w K mg base CX0 2 _ fd_lowest ["ground", "top", "bottom"] (sp_lowest K) := ok_lowest F_lowest F_common_divisor b_common_divisor g_common_divisor G_common_divisor F_wheel_back b_wheel_back g_wheel_back G_wheel_back
  have G_whole_row : FnOk P w K mg base CX0 2 _ fd_whole_row ["row"] (sp_whole_row K) := ok_whole_row F_whole_row F_common_divisor b_common_divisor g_common_divisor G_common_divisor
  have G__law_is_number : FnOk P w K mg base CX0 2 _ fd__law_is_number ["_law_g", "_law_thing"] (sp__law_is_number K) := ok__law_is_number F__law_is_number F__law_shared b__law_shared g__law_shared G__law_shared F__law_is_whole b__law_is_whole g__law_is_whole G__law_is_whole m_isinstance m_tuple m_len m_all
  have G__law_low : FnOk P w K mg base CX0 2 _ fd__law_low ["_law_g", "_law_up", "_law_down"] (sp__law_low K) := ok__law_low F__law_low F__law_shared b__law_shared g__law_shared G__law_shared m_range m_int
  have G__law_ground : FnOk P w K mg base CX0 2 _ fd__law_ground ["_law_bag_here"] (sp__law_ground K) := ok__law_ground F__law_ground F__law_take b__law_take g__law_take G__law_take
  have G__law_odd : FnOk P w K mg base CX0 2 _ fd__law_odd ["_law_bag_here"] (sp__law_odd K) := ok__law_odd F__law_odd F__law_take b__law_take g__law_take G__law_take
  have G_is_row : FnOk P w K mg base CX0 3 _ fd_is_row ["ground", "thing", "many"] (sp_is_row K) := ok_is_row F_is_row F_is_number b_is_number g_is_number G_is_number m_all m_isinstance m_tuple m_len
  have G_product_row : FnOk P w K mg base CX0 3 _ fd_product_row ["ground", "row", "columns"] (sp_product_row K) := ok_product_row F_product_row F_lowest b_lowest g_lowest G_lowest F_dot b_dot g_dot G_dot m_tuple
  have G__law_is_row : FnOk P w K mg base CX0 3 _ fd__law_is_row ["_law_g", "_law_thing", "_law_many"] (sp__law_is_row K) := ok__law_is_row F__law_is_row F__law_is_number b__law_is_number g__law_is_number G__law_is_number m_isinstance m_tuple m_all m_len
  have G__law_plus : FnOk P w K mg base CX0 3 _ fd__law_plus ["_law_g", "_law_x", "_law_y"] (sp__law_plus K) := ok__law_plus F__law_plus F__law_low b__law_low g__law_low G__law_low
  have G__law_times : FnOk P w K mg base CX0 3 _ fd__law_times ["_law_g", "_law_x", "_law_y"] (sp__law_times K) := ok__law_times F__law_times F__law_low b__law_low g__law_low G__law_low
  have G__law_number : FnOk P w K mg base CX0 3 _ fd__law_number ["_law_bag_here", "_law_g"] (sp__law_number K) := ok__law_number F__law_number F__law_low b__law_low g__law_low G__law_low F__law_take b__law_take g__law_take G__law_take
  have G__law_bent_number : FnOk P w K mg base CX0 3 _ fd__law_bent_number ["_law_bag_here", "_law_g", "_law_x"] (sp__law_bent_number K) := ok__law_bent_number F__law_bent_number F__law_odd b__law_odd g__law_odd G__law_odd F__law_take b__law_take g__law_take G__law_take m_str
  have G_is_table : FnOk P w K mg base CX0 4 _ fd_is_table ["ground", "thing", "high", "wide"] (sp_is_table K) := ok_is_table F_is_table F_is_row b_is_row g_is_row G_is_row m_all m_isinstance m_tuple m_len
  have G_product : FnOk P w K mg base CX0 4 _ fd_product ["ground", "one", "other"] (sp_product K) := ok_product F_product F_whole_row b_whole_row g_whole_row G_whole_row F_turned b_turned g_turned G_turned F_product_row b_product_row g_product_row G_product_row m_tuple
  have G__law_is_table : FnOk P w K mg base CX0 4 _ fd__law_is_table ["_law_g", "_law_thing", "_law_high", "_law_wide"] (sp__law_is_table K) := ok__law_is_table F__law_is_table F__law_is_row b__law_is_row g__law_is_row G__law_is_row m_isinstance m_tuple m_all m_len
  have G__law_sum : FnOk P w K mg base CX0 4 _ fd__law_sum ["_law_g", "_law_some"] (sp__law_sum K) := ok__law_sum F__law_sum F__law_plus b__law_plus g__law_plus G__law_plus
  have G__law_row : FnOk P w K mg base CX0 4 _ fd__law_row ["_law_bag_here", "_law_g", "_law_many"] (sp__law_row K) := ok__law_row F__law_row F__law_number b__law_number g__law_number G__law_number m_tuple m_range
  have G__law_added : FnOk P w K mg base CX0 4 _ fd__law_added ["_law_g", "_law_row_here", "_law_other"] (sp__law_added K) := ok__law_added F__law_added F__law_plus b__law_plus g__law_plus G__law_plus m_tuple m_zip
  have G__law_bent_row : FnOk P w K mg base CX0 4 _ fd__law_bent_row ["_law_bag_here", "_law_g", "_law_row_here"] (sp__law_bent_row K) := ok__law_bent_row F__law_bent_row F__law_take b__law_take g__law_take G__law_take F__law_swapped b__law_swapped g__law_swapped G__law_swapped F__law_bent_number b__law_bent_number g__law_bent_number G__law_bent_number m_len m_list
  have G_through : FnOk P w K mg base CX0 5 _ fd_through ["ground", "row", "table"] (sp_through K) := ok_through F_through F_product b_product g_product G_product
  have G__law_rows : FnOk P w K mg base CX0 5 _ fd__law_rows ["_law_bag_here", "_law_g", "_law_high", "_law_wide"] (sp__law_rows K) := ok__law_rows F__law_rows F__law_row b__law_row g__law_row G__law_row F__law_take b__law_take g__law_take G__law_take F__law_added b__law_added g__law_added G__law_added m_range m_tuple m_len
  have G__law_bent_table : FnOk P w K mg base CX0 5 _ fd__law_bent_table ["_law_bag_here", "_law_g", "_law_table"] (sp__law_bent_table K) := ok__law_bent_table F__law_bent_table F__law_take b__law_take g__law_take G__law_take F__law_swapped b__law_swapped g__law_swapped G__law_swapped F__law_bent_row b__law_bent_row g__law_bent_row G__law_bent_row F__law_odd b__law_odd g__law_odd G__law_odd m_len m_list
  have G__law_are_told : FnOk P w K mg base CX0 5 _ fd__law_are_told ["_law_g", "_law_things", "_law_high", "_law_wide"] (sp__law_are_told K) := ok__law_are_told F__law_are_told F_is_row b_is_row g_is_row G_is_row F_is_table b_is_table g_is_table G_is_table F__law_is_row b__law_is_row g__law_is_row G__law_is_row F__law_is_table b__law_is_table g__law_is_table G__law_is_table m_all m_isinstance m_bool
  have G__law_cell : FnOk P w K mg base CX0 5 _ fd__law_cell ["_law_g", "_law_one", "_law_other", "_law_i", "_law_j"] (sp__law_cell K) := ok__law_cell F__law_cell F__law_sum b__law_sum g__law_sum G__law_sum F__law_times b__law_times g__law_times G__law_times m_range m_len
  exact ok_law F_law F__law_bag b__law_bag g__law_bag G__law_bag F__law_ground b__law_ground g__law_ground G__law_ground F_through b_through g_through G_through F__law_rows b__law_rows g__law_rows G__law_rows F__law_odd b__law_odd g__law_odd G__law_odd F__law_bent_table b__law_bent_table g__law_bent_table G__law_bent_table F__law_is_table b__law_is_table g__law_is_table G__law_is_table F_turned b_turned g_turned G_turned F__law_take b__law_take g__law_take G__law_take F__law_are_told b__law_are_told g__law_are_told G__law_are_told F_product b_product g_product G_product F__law_bent_row b__law_bent_row g__law_bent_row G__law_bent_row F__law_cell b__law_cell g__law_cell G__law_cell m_range m_max m_tuple m_min m_len m_list

end Fm
open PySem PySem.W PySem.Calls PyProof.Rows
set_option maxHeartbeats 0 in
theorem PySem.Challenge.cw_fewmirrors_k04_rows_and_tables_holds : PySem.Challenge.rw_fewmirrors_k04_rows_and_tables.Holds := by
  w_on; o_law
  refine HandSHeadRun.head_any (r := OpenLaw.row PySem.Challenge.rw_fewmirrors_k04_rows_and_tables) (q := view (OpenLaw.row PySem.Challenge.rw_fewmirrors_k04_rows_and_tables).prog [40]) (H := Fm.hk) (ob := Fm.ob) (M := 2000) (loose := Fm.loose) (d := HandSHeadRun.topDef (OpenLaw.row PySem.Challenge.rw_fewmirrors_k04_rows_and_tables).prog 40) (kwd := []) Fm.ob_eq
    (by kernel_rfl) (fun s => by kernel_rfl) Fm.run (by kernel_rfl) (by kernel_rfl) (by kernel_rfl) (by rfl) (by first | assumption | decide +kernel) (by decide +kernel) ⟨rfl, rfl, rfl, rfl, rfl, by decide +kernel⟩ ?hw ?hc
  case hw => w_witness2
  case hc =>
    refine L2.walk_ofE (l := PySem.Challenge.rw_fewmirrors_k04_rows_and_tables) (n := 63) (k := 6) (x := "_law_script") (CX := L2.CX0) rfl (by decide) (by kernel_rfl) ⟨rfl, by decide, by decide⟩ ?F (fun _ _ _ _ z => z)
    intro w mg fa h Y G hmg0
    obtain ⟨K, KX, c⟩ := Y
    have hmg : mg ("law" : PySem.Str) = some (.ref fa) := by
      have e : (HandSHeadRun.topDef (OpenLaw.row PySem.Challenge.rw_fewmirrors_k04_rows_and_tables).prog 40).name = ("law" : PySem.Str) := by kernel_rfl
      rw [← e]
      exact hmg0
    obtain ⟨fd, hb, hF⟩ := Fm.facts (P := (PySem.Challenge.rw_fewmirrors_k04_rows_and_tables).prog) (w := w) KX G hmg c
    exact ⟨K, fd, Fm.sp_law K, KX, hb, fun H a ns hl _ hS => ⟨a, ns, rfl, hS, fun _ => rfl⟩, hF⟩
