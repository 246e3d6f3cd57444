import PyProof.Rows.All
import Wide.All
import OpenK.AllK
import Wide.FinOn
import KE.KStateDown
import Lean
import HandS.ForMost
import HandS.Wide
import HandS.FStr
import HandS.IsInst
import HandS.Flow
import HandS.Style
import HandS.Zip
import HandS.Conv
import HandS.Defaults
import HandS.Walk
import HandS.More
import HandS.WordsExc
import HandS.Head0
import HandS.Head1
import HandS.Head2
import HandS.HeadEnd
import HandS.HeadHook1
import HandS.HeadHook2
import HandS.TupAny
import HandS.Hot
import HandS.Comp
import HandS.ExcCtx
import HandS.HotCalls
import HandS.TryMany
import HandS.ExcIs
import HandS.Lambda
import HandS.EndTab
import HandS.HeadHook3
import HandS.HeadHook4
import HandS.HeadWalk
import HandS.WideBits
import PySem.Challenge.RW_fewmirrors_k33_classes_alike
set_option Elab.async false
set_option linter.all false
set_option maxRecDepth 100000
set_option maxHeartbeats 4000000
namespace Fm
open PySem PySem.Spec PyProof.Rows L2
def CDivZ (_ j : Int) : Prop := j ≠ 0 ∧ j.natAbs.log2 < 9000
theorem op_fdivZ {X : Cx} : OpR X (binaryOp .FloorDiv) (rI CDivZ fun i j => .int (i.fdiv j)) := opI fun _ _ _ _ _ _ _ hc q => floordiv_int hc.1 q (.inl (PyProof.noPylong_of_log2 hc.2))
theorem divZ_small {i j : Int} (h : 0 < j) (h2 : j < 4294967296) : CDivZ i j := ⟨by omega, Nat.lt_of_lt_of_le (PySem.Flt.log2_lt_of (n := j.natAbs) (k := 32) (by decide) (by omega)) (by decide)⟩
theorem divZ_of {i j : Int} {b : Nat} (h : j ≠ 0) (hb : j.natAbs < 2 ^ b) (h0 : 0 < b) (h9 : b ≤ 9000) : CDivZ i j := ⟨h, Nat.lt_of_lt_of_le (PySem.Flt.log2_lt_of h0 hb) h9⟩
theorem fmod_pos (a : Int) {b : Int} (h : 0 < b) : a.fmod b = a % b := Int.fmod_eq_emod_of_nonneg a (by omega)
theorem fdiv_pos (a : Int) {b : Int} (h : 0 < b) : a.fdiv b = a / b := Int.fdiv_eq_ediv_of_nonneg a (by omega)
abbrev FnP (K : PySem.W.Frag) (x : Str) (st : Stmt) (f : Addr) (fd : FuncData) : Prop := FunD K x x (defArgs st) (defBody st) (defScope st) [] [] f fd
/-! ### steps of a reading -/
section
variable {K : PySem.W.Frag} {σ : L2.St} {H : Hp} {Q : VK} {ta tb tc te : TE} {t u : TS} {D : Ends} {g : TG} {i : Nat} {v x y : V} {c : TT} {r : R2} {cA cB : TT} {as : TA}
theorem w_var (h : σ[i]? = some (some v)) (q : Q v H) : tVar i σ H Q := ⟨v, h, q⟩
theorem w_c (q : Q v H) : tC v σ H Q := q
theorem w_seq (h : t { D with nx := u D } σ H) : tSeq t u D σ H := h
theorem w_next (h : D.nx σ H) : tNext D σ H := h
theorem w_asg (h : te σ H fun x H1 => g x σ H1 D.nx) : tAsg te g D σ H := h
theorem w_ret (h : te σ H D.rt) : tRet te D σ H := h
theorem w_drop (h : te σ H fun _ H1 => D.nx σ H1) : tDrop te D σ H := h
theorem w_ifs (h : c σ H fun b H1 => if b = true then t D σ H1 else u D σ H1) : tIfS c t u D σ H := h
theorem w_op (h : ta σ H fun x H1 => tb σ H1 fun y H2 => r x y H2 Q) : tOp r ta tb σ H Q := h
theorem w_un {r : V → Hp → VK → Prop} (h : ta σ H fun x H1 => r x H1 Q) : tUn r ta σ H Q := h
theorem w_name {R : L2.St → Hp → Prop} (h : R (σ.set i (some v)) H) : gName i v σ H R := h
theorem w_sub {to ti : TE} {ts : TSet} {R : L2.St → Hp → Prop} (h : to σ H fun o H1 => ti σ H1 fun i H2 => ts o i v H2 fun H3 => R σ H3) : gSub to ti ts v σ H R := h
theorem w_test {R : Bool → Hp → Prop} (h : te σ H fun x H' => ∃ k, x = .bl k ∧ R k H') : tTest te σ H R := h
theorem w_B {R : Bool → Hp → Prop} (h : te σ H fun x H' => ∃ k, x = .bl k ∧ R k H') : tB te σ H R := h
theorem w_exb {b : Bool} {R : Bool → Prop} (h : R b) : ∃ k, V.bl b = .bl k ∧ R k := ⟨b, rfl, h⟩
theorem w_and {R : Bool → Hp → Prop} (h : cA σ H fun c H1 => if c = true then cB σ H1 R else R false H1) : tAnd cA cB σ H R := h
theorem w_or {R : Bool → Hp → Prop} (h : cA σ H fun c H1 => if c = true then R true H1 else cB σ H1 R) : tOr cA cB σ H R := h
theorem w_not {R : Bool → Hp → Prop} (h : cA σ H fun c H1 => R (!c) H1) : tNot cA σ H R := h
theorem w_andV (h : ta σ H fun x H1 => ∃ c, x = .bl c ∧ if c = true then tb σ H1 Q else Q (.bl false) H1) : tAndV ta tb σ H Q := h
theorem w_orV (h : ta σ H fun x H1 => ∃ c, x = .bl c ∧ if c = true then Q (.bl true) H1 else tb σ H1 Q) : tOrV ta tb σ H Q := h
theorem w_notV (h : ta σ H fun x H1 => ∃ c, x = .bl c ∧ Q (.bl (!c)) H1) : tNotV ta σ H Q := h
theorem w_if (h : c σ H fun b H1 => if b = true then ta σ H1 Q else tb σ H1 Q) : tIf c ta tb σ H Q := h
theorem w_I0 {g : Int → Int → V} {a b : Int} (q : Q (g a b) H) : rI0 g (.int a) (.int b) H Q := ⟨a, b, rfl, rfl, q⟩
theorem w_I {C : Int → Int → Prop} {g : Int → Int → V} {a b : Int} (hc : C a b) (q : Q (g a b) H) : rI C g (.int a) (.int b) H Q := ⟨a, b, rfl, rfl, hc, q⟩
theorem w_U {g : Int → V} {a : Int} (q : Q (g a) H) : rU g (.int a) H Q := ⟨a, rfl, q⟩
theorem w_eqI {a b : Int} (q : Q (.bl (decide (a = b))) H) : rEq (.int a) (.int b) H Q := ⟨rfl, by
  have e : decide (V.int a = V.int b) = decide (a = b) := by
    by_cases h : a = b
    · rw [decide_eq_true h, decide_eq_true (by rw [h])]
    · rw [decide_eq_false h, decide_eq_false (fun z => h (V.int.inj z))]
  rw [e]
  exact q⟩
theorem w_neI {a b : Int} (q : Q (.bl (!decide (a = b))) H) : rNe (.int a) (.int b) H Q := ⟨rfl, by
  have e : decide (V.int a = V.int b) = decide (a = b) := by
    by_cases h : a = b
    · rw [decide_eq_true h, decide_eq_true (by rw [h])]
    · rw [decide_eq_false h, decide_eq_false (fun z => h (V.int.inj z))]
  rw [e]
  exact q⟩
theorem w_nil {R : List V → Hp → Prop} (h : R [] H) : tNil σ H R := h
theorem w_cons {R : List V → Hp → Prop} (h : ta σ H fun x H1 => as σ H1 fun xs H2 => R (x :: xs) H2) : tCons ta as σ H R := h
def NewO (o : HO) (H : Hp) (Q : VK) : Prop := ∀ p, H p = none → Q (.ref p) (upd H p o)
def NewS (mk : List V → HO) (xs : List V) (H : Hp) (Q : VK) : Prop := xs.length ≤ sizeLine ∧ NewO (mk xs) H Q
theorem w_tup (h : as σ H fun xs H1 => NewS .tup xs H1 Q) : tTup as σ H Q := h
theorem w_lst (h : as σ H fun xs H1 => NewS .lst xs H1 Q) : tLst as σ H Q := h
theorem w_for {wi : TI} {tb : TS} (hh : wi σ H fun it h1 => ∃ Inv : Nat → Nat → L2.St → Hp → Prop, (∃ left, Inv 0 left σ h1) ∧ ∀ turn left slots hp, Inv turn left slots hp →
    (it.stop turn hp ∧ D.nx slots hp) ∨ (it.go turn hp ∧ ∃ Nxt : L2.St → Hp → Prop, (∀ slots' hp', Nxt slots' hp' → ∃ left', left' < left ∧ Inv (turn + 1) left' slots' hp') ∧
      ∀ item hp', it.yld turn hp item hp' → g item slots hp' fun slots2 h2 => tb { D with nx := Nxt, ct := Nxt, bk := D.nx } slots2 h2)) : tFor wi g tb D σ H := hh
theorem w_rng1 {ta : TA} {R : It → Hp → Prop} (h : ta σ H fun vs H1 => ∃ j : Int, vs = [.int j] ∧ -(2 ^ 62) ≤ j ∧ j < 2 ^ 62 ∧ R (Itr 0 j.toNat) H1) : iRng1 ta σ H R := h
theorem same_upd {p : Addr} {o : HO} (h : H p = none) : Same H (upd H p o) := fun b x e => by
  rw [upd_ne (ne_of_none e h)]
  exact e
theorem w_new {mk : List V → HO} {xs : List V} (hz : xs.length ≤ 1000) (h : ∀ p H', H p = none → Same H H' → H' p = some (mk xs) → Q (.ref p) H') : NewS mk xs H Q := ⟨Nat.le_of_lt (small1000 hz), fun p hp => h p _ hp (same_upd hp) upd_same⟩
theorem w_newO {o : HO} (h : ∀ p H', H p = none → Same H H' → H' p = some o → Q (.ref p) H') : NewO o H Q := fun p hp => h p _ hp (same_upd hp) upd_same
theorem w_cb {r : List V → Hp → VK → Prop} (h : as σ H fun vs H1 => r vs H1 Q) : tCB r as σ H Q := h
theorem w_call {sp : Sp} {dvs : List V} {E : XK} (h : as σ H fun vs H1 => sp (vs ++ dvs) H1 Q E) : tCall sp dvs E as σ H Q := h
theorem w_ixL {p : Addr} {xs : List V} {i : Int} (h : H p = some (.lst xs)) (e : atI xs i = some v) (q : Q v H) : rIxL K (.ref p) (.int i) H Q := ⟨p, xs, i, v, rfl, rfl, SqL.of h, e, q⟩
theorem w_ixLs {p : Addr} {xs : List V} {i : Int} (h : SqL K H p xs) (e : atI xs i = some v) (q : Q v H) : rIxL K (.ref p) (.int i) H Q := ⟨p, xs, i, v, rfl, rfl, h, e, q⟩
theorem w_ixT {p : Addr} {xs : List V} {i : Int} (h : H p = some (.tup xs)) (e : atI xs i = some v) (q : Q v H) : rIxT K (.ref p) (.int i) H Q := ⟨p, xs, i, v, rfl, rfl, SqT.of h, e, q⟩
theorem w_setL {p : Addr} {xs : List V} {k : Int} {j : Nat} {R : Hp → Prop} (h : H p = some (.lst xs)) (e : ixN xs.length k = some j) (q : R (upd H p (.lst (xs.set j v)))) : rSetL (.ref p) (.int k) v H R := ⟨p, xs, k, j, rfl, rfl, h, e, q⟩
theorem w_par {i j : Nat} (h : as σ H fun vs H1 => ∃ v w, vs = [v, w] ∧ D.nx ((σ.set i (some v)).set j (some w)) H1) : tPar i j as D σ H := h
theorem w_ex2 {a b : V} {R : V → V → Prop} (h : R a b) : ∃ v w, [a, b] = [v, w] ∧ R v w := ⟨a, b, rfl, h⟩
theorem w_ite {p : Prop} [Decidable p] {A B : Prop} (h1 : p → A) (h2 : ¬ p → B) : if decide p = true then A else B := by
  by_cases h : p
  · rw [decide_eq_true h]; exact h1 h
  · rw [decide_eq_false h]; exact h2 h
theorem w_iteN {p : Prop} [Decidable p] {A B : Prop} (h1 : ¬ p → A) (h2 : p → B) : if (!decide p) = true then A else B := by
  by_cases h : p
  · rw [decide_eq_true h]; exact h2 h
  · rw [decide_eq_false h]; exact h1 h
theorem w_t {A B : Prop} (h : A) : if true = true then A else B := h
theorem w_f {A B : Prop} (h : B) : if false = true then A else B := h
end
section
variable {K : PySem.W.Frag} {σ : L2.St} {H : Hp} {Q : VK} {te : TE} {g : TG} {tt : TT} {vs : List Nat}
theorem w_lc {wi : TI} (hh : wi σ H fun it h1 => ∀ new, h1 new = none → ∃ Inv : Nat → Nat → Hp → Prop, (∃ left, Inv 0 left (upd h1 new (.lst []))) ∧ ∀ turn left hp, Inv turn left hp →
    (it.stop turn hp ∧ Q (.ref new) hp) ∨ (it.go turn hp ∧ ∃ Nxt : Hp → Prop, (∀ hp', Nxt hp' → ∃ left', left' < left ∧ Inv (turn + 1) left' hp') ∧
      ∀ item hp', it.yld turn hp item hp' → g item (wipe σ vs) hp' fun slots h2 => wipe slots vs = wipe σ vs ∧ tt slots h2 fun kept h3 =>
        if kept = true then te slots h3 fun made h4 => ∃ sofar, h4 new = some (.lst sofar) ∧ sofar.length < sizeLine ∧ Nxt (upd h4 new (.lst (sofar ++ [made]))) else Nxt h3)) : tLc wi g tt te vs σ H Q := hh
theorem w_yes {R : Bool → Hp → Prop} (h : R true H) : tYes σ H R := h
theorem w_zipA {ta : TA} {R : It → Hp → Prop} (h : ta σ H fun vs H1 => ∃ a b xs ys, vs = [.ref a, .ref b] ∧ ((SqL K H1 a xs ∧ SqL K H1 b ys ∧ R (Itz K a b) H1) ∨ (SqT K H1 a xs ∧ SqT K H1 b ys ∧ R (RZ.ItzT K a b) H1))) : RZ.iZipA K ta σ H R := h
theorem w_itup {tl : TE} {R : It → Hp → Prop} (h : tl σ H fun x H1 => ∃ a, x = .ref a ∧ (∃ xs, SqT K H1 a xs) ∧ R (Itt K a) H1) : iTup K tl σ H R := h
theorem w_ilist {tl : TE} {R : It → Hp → Prop} (h : tl σ H fun x H1 => ∃ a, x = .ref a ∧ (∃ xs, SqL K H1 a xs) ∧ R (Itl K a) H1) : iList K tl σ H R := h
theorem w_gtup {n : Nat} {t : TGs} {a : Addr} {xs : List V} {R : L2.St → Hp → Prop} (h : H a = some (.tup xs)) (hn : xs.length = n) (q : t xs σ H R) : gTup K n t (.ref a) σ H R := ⟨a, xs, rfl, SqT.of h, hn, q⟩
theorem w_gcons {t : TG} {u : TGs} {v : V} {r : List V} {R : L2.St → Hp → Prop} (h : t v σ H fun σ' H' => u r σ' H' R) : gCons t u (v :: r) σ H R := ⟨v, r, rfl, h⟩
theorem w_gnil {R : L2.St → Hp → Prop} (h : R σ H) : gNil [] σ H R := ⟨rfl, h⟩
end
theorem walk_zipT {K : PySem.W.Frag} {a b : Addr} {xs ys : List V} {n : Nat} (hn : n = min xs.length ys.length) : Walk (RZ.ItzT K a b) n (fun H => SqT K H a xs ∧ SqT K H b ys) (YPair (fun i => xs[i]?) (fun i => ys[i]?)) where
  goes := fun turn hp ht both => by
    have lx : turn < xs.length := by omega
    have ly : turn < ys.length := by omega
    exact ⟨xs, ys, _, _, both.1, both.2, List.getElem?_eq_getElem lx, List.getElem?_eq_getElem ly⟩
  stops := fun hp both => ⟨xs, ys, both.1, both.2, by omega⟩
  yields := fun turn hp v hp' ht both got => by
    obtain ⟨pair, one, two, e1, e2, e3, f1, f2⟩ := got
    exact ⟨pair, one, two, e1, e2, e3, f1 _ both.1, f2 _ both.2⟩
section
variable {H : Hp} {Q : VK}
theorem w_e1 {a : Int} {R : Int → Prop} (h : R a) : ∃ i, [V.int a] = [V.int i] ∧ R i := ⟨a, rfl, h⟩
theorem w_e2 {a b : Int} {R : Int → Int → Prop} (h : R a b) : ∃ i j, [V.int a, V.int b] = [V.int i, V.int j] ∧ R i j := ⟨a, b, rfl, h⟩
theorem w_Iv {C : Int → Int → Prop} {g : Int → Int → V} {a b : Int} {z : V} (hc : C a b) (e : g a b = z) (q : Q z H) : rI C g (.int a) (.int b) H Q := ⟨a, b, rfl, rfl, hc, by
  rw [e]
  exact q⟩
end
/-! ### heaps -/
def Mv (b : Addr) (H H' : Hp) : Prop := ∀ p o, p ≠ b → H p = some o → H' p = some o
def Kt (H H' : Hp) : Prop := ∀ p xs, H p = some (.tup xs) → H' p = some (.tup xs)
theorem Kt.refl (H : Hp) : Kt H H := fun _ _ h => h
theorem Kt.trans {H H1 H2 : Hp} (a : Kt H H1) (b : Kt H1 H2) : Kt H H2 := fun p xs h => b p xs (a p xs h)
theorem Kt.of {H H' : Hp} (s : Same H H') : Kt H H' := fun p xs h => s p _ h
theorem Mv.refl (b : Addr) (H : Hp) : Mv b H H := fun _ _ _ h => h
theorem Mv.trans {b : Addr} {H H1 H2 : Hp} (m1 : Mv b H H1) (m2 : Mv b H1 H2) : Mv b H H2 := fun p o n h => m2 p o n (m1 p o n h)
theorem Mv.same {b : Addr} {H H1 : Hp} (s : Same H H1) : Mv b H H1 := fun p o _ h => s p o h
theorem Mv.upd {b : Addr} {H : Hp} {o : HO} : Mv b H (upd H b o) := fun p u n h => by
  rw [upd_ne n]
  exact h
def Bag (H : Hp) (b : Addr) : Prop := ∃ A B : Int, H b = some (.lst [.int A, .int B]) ∧ 0 ≤ A ∧ 0 ≤ B ∧ B < 2147483647
theorem Mv.kt {b : Addr} {H H' : Hp} (m : Mv b H H') (hb : Bag H b) : Kt H H' := fun p xs h => m p _ (fun e => by
  subst e
  obtain ⟨A, B, h2, _⟩ := hb
  rw [h] at h2
  cases h2) h
theorem Bag.same {b : Addr} {H H' : Hp} (hb : Bag H b) (s : Same H H') : Bag H' b := by
  obtain ⟨A, B, h, r⟩ := hb
  exact ⟨A, B, s _ _ h, r⟩
/-- a number: a tuple of two whole numbers, of less than k bits, the second not 0 -/
def NumB (H : Hp) (v : V) (k : Nat) : Prop := ∃ (p : Addr) (x y : Int), v = .ref p ∧ H p = some (.tup [.int x, .int y]) ∧ x.natAbs < 2 ^ k ∧ y.natAbs < 2 ^ k ∧ y ≠ 0
theorem NumB.kt {H H' : Hp} {v : V} {k : Nat} (h : NumB H v k) (s : Kt H H') : NumB H' v k := by
  obtain ⟨p, x, y, e, hp, r⟩ := h
  exact ⟨p, x, y, e, s _ _ hp, r⟩
theorem NumB.mono {H : Hp} {v : V} {k l : Nat} (h : NumB H v k) (hl : k ≤ l) : NumB H v l := by
  obtain ⟨p, x, y, e, hp, h1, h2, h3⟩ := h
  exact ⟨p, x, y, e, hp, Nat.lt_of_lt_of_le h1 (Nat.pow_le_pow_right (by decide) hl), Nat.lt_of_lt_of_le h2 (Nat.pow_le_pow_right (by decide) hl), h3⟩
theorem Kt.updL {H : Hp} {D : Addr} {xs : List V} {o : HO} (h : H D = some (.lst xs)) : Kt H (upd H D o) := fun p ys hp => by
  have n : p ≠ D := fun e => by
    subst e
    rw [h] at hp
    cases hp
  rw [upd_ne n]
  exact hp
theorem bag_ne {H : Hp} {b p : Addr} (hb : Bag H b) (hp : H p = none) : p ≠ b := fun e => by
  subst e
  obtain ⟨A, B, h2, _⟩ := hb
  rw [hp] at h2
  cases h2
theorem Bag.upd {H : Hp} {b D : Addr} {o : HO} (hb : Bag H b) (n : D ≠ b) : Bag (upd H D o) b := by
  obtain ⟨A, B, h, r⟩ := hb
  exact ⟨A, B, (upd_ne n.symm).trans h, r⟩
theorem Mv.updD {b D : Addr} {H H' : Hp} {o : HO} (m : Mv b H H') (hD : H D = none) : Mv b H (L2.upd H' D o) := fun p u n h => by
  rw [upd_ne (ne_of_none h hD)]
  exact m p u n h
theorem Same.updD {D : Addr} {H H' : Hp} {o : HO} (m : Same H H') (hD : H D = none) : Same H (L2.upd H' D o) := fun p u h => by
  rw [upd_ne (ne_of_none h hD)]
  exact m p u h
/-- a row of n numbers -/
def RowB (H : Hp) (v : V) (n k : Nat) : Prop := ∃ (p : Addr) (xs : List V), v = .ref p ∧ H p = some (.tup xs) ∧ xs.length = n ∧ ∀ x ∈ xs, NumB H x k
theorem RowB.kt {H H' : Hp} {v : V} {n k : Nat} (h : RowB H v n k) (s : Kt H H') : RowB H' v n k := by
  obtain ⟨p, xs, e, hp, hl, r⟩ := h
  exact ⟨p, xs, e, s _ _ hp, hl, fun x hx => (r x hx).kt s⟩
theorem RowB.mono {H : Hp} {v : V} {n k l : Nat} (h : RowB H v n k) (hl : k ≤ l) : RowB H v n l := by
  obtain ⟨p, xs, e, hp, hn, r⟩ := h
  exact ⟨p, xs, e, hp, hn, fun x hx => (r x hx).mono hl⟩
/-- a table -/
def TabB (H : Hp) (v : V) (m n k : Nat) : Prop := ∃ (p : Addr) (xs : List V), v = .ref p ∧ H p = some (.tup xs) ∧ xs.length = m ∧ ∀ x ∈ xs, RowB H x n k
theorem TabB.kt {H H' : Hp} {v : V} {m n k : Nat} (h : TabB H v m n k) (s : Kt H H') : TabB H' v m n k := by
  obtain ⟨p, xs, e, hp, hl, r⟩ := h
  exact ⟨p, xs, e, s _ _ hp, hl, fun x hx => (r x hx).kt s⟩
/-! ### the number of two whole numbers -/
def lowI (g u d : Int) : Option Nat := if 0 < g then (List.range g.toNat).find? (fun i => decide (((i : Int) * d).fmod g = u.fmod g)) else none
def lowC (u d : Int) : Int := (Int.gcd u d : Int) * (if d < 0 then -1 else 1)
def lowF (g u d : Int) : Int × Int := match lowI g u d with
  | some i => ((i : Int), 1)
  | none => (u.fdiv (lowC u d), d.fdiv (lowC u d))
theorem lowC_ne {u d : Int} (h : d ≠ 0) : lowC u d ≠ 0 := by
  have h1 : Int.gcd u d ≠ 0 := fun z => h (Int.gcd_eq_zero_iff.mp z).2
  unfold lowC
  split <;> omega
theorem lowC_dvd {u d : Int} : (∃ q, u = lowC u d * q) ∧ ∃ q, d = lowC u d * q := by
  obtain ⟨q1, e1⟩ := Int.gcd_dvd_left u d
  obtain ⟨q2, e2⟩ := Int.gcd_dvd_right u d
  unfold lowC
  split
  · refine ⟨⟨-q1, ?_⟩, ⟨-q2, ?_⟩⟩
    · rw [Int.mul_assoc, Int.neg_mul_neg, Int.one_mul]; exact e1
    · rw [Int.mul_assoc, Int.neg_mul_neg, Int.one_mul]; exact e2
  · refine ⟨⟨q1, ?_⟩, ⟨q2, ?_⟩⟩
    · rw [Int.mul_one]; exact e1
    · rw [Int.mul_one]; exact e2
theorem natAbs_fac {c q : Int} (h : c ≠ 0) : q.natAbs ≤ (c * q).natAbs := by
  rw [Int.natAbs_mul]
  have : 1 ≤ c.natAbs := by omega
  exact Nat.le_mul_of_pos_left _ this
theorem lowC_le {u d : Int} (h : d ≠ 0) : (lowC u d).natAbs ≤ d.natAbs := by
  obtain ⟨_, q, e⟩ := lowC_dvd (u := u) (d := d)
  have hq : q ≠ 0 := fun z => h (by rw [e, z, Int.mul_zero])
  have : (lowC u d).natAbs ≤ (lowC u d * q).natAbs := by
    rw [Int.mul_comm]; exact natAbs_fac hq
  rw [← e] at this
  exact this
theorem low_bd {g u d : Int} {k : Nat} (hg : g ≤ 13) (hd : d ≠ 0) (hk : 4 ≤ k) (h1 : u.natAbs < 2 ^ k) (h2 : d.natAbs < 2 ^ k) : (lowF g u d).1.natAbs < 2 ^ k ∧ (lowF g u d).2.natAbs < 2 ^ k ∧ (lowF g u d).2 ≠ 0 := by
  have hk16 : 16 ≤ 2 ^ k := Nat.le_trans (by decide : 16 ≤ 2 ^ 4) (Nat.pow_le_pow_right (by decide) hk)
  unfold lowF
  cases e : lowI g u d with
  | some i =>
    have hi : i < 13 := by
      unfold lowI at e
      split at e
      · have := List.mem_of_find?_eq_some e
        have := List.mem_range.mp this
        omega
      · cases e
    refine ⟨?_, ?_, fun z => absurd (show (1 : Int) = 0 from z) (by decide)⟩
    · show ((i : Int)).natAbs < 2 ^ k
      omega
    · show (1 : Int).natAbs < 2 ^ k
      omega
  | none =>
    have hc := lowC_ne (u := u) hd
    obtain ⟨⟨q1, e1⟩, q2, e2⟩ := lowC_dvd (u := u) (d := d)
    have f1 : u.fdiv (lowC u d) = q1 := by
      conv => lhs; lhs; rw [e1]
      exact Int.mul_fdiv_cancel_left _ hc
    have f2 : d.fdiv (lowC u d) = q2 := by
      conv => lhs; lhs; rw [e2]
      exact Int.mul_fdiv_cancel_left _ hc
    show (u.fdiv (lowC u d)).natAbs < 2 ^ k ∧ (d.fdiv (lowC u d)).natAbs < 2 ^ k ∧ d.fdiv (lowC u d) ≠ 0
    rw [f1, f2]
    refine ⟨Nat.lt_of_le_of_lt ?_ h1, Nat.lt_of_le_of_lt ?_ h2, fun z => hd ?_⟩
    · have := natAbs_fac (q := q1) hc
      rw [← e1] at this
      exact this
    · have := natAbs_fac (q := q2) hc
      rw [← e2] at this
      exact this
    · rw [e2, z, Int.mul_zero]
end Fm

namespace Fm
open PySem PySem.Spec PyProof.Rows L2
theorem w_js {t : TE} {ts : List TE} {acc : Str} {σ : L2.St} {H : Hp} {R : Str → Hp → Prop} (h : t σ H fun x H1 => ∃ y : Str, x = .str y ∧ (acc ++ y).length ≤ sizeLine ∧ tJs ts (acc ++ y) σ H1 R) : tJs (t :: ts) acc σ H R := h
theorem w_js0 {acc : Str} {σ : L2.St} {H : Hp} {R : Str → Hp → Prop} (h : R acc H) : tJs [] acc σ H R := h
theorem w_fmt {te : TE} {σ : L2.St} {H : Hp} {Q : VK} (h : te σ H fun x H1 => (∃ y : Str, x = .str y ∧ y.length ≤ sizeLine ∧ Q (.str y) H1) ∨ ∃ i : Int, x = .int i ∧ i.natAbs.log2 < 1920 ∧ Q (.str (toString i)) H1) : tFmt te σ H Q := h
theorem w_rep {H : Hp} {Q : VK} {l : Addr} {k : Int} {xs : List V} (h : H l = some (.lst xs)) (h0 : 0 ≤ k) (h1 : k ≤ 100) (hx : xs.length ≤ 100) (q : NewO (.lst (List.replicate k.toNat xs).flatten) H Q) : rRep (.ref l) (.int k) H Q := by
  refine ⟨l, k, xs, rfl, rfl, h, by omega, by omega, ?_, q⟩
  have e : xs.length * k.toNat ≤ 100 * 100 := Nat.mul_le_mul hx (by omega)
  exact Nat.le_trans e (by decide)
theorem w_iteN' {p : Prop} [Decidable p] {A B : Prop} (h : B) (hn : ¬ p) : if decide p = true then A else B := by
  rw [decide_eq_false hn]
  exact h
theorem w_bm {K : PySem.W.Frag} {T : String} {r : V → List V → Hp → VK → Prop} {to : TE} {t : TA} {σ : L2.St} {H : Hp} {Q : VK} (h : to σ H fun x H1 => tyV K T x H1 ∧ t σ H1 fun xs H2 => r x xs H2 Q) : tBM K T r to t σ H Q := h
theorem w_append {H : Hp} {Q : VK} {l : Addr} {xs : List V} {y : V} (h : H l = some (.lst xs)) (hz : xs.length ≤ 1000) (q : Q .non (upd H l (.lst (xs ++ [y])))) : rAppend (.ref l) [y] H Q := ⟨l, xs, y, rfl, rfl, h, small1000 hz, q⟩
theorem w_cat {H : Hp} {Q : VK} {l b : Addr} {xs zs : List V} (h : H l = some (.lst xs)) (h2 : H b = some (.lst zs)) (hz : xs.length + zs.length ≤ 1000) (q : NewO (.lst (xs ++ zs)) H Q) : rCat (.ref l) (.ref b) H Q := ⟨l, b, xs, zs, rfl, rfl, h, h2, Nat.le_of_lt (small1000 hz), q⟩
theorem w_revL {K : PySem.W.Frag} {te : TE} {σ : L2.St} {H : Hp} {Q : VK} (h : te σ H fun x H1 => ∃ a xs, x = .ref a ∧ SqL K H1 a xs ∧ NewO (.lst xs.reverse) H1 Q) : tRevL K te σ H Q := h
theorem w_tupOf {K : PySem.W.Frag} {H : Hp} {Q : VK} {p : Addr} {ys : List V} (h : H p = some (.lst ys)) (q : NewO (.tup ys) H Q) : ∃ p' ys', [V.ref p] = [V.ref p'] ∧ ((SqL K H p' ys' ∧ ∀ l, H l = none → Q (.ref l) (upd H l (.tup ys'))) ∨ (SqT K H p' ys' ∧ Q (.ref p') H)) := ⟨p, ys, rfl, .inl ⟨SqL.of h, q⟩⟩
theorem Same.mv {b : Addr} {H0 H H' : Hp} (s : Same H0 H) (hb : H0 b = none) (m : Mv b H H') : Same H0 H' := fun p o h => m p o (ne_of_none h hb) (s p o h)
theorem Same.upd {b : Addr} {H0 H : Hp} {o : HO} (s : Same H0 H) (hb : H0 b = none) : Same H0 (upd H b o) := fun p u h => by
  rw [upd_ne (ne_of_none h hb)]
  exact s p u h
/-! ### data of any depth -/
def Dat (K : PySem.W.Frag) (H : Hp) (v : V) (n : Nat) : Prop := ∃ d, Dp K H v d ∧ d.canLay0 = true ∧ d.depth ≤ n
theorem dat_all {K : PySem.W.Frag} {H : Hp} {n : Nat} : ∀ {xs : List V}, (∀ x ∈ xs, Dat K H x n) → ∃ ds, DpAll K H xs ds ∧ PyData.canLayAll0 ds = true ∧ PyData.depthAll ds ≤ n ∧ ds.length = xs.length
  | [], _ => ⟨[], .nil, by simp [PyData.canLayAll0], by simp [PyData.depthAll], rfl⟩
  | x :: xs, h => by
    obtain ⟨d, h1, h2, h3⟩ := h x (List.mem_cons_self ..)
    obtain ⟨ds, g1, g2, g3, g4⟩ := dat_all (xs := xs) fun y hy => h y (List.mem_cons_of_mem _ hy)
    refine ⟨d :: ds, .cons h1 g1, ?_, ?_, by rw [List.length_cons, List.length_cons, g4]⟩
    · rw [PyData.canLayAll0, h2, g2]; rfl
    · rw [PyData.depthAll]; omega
theorem dat_int {K : PySem.W.Frag} {H : Hp} {i : Int} : Dat K H (.int i) 0 := ⟨.int i, .int i, by simp [PyData.canLay0], by simp [PyData.depth]⟩
theorem dat_tup {K : PySem.W.Frag} {H : Hp} {p : Addr} {xs : List V} {n : Nat} (h : H p = some (.tup xs)) (hx : ∀ x ∈ xs, Dat K H x n) : Dat K H (.ref p) (n + 1) := by
  obtain ⟨ds, g1, g2, g3, g4⟩ := dat_all hx
  exact ⟨.tuple ds, .tup (SqT.of h) g1, by rw [PyData.canLay0]; exact g2, by rw [PyData.depth]; omega⟩
theorem dat_lst {K : PySem.W.Frag} {H : Hp} {p : Addr} {xs : List V} {n : Nat} (h : H p = some (.lst xs)) (hx : ∀ x ∈ xs, Dat K H x n) : Dat K H (.ref p) (n + 1) := by
  obtain ⟨ds, g1, g2, g3, g4⟩ := dat_all hx
  exact ⟨.list ds, .lst (SqL.of h) g1, by rw [PyData.canLay0]; exact g2, by rw [PyData.depth]; omega⟩
theorem NumB.dat {K : PySem.W.Frag} {H : Hp} {v : V} {k : Nat} (h : NumB H v k) : Dat K H v 1 := by
  obtain ⟨p, x, y, rfl, hp, _⟩ := h
  refine dat_tup hp fun z hz => ?_
  rcases List.mem_cons.mp hz with rfl | hz
  · exact dat_int
  · rw [List.mem_singleton.mp hz]; exact dat_int
theorem RowB.dat {K : PySem.W.Frag} {H : Hp} {v : V} {n k : Nat} (h : RowB H v n k) : Dat K H v 2 := by
  obtain ⟨p, xs, rfl, hp, _, hx⟩ := h
  exact dat_tup hp fun z hz => (hx z hz).dat
theorem shaped_of {d : PyData} (h : d.canLay0 = true) (h2 : d.depth ≤ 64) : SeqAt.shaped d = true := by
  show (d.canLay0 && decide (d.depth ≤ 64)) = true
  rw [h, decide_eq_true h2]
  rfl
theorem w_neNil {K : PySem.W.Frag} {H : Hp} {Q : VK} {p r : Addr} {xs : List V} {n : Nat} (h : H p = some (.lst xs)) (h2 : H r = some (.lst [])) (hx : ∀ x ∈ xs, Dat K H x n) (hn : n ≤ 60) (q : Q (.bl (!decide (xs = []))) H) : rNeD K (.ref p) (.ref r) H Q := by
  obtain ⟨ds, g1, g2, g3, g4⟩ := dat_all hx
  refine ⟨.list ds, .list [], .lst (SqL.of h) g1, .lst (SqL.of h2) .nil, shaped_of (by rw [PyData.canLay0]; exact g2) (by rw [PyData.depth]; omega), shaped_of (by simp [PyData.canLay0, PyData.canLayAll0]) (by simp [PyData.depth, PyData.depthAll]), ?_⟩
  have e : PyData.eqv (.list ds) (.list []) = decide (xs = []) := by
    rw [PyData.eqv]
    cases xs with
    | nil =>
      have : ds = [] := List.length_eq_zero_iff.mp g4
      rw [this, decide_eq_true rfl]; rw [PyData.eqvAll]
    | cons x r =>
      cases ds with
      | nil => cases g4
      | cons d ds => rw [decide_eq_false (by simp)]; rw [PyData.eqvAll]
  rw [e]
  exact q
/-! ### texts -/
def TxtOk (z : Str) (n : Nat) : Prop := z.length ≤ n ∧ PyData.strOk z = true
theorem ok_str (s : String) : PyData.strOk (Str.ofString s) = true := by
  rw [Str.ofString_eq_toList]
  unfold PyData.strOk
  rw [Array.all_eq_true]
  intro i hi
  simp only [List.getElem_toArray, List.getElem_map, decide_eq_true_eq]
  have h := (s.toList[i]'(by simpa using hi)).valid
  simp only [Char.toNat]
  generalize (s.toList[i]'(by simpa using hi)).val = c at h
  rcases h with h | h
  · have : c.toNat < 55296 := h
    omega
  · exact h.2
theorem ok_int {i : Int} (h : i.natAbs.log2 < 1920) : TxtOk (Str.ofString (toString i)) 1921 := ⟨int_text_len_1921 h, ok_str _⟩
theorem ok_app {a b : Str} {n m : Nat} (h1 : TxtOk a n) (h2 : TxtOk b m) : TxtOk (a ++ b) (n + m) := by
  refine ⟨?_, ?_⟩
  · rw [Str.length_append]; exact Nat.add_le_add h1.1 h2.1
  · have e1 := h1.2
    have e2 := h2.2
    unfold PyData.strOk at e1 e2 ⊢
    rw [Str.cps_append, Array.all_append, e1, e2]
    rfl
theorem TxtOk.mono {a : Str} {n m : Nat} (h : TxtOk a n) (hl : n ≤ m) : TxtOk a m := ⟨Nat.le_trans h.1 hl, h.2⟩
theorem ok_empty : TxtOk Str.empty 0 := ⟨Nat.le_refl _, by decide +kernel⟩
theorem ok_join {sep : Str} {n m : Nat} (hs : TxtOk sep m) : ∀ {ys : List Str}, (∀ y ∈ ys, TxtOk y n) → TxtOk (Str.join sep ys) (ys.length * (n + m))
  | [], _ => ok_empty.mono (Nat.zero_le _)
  | [x], h => by
    refine (h x (List.mem_singleton_self x)).mono ?_
    show n ≤ 1 * (n + m)
    omega
  | x :: y :: r, h => by
    have h1 := h x (List.mem_cons_self ..)
    have h2 := ok_join hs (ys := y :: r) fun z hz => h z (List.mem_cons_of_mem _ hz)
    have h3 := ok_app (ok_app h1 hs) h2
    refine TxtOk.mono h3 ?_
    have e : (x :: y :: r).length * (n + m) = (y :: r).length * (n + m) + (n + m) := by rw [List.length_cons, Nat.succ_mul]
    omega
theorem sum_le {n : Nat} : ∀ {ys : List Str}, (∀ y ∈ ys, TxtOk y n) → (ys.map (·.length)).sum ≤ ys.length * n
  | [], _ => Nat.zero_le _
  | y :: r, h => by
    have h1 := (h y (List.mem_cons_self ..)).1
    have h2 := sum_le (ys := r) fun z hz => h z (List.mem_cons_of_mem _ hz)
    rw [List.map_cons, List.sum_cons, List.length_cons, Nat.succ_mul]
    omega
/-- a number's text -/
def numT (a : Int × Int) : Str := if a.2 = 1 then Str.ofString (toString a.1) else Str.ofString (toString a.1) ++ ("/" : Str) ++ Str.ofString (toString a.2)
def Sm (a : Int × Int) : Prop := a.1.natAbs.log2 < 1920 ∧ a.2.natAbs.log2 < 1920
theorem numT_ok {a : Int × Int} (h : Sm a) : TxtOk (numT a) 3900 := by
  unfold numT
  split
  · exact (ok_int h.1).mono (by decide)
  · exact (ok_app (ok_app (ok_int h.1) ⟨(by decide : ("/" : Str).length ≤ 1), by decide +kernel⟩) (ok_int h.2)).mono (by decide)
def rowT (r : List (Int × Int)) : Str := Txt.join (" " : Str) (r.map numT)
theorem rowT_ok {r : List (Int × Int)} (h : ∀ a ∈ r, Sm a) (hl : r.length ≤ 10) : TxtOk (rowT r) 40000 := by
  unfold rowT
  rw [TL.join_eq]
  refine (ok_join (n := 3900) (m := 1) ⟨by decide, by decide +kernel⟩ fun y hy => ?_).mono ?_
  · obtain ⟨a, ha, rfl⟩ := List.mem_map.mp hy
    exact numT_ok (h a ha)
  · rw [List.length_map]
    omega
def tabT (t : List (List (Int × Int))) : Str := Txt.join (" / " : Str) (t.map rowT)
theorem tabT_ok {t : List (List (Int × Int))} (h : ∀ r ∈ t, (∀ a ∈ r, Sm a) ∧ r.length ≤ 10) (hl : t.length ≤ 10) : TxtOk (tabT t) 500000 := by
  unfold tabT
  rw [TL.join_eq]
  refine (ok_join (n := 40000) (m := 3) ⟨by decide, by decide +kernel⟩ fun y hy => ?_).mono ?_
  · obtain ⟨a, ha, rfl⟩ := List.mem_map.mp hy
    exact rowT_ok (h a ha).1 (h a ha).2
  · rw [List.length_map]
    omega
/-! ### numbers, rows, tables by their values -/
def NumV (H : Hp) (v : V) (a : Int × Int) : Prop := ∃ p, v = .ref p ∧ H p = some (.tup [.int a.1, .int a.2])
def SqV {α : Type} (P : Hp → V → α → Prop) (H : Hp) (v : V) (as : List α) : Prop := ∃ p xs, v = .ref p ∧ H p = some (.tup xs) ∧ xs.length = as.length ∧ ∀ (i : Nat) (x : V) (a : α), xs[i]? = some x → as[i]? = some a → P H x a
abbrev RowV := SqV NumV
abbrev TabV := SqV RowV
theorem NumV.kt {H H' : Hp} {v : V} {a : Int × Int} (h : NumV H v a) (s : Kt H H') : NumV H' v a := by
  obtain ⟨p, e, hp⟩ := h
  exact ⟨p, e, s _ _ hp⟩
theorem RowV.kt {H H' : Hp} {v : V} {a : List (Int × Int)} (h : RowV H v a) (s : Kt H H') : RowV H' v a := by
  obtain ⟨p, xs, e, hp, hl, hx⟩ := h
  exact ⟨p, xs, e, s _ _ hp, hl, fun i x b h1 h2 => (hx i x b h1 h2).kt s⟩
theorem TabV.kt {H H' : Hp} {v : V} {a : List (List (Int × Int))} (h : TabV H v a) (s : Kt H H') : TabV H' v a := by
  obtain ⟨p, xs, e, hp, hl, hx⟩ := h
  exact ⟨p, xs, e, s _ _ hp, hl, fun i x b h1 h2 => RowV.kt (hx i x b h1 h2) s⟩
theorem sm_of {x : Int} {k : Nat} (h : x.natAbs < 2 ^ k) (hk : 0 < k) (hk2 : k ≤ 1000) : x.natAbs.log2 < 1920 := Nat.lt_of_lt_of_le (PySem.Flt.log2_lt_of hk h) (by omega)
theorem NumB.val {H : Hp} {v : V} {k : Nat} (h : NumB H v k) (hk : 0 < k) (hk2 : k ≤ 1000) : ∃ a, NumV H v a ∧ Sm a := by
  obtain ⟨p, x, y, e, hp, h1, h2, _⟩ := h
  exact ⟨(x, y), ⟨p, e, hp⟩, sm_of h1 hk hk2, sm_of h2 hk hk2⟩
theorem sq_val {α : Type} {P : Hp → V → α → Prop} {S : α → Prop} {H : Hp} : ∀ {xs : List V}, (∀ x ∈ xs, ∃ a, P H x a ∧ S a) → ∃ as : List α, xs.length = as.length ∧ (∀ a ∈ as, S a) ∧ ∀ (i : Nat) (x : V) (a : α), xs[i]? = some x → as[i]? = some a → P H x a
  | [], _ => ⟨[], rfl, (fun a ha => by cases ha), fun i x a h _ => by simp at h⟩
  | x :: xs, h => by
    obtain ⟨a, h1, h2⟩ := h x (List.mem_cons_self ..)
    obtain ⟨as, g1, g2, g3⟩ := sq_val (xs := xs) fun y hy => h y (List.mem_cons_of_mem _ hy)
    refine ⟨a :: as, by rw [List.length_cons, List.length_cons, g1], fun b hb => ?_, fun i y b e1 e2 => ?_⟩
    · rcases List.mem_cons.mp hb with rfl | hb
      · exact h2
      · exact g2 b hb
    · cases i with
      | zero =>
        cases Option.some.inj e1
        cases Option.some.inj e2
        exact h1
      | succ i => exact g3 i y b e1 e2
theorem RowB.val {H : Hp} {v : V} {n k : Nat} (h : RowB H v n k) (hk : 0 < k) (hk2 : k ≤ 1000) : ∃ r, RowV H v r ∧ r.length = n ∧ ∀ a ∈ r, Sm a := by
  obtain ⟨p, xs, e, hp, hl, hx⟩ := h
  obtain ⟨as, g1, g2, g3⟩ := sq_val (P := NumV) (S := Sm) (H := H) (xs := xs) fun x hx' => (hx x hx').val hk hk2
  exact ⟨as, ⟨p, xs, e, hp, g1, g3⟩, by omega, g2⟩
theorem TabB.val {H : Hp} {v : V} {m n k : Nat} (h : TabB H v m n k) (hk : 0 < k) (hk2 : k ≤ 1000) : ∃ t, TabV H v t ∧ t.length = m ∧ ∀ r ∈ t, (∀ a ∈ r, Sm a) ∧ r.length = n := by
  obtain ⟨p, xs, e, hp, hl, hx⟩ := h
  obtain ⟨as, g1, g2, g3⟩ := sq_val (P := RowV) (S := fun r => (∀ a ∈ r, Sm a) ∧ r.length = n) (H := H) (xs := xs) fun x hx' => by
    obtain ⟨r, h1, h2, h3⟩ := (hx x hx').val hk hk2
    exact ⟨r, h1, h3, h2⟩
  exact ⟨as, ⟨p, xs, e, hp, g1, g3⟩, by omega, g2⟩
/-! ### rows grown -/
def kk (i : Nat) : Nat := 2 ^ (i + 3) - 1
theorem kk_pos (i : Nat) : 7 ≤ kk i := by
  have : 2 ^ 3 ≤ 2 ^ (i + 3) := Nat.pow_le_pow_right (by decide) (by omega)
  unfold kk
  omega
theorem kk_succ (i : Nat) : 2 * kk i + 1 = kk (i + 1) := by
  have h : 2 ^ 3 ≤ 2 ^ (i + 3) := Nat.pow_le_pow_right (by decide) (by omega)
  have e : 2 ^ (i + 1 + 3) = 2 ^ (i + 3) * 2 := by rw [show i + 1 + 3 = (i + 3) + 1 by omega, Nat.pow_succ]
  unfold kk
  rw [e]
  generalize 2 ^ (i + 3) = z at h ⊢
  omega
theorem kk_le {i : Nat} (h : i ≤ 5) : kk i ≤ 255 := by
  have : 2 ^ (i + 3) ≤ 2 ^ 8 := Nat.pow_le_pow_right (by decide) (by omega)
  unfold kk
  omega
theorem rows_end {H Hn : Hp} {b F : Addr} {xs : List V} {row : V} {n i : Nat} (mv : Mv b H Hn) (hb : Bag Hn b) (hF0 : H F = none) (nF : F ≠ b) (hF : Hn F = some (.lst xs)) (hl : xs.length = i) (hx : ∀ x ∈ xs, RowB Hn x n (kk i)) (hr : RowB Hn row n (kk (i + 1))) :
    Mv b H (upd Hn F (.lst (xs ++ [row]))) ∧ Bag (upd Hn F (.lst (xs ++ [row]))) b ∧ ∃ ys : List V, (upd Hn F (.lst (xs ++ [row]))) F = some (.lst ys) ∧ ys.length = i + 1 ∧ ∀ x ∈ ys, RowB (upd Hn F (.lst (xs ++ [row]))) x n (kk (i + 1)) := by
  have kt : Kt Hn (upd Hn F (.lst (xs ++ [row]))) := Kt.updL hF
  refine ⟨mv.updD hF0, hb.upd nF, xs ++ [row], upd_same, by rw [List.length_append, hl]; rfl, fun x h => ?_⟩
  rcases List.mem_append.mp h with h | h
  · refine ((hx x h).kt kt).mono ?_
    have := kk_succ i
    omega
  · rw [List.mem_singleton.mp h]
    exact hr.kt kt
theorem RowB.zeros {H : Hp} {u : Addr} {l : Addr} {n : Nat} (hu : H u = some (.tup [.int 0, .int 1])) (hl : H l = some (.tup (List.replicate n [V.ref u]).flatten)) : RowB H (.ref l) n 7 := by
  rw [List.flatten_replicate_singleton] at hl
  refine ⟨l, _, rfl, hl, List.length_replicate, fun x hx => ?_⟩
  rw [(List.mem_replicate.mp hx).2]
  exact ⟨u, 0, 1, rfl, hu, by decide, by decide, by decide⟩
/-! ### what is looked at together -/
def Tri (H : Hp) (v : V) : Prop := ∃ (p : Addr) (x r t : V), v = .ref p ∧ H p = some (.tup [x, r, t]) ∧ (∃ a, NumV H x a ∧ Sm a) ∧ (∃ rs, RowV H r rs ∧ (∀ a ∈ rs, Sm a) ∧ rs.length ≤ 10) ∧ ∃ ts, TabV H t ts ∧ (∀ r ∈ ts, (∀ a ∈ r, Sm a) ∧ r.length ≤ 10) ∧ ts.length ≤ 10
theorem Tri.kt {H H' : Hp} {v : V} (h : Tri H v) (s : Kt H H') : Tri H' v := by
  obtain ⟨p, x, r, t, e, hp, ⟨a, h1, h2⟩, ⟨rs, h3, h4⟩, ts, h5, h6⟩ := h
  exact ⟨p, x, r, t, e, s _ _ hp, ⟨a, h1.kt s, h2⟩, ⟨rs, RowV.kt h3 s, h4⟩, ts, TabV.kt h5 s, h6⟩
theorem TabB.mono {H : Hp} {v : V} {m n k l : Nat} (h : TabB H v m n k) (hl : k ≤ l) : TabB H v m n l := by
  obtain ⟨p, xs, e, hp, hn, r⟩ := h
  exact ⟨p, xs, e, hp, hn, fun x hx => (r x hx).mono hl⟩
theorem tri_mk {H : Hp} {p : Addr} {x r t : V} {n n' m k : Nat} (hp : H p = some (.tup [x, r, t])) (hx : NumB H x k) (hr : RowB H r n k) (ht : TabB H t m n' k) (hk : 0 < k) (hk2 : k ≤ 1000) (hn : n ≤ 10) (hn' : n' ≤ 10) (hm : m ≤ 10) : Tri H (.ref p) := by
  obtain ⟨rs, h1, h2, h3⟩ := hr.val hk hk2
  obtain ⟨ts, g1, g2, g3⟩ := ht.val hk hk2
  exact ⟨p, x, r, t, rfl, hp, hx.val hk hk2, ⟨rs, h1, h3, by omega⟩, ts, g1, fun r hr => ⟨(g3 r hr).1, by have := (g3 r hr).2; omega⟩, by omega⟩
theorem sqv1 {α : Type} {P : Hp → V → α → Prop} {H : Hp} {p : Addr} {x : V} {a : α} (hp : H p = some (.tup [x])) (h1 : P H x a) : SqV P H (.ref p) [a] := ⟨p, [x], rfl, hp, rfl, fun i y b e1 e2 => by
  cases i with
  | zero => cases Option.some.inj e1; cases Option.some.inj e2; exact h1
  | succ i => simp at e1⟩
theorem sqv2 {α : Type} {P : Hp → V → α → Prop} {H : Hp} {p : Addr} {x y : V} {a b : α} (hp : H p = some (.tup [x, y])) (h1 : P H x a) (h2 : P H y b) : SqV P H (.ref p) [a, b] := ⟨p, [x, y], rfl, hp, rfl, fun i z c e1 e2 => by
  match i with
  | 0 => cases Option.some.inj e1; cases Option.some.inj e2; exact h1
  | 1 => cases Option.some.inj e1; cases Option.some.inj e2; exact h2
  | i + 2 => simp at e1⟩
theorem all_true (n : Nat) : (List.replicate n true).all id = true := by
  rw [List.all_eq_true]
  intro x hx
  rw [(List.mem_replicate.mp hx).2]
  rfl
theorem fresh_of {H : Hp} {p q : Addr} {o : HO} (h : H p = some o) (hq : H q = none) : p ≠ q := fun e => by
  subst e
  rw [h] at hq
  cases hq
end Fm

namespace Fm
open PySem PySem.Spec PyProof.Rows L2
theorem w_chain {r r' : R2} {ta tb tc : TE} {σ : L2.St} {H : Hp} {Q : VK} (h : ta σ H fun x H1 => tb σ H1 fun y H2 => r x y H2 fun z H3 => ∃ k, z = .bl k ∧ (if k = true then tc σ H3 fun w' H4 => r' y w' H4 Q else Q (.bl false) H3)) : tChain r r' ta tb tc σ H Q := h
theorem w_rng2 {ta : TA} {σ : L2.St} {H : Hp} {R : It → Hp → Prop} (h : ta σ H fun vs H1 => ∃ i j : Int, vs = [.int i, .int j] ∧ (-(2 ^ 62) ≤ i ∧ i < 2 ^ 62 ∧ -(2 ^ 62) ≤ j ∧ j < 2 ^ 62) ∧ R (Itr i (j - i).toNat) H1) : iRng2 ta σ H R := h
theorem w_extend {H : Hp} {Q : VK} {l b : Addr} {xs zs : List V} (h : H l = some (.lst xs)) (h2 : H b = some (.lst zs)) (hz : xs.length + zs.length ≤ 1000) (q : Q .non (upd H l (.lst (xs ++ zs)))) : rExtend (.ref l) [.ref b] H Q := ⟨l, b, xs, zs, rfl, rfl, h, h2, Nat.le_of_lt (small1000 hz), q⟩
theorem w_iteB {b : Bool} {A B : Prop} (h1 : b = true → A) (h2 : b = false → B) : if b = true then A else B := by
  cases b with
  | true => exact h1 rfl
  | false => exact h2 rfl
theorem w_iteBN {b : Bool} {A B : Prop} (h1 : b = false → A) (h2 : b = true → B) : if (!b) = true then A else B := by
  cases b with
  | true => exact h2 rfl
  | false => exact h1 rfl
theorem w_notB {H : Hp} {Q : VK} {a b : Bool} (q : Q (.bl (!decide (a = b))) H) : rNotB (.bl a) (.bl b) H Q := ⟨a, b, rfl, rfl, q⟩
/-! ### any things -/
def Kl (H H' : Hp) : Prop := ∀ p xs, H p = some (.lst xs) → ∃ ys, H' p = some (.lst ys)
def Kd (H H' : Hp) : Prop := Kt H H' ∧ Kl H H'
theorem Kd.refl (H : Hp) : Kd H H := ⟨Kt.refl H, fun _ xs h => ⟨xs, h⟩⟩
theorem Kd.trans {H H1 H2 : Hp} (a : Kd H H1) (b : Kd H1 H2) : Kd H H2 := ⟨a.1.trans b.1, fun p xs h => by
  obtain ⟨ys, h1⟩ := a.2 p xs h
  exact b.2 p ys h1⟩
theorem Kd.of {H H' : Hp} (s : Same H H') : Kd H H' := ⟨Kt.of s, fun p xs h => ⟨xs, s _ _ h⟩⟩
theorem Kd.mv {b : Addr} {H H' : Hp} (m : Mv b H H') (hb : Bag H b) (hb' : Bag H' b) : Kd H H' := ⟨m.kt hb, fun p xs h => by
  by_cases e : p = b
  · subst e
    obtain ⟨A, B, h2, _⟩ := hb'
    exact ⟨_, h2⟩
  · exact ⟨xs, m _ _ e h⟩⟩
theorem Kd.updL {H : Hp} {D : Addr} {xs ys : List V} (h : H D = some (.lst xs)) : Kd H (upd H D (.lst ys)) := ⟨Kt.updL h, fun p zs hp => by
  by_cases e : p = D
  · subst e
    exact ⟨ys, upd_same⟩
  · exact ⟨zs, by rw [upd_ne e]; exact hp⟩⟩
def atomB : V → Bool
  | .non => true
  | .bl _ => true
  | .int _ => true
  | .str _ => true
  | _ => false
/-- any thing: of no parts, a list, a tuple of things of no parts -/
def Th (H : Hp) (v : V) : Prop := atomB v = true ∨ (∃ p xs, v = .ref p ∧ H p = some (.lst xs)) ∨ ∃ p xs, v = .ref p ∧ H p = some (.tup xs) ∧ ∀ x ∈ xs, atomB x = true
theorem Th.kd {H H' : Hp} {v : V} (h : Th H v) (k : Kd H H') : Th H' v := by
  rcases h with h | ⟨p, xs, e, h⟩ | ⟨p, xs, e, h, hx⟩
  · exact .inl h
  · obtain ⟨ys, h2⟩ := k.2 p xs h
    exact .inr (.inl ⟨p, ys, e, h2⟩)
  · exact .inr (.inr ⟨p, xs, e, k.1 _ _ h, hx⟩)
theorem Th.sm {H H' : Hp} {v : V} (h : Th H v) (s : Same H H') : Th H' v := h.kd (Kd.of s)
theorem Th.tup {H : Hp} {p : Addr} {xs : List V} (h : H p = some (.tup xs)) (hx : xs.all atomB = true) : Th H (.ref p) := .inr (.inr ⟨p, xs, rfl, h, fun x m => List.all_eq_true.mp hx x m⟩)
theorem Th.lst {H : Hp} {p : Addr} {xs : List V} (h : H p = some (.lst xs)) : Th H (.ref p) := .inr (.inl ⟨p, xs, rfl, h⟩)
theorem NumB.th {H : Hp} {v : V} {k : Nat} (h : NumB H v k) : Th H v := by
  obtain ⟨p, x, y, rfl, hp, _⟩ := h
  exact Th.tup hp rfl
/-! ### what is told of them -/
def intB : V → Bool
  | .int _ => true
  | .bl _ => true
  | _ => false
def blB : V → Bool
  | .bl _ => true
  | _ => false
def wholeB : V → Bool
  | .int _ => true
  | _ => false
def grdB : V → Bool
  | .int i => decide (i ∈ [0, 3, 5, 7, 11, 13])
  | _ => false
def numOk (g : Int) : List V → Bool
  | [.int t, .int b] => if g = 0 then decide (1 ≤ b) && decide (Int.gcd t b = 1) else (decide (0 ≤ t) && decide (t < g)) && decide (b = 1)
  | _ => false
def numAt (g : Int) : Option HO → Bool
  | some (.tup xs) => numOk g xs
  | _ => false
def numOf (H : Hp) (g : Int) : V → Bool
  | .ref p => numAt g (H p)
  | _ => false
theorem numOf_tup {H : Hp} {g : Int} {p : Addr} {xs : List V} (h : H p = some (.tup xs)) : numOf H g (.ref p) = numOk g xs := by
  show numAt g (H p) = _
  rw [h]
  rfl
theorem numOf_lst {H : Hp} {g : Int} {p : Addr} {xs : List V} (h : H p = some (.lst xs)) : numOf H g (.ref p) = false := by
  show numAt g (H p) = _
  rw [h]
  rfl
theorem numOf_kd {H H' : Hp} {g : Int} {v : V} (h : Th H v) (k : Kd H H') : numOf H' g v = numOf H g v := by
  rcases h with h | ⟨p, xs, rfl, h⟩ | ⟨p, xs, rfl, h, _⟩
  · cases v <;> first | rfl | cases h
  · obtain ⟨ys, h2⟩ := k.2 p xs h
    rw [numOf_lst h, numOf_lst h2]
  · rw [numOf_tup h, numOf_tup (k.1 _ _ h)]
theorem whole_eq (v : V) : wholeB v = (intB v && !blB v) := by
  cases v <;> rfl
theorem whole_int {v : V} (h : wholeB v = true) : ∃ i, v = .int i := by
  cases v with
  | int i => exact ⟨i, rfl⟩
  | _ => cases h
theorem grd_whole {v : V} (h : wholeB v = false) : grdB v = false := by
  cases v with
  | int i => cases h
  | _ => rfl
theorem beq_comm_int (a b : Int) : (a == b) = decide (b = a) := by
  by_cases h : a = b
  · subst h; simp
  · rw [beq_eq_false_iff_ne.mpr h, decide_eq_false (fun e => h e.symm)]
theorem in_grd (i : Int) : inV (.int i) [.int 0, .int 3, .int 5, .int 7, .int 11, .int 13] = grdB (.int i) := by
  show (((0 : Int) == i) || (((3 : Int) == i) || (((5 : Int) == i) || (((7 : Int) == i) || (((11 : Int) == i) || (((13 : Int) == i) || false)))))) = decide (i ∈ [0, 3, 5, 7, 11, 13])
  rw [beq_comm_int, beq_comm_int, beq_comm_int, beq_comm_int, beq_comm_int, beq_comm_int, Bool.eq_iff_iff]
  simp
theorem numOk_len {g : Int} {xs : List V} (h : xs.length ≠ 2) : numOk g xs = false := by
  match xs, h with
  | [], _ => rfl
  | [x], _ => cases x <;> rfl
  | [x, y], h => exact absurd rfl h
  | x :: y :: z :: r, _ => cases x <;> cases y <;> rfl
theorem numOk_l {g : Int} {x y : V} (h : wholeB x = false) : numOk g [x, y] = false := by
  cases x with
  | int i => cases h
  | _ => cases y <;> rfl
theorem numOk_r {g : Int} {x y : V} (h : wholeB y = false) : numOk g [x, y] = false := by
  cases y with
  | int i => cases h
  | _ => cases x <;> rfl
theorem numOk_0 {t b : Int} : numOk 0 [.int t, .int b] = (decide (1 ≤ b) && decide ((Int.gcd t b : Int) = 1)) := by
  have e : numOk 0 [.int t, .int b] = (decide (1 ≤ b) && decide (Int.gcd t b = 1)) := by simp [numOk]
  rw [e]
  congr 1
  rw [decide_eq_decide]
  omega
theorem numOk_g {g t b : Int} (h : g ≠ 0) : numOk g [.int t, .int b] = ((decide (0 ≤ t) && decide (t < g)) && decide (b = 1)) := by
  simp [numOk, h]
/-! ### isinstance -/
def tyAt : Option HO → String
  | some (.tup _) => "tuple"
  | _ => "list"
def tyN (H : Hp) : V → String
  | .non => "NoneType"
  | .bl _ => "bool"
  | .int _ => "int"
  | .str _ => "str"
  | .ref p => tyAt (H p)
  | _ => ""
theorem Th.ty {K : PySem.W.Frag} {H : Hp} {v : V} (h : Th H v) : TyX K H v (.type (tyN H v)) := by
  rcases h with h | ⟨p, xs, rfl, h⟩ | ⟨p, xs, rfl, h, _⟩
  · cases v with
    | non => exact .base .non
    | bl b => exact .base (.bl b)
    | int i => exact .base (.int i)
    | str z => exact .base (.str z)
    | _ => cases h
  · have e : tyN H (.ref p) = "list" := by show tyAt (H p) = _; rw [h]; rfl
    rw [e]
    exact .base (.lst h)
  · have e : tyN H (.ref p) = "tuple" := by show tyAt (H p) = _; rw [h]; rfl
    rw [e]
    exact .base (.tup h)
theorem isi_is {K : PySem.W.Frag} {H : Hp} {Q : VK} {v : V} {a T : String} {b : Bool} (h : TyX K H v (.type a)) (e : kitB a T = some b) (q : Q (.bl b) H) : rIsi K [v, .ty T] H Q := ⟨v, .ty T, .type a, .type T, b, rfl, .ty T, h, kit_ty e, q⟩
theorem isi_int {K : PySem.W.Frag} {H : Hp} {Q : VK} {v : V} (h : Th H v) (q : Q (.bl (intB v)) H) : rIsi K [v, .ty "int"] H Q := by
  refine isi_is h.ty ?_ q
  rcases h with h | ⟨p, xs, rfl, h⟩ | ⟨p, xs, rfl, h, _⟩
  · cases v with
    | non => show kitB "NoneType" "int" = some false; decide +kernel
    | bl b => show kitB "bool" "int" = some true; decide +kernel
    | int i => show kitB "int" "int" = some true; decide +kernel
    | str z => show kitB "str" "int" = some false; decide +kernel
    | _ => cases h
  · show kitB (tyAt (H p)) _ = _; rw [h]; show kitB "list" "int" = some false; decide +kernel
  · show kitB (tyAt (H p)) _ = _; rw [h]; show kitB "tuple" "int" = some false; decide +kernel
theorem isi_bool {K : PySem.W.Frag} {H : Hp} {Q : VK} {v : V} (h : Th H v) (q : Q (.bl (blB v)) H) : rIsi K [v, .ty "bool"] H Q := by
  refine isi_is h.ty ?_ q
  rcases h with h | ⟨p, xs, rfl, h⟩ | ⟨p, xs, rfl, h, _⟩
  · cases v with
    | non => show kitB "NoneType" "bool" = some false; decide +kernel
    | bl b => show kitB "bool" "bool" = some true; decide +kernel
    | int i => show kitB "int" "bool" = some false; decide +kernel
    | str z => show kitB "str" "bool" = some false; decide +kernel
    | _ => cases h
  · show kitB (tyAt (H p)) _ = _; rw [h]; show kitB "list" "bool" = some false; decide +kernel
  · show kitB (tyAt (H p)) _ = _; rw [h]; show kitB "tuple" "bool" = some false; decide +kernel
theorem isi_tup {K : PySem.W.Frag} {H : Hp} {Q : VK} {v : V} (h : Th H v) (q1 : ∀ p xs, v = .ref p → H p = some (.tup xs) → (∀ x ∈ xs, atomB x = true) → Q (.bl true) H) (q2 : (∀ g, numOf H g v = false) → Q (.bl false) H) : rIsi K [v, .ty "tuple"] H Q := by
  have h' := h
  rcases h with h | ⟨p, xs, rfl, h⟩ | ⟨p, xs, rfl, h, hx⟩
  · refine isi_is h'.ty (b := false) ?_ (q2 fun g => ?_)
    · cases v with
      | non => show kitB "NoneType" "tuple" = some false; decide +kernel
      | bl b => show kitB "bool" "tuple" = some false; decide +kernel
      | int i => show kitB "int" "tuple" = some false; decide +kernel
      | str z => show kitB "str" "tuple" = some false; decide +kernel
      | _ => cases h
    · cases v <;> first | rfl | cases h
  · refine isi_is h'.ty (b := false) ?_ (q2 fun g => numOf_lst h)
    show kitB (tyAt (H p)) _ = _; rw [h]; show kitB "list" "tuple" = some false; decide +kernel
  · refine isi_is h'.ty (b := true) ?_ (q1 p xs rfl h hx)
    show kitB (tyAt (H p)) _ = _; rw [h]; show kitB "tuple" "tuple" = some true; decide +kernel
theorem dat_bl {K : PySem.W.Frag} {H : Hp} {b : Bool} : Dp K H (.bl b) (.bool b) := .bl b
/-- two lists of two truths -/
theorem w_neBB {K : PySem.W.Frag} {H : Hp} {Q : VK} {p r : Addr} {a b c d : Bool} (h : H p = some (.lst [.bl a, .bl b])) (h2 : H r = some (.lst [.bl c, .bl d])) (e1 : a = c) (e2 : b = d) (q : Q (.bl false) H) : rNeD K (.ref p) (.ref r) H Q := by
  subst e1 e2
  refine ⟨.list [.bool a, .bool b], .list [.bool a, .bool b], .lst (SqL.of h) (.cons (.bl a) (.cons (.bl b) .nil)), .lst (SqL.of h2) (.cons (.bl a) (.cons (.bl b) .nil)), shaped_of ?_ ?_, shaped_of ?_ ?_, ?_⟩
  · simp [PyData.canLay0, PyData.canLayAll0]
  · simp [PyData.depth, PyData.depthAll]
  · simp [PyData.canLay0, PyData.canLayAll0]
  · simp [PyData.depth, PyData.depthAll]
  · rw [SeqAt.eqv_refl _ (by simp [PyData.canLay0, PyData.canLayAll0])]
    exact q
/-! ### common divisors -/
theorem gcd_fmod (x y : Int) : Int.gcd y (x.fmod y) = Int.gcd x y := by
  have e : x.fmod y = x - y * x.fdiv y := Int.fmod_def x y
  rw [e]
  refine Nat.dvd_antisymm ?_ ?_
  · have h1 := Int.gcd_dvd_left y (x - y * x.fdiv y)
    have h2 := Int.gcd_dvd_right y (x - y * x.fdiv y)
    refine Int.dvd_gcd ?_ h1
    have h3 := Int.dvd_add h2 (Int.dvd_mul_of_dvd_left (c := x.fdiv y) h1)
    rw [Int.sub_add_cancel] at h3
    exact h3
  · have h1 := Int.gcd_dvd_left x y
    have h2 := Int.gcd_dvd_right x y
    refine Int.dvd_gcd h2 ?_
    exact Int.dvd_sub h1 (Int.dvd_mul_of_dvd_left h2)
theorem fmod_small (x : Int) {y : Int} (h : y ≠ 0) : (x.fmod y).natAbs < y.natAbs := by
  rcases Int.lt_or_gt_of_ne h with h | h
  · have e : x.fmod y = -((-x).fmod (-y)) := by
      have := Int.neg_fmod_neg x y
      omega
    have h1 := Int.fmod_nonneg_of_pos (-x) (show 0 < -y by omega)
    have h2 := Int.fmod_lt_of_pos (-x) (show 0 < -y by omega)
    omega
  · have h1 := Int.fmod_nonneg_of_pos x h
    have h2 := Int.fmod_lt_of_pos x h
    omega
theorem atI_some {xs : List V} {d : Int} (h0 : 0 ≤ d) (h1 : d < (xs.length : Int)) : ∃ v, atI xs d = some v ∧ v ∈ xs := by
  obtain ⟨v, hv⟩ : ∃ v, xs[d.toNat]? = some v := ⟨_, List.getElem?_eq_getElem (by omega)⟩
  have e := atI_nat hv
  rw [show ((d.toNat : Nat) : Int) = d by omega] at e
  exact ⟨v, e, List.mem_of_getElem? hv⟩
theorem gcd_fib {u d : Int} (h : Int.gcd u d = 1) : Int.gcd d (u + d) = 1 := by
  have h1 := Int.gcd_dvd_left d (u + d)
  have h2 := Int.gcd_dvd_right d (u + d)
  have h3 := Int.dvd_sub h2 h1
  rw [Int.add_sub_cancel] at h3
  have h4 := Int.dvd_gcd h3 h1
  rw [h] at h4
  exact Nat.dvd_one.mp h4
theorem lp_div {u d : Int} (hu : 1 ≤ u) (hd : 1 ≤ d) : Int.gcd (u.fdiv (Int.gcd u d : Int)) (d.fdiv (Int.gcd u d : Int)) = 1 ∧ 1 ≤ d.fdiv (Int.gcd u d : Int) ∧ (Int.gcd u d : Int) ≤ d ∧ 0 < (Int.gcd u d : Int) := by
  have hp : 0 < Int.gcd u d := Nat.pos_of_ne_zero fun z => by
    have := (Int.gcd_eq_zero_iff.mp z).2
    omega
  have hp' : 0 < (Int.gcd u d : Int) := by omega
  rw [fdiv_pos _ hp', fdiv_pos _ hp']
  have hle : (Int.gcd u d : Int) ≤ d := Int.le_of_dvd (by omega) (Int.gcd_dvd_right u d)
  refine ⟨Int.gcd_ediv_gcd_ediv_gcd hp, ?_, hle, hp'⟩
  exact Int.le_ediv_of_mul_le hp' (by omega)
theorem lp_next {u t : Int} {i : Nat} (h1 : 1 ≤ u) (h2 : u + 1 ≤ 2 * 1000000 ^ i) (t0 : 0 ≤ t) (t1 : t < 1000000) : 1 ≤ u * 1000000 + t ∧ u * 1000000 + t + 1 ≤ 2 * 1000000 ^ (i + 1) := by
  have e : (1000000 : Int) ^ (i + 1) = 1000000 ^ i * 1000000 := Int.pow_succ _ _
  rw [e]
  generalize (1000000 : Int) ^ i = z at h2 ⊢
  omega
theorem lp_small {d : Int} {i : Nat} (h1 : 1 ≤ d) (h2 : d + 1 ≤ 2 * 1000000 ^ i) (hi : i ≤ 100) : d.natAbs < 2 ^ 4000 := by
  have h3 : ((d.natAbs : Nat) : Int) < ((2 * 1000000 ^ i : Nat) : Int) := by
    rw [Int.natAbs_of_nonneg (by omega), Int.natCast_mul, Int.natCast_pow]
    have : ((2 : Nat) : Int) * ((1000000 : Nat) : Int) ^ i = 2 * 1000000 ^ i := rfl
    rw [this]
    omega
  have h4 := Int.ofNat_lt.mp h3
  refine Nat.lt_of_lt_of_le h4 (Nat.le_trans (Nat.mul_le_mul_left 2 (Nat.pow_le_pow_right (by decide) hi)) (by decide +kernel))
def grds (i : Nat) : List Int := ((List.range i).map fun (j : Nat) => ((-20 : Int) + (j : Int))).filter fun z => grdB (.int z)
theorem grds_t {i : Nat} (h : grdB (.int ((-20 : Int) + (i : Int))) = true) : grds (i + 1) = grds i ++ [(-20 : Int) + (i : Int)] := by
  unfold grds
  rw [List.range_succ, List.map_append, List.filter_append]
  simp [h]
theorem grds_f {i : Nat} (h : grdB (.int ((-20 : Int) + (i : Int))) = false) : grds (i + 1) = grds i := by
  unfold grds
  rw [List.range_succ, List.map_append, List.filter_append]
  simp [h]
theorem grds_all : grds 60 = [0, 3, 5, 7, 11, 13] := by decide +kernel
theorem grds_len (i : Nat) : (grds i).length ≤ i := by
  unfold grds
  refine Nat.le_trans (List.length_filter_le _ _) ?_
  rw [List.length_map, List.length_range]
  exact Nat.le_refl _
end Fm

namespace Fm
open PySem PySem.Spec PyProof.Rows L2
/-! ### fractions in lowest terms -/
def Red (p : Int × Int) : Prop := 0 < p.2 ∧ Int.gcd p.1 p.2 = 1
theorem dvd_cop {c a d : Int} (h : Int.gcd a c = 1) (hd : c ∣ a * d) : c ∣ d := by
  have h1 : c.natAbs ∣ a.natAbs * d.natAbs := by
    rw [← Int.natAbs_mul]
    exact Int.natAbs_dvd_natAbs.mpr hd
  have h2 : Nat.Coprime c.natAbs a.natAbs := by
    rw [Nat.Coprime, Nat.gcd_comm]
    exact h
  exact Int.natAbs_dvd_natAbs.mp (h2.dvd_of_dvd_mul_left h1)
theorem red_uniq {p q : Int × Int} (hp : Red p) (hq : Red q) (h : p.1 * q.2 = q.1 * p.2) : p = q := by
  obtain ⟨a, c⟩ := p
  obtain ⟨b, d⟩ := q
  obtain ⟨hc, h1⟩ := hp
  obtain ⟨hd, h2⟩ := hq
  simp only at hc h1 hd h2 h
  have d1 : c ∣ d := by
    have : c ∣ a * d := ⟨b, by rw [h, Int.mul_comm]⟩
    exact dvd_cop h1 this
  have d2 : d ∣ c := by
    have : d ∣ b * c := ⟨a, by rw [← h, Int.mul_comm]⟩
    exact dvd_cop h2 this
  have e : c = d := Int.le_antisymm (Int.le_of_dvd hd d1) (Int.le_of_dvd hc d2)
  subst e
  have e2 : a = b := Int.eq_of_mul_eq_mul_right (by omega) h
  rw [e2]
theorem low0_eq {u d : Int} (hd : d ≠ 0) : ∃ q1 q2, lowF 0 u d = (q1, q2) ∧ u = lowC u d * q1 ∧ d = lowC u d * q2 := by
  have hI : lowI 0 u d = none := by
    unfold lowI
    rw [if_neg (by decide)]
  have hc := lowC_ne (u := u) hd
  obtain ⟨⟨q1, e1⟩, q2, e2⟩ := lowC_dvd (u := u) (d := d)
  refine ⟨q1, q2, ?_, e1, e2⟩
  have f1 : u.fdiv (lowC u d) = q1 := by
    conv => lhs; lhs; rw [e1]
    exact Int.mul_fdiv_cancel_left _ hc
  have f2 : d.fdiv (lowC u d) = q2 := by
    conv => lhs; lhs; rw [e2]
    exact Int.mul_fdiv_cancel_left _ hc
  unfold lowF
  rw [hI]
  show (u.fdiv (lowC u d), d.fdiv (lowC u d)) = _
  rw [f1, f2]
theorem lowC_abs {u d : Int} : (lowC u d).natAbs = Int.gcd u d := by
  unfold lowC
  split
  · rw [Int.mul_neg, Int.mul_one, Int.natAbs_neg, Int.natAbs_natCast]
  · rw [Int.mul_one, Int.natAbs_natCast]
theorem low0_red {u d : Int} (hd : d ≠ 0) : Red (lowF 0 u d) ∧ (lowF 0 u d).1 * d = u * (lowF 0 u d).2 := by
  obtain ⟨q1, q2, e, e1, e2⟩ := low0_eq (u := u) hd
  have hc := lowC_ne (u := u) hd
  have ha := lowC_abs (u := u) (d := d)
  rw [e]
  refine ⟨⟨?_, ?_⟩, ?_⟩
  · show 0 < q2
    have hg : 0 < Int.gcd u d := by omega
    unfold lowC at e2
    by_cases h : d < 0
    · rw [if_pos h, Int.mul_neg, Int.mul_one] at e2
      rcases Int.lt_trichotomy q2 0 with z | z | z
      · have := Int.mul_nonneg_of_nonpos_of_nonpos (a := -(Int.gcd u d : Int)) (b := q2) (by omega) (by omega)
        omega
      · rw [z, Int.mul_zero] at e2; omega
      · exact z
    · rw [if_neg h, Int.mul_one] at e2
      rcases Int.lt_trichotomy q2 0 with z | z | z
      · have := Int.mul_nonpos_of_nonneg_of_nonpos (a := (Int.gcd u d : Int)) (b := q2) (by omega) (by omega)
        omega
      · rw [z, Int.mul_zero] at e2; omega
      · exact z
  · show Int.gcd q1 q2 = 1
    have h1 : Int.gcd (lowC u d * q1) (lowC u d * q2) = (lowC u d).natAbs * Int.gcd q1 q2 := Int.gcd_mul_left ..
    rw [← e1, ← e2, ha] at h1
    have hg : 0 < Int.gcd u d := by omega
    have h2 : Int.gcd u d * 1 = Int.gcd u d * Int.gcd q1 q2 := by rw [Nat.mul_one]; exact h1
    exact (Nat.eq_of_mul_eq_mul_left hg h2).symm
  · show q1 * d = u * q2
    conv => lhs; rw [e2]
    conv => rhs; rw [e1]
    rw [← Int.mul_assoc, Int.mul_comm q1]
theorem low0_uniq {p : Int × Int} {u d : Int} (hp : Red p) (hd : d ≠ 0) (h : p.1 * d = u * p.2) : lowF 0 u d = p := by
  obtain ⟨hr, he⟩ := low0_red (u := u) hd
  refine red_uniq hr hp ?_
  have : ((lowF 0 u d).1 * p.2) * d = (p.1 * (lowF 0 u d).2) * d := by
    calc ((lowF 0 u d).1 * p.2) * d = ((lowF 0 u d).1 * d) * p.2 := by rw [Int.mul_right_comm]
      _ = (u * (lowF 0 u d).2) * p.2 := by rw [he]
      _ = (u * p.2) * (lowF 0 u d).2 := by rw [Int.mul_right_comm]
      _ = (p.1 * d) * (lowF 0 u d).2 := by rw [h]
      _ = (p.1 * (lowF 0 u d).2) * d := by rw [Int.mul_right_comm]
  exact Int.eq_of_mul_eq_mul_right hd this
/-! ### wheels, over 1 -/
theorem low_one {g u : Int} (hg : 0 < g) : lowF g u 1 = (u.fmod g, 1) := by
  have h0 : 0 ≤ u.fmod g := Int.fmod_nonneg_of_pos u hg
  have h1 : u.fmod g < g := Int.fmod_lt_of_pos u hg
  have e : lowI g u 1 = some (u.fmod g).toNat := by
    unfold lowI
    rw [if_pos hg]
    refine List.find?_range_eq_some.mpr ⟨decide_eq_true ?_, List.mem_range.mpr (by omega), fun j hj => ?_⟩
    · rw [Int.mul_one, show (((u.fmod g).toNat : Nat) : Int) = u.fmod g by omega]
      rw [fmod_pos _ hg, fmod_pos _ hg]
      exact Int.emod_emod_of_dvd _ (Int.dvd_refl g)
    · have : ¬ ((j : Int) * 1).fmod g = u.fmod g := by
        rw [Int.mul_one, fmod_pos _ hg, Int.emod_eq_of_lt (by omega) (by omega)]
        omega
      rw [decide_eq_false this]
      rfl
  unfold lowF
  rw [e]
  show (((u.fmod g).toNat : Int), (1 : Int)) = _
  rw [show (((u.fmod g).toNat : Nat) : Int) = u.fmod g by omega]
/-! ### sums of products -/
def timesF (g : Int) (x y : Int × Int) : Int × Int := lowF g (x.1 * y.1) (x.2 * y.2)
def plusF (g : Int) (x y : Int × Int) : Int × Int := lowF g (x.1 * y.2 + y.1 * x.2) (x.2 * y.2)
theorem times_rel {x z : Int × Int} {t s B U : Int} (hx : x.2 ≠ 0) (hz : z.2 ≠ 0) (ht : t * x.2 = x.1 * B) (hs : s * z.2 = z.1 * U) : (timesF 0 x z).1 * (B * U) = t * s * (timesF 0 x z).2 := by
  have hn : x.2 * z.2 ≠ 0 := Int.mul_ne_zero hx hz
  have h := (low0_red (u := x.1 * z.1) hn).2
  have e : (timesF 0 x z).1 * (x.2 * z.2) = x.1 * z.1 * (timesF 0 x z).2 := h
  generalize timesF 0 x z = y at e
  have : (y.1 * (B * U)) * (x.2 * z.2) = (t * s * y.2) * (x.2 * z.2) := by
    calc (y.1 * (B * U)) * (x.2 * z.2) = (y.1 * (x.2 * z.2)) * (B * U) := by rw [Int.mul_right_comm]
      _ = (x.1 * z.1 * y.2) * (B * U) := by rw [e]
      _ = (x.1 * B) * (z.1 * U) * y.2 := by
        ac_rfl
      _ = (t * x.2) * (s * z.2) * y.2 := by rw [ht, hs]
      _ = (t * s * y.2) * (x.2 * z.2) := by
        ac_rfl
  exact Int.eq_of_mul_eq_mul_right hn this
theorem plus_rel {p y : Int × Int} {S T M : Int} (hp : p.2 ≠ 0) (hy : y.2 ≠ 0) (h1 : p.1 * M = S * p.2) (h2 : y.1 * M = T * y.2) : (plusF 0 p y).1 * M = (S + T) * (plusF 0 p y).2 := by
  have hn : p.2 * y.2 ≠ 0 := Int.mul_ne_zero hp hy
  have e : (plusF 0 p y).1 * (p.2 * y.2) = (p.1 * y.2 + y.1 * p.2) * (plusF 0 p y).2 := (low0_red (u := p.1 * y.2 + y.1 * p.2) hn).2
  generalize plusF 0 p y = z at e
  have : (z.1 * M) * (p.2 * y.2) = ((S + T) * z.2) * (p.2 * y.2) := by
    calc (z.1 * M) * (p.2 * y.2) = (z.1 * (p.2 * y.2)) * M := by rw [Int.mul_right_comm]
      _ = ((p.1 * y.2 + y.1 * p.2) * z.2) * M := by rw [e]
      _ = ((p.1 * M) * y.2 + (y.1 * M) * p.2) * z.2 := by
        rw [Int.mul_right_comm, Int.add_mul, Int.mul_right_comm p.1, Int.mul_right_comm y.1]
      _ = ((S * p.2) * y.2 + (T * y.2) * p.2) * z.2 := by rw [h1, h2]
      _ = ((S + T) * z.2) * (p.2 * y.2) := by
        rw [Int.mul_assoc S, Int.mul_assoc T, Int.mul_comm y.2 p.2, ← Int.add_mul, Int.mul_right_comm]
  exact Int.eq_of_mul_eq_mul_right hn this
/-! ### rows as whole numbers over one bottom -/
def dotF (ts ss : List Int) : Int := (List.zipWith (fun a b => a * b) ts ss).sum
def wrB (r : List (Int × Int)) : Int := r.foldl (fun b x => b.fdiv (Int.gcd b x.2 : Int) * x.2) 1
def wrT (r : List (Int × Int)) : List Int := r.map fun x => x.1 * (wrB r).fdiv x.2
theorem lcm_step {b c : Int} (hb : 0 < b) (hc : 0 < c) : 0 < b.fdiv (Int.gcd b c : Int) * c ∧ b ∣ b.fdiv (Int.gcd b c : Int) * c ∧ c ∣ b.fdiv (Int.gcd b c : Int) * c ∧ ∀ L, b ∣ L → c ∣ L → b.fdiv (Int.gcd b c : Int) * c ∣ L := by
  have hg : 0 < Int.gcd b c := Nat.pos_of_ne_zero fun z => by
    have := (Int.gcd_eq_zero_iff.mp z).2
    omega
  have hg' : (0 : Int) < (Int.gcd b c : Int) := by omega
  obtain ⟨q1, e1⟩ := Int.gcd_dvd_left b c
  obtain ⟨q2, e2⟩ := Int.gcd_dvd_right b c
  have f1 : b.fdiv (Int.gcd b c : Int) = q1 := by
    conv => lhs; lhs; rw [e1]
    exact Int.mul_fdiv_cancel_left _ (by omega)
  rw [f1]
  have hq1 : 0 < q1 := Int.pos_of_mul_pos_right (by rw [← e1]; exact hb) hg'
  have hcop : Int.gcd q1 q2 = 1 := by
    have h1 : Int.gcd ((Int.gcd b c : Int) * q1) ((Int.gcd b c : Int) * q2) = ((Int.gcd b c : Int)).natAbs * Int.gcd q1 q2 := Int.gcd_mul_left ..
    rw [← e1, ← e2, Int.natAbs_natCast] at h1
    have h2 : Int.gcd b c * 1 = Int.gcd b c * Int.gcd q1 q2 := by rw [Nat.mul_one]; exact h1
    exact (Nat.eq_of_mul_eq_mul_left hg h2).symm
  refine ⟨Int.mul_pos hq1 hc, ⟨q2, ?_⟩, ⟨q1, Int.mul_comm _ _⟩, fun L h1 h2 => ?_⟩
  · conv => lhs; rw [e2]
    conv => rhs; rw [e1]
    ac_rfl
  · obtain ⟨k1, hk1⟩ := h1
    obtain ⟨k2, hk2⟩ := h2
    have h3 : q1 * k1 = q2 * k2 := by
      have : (Int.gcd b c : Int) * (q1 * k1) = (Int.gcd b c : Int) * (q2 * k2) := by
        rw [← Int.mul_assoc, ← Int.mul_assoc, ← e1, ← e2, ← hk1, ← hk2]
      exact Int.eq_of_mul_eq_mul_left (by omega) this
    have h4 : q1 ∣ k2 := dvd_cop (a := q2) (by rw [Int.gcd_comm]; exact hcop) ⟨k1, by rw [← h3]⟩
    obtain ⟨k3, hk3⟩ := h4
    exact ⟨k3, by rw [hk2, hk3]; ac_rfl⟩
theorem wr_fold : ∀ (r : List (Int × Int)) (b : Int), 0 < b → (∀ x ∈ r, 0 < x.2) → 0 < r.foldl (fun b x => b.fdiv (Int.gcd b x.2 : Int) * x.2) b ∧ b ∣ r.foldl (fun b x => b.fdiv (Int.gcd b x.2 : Int) * x.2) b ∧ (∀ x ∈ r, x.2 ∣ r.foldl (fun b x => b.fdiv (Int.gcd b x.2 : Int) * x.2) b) ∧ ∀ L, b ∣ L → (∀ x ∈ r, x.2 ∣ L) → r.foldl (fun b x => b.fdiv (Int.gcd b x.2 : Int) * x.2) b ∣ L
  | [], b, hb, _ => ⟨hb, Int.dvd_refl b, fun x hx => (by cases hx), fun L h _ => h⟩
  | x :: r, b, hb, h => by
    obtain ⟨s1, s2, s3, s4⟩ := lcm_step hb (h x (List.mem_cons_self ..))
    obtain ⟨t1, t2, t3, t4⟩ := wr_fold r _ s1 fun y hy => h y (List.mem_cons_of_mem _ hy)
    rw [List.foldl_cons]
    refine ⟨t1, Int.dvd_trans s2 t2, fun y hy => ?_, fun L h1 h2 => ?_⟩
    · rcases List.mem_cons.mp hy with rfl | hy
      · exact Int.dvd_trans s3 t2
      · exact t3 y hy
    · exact t4 L (s4 L h1 (h2 x (List.mem_cons_self ..))) fun y hy => h2 y (List.mem_cons_of_mem _ hy)
theorem wrB_spec {r : List (Int × Int)} (h : ∀ x ∈ r, 0 < x.2) : 0 < wrB r ∧ (∀ x ∈ r, x.2 ∣ wrB r) ∧ ∀ L, (∀ x ∈ r, x.2 ∣ L) → wrB r ∣ L := by
  obtain ⟨h1, _, h3, h4⟩ := wr_fold r 1 (by decide) h
  exact ⟨h1, h3, fun L h => h4 L (Int.one_dvd L) h⟩
def RelL (B : Int) : List (Int × Int) → List Int → Prop
  | [], [] => True
  | x :: xs, t :: ts => (0 < x.2 ∧ t * x.2 = x.1 * B) ∧ RelL B xs ts
  | _, _ => False
theorem rel_of {B : Int} : ∀ {r : List (Int × Int)}, (∀ x ∈ r, 0 < x.2 ∧ x.2 ∣ B) → RelL B r (r.map fun x => x.1 * B.fdiv x.2)
  | [], _ => True.intro
  | x :: r, h => by
    obtain ⟨h1, k, hk⟩ := h x (List.mem_cons_self ..)
    refine ⟨⟨h1, ?_⟩, rel_of fun y hy => h y (List.mem_cons_of_mem _ hy)⟩
    have e : B.fdiv x.2 = k := by
      rw [hk]
      exact Int.mul_fdiv_cancel_left _ (by omega)
    show x.1 * B.fdiv x.2 * x.2 = x.1 * B
    rw [e, hk]
    ac_rfl
theorem wr_rel {r : List (Int × Int)} (h : ∀ x ∈ r, 0 < x.2) : RelL (wrB r) r (wrT r) := rel_of fun x hx => ⟨h x hx, (wrB_spec h).2.1 x hx⟩
def cellF (g : Int) (r s : List (Int × Int)) : Int × Int := (List.zipWith (timesF g) r s).foldl (plusF g) (0, 1)
theorem cell_fold {B U : Int} : ∀ (xs zs : List (Int × Int)) (ts ss : List Int) (p : Int × Int) (S : Int), Red p → p.1 * (B * U) = S * p.2 → RelL B xs ts → RelL U zs ss → Red ((List.zipWith (timesF 0) xs zs).foldl (plusF 0) p) ∧ ((List.zipWith (timesF 0) xs zs).foldl (plusF 0) p).1 * (B * U) = (S + dotF ts ss) * ((List.zipWith (timesF 0) xs zs).foldl (plusF 0) p).2
  | [], zs, ts, ss, p, S, hp, h, h1, _ => by
    cases ts with
    | nil => exact ⟨hp, by simp only [List.zipWith_nil_left, List.foldl_nil, dotF, List.sum_nil, Int.add_zero]; exact h⟩
    | cons t ts => exact h1.elim
  | x :: xs, [], ts, ss, p, S, hp, h, _, h2 => by
    cases ss with
    | nil => exact ⟨hp, by simp only [List.zipWith_nil_right, List.foldl_nil, dotF, List.sum_nil, Int.add_zero]; exact h⟩
    | cons t ts => exact h2.elim
  | x :: xs, z :: zs, [], ss, p, S, hp, h, h1, _ => h1.elim
  | x :: xs, z :: zs, t :: ts, [], p, S, hp, h, _, h2 => h2.elim
  | x :: xs, z :: zs, t :: ts, s :: ss, p, S, hp, h, h1, h2 => by
    obtain ⟨⟨hx, ht⟩, h1⟩ := h1
    obtain ⟨⟨hz, hs⟩, h2⟩ := h2
    have hxz : x.2 * z.2 ≠ 0 := Int.mul_ne_zero (by omega) (by omega)
    have hT := (low0_red (u := x.1 * z.1) hxz).1
    have e1 := times_rel (x := x) (z := z) (t := t) (s := s) (B := B) (U := U) (by omega) (by omega) ht hs
    have hy : 0 < (timesF 0 x z).2 := hT.1
    have e2 := plus_rel (p := p) (y := timesF 0 x z) (M := B * U) (by have := hp.1; omega) (by omega) h e1
    have hR : Red (plusF 0 p (timesF 0 x z)) := (low0_red (Int.mul_ne_zero (by have := hp.1; omega) (by omega))).1
    have ih := cell_fold xs zs ts ss _ _ hR e2 h1 h2
    rw [List.zipWith_cons_cons, List.foldl_cons]
    refine ⟨ih.1, ?_⟩
    rw [ih.2]
    simp only [dotF, List.zipWith_cons_cons, List.sum_cons]
    rw [Int.add_assoc]
theorem cell_zero {r s : List (Int × Int)} (hr : ∀ x ∈ r, 0 < x.2) (hs : ∀ x ∈ s, 0 < x.2) : cellF 0 r s = lowF 0 (dotF (wrT r) (wrT s)) (wrB r * wrB s) := by
  have hB := (wrB_spec hr).1
  have hU := (wrB_spec hs).1
  have h := cell_fold r s (wrT r) (wrT s) (0, 1) 0 ⟨by decide, by decide⟩ (by simp) (wr_rel hr) (wr_rel hs)
  rw [Int.zero_add] at h
  exact (low0_uniq h.1 (Int.mul_ne_zero (by omega) (by omega)) h.2).symm
/-! ### the same on wheels -/
theorem fmod_add {g a b : Int} (hg : 0 < g) : (a.fmod g + b).fmod g = (a + b).fmod g := by
  rw [fmod_pos _ hg, fmod_pos _ hg, fmod_pos _ hg, Int.emod_add_emod]
theorem fmod_add2 {g a b : Int} (hg : 0 < g) : (a + b.fmod g).fmod g = (a + b).fmod g := by
  rw [fmod_pos _ hg, fmod_pos _ hg, fmod_pos _ hg, Int.add_emod_emod]
theorem cell_wheel_fold {g : Int} (hg : 0 < g) : ∀ (xs zs : List (Int × Int)) (S : Int), (∀ x ∈ xs, x.2 = 1) → (∀ x ∈ zs, x.2 = 1) → (List.zipWith (timesF g) xs zs).foldl (plusF g) (S.fmod g, 1) = ((S + dotF (xs.map (·.1)) (zs.map (·.1))).fmod g, 1)
  | [], zs, S, _, _ => by simp [dotF]
  | x :: xs, [], S, _, _ => by simp [dotF]
  | x :: xs, z :: zs, S, h1, h2 => by
    have e1 := h1 x (List.mem_cons_self ..)
    have e2 := h2 z (List.mem_cons_self ..)
    have et : timesF g x z = ((x.1 * z.1).fmod g, 1) := by
      unfold timesF
      rw [e1, e2, Int.mul_one, low_one hg]
    have ep : plusF g (S.fmod g, 1) (timesF g x z) = ((S + x.1 * z.1).fmod g, 1) := by
      unfold plusF
      rw [et]
      show lowF g (S.fmod g * 1 + (x.1 * z.1).fmod g * 1) (1 * 1) = _
      rw [Int.mul_one, Int.mul_one, Int.mul_one, low_one hg, fmod_add hg, fmod_add2 hg]
    rw [List.zipWith_cons_cons, List.foldl_cons, ep, cell_wheel_fold hg xs zs _ (fun y hy => h1 y (List.mem_cons_of_mem _ hy)) (fun y hy => h2 y (List.mem_cons_of_mem _ hy))]
    simp only [dotF, List.map_cons, List.zipWith_cons_cons, List.sum_cons]
    rw [Int.add_assoc]
theorem wrB_one : ∀ {r : List (Int × Int)}, (∀ x ∈ r, x.2 = 1) → wrB r = 1 := by
  intro r
  unfold wrB
  induction r with
  | nil => intro _; rfl
  | cons x r ih =>
    intro h
    rw [List.foldl_cons, h x (List.mem_cons_self ..)]
    show r.foldl _ ((1 : Int).fdiv (Int.gcd 1 1 : Int) * 1) = 1
    have e : (1 : Int).fdiv (Int.gcd 1 1 : Int) * 1 = 1 := by decide
    rw [e]
    exact ih fun y hy => h y (List.mem_cons_of_mem _ hy)
theorem wrT_one {r : List (Int × Int)} (h : ∀ x ∈ r, x.2 = 1) : wrT r = r.map (·.1) := by
  unfold wrT
  rw [wrB_one h]
  refine List.map_congr_left fun x hx => ?_
  rw [h x hx]
  show x.1 * (1 : Int).fdiv 1 = x.1
  rw [show (1 : Int).fdiv 1 = 1 from by decide, Int.mul_one]
theorem cell_eq {g : Int} {r s : List (Int × Int)} (h : (g = 0 ∧ (∀ x ∈ r, 0 < x.2) ∧ ∀ x ∈ s, 0 < x.2) ∨ (0 < g ∧ (∀ x ∈ r, x.2 = 1) ∧ ∀ x ∈ s, x.2 = 1)) : cellF g r s = lowF g (dotF (wrT r) (wrT s)) (wrB r * wrB s) := by
  rcases h with ⟨rfl, h1, h2⟩ | ⟨hg, h1, h2⟩
  · exact cell_zero h1 h2
  · rw [wrB_one h1, wrB_one h2, wrT_one h1, wrT_one h2, Int.mul_one, low_one hg]
    have h := cell_wheel_fold hg r s 0 h1 h2
    have e0 : (0 : Int).fmod g = 0 := by rw [fmod_pos _ hg]; exact Int.zero_emod g
    rw [e0, Int.zero_add] at h
    exact h
end Fm

namespace Fm
open PySem PySem.Spec PyProof.Rows L2
def rTupOf (K : PySem.W.Frag) : List V → Hp → VK → Prop := fun xs H Q => ∃ p ys, xs = [.ref p] ∧ ((SqL K H p ys ∧ ∀ l, H l = none → Q (.ref l) (upd H l (.tup ys))) ∨ (SqT K H p ys ∧ Q (.ref p) H))
theorem call_tupOf {X : Cx} : CallR X (.type "tuple") (rTupOf X.K) := call_tuple_of
theorem w_tupOf2 {K : PySem.W.Frag} {H : Hp} {Q : VK} {p : Addr} {ys : List V} (h : H p = some (.lst ys)) (q : NewO (.tup ys) H Q) : rTupOf K [.ref p] H Q := ⟨p, ys, rfl, .inl ⟨SqL.of h, q⟩⟩
theorem fmod_mul {g a b : Int} (hg : 0 < g) : (a.fmod g * b).fmod g = (a * b).fmod g := by
  rw [fmod_pos _ hg, fmod_pos _ hg, fmod_pos _ hg, Int.mul_emod, Int.emod_emod_of_dvd _ (Int.dvd_refl g), ← Int.mul_emod]
theorem fmod_mul2 {g a b : Int} (hg : 0 < g) : (a * b.fmod g).fmod g = (a * b).fmod g := by
  rw [Int.mul_comm, fmod_mul hg, Int.mul_comm]
theorem fmod_of_lt {g a : Int} (h0 : 0 ≤ a) (h1 : a < g) : a.fmod g = a := by
  rw [fmod_pos _ (by omega), Int.emod_eq_of_lt h0 h1]
/-- over what has a back on the wheel -/
theorem low_inv {g u d f : Int} (hg : 0 < g) (hf : (f * d).fmod g = 1) : lowF g u d = ((u * f).fmod g, 1) := by
  have h0 : 0 ≤ (u * f).fmod g := Int.fmod_nonneg_of_pos _ hg
  have h1 : (u * f).fmod g < g := Int.fmod_lt_of_pos _ hg
  have ee : ∀ z : Int, (z * (f * d)).fmod g = z.fmod g := fun z => by
    rw [← fmod_mul2 hg, hf, Int.mul_one]
  have e : lowI g u d = some ((u * f).fmod g).toNat := by
    unfold lowI
    rw [if_pos hg]
    refine List.find?_range_eq_some.mpr ⟨decide_eq_true ?_, List.mem_range.mpr (by omega), fun j hj => ?_⟩
    · rw [show ((((u * f).fmod g).toNat : Nat) : Int) = (u * f).fmod g by omega, fmod_mul hg, Int.mul_assoc]
      exact ee u
    · have : ¬ ((j : Int) * d).fmod g = u.fmod g := fun z => by
        have h2 : ((j : Int) * d * f).fmod g = (u * f).fmod g := by
          rw [← fmod_mul hg, z, fmod_mul hg]
        have h3 : ((j : Int) * d * f).fmod g = (j : Int) := by
          rw [Int.mul_assoc, Int.mul_comm d f, ee, fmod_of_lt (by omega) (by omega)]
        omega
      rw [decide_eq_false this]
      rfl
  unfold lowF
  rw [e]
  show ((((u * f).fmod g).toNat : Int), (1 : Int)) = _
  rw [show ((((u * f).fmod g).toNat : Nat) : Int) = (u * f).fmod g by omega]
theorem log_small {a : Int} {k : Nat} (h : a.natAbs < 2 ^ k) (hk : 0 < k) : a.natAbs.log2 < k := PySem.Flt.log2_lt_of hk h
/-- a number of a ground, of less than k bits -/
def OkN (g : Int) (k : Nat) (a : Int × Int) : Prop := a.1.natAbs < 2 ^ k ∧ a.2.natAbs < 2 ^ k ∧ ((g = 0 ∧ 0 < a.2) ∨ (3 ≤ g ∧ g ≤ 13 ∧ a.2 = 1))
theorem OkN.pos {g : Int} {k : Nat} {a : Int × Int} (h : OkN g k a) : 0 < a.2 := by
  rcases h.2.2 with h | h
  · exact h.2
  · omega
theorem step_le {b c : Int} {k m : Nat} (hb : 0 < b) (hc : 0 < c) (h1 : b.natAbs ≤ 2 ^ m) (h2 : c.natAbs < 2 ^ k) : (b.fdiv (Int.gcd b c : Int) * c).natAbs ≤ 2 ^ (m + k) ∧ (b.fdiv (Int.gcd b c : Int)).natAbs ≤ 2 ^ m ∧ (Int.gcd b c : Int) ≠ 0 ∧ ((Int.gcd b c : Int)).natAbs < 2 ^ k := by
  have hg : 0 < Int.gcd b c := Nat.pos_of_ne_zero fun z => by
    have := (Int.gcd_eq_zero_iff.mp z).2
    omega
  have hle : (b.fdiv (Int.gcd b c : Int)).natAbs ≤ b.natAbs := by
    obtain ⟨q, e⟩ := Int.gcd_dvd_left b c
    have f1 : b.fdiv (Int.gcd b c : Int) = q := by
      conv => lhs; lhs; rw [e]
      exact Int.mul_fdiv_cancel_left _ (by omega)
    rw [f1]
    have := natAbs_fac (c := (Int.gcd b c : Int)) (q := q) (by omega)
    rw [← e] at this
    exact this
  have hgc : (Int.gcd b c : Int) ≤ c := Int.le_of_dvd hc (Int.gcd_dvd_right b c)
  refine ⟨?_, Nat.le_trans hle h1, by omega, by omega⟩
  rw [Int.natAbs_mul, Nat.pow_add]
  exact Nat.mul_le_mul (Nat.le_trans hle h1) (Nat.le_of_lt h2)
theorem wrB_take {r : List (Int × Int)} {i : Nat} {x : Int × Int} (h : r[i]? = some x) : wrB (r.take (i + 1)) = (wrB (r.take i)).fdiv (Int.gcd (wrB (r.take i)) x.2 : Int) * x.2 := by
  unfold wrB
  rw [List.take_add_one, h]
  simp [List.foldl_append]
theorem wrB_le {k : Nat} : ∀ (r : List (Int × Int)) (b : Int) (m : Nat), 0 < b → b.natAbs ≤ 2 ^ m → (∀ x ∈ r, 0 < x.2 ∧ x.2.natAbs < 2 ^ k) → (r.foldl (fun b x => b.fdiv (Int.gcd b x.2 : Int) * x.2) b).natAbs ≤ 2 ^ (m + k * r.length)
  | [], b, m, _, h, _ => by simpa using h
  | x :: r, b, m, hb, h, hr => by
    have hx := hr x (List.mem_cons_self ..)
    have s := step_le hb hx.1 h hx.2
    rw [List.foldl_cons]
    have := wrB_le r _ (m + k) (lcm_step hb hx.1).1 s.1 fun y hy => hr y (List.mem_cons_of_mem _ hy)
    rw [show m + k * (x :: r).length = m + k + k * r.length by rw [List.length_cons, Nat.mul_succ]; omega]
    exact this
theorem wrB_bd {k : Nat} {r : List (Int × Int)} (h : ∀ x ∈ r, 0 < x.2 ∧ x.2.natAbs < 2 ^ k) : (wrB r).natAbs ≤ 2 ^ (k * r.length) := by
  have := wrB_le r 1 0 (by decide) (by decide) h
  rw [Nat.zero_add] at this
  exact this
theorem w_aug {i : Nat} {te : TE} {ti : TIp} {D : Ends} {σ : L2.St} {H : Hp} {x : V} (h : σ[i]? = some (some x)) (q : te σ H fun y H1 => ti x y H1 fun z H2 => D.nx (σ.set i (some z)) H2) : tAug i te ti D σ H := ⟨x, h, q⟩
/-- a row as whole numbers over one bottom, as an object -/
def WR (H : Hp) (v : V) (ts : List Int) (B : Int) : Prop := ∃ p L, v = .ref p ∧ H p = some (.tup [.ref L, .int B]) ∧ H L = some (.lst (ts.map V.int))
theorem WR.sm {H H' : Hp} {v : V} {ts : List Int} {B : Int} (h : WR H v ts B) (s : Same H H') : WR H' v ts B := by
  obtain ⟨p, L, e, h1, h2⟩ := h
  exact ⟨p, L, e, s _ _ h1, s _ _ h2⟩
theorem wrT_bd {g : Int} {k : Nat} {r : List (Int × Int)} (h : ∀ x ∈ r, OkN g k x) : ∀ t ∈ wrT r, t.natAbs ≤ 2 ^ (k + k * r.length) := by
  intro t ht
  obtain ⟨x, hx, rfl⟩ := List.mem_map.mp ht
  have hp : ∀ x ∈ r, 0 < x.2 := fun x hx => (h x hx).pos
  have hB := wrB_bd (k := k) (r := r) fun x hx => ⟨hp x hx, (h x hx).2.1⟩
  obtain ⟨q, e⟩ := (wrB_spec hp).2.1 x hx
  have f1 : (wrB r).fdiv x.2 = q := by
    rw [e]
    exact Int.mul_fdiv_cancel_left _ (by have := hp x hx; omega)
  rw [f1, Int.natAbs_mul, Nat.pow_add]
  have h2 := natAbs_fac (c := x.2) (q := q) (by have := hp x hx; omega)
  rw [← e] at h2
  exact Nat.mul_le_mul (Nat.le_of_lt (h x hx).1) (Nat.le_trans h2 hB)
theorem le_lt {a : Int} {k m : Nat} (h : a.natAbs ≤ 2 ^ k) (hk : k < m) : a.natAbs < 2 ^ m := Nat.lt_of_le_of_lt h (Nat.pow_lt_pow_right (by decide) hk)
theorem mulW_le {a b : Int} {k m : Nat} (h1 : a.natAbs ≤ 2 ^ k) (h2 : b.natAbs ≤ 2 ^ m) (hk : k + m ≤ 100000) : CMulW a b := wide_mul (a := k + 1) (b := m + 1) (le_lt h1 (by omega)) (le_lt h2 (by omega)) (by omega) (by omega) (by omega)
/-! ### what is gathered, item by item -/
def Acc {α : Type} (P : Hp → V → α → Prop) (H : Hp) (ys : List V) (as : List α) (i : Nat) : Prop := ys.length = i ∧ ∀ (j : Nat) (x : V) (a : α), ys[j]? = some x → as[j]? = some a → P H x a
theorem Acc.nil {α : Type} {P : Hp → V → α → Prop} {H : Hp} {as : List α} : Acc P H [] as 0 := ⟨rfl, fun j x a h _ => by simp at h⟩
theorem Acc.mono {α : Type} {P : Hp → V → α → Prop} {H H' : Hp} {ys : List V} {as : List α} {i : Nat} (h : Acc P H ys as i) (f : ∀ x a, P H x a → P H' x a) : Acc P H' ys as i := ⟨h.1, fun j x a h1 h2 => f x a (h.2 j x a h1 h2)⟩
theorem Acc.snoc {α : Type} {P : Hp → V → α → Prop} {H : Hp} {ys : List V} {as : List α} {i : Nat} {v : V} {a : α} (h : Acc P H ys as i) (ha : as[i]? = some a) (hv : P H v a) : Acc P H (ys ++ [v]) as (i + 1) := by
  refine ⟨by rw [List.length_append, h.1]; rfl, fun j x b h1 h2 => ?_⟩
  by_cases hj : j < ys.length
  · rw [List.getElem?_append_left hj] at h1
    exact h.2 j x b h1 h2
  · rw [List.getElem?_append_right (by omega)] at h1
    have e : j - ys.length = 0 := by
      have := (List.getElem?_eq_some_iff.mp h1).1
      rw [List.length_singleton] at this
      omega
    rw [e] at h1
    cases Option.some.inj h1
    have e2 : j = i := by have := h.1; omega
    rw [e2, ha] at h2
    cases Option.some.inj h2
    exact hv
theorem Acc.sq {α : Type} {P : Hp → V → α → Prop} {H : Hp} {ys : List V} {as : List α} {i : Nat} {p : Addr} (h : Acc P H ys as i) (hi : i = as.length) (hp : H p = some (.tup ys)) : SqV P H (.ref p) as := ⟨p, ys, rfl, hp, by rw [h.1, hi], h.2⟩
/-- such a row whose list is another one than the one at D -/
def WRn (D : Addr) (H : Hp) (v : V) (s : List (Int × Int)) : Prop := ∃ p L, v = .ref p ∧ L ≠ D ∧ H p = some (.tup [.ref L, .int (wrB s)]) ∧ H L = some (.lst ((wrT s).map V.int))
theorem WRn.sm {D : Addr} {H H' : Hp} {v : V} {s : List (Int × Int)} (h : WRn D H v s) (e : Same H H') : WRn D H' v s := by
  obtain ⟨p, L, e1, n, h1, h2⟩ := h
  exact ⟨p, L, e1, n, e _ _ h1, e _ _ h2⟩
theorem WRn.upd {D : Addr} {H : Hp} {v : V} {s : List (Int × Int)} {xs : List V} {o : HO} (h : WRn D H v s) (hD : H D = some (.lst xs)) : WRn D (upd H D o) v s := by
  obtain ⟨p, L, e1, n, h1, h2⟩ := h
  exact ⟨p, L, e1, n, Kt.updL hD _ _ h1, by rw [upd_ne n]; exact h2⟩
theorem dot_bd {m : Nat} : ∀ {ts ss : List Int}, (∀ t ∈ ts, t.natAbs ≤ 2 ^ m) → (∀ t ∈ ss, t.natAbs ≤ 2 ^ m) → (dotF ts ss).natAbs ≤ ts.length * 2 ^ (m + m)
  | [], ss, _, _ => by simp [dotF]
  | t :: ts, [], _, _ => by simp [dotF]
  | t :: ts, s :: ss, h1, h2 => by
    have ih := dot_bd (ts := ts) (ss := ss) (fun y hy => h1 y (List.mem_cons_of_mem _ hy)) (fun y hy => h2 y (List.mem_cons_of_mem _ hy))
    have e : dotF (t :: ts) (s :: ss) = t * s + dotF ts ss := by simp [dotF]
    have h3 : (t * s).natAbs ≤ 2 ^ (m + m) := by
      rw [Int.natAbs_mul, Nat.pow_add]
      exact Nat.mul_le_mul (h1 t (List.mem_cons_self ..)) (h2 s (List.mem_cons_self ..))
    rw [e, List.length_cons, Nat.succ_mul]
    omega
def turnF (l : Nat) (t : List (List (Int × Int))) : List (List (Int × Int)) := (List.range l).map fun j => t.map fun row => row.getD j (0, 1)
theorem turn_at {l j : Nat} {t : List (List (Int × Int))} (h : j < l) : (turnF l t)[j]? = some (t.map fun row => row.getD j (0, 1)) := by
  unfold turnF
  rw [List.getElem?_map, List.getElem?_range h]
  rfl
theorem wrT_len (r : List (Int × Int)) : (wrT r).length = r.length := by
  unfold wrT
  rw [List.length_map]
/-- what lowest wants of a sum of products -/
theorem cell_ok {g : Int} {k : Nat} {r s : List (Int × Int)} (hg : g = 0 ∨ (3 ≤ g ∧ g ≤ 13)) (hr : ∀ x ∈ r, OkN g k x) (hs : ∀ x ∈ s, OkN g k x) (hk : k ≤ 400) (hl : r.length ≤ 10) (hl2 : s.length ≤ 10) :
    (g = 0 ∧ wrB r * wrB s ≠ 0 ∧ (wrB r * wrB s).natAbs < 2 ^ 8500) ∨ (3 ≤ g ∧ (dotF (wrT r) (wrT s)).natAbs < 2 ^ 50000 ∧ ∃ k : Int, 1 ≤ k ∧ k ≤ 13 ∧ (k * (wrB r * wrB s)).fmod g = 1) := by
  have p1 : ∀ x ∈ r, 0 < x.2 := fun x h => (hr x h).pos
  have p2 : ∀ x ∈ s, 0 < x.2 := fun x h => (hs x h).pos
  have e1 : k * r.length ≤ 4000 := Nat.mul_le_mul hk hl
  have e2 : k * s.length ≤ 4000 := Nat.mul_le_mul hk hl2
  rcases hg with rfl | ⟨h3, h13⟩
  · refine .inl ⟨rfl, Int.mul_ne_zero (by have := (wrB_spec p1).1; omega) (by have := (wrB_spec p2).1; omega), ?_⟩
    have b1 := wrB_bd (k := k) (r := r) fun x h => ⟨p1 x h, (hr x h).2.1⟩
    have b2 := wrB_bd (k := k) (r := s) fun x h => ⟨p2 x h, (hs x h).2.1⟩
    rw [Int.natAbs_mul]
    refine Nat.lt_of_le_of_lt (Nat.mul_le_mul b1 b2) ?_
    rw [← Nat.pow_add]
    exact Nat.pow_lt_pow_right (by decide) (by omega)
  · have o1 : ∀ x ∈ r, x.2 = 1 := fun x h => by
      rcases (hr x h).2.2 with z | z
      · omega
      · exact z.2.2
    have o2 : ∀ x ∈ s, x.2 = 1 := fun x h => by
      rcases (hs x h).2.2 with z | z
      · omega
      · exact z.2.2
    refine .inr ⟨h3, ?_, 1, by decide, by decide, ?_⟩
    · have b1 := wrT_bd hr
      have b2 := wrT_bd hs
      have c1 : ∀ t ∈ wrT r, t.natAbs ≤ 2 ^ 4400 := fun t h => Nat.le_trans (b1 t h) (Nat.pow_le_pow_right (by decide) (by omega))
      have c2 : ∀ t ∈ wrT s, t.natAbs ≤ 2 ^ 4400 := fun t h => Nat.le_trans (b2 t h) (Nat.pow_le_pow_right (by decide) (by omega))
      have d := dot_bd c1 c2
      rw [wrT_len] at d
      refine Nat.lt_of_le_of_lt (Nat.le_trans d (Nat.mul_le_mul_right _ (show r.length ≤ 2 ^ 4 by omega))) ?_
      rw [← Nat.pow_add]
      exact Nat.pow_lt_pow_right (by decide) (by decide)
    · rw [wrB_one o1, wrB_one o2]
      show (1 : Int).fmod g = 1
      exact fmod_of_lt (by decide) (by omega)
theorem cell_is {g : Int} {k : Nat} {r s : List (Int × Int)} (hg : g = 0 ∨ (3 ≤ g ∧ g ≤ 13)) (hr : ∀ x ∈ r, OkN g k x) (hs : ∀ x ∈ s, OkN g k x) : cellF g r s = lowF g (dotF (wrT r) (wrT s)) (wrB r * wrB s) := by
  refine cell_eq ?_
  rcases hg with rfl | ⟨h3, h13⟩
  · exact .inl ⟨rfl, fun x h => (hr x h).pos, fun x h => (hs x h).pos⟩
  · refine .inr ⟨by omega, fun x h => ?_, fun x h => ?_⟩
    · rcases (hr x h).2.2 with z | z
      · omega
      · exact z.2.2
    · rcases (hs x h).2.2 with z | z
      · omega
      · exact z.2.2
end Fm

namespace Fm
open PySem PySem.Spec PyProof.Rows L2
/-! ### things of some depth, their whole numbers of less than k bits -/
def AtB (k : Nat) : V → Prop
  | .int i => i.natAbs < 2 ^ k
  | .non => True
  | .bl _ => True
  | .str _ => True
  | _ => False
theorem AtB.atom {k : Nat} {v : V} (h : AtB k v) : atomB v = true := by
  cases v <;> first | rfl | cases h
def IsL (H : Hp) (v : V) : Prop := ∃ p xs, v = .ref p ∧ H p = some (.lst xs)
def TB (k : Nat) : Nat → Hp → V → Prop
  | 0, H, v => AtB k v ∨ IsL H v
  | n + 1, H, v => AtB k v ∨ IsL H v ∨ ∃ p xs, v = .ref p ∧ H p = some (.tup xs) ∧ xs.length ≤ 100 ∧ ∀ x ∈ xs, TB k n H x
theorem IsL.kd {H H' : Hp} {v : V} (h : IsL H v) (e : Kd H H') : IsL H' v := by
  obtain ⟨p, xs, e1, h1⟩ := h
  obtain ⟨ys, h2⟩ := e.2 p xs h1
  exact ⟨p, ys, e1, h2⟩
theorem TB.kd {k : Nat} {H H' : Hp} (e : Kd H H') : ∀ {n : Nat} {v : V}, TB k n H v → TB k n H' v
  | 0, v, h => by
    rcases h with h | h
    · exact .inl h
    · exact .inr (h.kd e)
  | n + 1, v, h => by
    rcases h with h | h | ⟨p, xs, e1, h1, hz, hx⟩
    · exact .inl h
    · exact .inr (.inl (h.kd e))
    · exact .inr (.inr ⟨p, xs, e1, e.1 _ _ h1, hz, fun x m => TB.kd e (hx x m)⟩)
theorem TB.up {k : Nat} {H : Hp} : ∀ {n : Nat} {v : V}, TB k n H v → TB k (n + 1) H v
  | 0, v, h => by
    rcases h with h | h
    · exact .inl h
    · exact .inr (.inl h)
  | n + 1, v, h => by
    rcases h with h | h | ⟨p, xs, e1, h1, hz, hx⟩
    · exact .inl h
    · exact .inr (.inl h)
    · exact .inr (.inr ⟨p, xs, e1, h1, hz, fun x m => TB.up (hx x m)⟩)
theorem TB.wide {k l : Nat} {H : Hp} (hl : k ≤ l) : ∀ {n : Nat} {v : V}, TB k n H v → TB l n H v
  | 0, v, h => by
    rcases h with h | h
    · left; cases v <;> first | exact Nat.lt_of_lt_of_le h (Nat.pow_le_pow_right (by decide) hl) | exact h
    · exact .inr h
  | n + 1, v, h => by
    rcases h with h | h | ⟨p, xs, e1, h1, hz, hx⟩
    · left; cases v <;> first | exact Nat.lt_of_lt_of_le h (Nat.pow_le_pow_right (by decide) hl) | exact h
    · exact .inr (.inl h)
    · exact .inr (.inr ⟨p, xs, e1, h1, hz, fun x m => TB.wide hl (hx x m)⟩)
theorem TB.tup {k n : Nat} {H : Hp} {p : Addr} {xs : List V} (h : H p = some (.tup xs)) (hz : xs.length ≤ 100) (hx : ∀ x ∈ xs, TB k n H x) : TB k (n + 1) H (.ref p) := .inr (.inr ⟨p, xs, rfl, h, hz, hx⟩)
theorem TB.lst {k n : Nat} {H : Hp} {p : Addr} {xs : List V} (h : H p = some (.lst xs)) : TB k n H (.ref p) := by
  cases n with
  | zero => exact .inr ⟨p, xs, rfl, h⟩
  | succ n => exact .inr (.inl ⟨p, xs, rfl, h⟩)
theorem TB.at {k n : Nat} {H : Hp} {v : V} (h : AtB k v) : TB k n H v := by
  cases n with
  | zero => exact .inl h
  | succ n => exact .inl h
/-- its kind is known -/
def Tv (H : Hp) (v : V) : Prop := atomB v = true ∨ IsL H v ∨ ∃ p xs, v = .ref p ∧ H p = some (.tup xs)
theorem TB.tv {k n : Nat} {H : Hp} {v : V} (h : TB k n H v) : Tv H v := by
  cases n with
  | zero =>
    rcases h with h | h
    · exact .inl h.atom
    · exact .inr (.inl h)
  | succ n =>
    rcases h with h | h | ⟨p, xs, e1, h1, _⟩
    · exact .inl h.atom
    · exact .inr (.inl h)
    · exact .inr (.inr ⟨p, xs, e1, h1⟩)
theorem Tv.ty {K : PySem.W.Frag} {H : Hp} {v : V} (h : Tv H v) : TyX K H v (.type (tyN H v)) := by
  rcases h with h | ⟨p, xs, rfl, h⟩ | ⟨p, xs, rfl, h⟩
  · cases v with
    | non => exact .base .non
    | bl b => exact .base (.bl b)
    | int i => exact .base (.int i)
    | str z => exact .base (.str z)
    | _ => cases h
  · have e : tyN H (.ref p) = "list" := by show tyAt (H p) = _; rw [h]; rfl
    rw [e]
    exact .base (.lst h)
  · have e : tyN H (.ref p) = "tuple" := by show tyAt (H p) = _; rw [h]; rfl
    rw [e]
    exact .base (.tup h)
theorem tv_int {K : PySem.W.Frag} {H : Hp} {Q : VK} {v : V} (h : Tv H v) (q : Q (.bl (intB v)) H) : rIsi K [v, .ty "int"] H Q := by
  refine isi_is h.ty ?_ q
  rcases h with h | ⟨p, xs, rfl, h⟩ | ⟨p, xs, rfl, h⟩
  · cases v with
    | non => show kitB "NoneType" "int" = some false; decide +kernel
    | bl b => show kitB "bool" "int" = some true; decide +kernel
    | int i => show kitB "int" "int" = some true; decide +kernel
    | str z => show kitB "str" "int" = some false; decide +kernel
    | _ => cases h
  · show kitB (tyAt (H p)) _ = _; rw [h]; show kitB "list" "int" = some false; decide +kernel
  · show kitB (tyAt (H p)) _ = _; rw [h]; show kitB "tuple" "int" = some false; decide +kernel
theorem tv_bool {K : PySem.W.Frag} {H : Hp} {Q : VK} {v : V} (h : Tv H v) (q : Q (.bl (blB v)) H) : rIsi K [v, .ty "bool"] H Q := by
  refine isi_is h.ty ?_ q
  rcases h with h | ⟨p, xs, rfl, h⟩ | ⟨p, xs, rfl, h⟩
  · cases v with
    | non => show kitB "NoneType" "bool" = some false; decide +kernel
    | bl b => show kitB "bool" "bool" = some true; decide +kernel
    | int i => show kitB "int" "bool" = some false; decide +kernel
    | str z => show kitB "str" "bool" = some false; decide +kernel
    | _ => cases h
  · show kitB (tyAt (H p)) _ = _; rw [h]; show kitB "list" "bool" = some false; decide +kernel
  · show kitB (tyAt (H p)) _ = _; rw [h]; show kitB "tuple" "bool" = some false; decide +kernel
/-- what is no tuple -/
def NoTup (H : Hp) (v : V) : Prop := ∀ p xs, v = .ref p → H p ≠ some (.tup xs)
theorem tb_tup {K : PySem.W.Frag} {k n : Nat} {H : Hp} {Q : VK} {v : V} (h : TB k (n + 1) H v) (q1 : ∀ p xs, v = .ref p → H p = some (.tup xs) → xs.length ≤ 100 → (∀ x ∈ xs, TB k n H x) → Q (.bl true) H) (q2 : NoTup H v → Q (.bl false) H) : rIsi K [v, .ty "tuple"] H Q := by
  have h' := h.tv
  rcases h with h | ⟨p, xs, rfl, h⟩ | ⟨p, xs, rfl, h, hz, hx⟩
  · have ha := h.atom
    refine isi_is h'.ty (b := false) ?_ (q2 fun p xs e => ?_)
    · cases v with
      | non => show kitB "NoneType" "tuple" = some false; decide +kernel
      | bl b => show kitB "bool" "tuple" = some false; decide +kernel
      | int i => show kitB "int" "tuple" = some false; decide +kernel
      | str z => show kitB "str" "tuple" = some false; decide +kernel
      | _ => cases ha
    · rw [e] at ha
      cases ha
  · refine isi_is h'.ty (b := false) ?_ (q2 fun p' xs' e => ?_)
    · show kitB (tyAt (H p)) _ = _; rw [h]; show kitB "list" "tuple" = some false; decide +kernel
    · cases e
      rw [h]
      intro z
      cases z
  · refine isi_is h'.ty (b := true) ?_ (q1 p xs rfl h hz hx)
    show kitB (tyAt (H p)) _ = _; rw [h]; show kitB "tuple" "tuple" = some true; decide +kernel
theorem numOf_no {H : Hp} {g : Int} {v : V} (h : NoTup H v) : numOf H g v = false := by
  cases v with
  | ref p =>
    show numAt g (H p) = false
    cases e : H p with
    | none => rfl
    | some o =>
      cases o with
      | tup xs => exact absurd e (h p xs rfl)
      | _ => rfl
  | _ => rfl
theorem numOf_tb {k n : Nat} {H H' : Hp} {g : Int} {v : V} (h0 : TB k n H v) (e : Kd H H') : numOf H' g v = numOf H g v := by
  rcases h0.tv with h | ⟨p, xs, rfl, h⟩ | ⟨p, xs, rfl, h⟩
  · cases v <;> first | rfl | cases h
  · obtain ⟨ys, h2⟩ := e.2 p xs h
    rw [numOf_lst h, numOf_lst h2]
  · rw [numOf_tup h, numOf_tup (e.1 _ _ h)]
/-! ### rows and tables among things -/
def rowAt (H : Hp) (g m : Int) : Option HO → Bool
  | some (.tup xs) => decide ((xs.length : Int) = m) && xs.all (numOf H g)
  | _ => false
def rowOf (H : Hp) (g m : Int) : V → Bool
  | .ref p => rowAt H g m (H p)
  | _ => false
theorem rowOf_tup {H : Hp} {g m : Int} {p : Addr} {xs : List V} (h : H p = some (.tup xs)) : rowOf H g m (.ref p) = (decide ((xs.length : Int) = m) && xs.all (numOf H g)) := by
  show rowAt H g m (H p) = _
  rw [h]
  rfl
theorem rowOf_no {H : Hp} {g m : Int} {v : V} (h : NoTup H v) : rowOf H g m v = false := by
  cases v with
  | ref p =>
    show rowAt H g m (H p) = false
    cases e : H p with
    | none => rfl
    | some o =>
      cases o with
      | tup xs => exact absurd e (h p xs rfl)
      | _ => rfl
  | _ => rfl
theorem all_congr {f f' : V → Bool} : ∀ {xs : List V}, (∀ x ∈ xs, f' x = f x) → xs.all f' = xs.all f
  | [], _ => rfl
  | x :: xs, h => by
    rw [List.all_cons, List.all_cons, h x (List.mem_cons_self ..), all_congr fun y hy => h y (List.mem_cons_of_mem _ hy)]
theorem notup_kd {k n : Nat} {H H' : Hp} {v : V} (h0 : TB k n H v) (no : NoTup H v) (e : Kd H H') : NoTup H' v := by
  rcases h0.tv with h | ⟨p, xs, rfl, h⟩ | ⟨p, xs, rfl, h⟩
  · intro p xs z
    rw [z] at h
    cases h
  · obtain ⟨ys, h2⟩ := e.2 p xs h
    intro p' xs' z
    cases z
    rw [h2]
    intro z
    cases z
  · exact absurd h (no p xs rfl)
theorem tb_cases {k n : Nat} {H : Hp} {v : V} (h : TB k (n + 1) H v) : NoTup H v ∨ ∃ p xs, v = .ref p ∧ H p = some (.tup xs) ∧ xs.length ≤ 100 ∧ ∀ x ∈ xs, TB k n H x := by
  rcases h with h | ⟨p, xs, rfl, h⟩ | h
  · left
    intro p xs e
    have ha := h.atom
    rw [e] at ha
    cases ha
  · left
    intro p' xs' e
    cases e
    rw [h]
    intro z
    cases z
  · exact .inr h
theorem rowOf_tb {k n : Nat} {H H' : Hp} {g m : Int} {v : V} (h : TB k (n + 1) H v) (e : Kd H H') : rowOf H' g m v = rowOf H g m v := by
  rcases tb_cases h with no | ⟨p, xs, rfl, hp, hz, hx⟩
  · rw [rowOf_no no, rowOf_no (notup_kd h no e)]
  · rw [rowOf_tup hp, rowOf_tup (e.1 _ _ hp), all_congr fun x m => numOf_tb (hx x m) e]
def tabAt (H : Hp) (g m w : Int) : Option HO → Bool
  | some (.tup xs) => decide ((xs.length : Int) = m) && xs.all (rowOf H g w)
  | _ => false
def tabOf (H : Hp) (g m w : Int) : V → Bool
  | .ref p => tabAt H g m w (H p)
  | _ => false
theorem tabOf_tup {H : Hp} {g m w : Int} {p : Addr} {xs : List V} (h : H p = some (.tup xs)) : tabOf H g m w (.ref p) = (decide ((xs.length : Int) = m) && xs.all (rowOf H g w)) := by
  show tabAt H g m w (H p) = _
  rw [h]
  rfl
theorem tabOf_no {H : Hp} {g m w : Int} {v : V} (h : NoTup H v) : tabOf H g m w v = false := by
  cases v with
  | ref p =>
    show tabAt H g m w (H p) = false
    cases e : H p with
    | none => rfl
    | some o =>
      cases o with
      | tup xs => exact absurd e (h p xs rfl)
      | _ => rfl
  | _ => rfl
theorem tabOf_tb {k n : Nat} {H H' : Hp} {g m w : Int} {v : V} (h : TB k (n + 2) H v) (e : Kd H H') : tabOf H' g m w v = tabOf H g m w v := by
  rcases tb_cases h with no | ⟨p, xs, rfl, hp, hz, hx⟩
  · rw [tabOf_no no, tabOf_no (notup_kd h no e)]
  · rw [tabOf_tup hp, tabOf_tup (e.1 _ _ hp), all_congr fun x m => rowOf_tb (hx x m) e]
theorem all_map {f : V → Bool} {xs : List V} : (xs.map f).all id = xs.all f := by
  rw [List.all_map]
  rfl
end Fm

namespace Fm
open PySem PySem.Spec PyProof.Rows L2
/-! ### drawn numbers and their sums -/
def NG (g : Int) (i : Nat) (a : Int × Int) : Prop := 0 < a.2 ∧ a.2 ∣ 2520 ∧ a.1.natAbs ≤ 64 * 2 ^ i * a.2.natAbs ∧ (g = 0 ∨ (3 ≤ g ∧ g ≤ 13 ∧ a.2 = 1))
theorem NG.mono {g : Int} {i j : Nat} {a : Int × Int} (h : NG g i a) (hj : i ≤ j) : NG g j a :=
  ⟨h.1, h.2.1, Nat.le_trans h.2.2.1 (Nat.mul_le_mul_right _ (Nat.mul_le_mul_left _ (Nat.pow_le_pow_right (by decide) hj))), h.2.2.2⟩
theorem NG.ok {g : Int} {i : Nat} {a : Int × Int} (h : NG g i a) (hi : i ≤ 10) : OkN g 40 a := by
  have h2 : a.2 ≤ 2520 := Int.le_of_dvd (by decide) h.2.1
  have h0 := h.1
  have h3 : a.1.natAbs ≤ 64 * 2 ^ 10 * 2520 := Nat.le_trans h.2.2.1 (Nat.mul_le_mul (Nat.mul_le_mul_left _ (Nat.pow_le_pow_right (by decide) hi)) (by omega))
  refine ⟨Nat.lt_of_le_of_lt h3 (by decide), Nat.lt_of_le_of_lt (show a.2.natAbs ≤ 2520 by omega) (by decide), ?_⟩
  rcases h.2.2.2 with z | z
  · exact .inl ⟨z, h.1⟩
  · exact .inr z
theorem ng_low {u d : Int} (hu : u.natAbs ≤ 64) (hd1 : 1 ≤ d) (hd : d ≤ 9) : NG 0 0 (lowF 0 u d) := by
  have hn : d ≠ 0 := by omega
  obtain ⟨hr, he⟩ := low0_red (u := u) hn
  obtain ⟨q1, q2, e, e1, e2⟩ := low0_eq (u := u) hn
  refine ⟨hr.1, ?_, ?_, .inl rfl⟩
  · have h1 : (lowF 0 u d).2 ∣ d := by
      rw [e]
      exact ⟨lowC u d, by rw [Int.mul_comm]; exact e2⟩
    refine Int.dvd_trans h1 ?_
    rcases (by omega : d = 1 ∨ d = 2 ∨ d = 3 ∨ d = 4 ∨ d = 5 ∨ d = 6 ∨ d = 7 ∨ d = 8 ∨ d = 9) with rfl | rfl | rfl | rfl | rfl | rfl | rfl | rfl | rfl <;> decide
  · have h2 := congrArg Int.natAbs he
    rw [Int.natAbs_mul, Int.natAbs_mul] at h2
    have h3 : (lowF 0 u d).1.natAbs * 1 ≤ (lowF 0 u d).1.natAbs * d.natAbs := Nat.mul_le_mul_left _ (by omega)
    rw [Nat.mul_one, h2] at h3
    refine Nat.le_trans h3 ?_
    rw [Nat.pow_zero, Nat.mul_one]
    exact Nat.mul_le_mul_right _ hu
theorem ng_plus {g : Int} {i : Nat} {x y : Int × Int} (hx : NG g i x) (hy : NG g i y) : NG g (i + 1) (plusF g x y) := by
  rcases hx.2.2.2 with h0 | ⟨h3, h13, hx1⟩
  · subst h0
    have hn : x.2 * y.2 ≠ 0 := Int.mul_ne_zero (by have := hx.1; omega) (by have := hy.1; omega)
    obtain ⟨hr, he⟩ := low0_red (u := x.1 * y.2 + y.1 * x.2) hn
    have ep : plusF 0 x y = lowF 0 (x.1 * y.2 + y.1 * x.2) (x.2 * y.2) := rfl
    rw [← ep] at hr he
    generalize plusF 0 x y = p at hr he
    refine ⟨hr.1, ?_, ?_, .inl rfl⟩
    · obtain ⟨qx, ex⟩ := hx.2.1
      obtain ⟨qy, ey⟩ := hy.2.1
      have h1 : p.1 * 2520 = (x.1 * qx + y.1 * qy) * p.2 := by
        have : (p.1 * 2520) * (x.2 * y.2) = ((x.1 * qx + y.1 * qy) * p.2) * (x.2 * y.2) := by
          calc (p.1 * 2520) * (x.2 * y.2) = (p.1 * (x.2 * y.2)) * 2520 := by rw [Int.mul_right_comm]
            _ = ((x.1 * y.2 + y.1 * x.2) * p.2) * 2520 := by rw [he]
            _ = (x.1 * y.2 * 2520 + y.1 * x.2 * 2520) * p.2 := by rw [Int.mul_right_comm, Int.add_mul]
            _ = (x.1 * y.2 * (x.2 * qx) + y.1 * x.2 * (y.2 * qy)) * p.2 := by rw [← ex, ← ey]
            _ = ((x.1 * qx + y.1 * qy) * (x.2 * y.2)) * p.2 := by
              congr 1
              rw [Int.add_mul]
              congr 1 <;> ac_rfl
            _ = ((x.1 * qx + y.1 * qy) * p.2) * (x.2 * y.2) := by rw [Int.mul_right_comm]
        exact Int.eq_of_mul_eq_mul_right hn this
      exact dvd_cop hr.2 ⟨x.1 * qx + y.1 * qy, by rw [h1, Int.mul_comm]⟩
    · have h2 := congrArg Int.natAbs he
      rw [Int.natAbs_mul, Int.natAbs_mul, Int.natAbs_mul] at h2
      have hN : (x.1 * y.2 + y.1 * x.2).natAbs ≤ 2 * (64 * 2 ^ i) * (x.2.natAbs * y.2.natAbs) := by
        refine Nat.le_trans (Int.natAbs_add_le _ _) ?_
        rw [Int.natAbs_mul, Int.natAbs_mul]
        have a1 := Nat.mul_le_mul_right y.2.natAbs hx.2.2.1
        have a2 := Nat.mul_le_mul_right x.2.natAbs hy.2.2.1
        have e1 : 64 * 2 ^ i * x.2.natAbs * y.2.natAbs = 64 * 2 ^ i * (x.2.natAbs * y.2.natAbs) := Nat.mul_assoc ..
        have e2 : 64 * 2 ^ i * y.2.natAbs * x.2.natAbs = 64 * 2 ^ i * (x.2.natAbs * y.2.natAbs) := by rw [Nat.mul_assoc, Nat.mul_comm y.2.natAbs]
        rw [Nat.mul_assoc 2]
        omega
      have hD : 0 < x.2.natAbs * y.2.natAbs := Nat.mul_pos (by have := hx.1; omega) (by have := hy.1; omega)
      have h3 : p.1.natAbs * (x.2.natAbs * y.2.natAbs) ≤ (2 * (64 * 2 ^ i) * p.2.natAbs) * (x.2.natAbs * y.2.natAbs) := by
        rw [h2]
        refine Nat.le_trans (Nat.mul_le_mul_right _ hN) (Nat.le_of_eq ?_)
        ac_rfl
      have h4 := Nat.le_of_mul_le_mul_right h3 hD
      rw [Nat.pow_succ]
      refine Nat.le_trans h4 (Nat.le_of_eq ?_)
      ac_rfl
  · have hy1 : y.2 = 1 := by
      rcases hy.2.2.2 with z | z
      · omega
      · exact z.2.2
    have e : plusF g x y = ((x.1 * 1 + y.1 * 1).fmod g, 1) := by
      unfold plusF
      rw [hx1, hy1]
      exact low_one (by omega)
    rw [e]
    have b0 := Int.fmod_nonneg_of_pos (x.1 * 1 + y.1 * 1) (show 0 < g by omega)
    have b1 := Int.fmod_lt_of_pos (x.1 * 1 + y.1 * 1) (show 0 < g by omega)
    refine ⟨show (0 : Int) < 1 by decide, show (1 : Int) ∣ 2520 by decide, ?_, .inr ⟨h3, h13, rfl⟩⟩
    show ((x.1 * 1 + y.1 * 1).fmod g).natAbs ≤ 64 * 2 ^ (i + 1) * (1 : Int).natAbs
    have : 1 ≤ 2 ^ (i + 1) := Nat.one_le_two_pow
    have e1 : (1 : Int).natAbs = 1 := rfl
    rw [e1, Nat.mul_one]
    generalize 2 ^ (i + 1) = z at this ⊢
    generalize (x.1 * 1 + y.1 * 1).fmod g = w at b0 b1 ⊢
    omega
/-- bounds for the operations -/
def PBd (a : Int × Int) : Prop := a.1.natAbs < 2 ^ 3000 ∧ a.2.natAbs < 2 ^ 3000 ∧ a.2 ≠ 0
theorem OkN.pb {g : Int} {k : Nat} {a : Int × Int} (h : OkN g k a) (hk : k ≤ 3000) : PBd a := ⟨Nat.lt_of_lt_of_le h.1 (Nat.pow_le_pow_right (by decide) hk), Nat.lt_of_lt_of_le h.2.1 (Nat.pow_le_pow_right (by decide) hk), by have := h.pos; omega⟩
def NumG (g : Int) (H : Hp) (v : V) (i : Nat) : Prop := ∃ a, NumV H v a ∧ NG g i a
def RowG (g : Int) (H : Hp) (v : V) (n i : Nat) : Prop := ∃ r, RowV H v r ∧ r.length = n ∧ ∀ a ∈ r, NG g i a
def TabG (g : Int) (H : Hp) (v : V) (m n i : Nat) : Prop := ∃ t, TabV H v t ∧ t.length = m ∧ ∀ r ∈ t, r.length = n ∧ ∀ a ∈ r, NG g i a
theorem NumG.kt {g : Int} {H H' : Hp} {v : V} {i : Nat} (h : NumG g H v i) (s : Kt H H') : NumG g H' v i := by
  obtain ⟨a, h1, h2⟩ := h
  exact ⟨a, h1.kt s, h2⟩
theorem RowG.kt {g : Int} {H H' : Hp} {v : V} {n i : Nat} (h : RowG g H v n i) (s : Kt H H') : RowG g H' v n i := by
  obtain ⟨a, h1, h2⟩ := h
  exact ⟨a, RowV.kt h1 s, h2⟩
theorem RowG.mono {g : Int} {H : Hp} {v : V} {n i j : Nat} (h : RowG g H v n i) (hj : i ≤ j) : RowG g H v n j := by
  obtain ⟨a, h1, h2, h3⟩ := h
  exact ⟨a, h1, h2, fun x hx => (h3 x hx).mono hj⟩
theorem TabG.kt {g : Int} {H H' : Hp} {v : V} {m n i : Nat} (h : TabG g H v m n i) (s : Kt H H') : TabG g H' v m n i := by
  obtain ⟨a, h1, h2⟩ := h
  exact ⟨a, TabV.kt h1 s, h2⟩
theorem rowG_mk {g : Int} {H : Hp} {p : Addr} {xs : List V} {n i : Nat} (hp : H p = some (.tup xs)) (hl : xs.length = n) (hx : ∀ x ∈ xs, NumG g H x i) : RowG g H (.ref p) n i := by
  obtain ⟨as, g1, g2, g3⟩ := sq_val (P := NumV) (S := NG g i) (H := H) (xs := xs) hx
  exact ⟨as, ⟨p, xs, rfl, hp, g1, g3⟩, by omega, g2⟩
theorem tabG_mk {g : Int} {H : Hp} {p : Addr} {xs : List V} {m n i : Nat} (hp : H p = some (.tup xs)) (hl : xs.length = m) (hx : ∀ x ∈ xs, RowG g H x n i) : TabG g H (.ref p) m n i := by
  obtain ⟨as, g1, g2, g3⟩ := sq_val (P := RowV) (S := fun r => r.length = n ∧ ∀ a ∈ r, NG g i a) (H := H) (xs := xs) hx
  exact ⟨as, ⟨p, xs, rfl, hp, g1, g3⟩, by omega, g2⟩
theorem RowV.dat {K : PySem.W.Frag} {H : Hp} {v : V} {r : List (Int × Int)} (h : RowV H v r) : Dat K H v 2 := by
  obtain ⟨p, xs, rfl, hp, hl, hx⟩ := h
  refine dat_tup hp fun z hz => ?_
  obtain ⟨i, hi, e⟩ := List.mem_iff_getElem.mp hz
  have e1 : xs[i]? = some z := by rw [List.getElem?_eq_getElem hi, e]
  obtain ⟨q, rfl, hq⟩ := hx i z _ e1 (List.getElem?_eq_getElem (by omega))
  refine dat_tup hq fun w hw => ?_
  rcases List.mem_cons.mp hw with rfl | hw
  · exact dat_int
  · rw [List.mem_singleton.mp hw]; exact dat_int
theorem rowsG_end {g : Int} {H Hn : Hp} {b F : Addr} {xs : List V} {row : V} {n i : Nat} (mv : Mv b H Hn) (hb : Bag Hn b) (hF0 : H F = none) (nF : F ≠ b) (hF : Hn F = some (.lst xs)) (hl : xs.length = i) (hx : ∀ x ∈ xs, RowG g Hn x n i) (hr : RowG g Hn row n (i + 1)) :
    Mv b H (upd Hn F (.lst (xs ++ [row]))) ∧ Bag (upd Hn F (.lst (xs ++ [row]))) b ∧ ∃ ys : List V, (upd Hn F (.lst (xs ++ [row]))) F = some (.lst ys) ∧ ys.length = i + 1 ∧ ∀ x ∈ ys, RowG g (upd Hn F (.lst (xs ++ [row]))) x n (i + 1) := by
  have kt : Kt Hn (upd Hn F (.lst (xs ++ [row]))) := Kt.updL hF
  refine ⟨mv.updD hF0, hb.upd nF, xs ++ [row], upd_same, by rw [List.length_append, hl]; rfl, fun x h => ?_⟩
  rcases List.mem_append.mp h with h | h
  · exact ((hx x h).kt kt).mono (Nat.le_succ i)
  · rw [List.mem_singleton.mp h]
    exact hr.kt kt
theorem RowG.zeros {g : Int} {H : Hp} {u : Addr} {l : Addr} {n : Nat} (hg : g = 0 ∨ (3 ≤ g ∧ g ≤ 13)) (hu : H u = some (.tup [.int 0, .int 1])) (hl : H l = some (.tup (List.replicate n [V.ref u]).flatten)) : RowG g H (.ref l) n 0 := by
  rw [List.flatten_replicate_singleton] at hl
  refine rowG_mk hl List.length_replicate fun x hx => ?_
  rw [(List.mem_replicate.mp hx).2]
  refine ⟨(0, 1), ⟨u, rfl, hu⟩, by decide, by decide, by decide, ?_⟩
  rcases hg with z | z
  · exact .inl z
  · exact .inr ⟨z.1, z.2, rfl⟩
end Fm

namespace Fm
open PySem PySem.Spec PyProof.Rows L2
theorem part_ok {g : Int} {r s : List (Int × Int)} (hg : g = 0 ∨ (3 ≤ g ∧ g ≤ 13)) (hr : ∀ x ∈ r, OkN g 40 x) (hs : ∀ x ∈ s, OkN g 40 x) (hl : r.length ≤ 10) (hl2 : s.length ≤ 10) : PBd (cellF g r s) := by
  have p1 : ∀ x ∈ r, 0 < x.2 := fun x h => (hr x h).pos
  have p2 : ∀ x ∈ s, 0 < x.2 := fun x h => (hs x h).pos
  have e1 : 40 * r.length ≤ 400 := Nat.mul_le_mul_left 40 hl
  have e2 : 40 * s.length ≤ 400 := Nat.mul_le_mul_left 40 hl2
  have b1 := wrB_bd (k := 40) (r := r) fun x h => ⟨p1 x h, (hr x h).2.1⟩
  have b2 := wrB_bd (k := 40) (r := s) fun x h => ⟨p2 x h, (hs x h).2.1⟩
  have c1 : ∀ t ∈ wrT r, t.natAbs ≤ 2 ^ 440 := fun t h => Nat.le_trans (wrT_bd hr t h) (Nat.pow_le_pow_right (by decide) (by omega))
  have c2 : ∀ t ∈ wrT s, t.natAbs ≤ 2 ^ 440 := fun t h => Nat.le_trans (wrT_bd hs t h) (Nat.pow_le_pow_right (by decide) (by omega))
  have d := dot_bd c1 c2
  rw [wrT_len] at d
  have dN : (dotF (wrT r) (wrT s)).natAbs < 2 ^ 3000 := by
    refine Nat.lt_of_le_of_lt (Nat.le_trans d (Nat.mul_le_mul_right _ (show r.length ≤ 2 ^ 4 by omega))) ?_
    rw [← Nat.pow_add]
    exact Nat.pow_lt_pow_right (by decide) (by decide)
  have dD : (wrB r * wrB s).natAbs < 2 ^ 3000 := by
    rw [Int.natAbs_mul]
    refine Nat.lt_of_le_of_lt (Nat.mul_le_mul b1 b2) ?_
    rw [← Nat.pow_add]
    exact Nat.pow_lt_pow_right (by decide) (by omega)
  rw [cell_is hg hr hs]
  exact low_bd (by omega) (Int.mul_ne_zero (by have := (wrB_spec p1).1; omega) (by have := (wrB_spec p2).1; omega)) (by decide) dN dD
theorem times_ok {g : Int} {x z : Int × Int} (hg : g ≤ 13) (hx : OkN g 40 x) (hz : OkN g 40 z) : PBd (timesF g x z) := by
  have b1 := wide_lt hx.1 hz.1
  have b2 := wide_lt hx.2.1 hz.2.1
  have up : ∀ {n : Nat}, n < 2 ^ (40 + 40) → n < 2 ^ 3000 := fun h => Nat.lt_of_lt_of_le h (Nat.pow_le_pow_right (by decide) (by decide))
  exact low_bd hg (Int.mul_ne_zero (by have := hx.pos; omega) (by have := hz.pos; omega)) (by decide) (up b1) (up b2)
theorem ok_take {g : Int} {k i : Nat} {r : List (Int × Int)} (h : ∀ x ∈ r, OkN g k x) : ∀ x ∈ r.take i, OkN g k x := fun x hx => h x (List.mem_of_mem_take hx)
/-! ### bent things -/
def NK (kb : Nat) (H : Hp) (v : V) : Prop := ∃ a : Int × Int, NumV H v a ∧ a.1.natAbs < 2 ^ kb ∧ a.2.natAbs < 2 ^ kb
def RK (kb : Nat) (H : Hp) (v : V) : Prop := ∃ p xs, v = .ref p ∧ H p = some (.tup xs) ∧ 0 < xs.length ∧ xs.length ≤ 10 ∧ ∀ x ∈ xs, NK kb H x
def TK (kb : Nat) (H : Hp) (v : V) : Prop := ∃ p xs, v = .ref p ∧ H p = some (.tup xs) ∧ 0 < xs.length ∧ xs.length ≤ 10 ∧ ∀ x ∈ xs, RK kb H x
theorem NK.kt {kb : Nat} {H H' : Hp} {v : V} (h : NK kb H v) (s : Kt H H') : NK kb H' v := by
  obtain ⟨a, h1, h2⟩ := h
  exact ⟨a, h1.kt s, h2⟩
theorem RK.kt {kb : Nat} {H H' : Hp} {v : V} (h : RK kb H v) (s : Kt H H') : RK kb H' v := by
  obtain ⟨p, xs, e, hp, h1, h2, hx⟩ := h
  exact ⟨p, xs, e, s _ _ hp, h1, h2, fun x m => (hx x m).kt s⟩
theorem TK.kt {kb : Nat} {H H' : Hp} {v : V} (h : TK kb H v) (s : Kt H H') : TK kb H' v := by
  obtain ⟨p, xs, e, hp, h1, h2, hx⟩ := h
  exact ⟨p, xs, e, s _ _ hp, h1, h2, fun x m => (hx x m).kt s⟩
theorem lt_up {a : Int} {k l : Nat} (h : a.natAbs < 2 ^ k) (hl : k ≤ l) : a.natAbs < 2 ^ l := Nat.lt_of_lt_of_le h (Nat.pow_le_pow_right (by decide) hl)
theorem NK.tb {kb l : Nat} {H : Hp} {v : V} (h : NK kb H v) (hl : kb ≤ l) : TB l 1 H v := by
  obtain ⟨a, ⟨p, rfl, hp⟩, h1, h2⟩ := h
  refine TB.tup hp (by simp) fun x hx => ?_
  simp only [List.mem_cons, List.not_mem_nil, or_false] at hx
  rcases hx with rfl | rfl
  · exact .inl (lt_up h1 hl)
  · exact .inl (lt_up h2 hl)
theorem RK.tb {kb l : Nat} {H : Hp} {v : V} (h : RK kb H v) (hl : kb ≤ l) : TB l 2 H v := by
  obtain ⟨p, xs, rfl, hp, _, h2, hx⟩ := h
  exact TB.tup hp (by omega) fun x m => (hx x m).tb hl
theorem TK.tb {kb l : Nat} {H : Hp} {v : V} (h : TK kb H v) (hl : kb ≤ l) : TB l 3 H v := by
  obtain ⟨p, xs, rfl, hp, _, h2, hx⟩ := h
  exact TB.tup hp (by omega) fun x m => (hx x m).tb hl
theorem TB.a {k n : Nat} {H : Hp} {i : Int} (h : i.natAbs < 2 ^ k) : TB k n H (.int i) := TB.at h
theorem TB.tupA {k : Nat} {H : Hp} {p : Addr} {xs : List V} (h : H p = some (.tup xs)) (hz : xs.length ≤ 100) (hx : ∀ x ∈ xs, AtB k x) : TB k 1 H (.ref p) := TB.tup h hz fun x m => TB.at (hx x m)
/-- what the looks say of a table, back to its numbers -/
theorem nk_of {k n : Nat} {H : Hp} {g : Int} {v : V} (h : TB k (n + 1) H v) (e : numOf H g v = true) : NK k H v := by
  rcases tb_cases h with no | ⟨p, xs, rfl, hp, hz, hx⟩
  · rw [numOf_no no] at e
    cases e
  · rw [numOf_tup hp] at e
    match xs, e, hx, hp with
    | [.int t, .int b], e, hx, hp =>
      have a1 : (TB k n H (.int t)) := hx _ (by simp)
      have a2 : (TB k n H (.int b)) := hx _ (by simp)
      have f : ∀ {i : Int}, TB k n H (.int i) → i.natAbs < 2 ^ k := fun {i} z => by
        cases n with
        | zero =>
          rcases z with z | ⟨p, xs, z, _⟩
          · exact z
          · cases z
        | succ n =>
          rcases z with z | ⟨p, xs, z, _⟩ | ⟨p, xs, z, _⟩
          · exact z
          · cases z
          · cases z
      exact ⟨(t, b), ⟨p, rfl, hp⟩, f a1, f a2⟩
theorem rk_of {k n : Nat} {H : Hp} {g m : Int} {v : V} (h : TB k (n + 2) H v) (e : rowOf H g m v = true) (h1 : 1 ≤ m) (h2 : m ≤ 10) : RK k H v := by
  rcases tb_cases h with no | ⟨p, xs, rfl, hp, hz, hx⟩
  · rw [rowOf_no no] at e
    cases e
  · rw [rowOf_tup hp, Bool.and_eq_true] at e
    have el := of_decide_eq_true e.1
    exact ⟨p, xs, rfl, hp, by omega, by omega, fun x m => nk_of (hx x m) (List.all_eq_true.mp e.2 x m)⟩
theorem tk_of {k n : Nat} {H : Hp} {g m w : Int} {v : V} (h : TB k (n + 3) H v) (e : tabOf H g m w v = true) (h1 : 1 ≤ m) (h2 : m ≤ 10) (h3 : 1 ≤ w) (h4 : w ≤ 10) : TK k H v := by
  rcases tb_cases h with no | ⟨p, xs, rfl, hp, hz, hx⟩
  · rw [tabOf_no no] at e
    cases e
  · rw [tabOf_tup hp, Bool.and_eq_true] at e
    have el := of_decide_eq_true e.1
    exact ⟨p, xs, rfl, hp, by omega, by omega, fun x m => rk_of (hx x m) (List.all_eq_true.mp e.2 x m) h3 h4⟩
theorem RowG.rk {g : Int} {H : Hp} {v : V} {n i kb : Nat} (h : RowG g H v n i) (hi : i ≤ 10) (hk : 40 ≤ kb) (hn : 0 < n) (hn2 : n ≤ 10) : RK kb H v := by
  obtain ⟨r, ⟨p, xs, e, hp, hl, hx⟩, hr, hg⟩ := h
  refine ⟨p, xs, e, hp, by omega, by omega, fun x m => ?_⟩
  obtain ⟨j, hj, ej⟩ := List.mem_iff_getElem.mp m
  have e1 : xs[j]? = some x := by rw [List.getElem?_eq_getElem hj, ej]
  have e2 : r[j]? = some (r[j]'(by omega)) := List.getElem?_eq_getElem (by omega)
  have ok := (hg _ (List.getElem_mem (show j < r.length by omega))).ok hi
  exact ⟨_, hx j x _ e1 e2, lt_up ok.1 hk, lt_up ok.2.1 hk⟩
theorem TabG.tk {g : Int} {H : Hp} {v : V} {m n i kb : Nat} (h : TabG g H v m n i) (hi : i ≤ 10) (hk : 40 ≤ kb) (hm : 0 < m) (hm2 : m ≤ 10) (hn : 0 < n) (hn2 : n ≤ 10) : TK kb H v := by
  obtain ⟨t, ⟨p, xs, e, hp, hl, hx⟩, ht, hg⟩ := h
  refine ⟨p, xs, e, hp, by omega, by omega, fun x mm => ?_⟩
  obtain ⟨j, hj, ej⟩ := List.mem_iff_getElem.mp mm
  have e1 : xs[j]? = some x := by rw [List.getElem?_eq_getElem hj, ej]
  have e2 : t[j]? = some (t[j]'(by omega)) := List.getElem?_eq_getElem (by omega)
  have hh := hg _ (List.getElem_mem (show j < t.length by omega))
  exact RowG.rk ⟨_, hx j x _ e1 e2, hh.1, hh.2⟩ hi hk hn hn2
theorem w_sl {r : V → Option Int → Option Int → Hp → VK → Prop} {te : TE} {tl th : TO} {σ : L2.St} {H : Hp} {Q : VK} (h : te σ H fun x H1 => tl σ H1 fun l H2 => th σ H2 fun u H3 => r x l u H3 Q) : tSl r te tl th σ H Q := h
theorem w_part {te : TE} {σ : L2.St} {H : Hp} {R : Option Int → Hp → Prop} (h : te σ H fun x H1 => ∃ i, x = .int i ∧ R (some i) H1) : tPart te σ H R := h
theorem w_nopart {σ : L2.St} {H : Hp} {R : Option Int → Hp → Prop} (h : R none H) : tNoPart σ H R := h
theorem w_exi {a : Int} {R : Int → Prop} (h : R a) : ∃ i, V.int a = .int i ∧ R i := ⟨a, rfl, h⟩
theorem cut_mem {xs : List V} {lo hi : Option Int} : (∀ y ∈ cutV xs lo hi, y ∈ xs) ∧ (cutV xs lo hi).length ≤ xs.length := by
  unfold cutV
  refine ⟨fun y hy => List.mem_of_mem_drop (List.mem_of_mem_take hy), ?_⟩
  rw [List.length_take, List.length_drop]
  omega
theorem w_slA {K : PySem.W.Frag} {H : Hp} {Q : VK} {p : Addr} {xs : List V} {lo hi : Option Int} (hp : H p = some (.tup xs)) (q : ∀ q' H' ys, Same H H' → H' q' = some (.tup ys) → ys.length ≤ xs.length → (∀ y ∈ ys, y ∈ xs) → Q (.ref q') H') : rSlA K (.ref p) lo hi H Q :=
  ⟨p, xs, rfl, SqT.of hp, fun _ => q p H xs (Same.refl H) hp (Nat.le_refl _) (fun y h => h), fun _ l hl => q l _ _ (same_upd hl) upd_same cut_mem.2 cut_mem.1⟩
theorem w_catA {K : PySem.W.Frag} {H : Hp} {Q : VK} {p r : Addr} {xs ys : List V} (hp : H p = some (.tup xs)) (hr : H r = some (.tup ys)) (hz : xs.length + ys.length ≤ 1000) (q : ∀ q' H' zs, Same H H' → H' q' = some (.tup zs) → zs.length ≤ xs.length + ys.length → (∀ y ∈ zs, y ∈ xs ∨ y ∈ ys) → Q (.ref q') H') : rCatA K (.ref p) (.ref r) H Q :=
  ⟨p, r, xs, ys, rfl, rfl, SqT.of hp, SqT.of hr, Nat.le_of_lt (small1000 hz), fun _ => q r H ys (Same.refl H) hr (Nat.le_add_left _ _) (fun y h => .inr h), fun _ _ => q p H xs (Same.refl H) hp (Nat.le_add_right _ _) (fun y h => .inl h), fun _ _ l hl => q l _ _ (same_upd hl) upd_same (by rw [List.length_append]; exact Nat.le_refl _) (fun y h => List.mem_append.mp h)⟩
theorem TB.kd' {k n : Nat} {H H' : Hp} {v : V} (h : TB k n H v) (e : Kd H H') : TB k n H' v := TB.kd e h
end Fm

namespace Fm
open PySem PySem.Spec PyProof.Rows L2
/-! ### tables as data -/
def numD (a : Int × Int) : PyData := .tuple [.int a.1, .int a.2]
def rowD (r : List (Int × Int)) : PyData := .tuple (r.map numD)
theorem dpAll_of {α : Type} {K : PySem.W.Frag} {H : Hp} {f : α → PyData} : ∀ {xs : List V} {as : List α}, xs.length = as.length → (∀ (i : Nat) (x : V) (a : α), xs[i]? = some x → as[i]? = some a → Dp K H x (f a)) → DpAll K H xs (as.map f)
  | [], [], _, _ => .nil
  | [], _ :: _, h, _ => by cases h
  | _ :: _, [], h, _ => by cases h
  | x :: xs, a :: as, h, hx => .cons (hx 0 x a rfl rfl) (dpAll_of (by simpa using h) fun i y b h1 h2 => hx (i + 1) y b h1 h2)
theorem NumV.dp {K : PySem.W.Frag} {H : Hp} {v : V} {a : Int × Int} (h : NumV H v a) : Dp K H v (numD a) := by
  obtain ⟨p, rfl, hp⟩ := h
  exact .tup (SqT.of hp) (.cons (.int _) (.cons (.int _) .nil))
theorem RowV.dp {K : PySem.W.Frag} {H : Hp} {v : V} {r : List (Int × Int)} (h : RowV H v r) : Dp K H v (rowD r) := by
  obtain ⟨p, xs, rfl, hp, hl, hx⟩ := h
  exact .tup (SqT.of hp) (dpAll_of hl fun i x a h1 h2 => (hx i x a h1 h2).dp)
theorem TabV.dp {K : PySem.W.Frag} {H : Hp} {v : V} {t : List (List (Int × Int))} (h : TabV H v t) : Dp K H v (.tuple (t.map rowD)) := by
  obtain ⟨p, xs, rfl, hp, hl, hx⟩ := h
  exact .tup (SqT.of hp) (dpAll_of hl fun i x a h1 h2 => RowV.dp (hx i x a h1 h2))
theorem lay_num : ∀ (r : List (Int × Int)), PyData.canLayAll0 (r.map numD) = true ∧ PyData.depthAll (r.map numD) ≤ 1
  | [] => ⟨by simp [PyData.canLayAll0], by simp [PyData.depthAll]⟩
  | a :: r => by
    have ih := lay_num r
    refine ⟨?_, ?_⟩
    · rw [List.map_cons, PyData.canLayAll0, ih.1]
      simp [numD, PyData.canLay0, PyData.canLayAll0]
    · rw [List.map_cons, PyData.depthAll]
      have : (numD a).depth ≤ 1 := by simp [numD, PyData.depth, PyData.depthAll]
      have := ih.2
      omega
theorem lay_row : ∀ (t : List (List (Int × Int))), PyData.canLayAll0 (t.map rowD) = true ∧ PyData.depthAll (t.map rowD) ≤ 2
  | [] => ⟨by simp [PyData.canLayAll0], by simp [PyData.depthAll]⟩
  | r :: t => by
    have ih := lay_row t
    have h := lay_num r
    refine ⟨?_, ?_⟩
    · rw [List.map_cons, PyData.canLayAll0, ih.1]
      simp [rowD, PyData.canLay0, h.1]
    · rw [List.map_cons, PyData.depthAll]
      have : (rowD r).depth ≤ 2 := by rw [rowD, PyData.depth]; have := h.2; omega
      have := ih.2
      omega
theorem w_neTab {K : PySem.W.Frag} {H : Hp} {Q : VK} {v v' : V} {t t' : List (List (Int × Int))} (h1 : TabV H v t) (h2 : TabV H v' t') (e : t = t') (q : Q (.bl false) H) : rNeD K v v' H Q := by
  subst e
  have l := lay_row t
  have c : PyData.canLay0 (.tuple (t.map rowD)) = true := by rw [PyData.canLay0]; exact l.1
  have d : PyData.depth (.tuple (t.map rowD)) ≤ 64 := by rw [PyData.depth]; have := l.2; omega
  refine ⟨_, _, TabV.dp h1, TabV.dp h2, shaped_of c d, shaped_of c d, ?_⟩
  rw [SeqAt.eqv_refl _ c]
  exact q
theorem w_neRows {K : PySem.W.Frag} {H : Hp} {Q : VK} {p r : Addr} {xs ys : List V} {t : List (List (Int × Int))} (hp : H p = some (.lst xs)) (hr : H r = some (.lst ys)) (h1 : Acc RowV H xs t t.length) (h2 : Acc RowV H ys t t.length) (q : Q (.bl false) H) : rNeD K (.ref p) (.ref r) H Q := by
  have l := lay_row t
  have c : PyData.canLay0 (.list (t.map rowD)) = true := by rw [PyData.canLay0]; exact l.1
  have d : PyData.depth (.list (t.map rowD)) ≤ 64 := by rw [PyData.depth]; have := l.2; omega
  refine ⟨.list (t.map rowD), .list (t.map rowD), .lst (SqL.of hp) (dpAll_of h1.1 fun i x a e1 e2 => RowV.dp (h1.2 i x a e1 e2)), .lst (SqL.of hr) (dpAll_of h2.1 fun i x a e1 e2 => RowV.dp (h2.2 i x a e1 e2)), shaped_of c d, shaped_of c d, ?_⟩
  rw [SeqAt.eqv_refl _ c]
  exact q
theorem w_eqRow {K : PySem.W.Frag} {H : Hp} {Q : VK} {v v' : V} {r : List (Int × Int)} (h1 : RowV H v r) (h2 : RowV H v' r) (q : Q (.bl true) H) : rEqD K v v' H Q := by
  have l := lay_num r
  have c : PyData.canLay0 (rowD r) = true := by rw [rowD, PyData.canLay0]; exact l.1
  have d : PyData.depth (rowD r) ≤ 64 := by rw [rowD, PyData.depth]; have := l.2; omega
  refine ⟨_, _, RowV.dp h1, RowV.dp h2, shaped_of c d, shaped_of c d, ?_⟩
  rw [SeqAt.eqv_refl _ c]
  exact q
theorem turn_len {l : Nat} {t : List (List (Int × Int))} : (turnF l t).length = l := by
  unfold turnF
  rw [List.length_map, List.length_range]
theorem turn_rows {n l : Nat} {t : List (List (Int × Int))} (ht : t.length = n) : ∀ r ∈ turnF l t, r.length = n := fun r hr => by
  obtain ⟨j, _, rfl⟩ := List.mem_map.mp hr
  rw [List.length_map, ht]
theorem turn_turn {n l : Nat} {t : List (List (Int × Int))} (ht : t.length = n) (h : ∀ r ∈ t, r.length = l) : turnF n (turnF l t) = t := by
  refine List.ext_getElem (by rw [turn_len, ht]) fun i h1 h2 => ?_
  rw [turn_len] at h1
  have e := turn_at (l := n) (j := i) (t := turnF l t) h1
  have e1 : (turnF n (turnF l t))[i]'(by rw [turn_len]; exact h1) = (turnF l t).map fun row => row.getD i (0, 1) := by
    rw [List.getElem?_eq_getElem (by rw [turn_len]; exact h1)] at e
    exact Option.some.inj e
  rw [e1]
  have hl := h _ (List.getElem_mem h2)
  refine List.ext_getElem (by rw [List.length_map, turn_len, hl]) fun j h3 h4 => ?_
  rw [List.length_map, turn_len] at h3
  rw [List.getElem_map]
  have e2 := turn_at (l := l) (j := j) (t := t) h3
  have e3 : (turnF l t)[j]'(by rw [turn_len]; exact h3) = t.map fun row => row.getD j (0, 1) := by
    rw [List.getElem?_eq_getElem (by rw [turn_len]; exact h3)] at e2
    exact Option.some.inj e2
  rw [e3, List.getD_eq_getElem?_getD, List.getElem?_map, List.getElem?_eq_getElem h2]
  show t[i].getD j (0, 1) = t[i][j]
  rw [List.getD_eq_getElem?_getD, List.getElem?_eq_getElem h4]
  rfl
theorem cell_num {g : Int} {r s : List (Int × Int)} (hg : g = 0 ∨ (3 ≤ g ∧ g ≤ 13)) (hr : ∀ x ∈ r, OkN g 40 x) (hs : ∀ x ∈ s, OkN g 40 x) : numOk g [.int (cellF g r s).1, .int (cellF g r s).2] = true := by
  rw [cell_is hg hr hs]
  have p1 : ∀ x ∈ r, 0 < x.2 := fun x h => (hr x h).pos
  have p2 : ∀ x ∈ s, 0 < x.2 := fun x h => (hs x h).pos
  rcases hg with rfl | ⟨h3, h13⟩
  · have hn : wrB r * wrB s ≠ 0 := Int.mul_ne_zero (by have := (wrB_spec p1).1; omega) (by have := (wrB_spec p2).1; omega)
    obtain ⟨⟨a, b⟩, _⟩ := low0_red (u := dotF (wrT r) (wrT s)) hn
    rw [numOk_0, b, decide_eq_true (by omega)]
    rfl
  · have o1 : ∀ x ∈ r, x.2 = 1 := fun x h => by
      rcases (hr x h).2.2 with z | z
      · omega
      · exact z.2.2
    have o2 : ∀ x ∈ s, x.2 = 1 := fun x h => by
      rcases (hs x h).2.2 with z | z
      · omega
      · exact z.2.2
    rw [wrB_one o1, wrB_one o2, Int.mul_one, low_one (by omega), numOk_g (by omega)]
    have b0 := Int.fmod_nonneg_of_pos (dotF (wrT r) (wrT s)) (show 0 < g by omega)
    have b1 := Int.fmod_lt_of_pos (dotF (wrT r) (wrT s)) (show 0 < g by omega)
    rw [decide_eq_true b0, decide_eq_true b1, decide_eq_true rfl]
    rfl
theorem NumV.nk {H : Hp} {v : V} {a : Int × Int} {k : Nat} (h : NumV H v a) (h1 : a.1.natAbs < 2 ^ k) (h2 : a.2.natAbs < 2 ^ k) : TB k 1 H v := NK.tb ⟨a, h, h1, h2⟩ (Nat.le_refl _)
theorem RowV.tb {H : Hp} {v : V} {r : List (Int × Int)} {k : Nat} (h : RowV H v r) (hl : r.length ≤ 100) (hb : ∀ a ∈ r, a.1.natAbs < 2 ^ k ∧ a.2.natAbs < 2 ^ k) : TB k 2 H v := by
  obtain ⟨p, xs, rfl, hp, hlx, hx⟩ := h
  refine TB.tup hp (by omega) fun x m => ?_
  obtain ⟨j, hj, ej⟩ := List.mem_iff_getElem.mp m
  have e1 : xs[j]? = some x := by rw [List.getElem?_eq_getElem hj, ej]
  have e2 : r[j]? = some (r[j]'(by omega)) := List.getElem?_eq_getElem (by omega)
  have b := hb _ (List.getElem_mem (show j < r.length by omega))
  exact (hx j x _ e1 e2).nk b.1 b.2
theorem TabV.tb {H : Hp} {v : V} {t : List (List (Int × Int))} {k : Nat} (h : TabV H v t) (hl : t.length ≤ 100) (hb : ∀ r ∈ t, r.length ≤ 100 ∧ ∀ a ∈ r, a.1.natAbs < 2 ^ k ∧ a.2.natAbs < 2 ^ k) : TB k 3 H v := by
  obtain ⟨p, xs, rfl, hp, hlx, hx⟩ := h
  refine TB.tup hp (by omega) fun x m => ?_
  obtain ⟨j, hj, ej⟩ := List.mem_iff_getElem.mp m
  have e1 : xs[j]? = some x := by rw [List.getElem?_eq_getElem hj, ej]
  have e2 : t[j]? = some (t[j]'(by omega)) := List.getElem?_eq_getElem (by omega)
  have b := hb _ (List.getElem_mem (show j < t.length by omega))
  exact RowV.tb (hx j x _ e1 e2) b.1 b.2
theorem row_true {H : Hp} {v : V} {r : List (Int × Int)} {g m : Int} (h : RowV H v r) (hl : (r.length : Int) = m) (hn : ∀ a ∈ r, numOk g [.int a.1, .int a.2] = true) : rowOf H g m v = true := by
  obtain ⟨p, xs, rfl, hp, hlx, hx⟩ := h
  rw [rowOf_tup hp, decide_eq_true (by omega), Bool.true_and, List.all_eq_true]
  intro x mm
  obtain ⟨j, hj, ej⟩ := List.mem_iff_getElem.mp mm
  have e1 : xs[j]? = some x := by rw [List.getElem?_eq_getElem hj, ej]
  have e2 : r[j]? = some (r[j]'(by omega)) := List.getElem?_eq_getElem (by omega)
  obtain ⟨q, rfl, hq⟩ := hx j x _ e1 e2
  rw [numOf_tup hq]
  exact hn _ (List.getElem_mem (show j < r.length by omega))
theorem tab_true {H : Hp} {v : V} {t : List (List (Int × Int))} {g m w : Int} (h : TabV H v t) (hl : (t.length : Int) = m) (hn : ∀ r ∈ t, (r.length : Int) = w ∧ ∀ a ∈ r, numOk g [.int a.1, .int a.2] = true) : tabOf H g m w v = true := by
  obtain ⟨p, xs, rfl, hp, hlx, hx⟩ := h
  rw [tabOf_tup hp, decide_eq_true (by omega), Bool.true_and, List.all_eq_true]
  intro x mm
  obtain ⟨j, hj, ej⟩ := List.mem_iff_getElem.mp mm
  have e1 : xs[j]? = some x := by rw [List.getElem?_eq_getElem hj, ej]
  have e2 : t[j]? = some (t[j]'(by omega)) := List.getElem?_eq_getElem (by omega)
  have b := hn _ (List.getElem_mem (show j < t.length by omega))
  exact row_true (hx j x _ e1 e2) b.1 b.2
end Fm

namespace Fm
open PySem PySem.Spec PyProof.Rows L2
/-! ### whole roots -/
def RootOf (n r : Nat) : Prop := r * r ≤ n ∧ n < (r + 1) * (r + 1)
theorem root_uniq {n r s : Nat} (h1 : RootOf n r) (h2 : RootOf n s) : r = s := by
  rcases Nat.lt_trichotomy r s with h | h | h
  · have : (r + 1) * (r + 1) ≤ s * s := Nat.mul_le_mul h h
    have := h1.2
    have := h2.1
    omega
  · exact h
  · have : (s + 1) * (s + 1) ≤ r * r := Nat.mul_le_mul h h
    have := h2.2
    have := h1.1
    omega
theorem four_mul (a b : Nat) : 4 * (a * b) ≤ (a + b) * (a + b) := by
  rcases Nat.le_total a b with h | h
  · obtain ⟨d, rfl⟩ := Nat.exists_eq_add_of_le h
    have e : (a + (a + d)) * (a + (a + d)) = 4 * (a * (a + d)) + d * d := by grind
    omega
  · obtain ⟨d, rfl⟩ := Nat.exists_eq_add_of_le h
    have e : (b + d + b) * (b + d + b) = 4 * ((b + d) * b) + d * d := by grind
    omega
/-- a step of Newton's stays above the root -/
theorem newton_ge {n g : Nat} (hg : 0 < g) : n < ((g + n / g) / 2 + 1) * ((g + n / g) / 2 + 1) := by
  have h1 : n < g * (n / g + 1) := Nat.lt_mul_div_succ n hg
  have h2 := four_mul g (n / g + 1)
  generalize n / g = q at h1 h2 ⊢
  have h3 : g + (q + 1) ≤ 2 * ((g + q) / 2 + 1) := by omega
  have h4 : (g + (q + 1)) * (g + (q + 1)) ≤ (2 * ((g + q) / 2 + 1)) * (2 * ((g + q) / 2 + 1)) := Nat.mul_le_mul h3 h3
  generalize (g + q) / 2 + 1 = s at h4 ⊢
  have e : (2 * s) * (2 * s) = 4 * (s * s) := by grind
  omega
/-- where a step does not go down, the root is reached -/
theorem newton_end {n g : Nat} (hg : 0 < g) (h : ¬ (g + n / g) / 2 < g) : g * g ≤ n := by
  have h1 : g ≤ n / g := by omega
  exact (Nat.le_div_iff_mul_le hg).mp h1
/-- a step of the digits' root -/
theorem digit_step {n f s : Nat} (h1 : f * f ≤ n) (h2 : n < (f + 2 * s) * (f + 2 * s)) : ((f + s) * (f + s) ≤ n → (f + s) * (f + s) ≤ n ∧ n < (f + s + s) * (f + s + s)) ∧ (¬ (f + s) * (f + s) ≤ n → f * f ≤ n ∧ n < (f + s) * (f + s)) := by
  refine ⟨fun h => ⟨h, ?_⟩, fun h => ⟨h1, by omega⟩⟩
  rw [show f + s + s = f + 2 * s by omega]
  exact h2
/-- a square in lowest terms has squares above and below -/
theorem red_square {p q : Int × Int} (hp : Red p) (hq : Red q) (h : timesF 0 q q = p) : p = (q.1 * q.1, q.2 * q.2) := by
  have hn : q.2 * q.2 ≠ 0 := Int.mul_ne_zero (by have := hq.1; omega) (by have := hq.1; omega)
  have hr : Red (q.1 * q.1, q.2 * q.2) := by
    refine ⟨Int.mul_pos hq.1 hq.1, ?_⟩
    have h1 : Nat.Coprime q.1.natAbs q.2.natAbs := hq.2
    show Nat.gcd (q.1 * q.1).natAbs (q.2 * q.2).natAbs = 1
    rw [Int.natAbs_mul, Int.natAbs_mul]
    have h2 : Nat.Coprime (q.1.natAbs * q.1.natAbs) q.2.natAbs := Nat.Coprime.mul_left h1 h1
    exact Nat.Coprime.mul_right h2 h2
  rw [← h]
  exact low0_uniq hr hn (by simp only)
end Fm

namespace Fm
open PySem PySem.Spec PyProof.Rows L2
section
variable {prog : Program} {w : World} {A : Around} {E : Value → Shared → Prop} {s : Shared}
/-- no item is left while another exception is handled: StopIteration gets that one as its context -/
theorem stops_hot {α : Type} {x1 : Addr} {Q : α → Shared → Prop} (hot : HotX.HotAt A x1 s.heap)
    (hf : ∀ (e : Addr) (h' : Heap) (o : Obj), h'.get? e = some o → o.cls = .type "StopIteration" → (∀ b u, s.heap.get? b = some u → h'.get? b = some u) → E (.ref e) { s with heap := h' }) :
    wpAny (model prog w) A (newExc (.type "StopIteration") [] >>= fun v => (raiseNew v : Sem α)) Q E s := by
  obtain ⟨hh, o1, v1, g1, d1, c1⟩ := hot
  refine wpAny_bind ?_
  simp only [newExc, newTuple]
  refine wpAny_bind (wpAny_newObj_type ?q1 (by size_fits))
  refine wpAny_bind (m := firstArgMember _ _) (wpAny_of_eq (a := Value.none) (by first | rfl | (simp only [firstArgMember]; rfl)) ?q2)
  refine wpAny_newObj_type ?q3 (by size_fits)
  have up : ∀ (u : Obj) (v : Obj) b z, s.heap.get? b = some z → ((s.heap.push u).push v).get? b = some z := fun u v b z e => Heap.get?_push_of_some v (Heap.get?_push_of_some u e)
  refine HotX.raiseNew_hot ⟨hh, o1, v1, up _ _ _ _ g1, d1, c1⟩ ?ne (Heap.get?_push_size _ rfl) rfl ?sz ?fin
  case ne => exact Nat.ne_of_lt (Heap.lt_size (Heap.get?_push_of_some _ g1))
  case sz => first | (simp; done) | (simp; omega) | (simp only [Array.size_append]; simp; omega)
  case fin =>
    refine hf _ _ _ (Heap.get?_update_self _ (Heap.get?_push_size _ rfl) rfl) rfl fun b u e => ?_
    rw [Heap.get?_update_other _ _ (Nat.ne_of_gt (Heap.lt_size (Heap.get?_push_of_some _ e)))]
    exact up _ _ _ _ e
/-- the list's iterator is at its end, an exception being handled -/
theorem list_end_hot {it l x1 : Addr} {i : Nat} {items : Array Value} {Q : Option Value → Shared → Prop} (hot : HotX.HotAt A x1 s.heap) (ne : x1 ≠ it) (st : s.heap.IsListIter it l i) (hl : s.heap.IsList l items) (out : items[i]? = none)
    (k : ∀ h', Heap.ExtBut it s.heap h' → Q none { s with heap := h' }) : wpAny (model prog w) A (pyNext (.ref it)) Q E s := by
  obtain ⟨oi, gi, ci, di⟩ := id st
  obtain ⟨ol, gl, _, nl, dl⟩ := hl
  obtain ⟨hh, o1, v1, g1, d1, c1⟩ := hot
  have nn : ¬ ((Value.ref l == Value.none) = true) := Bool.false_ne_true
  unfold pyNext
  refine wpAny_bind (wpAny_attempt (wpAny_callSpecial?_slot (name := Str.ofString "__next__") st.typeIs slot_listiter_next (wpAny_call_entry slot_listiter_next st.typeIs entry_listiter_next ?go (args_listiter_next _))))
  show wpAny _ _ (field (.ref it) 0 >>= _) _ _ s
  refine wpAny_bind (wpAny_field gi di (x := .ref l) rfl ?_)
  show wpAny _ _ (if (Value.ref l == Value.none) = true then _ else _) _ _ s
  rw [if_neg nn]
  show wpAny _ _ (field (.ref it) 1 >>= _) _ _ s
  refine wpAny_bind (wpAny_field gi di (x := .int i 0) rfl ?_)
  show wpAny _ _ (seqItems? (.ref l) >>= _) _ _ s
  refine wpAny_bind (wpAny_seqItems gl dl ?_)
  simp only [Int.toNat_natCast, out]
  refine wpAny_bind (wpAny_rule (wpAny_bind (wpAny_setField gi di (by simp) ?_)))
  refine stops_hot (x1 := x1) ⟨hh, o1, v1, (Heap.get?_update_other _ _ (Ne.symm ne)).trans g1, d1, c1⟩ fun e h' o ge ce kp => ?_
  refine wpAny_bind (wpAny_isInstance (T := "StopIteration") (b := true) ⟨o, ge, ce⟩ isSubtype_stop ?_)
  refine wpAny_pure (k h' fun b u hb eb => kp b u ?_)
  exact (Heap.get?_update_other _ _ (Ne.symm hb)).trans eb
/-- the same of a tuple -/
theorem tup_end_hot {it t x1 : Addr} {i : Nat} {items : Array Value} {Q : Option Value → Shared → Prop} (hot : HotX.HotAt A x1 s.heap) (ne : x1 ≠ it) (st : IsTupIter s.heap it t i) (hl : IsTup s.heap t items) (out : items[i]? = none)
    (k : ∀ h', Heap.ExtBut it s.heap h' → Q none { s with heap := h' }) : wpAny (model prog w) A (pyNext (.ref it)) Q E s := by
  obtain ⟨oi, gi, ci, di⟩ := id st
  obtain ⟨ol, gl, _, nl, dl⟩ := hl
  obtain ⟨hh, o1, v1, g1, d1, c1⟩ := hot
  have nn : ¬ ((Value.ref t == Value.none) = true) := Bool.false_ne_true
  unfold pyNext
  refine wpAny_bind (wpAny_attempt (wpAny_callSpecial?_slot (name := Str.ofString "__next__") st.typeIs slot_tupleiter_next (wpAny_call_entry slot_tupleiter_next st.typeIs entry_tupleiter_next ?go (args_tupleiter_next _))))
  show wpAny _ _ (field (.ref it) 0 >>= _) _ _ s
  refine wpAny_bind (wpAny_field gi di (x := .ref t) rfl ?_)
  show wpAny _ _ (if (Value.ref t == Value.none) = true then _ else _) _ _ s
  rw [if_neg nn]
  show wpAny _ _ (field (.ref it) 1 >>= _) _ _ s
  refine wpAny_bind (wpAny_field gi di (x := .int i 0) rfl ?_)
  show wpAny _ _ (seqItems? (.ref t) >>= _) _ _ s
  refine wpAny_bind (wpAny_seqItems gl dl ?_)
  simp only [Int.toNat_natCast, out]
  refine wpAny_bind (wpAny_rule (wpAny_bind (wpAny_setField gi di (by simp) ?_)))
  refine stops_hot (x1 := x1) ⟨hh, o1, v1, (Heap.get?_update_other _ _ (Ne.symm ne)).trans g1, d1, c1⟩ fun e h' o ge ce kp => ?_
  refine wpAny_bind (wpAny_isInstance (T := "StopIteration") (b := true) ⟨o, ge, ce⟩ isSubtype_stop ?_)
  refine wpAny_pure (k h' fun b u hb eb => kp b u ?_)
  exact (Heap.get?_update_other _ _ (Ne.symm hb)).trans eb
/-- a tuple's items come to names, an exception being handled -/
theorem unpack_hot {t x1 : Addr} {items : Array Value} {env : Env} {elts : List Expr} {kk} {pos : Pos} {Q : Unit → Shared → Prop} (hot : HotX.HotAt A x1 s.heap) (hl : IsTup s.heap t items)
    (hn : (assignEach elts env).length = items.size) (hst : (assignEach elts env).findIdx? (·.1) = none)
    (k : ∀ h', Heap.ExtBut s.heap.objs.size s.heap h' → wpAny (model prog w) A (assignInOrder ((assignEach elts env).map (·.2)) items.toList) Q E { s with heap := h' }) :
    wpAny (model prog w) A (assign (.Tuple elts kk pos) env (.ref t)) Q E s := by
  have lt : t ≠ s.heap.objs.size := by
    obtain ⟨o, ho, _⟩ := hl
    exact Nat.ne_of_lt (Heap.lt_size ho)
  obtain ⟨hh, o1, v1, g1, d1, c1⟩ := hot
  have n1 : x1 ≠ s.heap.objs.size := Nat.ne_of_lt (Heap.lt_size g1)
  rw [assign_Tuple]
  refine wpAny_bind (wpAny_standAt ?_)
  unfold unpack
  rw [hn, hst]
  refine wpAny_bind (wpAny_holding ?_)
  unfold unpackItems
  refine wpAny_bind ?_
  unfold notIterableAtAll
  refine wpAny_bind (wpAny_specialOf hl.typeIs slot_tuple_iter.lookup (wpAny_pure ?_))
  simp only [Bool.false_eq_true, if_false]
  refine wpAny_bind (wpAny_holding (iter_tuple hl (wpAny_bind (wpAny_holding (draw_tuple lt items.size 0 _ _ ⟨_, Heap.get?_push_size _ rfl, rfl, rfl⟩ (hl.push _) (by omega) fun h2 st2 sb2 => ?_)))))
  rw [List.drop_zero, List.take_of_length_le (by simp), if_neg (by simp)]
  have ht2 : IsTup h2 t items := (hl.push _).extBut sb2.extBut lt
  have g2 : h2.get? x1 = some o1 := (sb2.2 x1 n1).trans (Heap.get?_push_of_some _ g1)
  refine wpAny_bind (wpAny_holding (tup_end_hot (x1 := x1) ⟨hh, o1, v1, g2, d1, c1⟩ n1 st2 ht2 (by simp) fun h3 e3 => ?_))
  simp only [Option.isSome_none, Bool.false_eq_true, if_false]
  refine wpAny_pure (k h3 fun b o hb e => e3 b o hb (sb2.extBut b o hb (Heap.get?_push_of_some _ e)))
end
end Fm

namespace Fm
open PySem PySem.Spec PyProof.Rows L2
/-- a, b = a pair, while an exception is handled -/
theorem pg_tupH {X : Cx} {es : List Expr} {kk : Nat} {t : TGs} {n : Nat} {pos : Pos} (hc : L2H.HotC X) (h : PGs X es t) (hn : (assignEach es X.env).length = n := by rfl) (hst : (assignEach es X.env).findIdx? (·.1) = none := by rfl) :
    PG X (.Tuple es kk pos) (gTup X.K n t) := by
  refine ⟨fun pins s σ H v u Q I r hw => ?_⟩
  obtain ⟨a, xs, rfl, hq, hl, hw⟩ := hw
  cases r
  obtain ⟨its, rv, ht, _⟩ := I.tuple hq
  obtain ⟨x1, hot⟩ := hc.at I
  refine unpack_hot hot ht (by simp [hn, ← hl, rv.length]) hst fun h' hx => ?_
  exact h.run pins _ σ H xs _ Q (I.kept (t' := s.toks) fun b o e => hx b o (Nat.ne_of_lt (Heap.lt_size e)) e) (by simpa using rv) hw
/-- [elt for target in a list if ..] while an exception is handled: D the new list, W by the turn -/
def tLcH (K : PySem.W.Frag) (ti : TE) (g : TG) (tt : TT) (te : TE) (vs : List Nat) : TE := fun σ H Q => ti σ H fun v H1 => ∃ (a : Addr) (xs : List V), v = .ref a ∧ SqL K H1 a xs ∧ ∀ D, H1 D = none → ∃ W : Nat → Hp → Prop,
  W 0 (upd H1 D (.lst [])) ∧ (∀ i H', W i H' → SqL K H' a xs) ∧ (∀ H', W xs.length H' → Q (.ref D) H') ∧ ∀ i x H', xs[i]? = some x → W i H' → g x (wipe σ vs) H' fun σ2 H2 => wipe σ2 vs = wipe σ vs ∧ tt σ2 H2 fun b H3 =>
    if b = true then te σ2 H3 fun y H4 => ∃ acc, H4 D = some (.lst acc) ∧ acc.length < sizeLine ∧ W (i + 1) (upd H4 D (.lst (acc ++ [y]))) else W (i + 1) H3
/-- the block's context: the handled exception is pinned in it -/
abbrev blkH (X : Cx) (p : Addr × Obj) (s : Shared) (H : Hp) (scope : Scope) (cenv : Env) (fp : List Addr) : Cx := (X.blk s H scope cenv fp).tr [p] (fun _ _ => False)
section
variable {X : Cx}
theorem hot_blk {p : Addr × Obj} {s : Shared} {H : Hp} {scope : Scope} {cenv : Env} {fp : List Addr} (h : L2H.Hot1 X.A p) : L2H.HotC (blkH X p s H scope cenv fp) := ⟨p, h, List.mem_cons_self⟩
theorem lc_hot {pins : List (Addr × Obj)} {s : Shared} {σ : L2.St} {H : Hp} {Q : VK} {elt tg iter : Expr} {ifs : List Expr} {scope : Scope} {own : List (Str × Nat)} {pos pos' : Pos} {ti : TE} {g : TG} {tt : TT} {te : TE} {use : Option (Value → Sem Unit)} {Qf : Value → Shared → Prop} {p : Addr × Obj}
    (hp : L2H.Hot1 X.A p) (hpn : p ∈ X.pn) (hN : X.N.Nodup) (I : Inv X pins σ H s) (hi : PE X iter ti) (ok : BlkOk X.N X.env.scope scope own)
    (hg : ∀ (s : Shared) (H : Hp) (C : Addr) (cl : List (Str × Addr)) (fp : List Addr), PG (blkH X p s H scope (compEnvC scope cl C X.env) fp) tg g)
    (ht : ∀ (s : Shared) (H : Hp) (C : Addr) (cl : List (Str × Addr)) (fp : List Addr), PTs (blkH X p s H scope (compEnvC scope cl C X.env) fp) ifs tt)
    (he : ∀ (s : Shared) (H : Hp) (C : Addr) (cl : List (Str × Addr)) (fp : List Addr), PE (blkH X p s H scope (compEnvC scope cl C X.env) fp) elt te)
    (hs : ∀ x, foldedSetIterable iter X.env x = pure x) (h : tLcH X.K ti g tt te (own.map (·.2)) σ H Q)
    (hRR : ∀ D C s' m H', Inv X pins σ H' s' → Q (.ref D) H' → s'.heap.Ns C m → FpOk X pins H' C → compPost (model X.prog X.w) X.A X.xe use Qf (.ref D) C (.ok .next) s') :
    wpAny (model X.prog X.w) X.A (comprehension (.ListComp elt [⟨tg, iter, ifs, 0⟩] scope pos) scope X.env pos' (newList []) false (eval iter X.env) use) Qf X.xe s := by
  have hfr : ∀ y ∈ scope.names, y.2 = .free → ∃ c, X.env.cells.lookup y.1 = some c := fun y hy e => (ok.free y hy e).elim (fun z => I.ok.has _ (.inl z)) fun z => I.ok.has _ (.inr z)
  refine wpAny_comprehension_free (use := use) rfl hs (closure_ok hfr) ok.kind (fun y hy e => by rw [ok.uniq y hy, e]) (thn (hi.run pins s σ H _ I h) fun xv s1 hx => ?_)
  obtain ⟨v, H1, I1, rv1, a, xs, rfl, hq, hD⟩ := hx
  cases rv1
  obtain ⟨its, rvs, pl, _⟩ := I1.list hq
  have hln := rvs.length
  refine wpAny_pyIter_list pl.isList ?_
  generalize hit : s1.heap.objs.size = it
  generalize hs2 : ({ s1 with heap := s1.heap.push { cls := .type "list_iterator", data := .fields #[.ref a, .int 0 0] } } : Shared) = s2
  have h2 : s2.heap = s1.heap.push { cls := .type "list_iterator", data := .fields #[.ref a, .int 0 0] } := by rw [← hs2]
  have I2 : Inv X pins σ H1 s2 := by
    rw [← hs2]
    exact I1.kept (t' := s1.toks) fun b o e => Heap.get?_push_of_some _ e
  have st2 : s2.heap.IsListIter it a 0 := by
    rw [h2, ← hit]
    exact ⟨_, Heap.get?_push_size _ rfl, rfl, rfl⟩
  have f2 : FpOk X pins H1 it := I1.fpOk (Nat.le_of_eq hit) (I1.hok.fresh (Nat.le_of_eq hit))
  refine wpAny_newObj_type (newEnv_comp ?_) (by show 0 ≤ sizeLine; decide)
  generalize hDD : s2.heap.objs.size = D
  obtain ⟨W, w0, wl, wd, ws⟩ := hD D (I2.hok.fresh (Nat.le_of_eq hDD))
  have ltit : it < s2.heap.objs.size := by rw [h2, Heap.size_push, hit]; exact Nat.lt_succ_self _
  generalize hs3 : ({ s2 with heap := s2.heap.push { cls := .type "list", data := .seq ([] : List Value).toArray } } : Shared) = s3
  have h3 : s3.heap = s2.heap.push { cls := .type "list", data := .seq ([] : List Value).toArray } := by rw [← hs3]
  have I3 : Inv X pins σ (upd H1 D (.lst [])) s3 := by
    rw [← hs3]
    refine I2.laid (t' := s2.toks) (fun b o e => Heap.get?_push_of_some _ e) (Nat.le_of_eq hDD) ⟨Nat.zero_le _, [], 0, .nil, ?_⟩
    rw [← hDD]
    exact Heap.get?_push_size _ rfl
  have nD : it ≠ D := by rw [← hDD]; exact Nat.ne_of_lt ltit
  have f3 : ∀ b ∈ [it], FpOk X pins (upd H1 D (.lst [])) b ∧ b < s3.heap.objs.size := fun b hb => by
    obtain rfl : b = it := by simpa using hb
    refine ⟨⟨?_, f2.2⟩, by rw [h3, Heap.size_push]; exact Nat.lt_succ_of_lt ltit⟩
    rw [upd_ne nD]
    exact f2.1
  have st3 : s3.heap.IsListIter it a 0 := st2.at fun o e => by rw [h3]; exact Heap.get?_push_of_some _ e
  have I4 := block_start I3 ok hN f3
  generalize hcl : cellsFrom (s3.heap.objs.size + 1) scope.names (cloFrom X.env.cells scope.names []) = cl at I4
  show codeAny _ _ (.compStart (.ListComp elt [⟨tg, iter, ifs, 0⟩] scope pos) 0 (.ref it) (.ref D) (compEnvC scope cl s3.heap.objs.size X.env)) (compPost (model X.prog X.w) X.A X.xe use Qf (.ref D) s3.heap.objs.size) { s3 with heap := pushCells (s3.heap.push { cls := .type "dict", data := .dict #[] }) scope.names }
  have pg := hg s3 (upd H1 D (.lst [])) s3.heap.objs.size cl [it]
  have pt := ht s3 (upd H1 D (.lst [])) s3.heap.objs.size cl [it]
  have pe := he s3 (upd H1 D (.lst [])) s3.heap.objs.size cl [it]
  generalize hce : compEnvC scope cl s3.heap.objs.size X.env = ce at I4 pg pt pe ⊢
  have cL : ce.locals = s3.heap.objs.size := by subst hce; rfl
  generalize hs4 : ({ s3 with heap := pushCells (s3.heap.push { cls := .type "dict", data := .dict #[] }) scope.names } : Shared) = s4 at I4 ⊢
  have kp4 : ∀ b o, s3.heap.get? b = some o → s4.heap.get? b = some o := fun b o e => by rw [← hs4]; exact pushCells_keeps _ _ _ _ (Heap.get?_push_of_some _ e)
  have st4 : s4.heap.IsListIter it a 0 := st3.at fun o e => kp4 _ _ e
  obtain ⟨pg3, pn3, pl3, pf3, pc3⟩ := I3.pin p (List.mem_append_left _ hpn)
  have ps3 : p.1 ∉ frs X.stack := fun z => by
    rcases I3.ok.stk with e | ⟨e, ef⟩
    · rw [e] at z
      exact pf3 z
    · rw [e] at z
      obtain ⟨en, hen, q⟩ := List.mem_filterMap.mp z
      rcases List.mem_cons.mp hen with e1 | e1
      · rw [e1, ef] at q
        exact pl3 (Option.some.inj q).symm
      · exact pf3 (List.mem_filterMap.mpr ⟨en, e1, q⟩)
  have hlt3 := Heap.lt_size pg3
  generalize hH3 : upd H1 D (.lst []) = H3 at I3 I4 pg pt pe w0 f3 pn3
  have J4 : Inv (blkH X p s3 H3 scope ce [it]) [] (wipe σ (own.map (·.2))) H3 s4 :=
    ⟨I4.ok.toTry _ _, I4.os, I4.bare, I4.base, I4.loc, I4.cell, I4.free, I4.freeC, fun q hq => by
      obtain rfl : q = p := by simpa using hq
      exact ⟨kp4 _ _ pg3, pn3, by show q.1 ≠ ce.locals; rw [cL]; exact Nat.ne_of_lt hlt3, ps3, pc3⟩, I4.hok, I4.len⟩
  have npit : p.1 ≠ it := f2.2.2.2.2.2 p (List.mem_append_left _ hpn)
  have stat : ∀ {σ' : L2.St} {H' : Hp} {s' : Shared}, Inv (blkH X p s3 H3 scope ce [it]) [] σ' H' s' → H' it = none → ∀ b ∈ [it], FpOk (blkH X p s3 H3 scope ce [it]) [] H' b := fun {σ' H' s'} I' hn b hb => by
    obtain rfl : b = it := by simpa using hb
    refine ⟨hn, (I'.ok.exf b hb).1, I'.ok.exfs b hb, .inl hb, fun x c e => (I'.ok.exf b hb).2 x c e, fun q hq => ?_⟩
    obtain rfl : q = p := by simpa using hq
    exact npit
  have n3 : H3 it = none := (f3 it (by simp)).1.1
  have go : codeAny (model X.prog X.w) X.A (.compLoop (.ListComp elt [⟨tg, iter, ifs, 0⟩] scope pos) 0 (.ref it) (.ref D) ce) (compPost (model X.prog X.w) X.A X.xe use Qf (.ref D) s3.heap.objs.size) s4 := by
    refine compLoop_any (fun n s' => ∃ i H', n = xs.length - i ∧ i ≤ xs.length ∧ Inv (blkH X p s3 H3 scope ce [it]) [] (wipe σ (own.map (·.2))) H' s' ∧ s'.heap.IsListIter it a i ∧ H' it = none ∧ W i H') ?_ xs.length ⟨0, H3, rfl, Nat.zero_le _, J4, st4, n3, w0⟩
    rintro n s5 ⟨i, H5, rfl, hle, I5, st5, n5, w5⟩
    have hq5 := wl i H5 w5
    obtain ⟨its5, rv5, pl5, _⟩ := I5.list hq5
    have hl5 := rv5.length
    obtain ⟨f0, f1, f4, f6, f7, f8⟩ := stat I5 n5 it (by simp)
    by_cases hlt : i < xs.length
    · have hxi : xs[i]? = some xs[i] := List.getElem?_eq_getElem hlt
      obtain ⟨u, hu, ru⟩ := rv5.get hxi
      refine thnF (wpAny_pyNext_list_item (E := fun _ _ => False) st5 pl5.isList (x := u) (by simpa using hu) (Q := fun r s6 => r = some u ∧ ∃ h', s6 = { s5 with heap := h' } ∧ h'.IsListIter it a (i + 1) ∧ Heap.SameBut it s5.heap h') fun h' st' sb => ⟨rfl, h', rfl, st', sb⟩) fun r s6 hr => ?_
      obtain ⟨rfl, h6, rfl, st6, sb6⟩ := hr
      have I6 : Inv (blkH X p s3 H3 scope ce [it]) [] (wipe σ (own.map (·.2))) H5 { s5 with heap := h6 } := I5.turned (t' := s5.toks) (fun b o hb e => (sb6.2 b hb).trans e) f0 f1 f6 f7 f8
      obtain ⟨oi, ei, ci, di⟩ := id st6
      refine go_of (s := { s5 with heap := h6 }) ei ci di (by decide) ?_
      have I7 := I6.pinned (fp := [it]) (stat I6 n5) fun b hb => by
        obtain rfl : b = it := by simpa using hb
        exact ⟨oi, ei, fun v z => by rw [di] at z; cases z⟩
      refine thnF (pg.run _ _ _ H5 xs[i] u _ I7 ru (ws i _ H5 hxi w5)) fun _ s8 hr8 => ?_
      obtain ⟨σ8, H8, I8, hw8, q8⟩ := hr8
      refine thnF (pt.run _ s8 σ8 H8 _ I8 q8) fun b s9 hr9 => ?_
      obtain ⟨H9, I9, q9⟩ := hr9
      have fin : ∀ {s' : Shared} {H' : Hp}, Inv (blkH X p s3 H3 scope ce [it]) ([] ++ pinsAt [it] h6) σ8 H' s' → W (i + 1) H' → ∃ m, m < xs.length - i ∧ ∃ i H', m = xs.length - i ∧ i ≤ xs.length ∧ Inv (blkH X p s3 H3 scope ce [it]) [] (wipe σ (own.map (·.2))) H' s' ∧ s'.heap.IsListIter it a i ∧ H' it = none ∧ W i H' := fun {s' H'} I' w' => by
        have z := I'.pin (it, oi) (List.mem_append_right _ (List.mem_append_right _ (mem_pinsAt (by simp) ei)))
        refine ⟨xs.length - (i + 1), by omega, i + 1, H', rfl, hlt, (I'.unpinned (pins := [])).weak (by rw [← hw8, wipe_length]) (fun j v e => ?_), st6.at fun o e => ?_, z.2.1, w'⟩
        · rw [← hw8] at e
          exact (wipe_some e).1
        · have e' : h6.get? it = some o := e
          rw [ei] at e'
          cases e'
          exact z.1
      cases b with
      | false =>
        simp only [Bool.false_eq_true, if_false] at q9 ⊢
        exact fin I9 q9
      | true =>
        simp only [if_true] at q9 ⊢
        refine thnF (pe.run _ s9 σ8 H9 _ I9 q9) fun z s10 hr10 => ?_
        obtain ⟨yv, H10, I10, r10, acc, hD10, hz10, nx⟩ := hr10
        exact app_ok (X := blkH X p s3 H3 scope ce [it]) I10 hD10 hz10 r10 fun s11 I11 => fin I11 nx
    · have ei : i = xs.length := by omega
      obtain ⟨x1, hot⟩ := (hot_blk (X := X) (p := p) (s := s3) (H := H3) (scope := scope) (cenv := ce) (fp := [it]) hp).at I5
      have hx1 : x1 ≠ it := by
        have e : X.A.handled = some (.ref x1) := hot.1
        rw [hp.1] at e
        cases e
        exact npit
      refine thnF (list_end_hot (E := fun _ _ => False) hot hx1 st5 pl5.isList (by simp; omega) (Q := fun r s6 => r = none ∧ Inv (blkH X p s3 H3 scope ce [it]) [] (wipe σ (own.map (·.2))) H5 s6) fun h' eb => ⟨rfl, I5.turned (t' := s5.toks) (fun b o hb e => eb b o hb e) f0 f1 f6 f7 f8⟩) fun r s6 hr => ?_
      obtain ⟨rfl, I6⟩ := hr
      have I7 : Inv X pins σ H5 s6 := I3.call' (ch := [it]) I6.os I6.base I6.hok I6.bare fun b hb => ⟨(f3 b hb).1.2.2.2.1, (f3 b hb).1.2.1, (f3 b hb).1.2.2.2.2.1, (f3 b hb).1.2.2.2.2.2⟩
      obtain ⟨m, hn, _⟩ := I6.loc
      have hn : s6.heap.Ns ce.locals m := hn
      have nC : H5 ce.locals = none := I6.free
      rw [cL] at hn nC
      rw [ei] at w5
      exact hRR D s3.heap.objs.size s6 m H5 I7 (wd H5 w5) hn (I3.fpOk (Nat.le_refl _) nC)
  exact codeAny_compStart_list go (wpAny_pyIter_listiter st4 go)
end
end Fm

namespace Fm
open PySem PySem.Spec PyProof.Rows L2
section
variable {X : Cx}
/-- name = [..] while an exception is handled -/
theorem ps_setLcH {i : Nat} {y : Str} {py : Pos} {elt tg iter : Expr} {ifs : List Expr} {scope : Scope} {own : List (Str × Nat)} {pos spos : Pos} {ti : TE} {g : TG} {tt : TT} {te : TE} {p : Addr × Obj} (hp : L2H.Hot1 X.A p) (hpn : p ∈ X.pn) (hN : X.N.Nodup) (hy : X.N[i]? = some y) (hyl : X.env.scope.names.lookup y = some .local)
    (hsw : swapsWith (.ListComp elt [⟨tg, iter, ifs, 0⟩] scope pos) (some (.Name y py)) spos.line X.env = pure true) (hi : PE X iter ti) (ok : BlkOk X.N X.env.scope scope own)
    (hg : ∀ (s : Shared) (H : Hp) (C : Addr) (cl : List (Str × Addr)) (fp : List Addr), PG (blkH X p s H scope (compEnvC scope cl C X.env) fp) tg g)
    (ht : ∀ (s : Shared) (H : Hp) (C : Addr) (cl : List (Str × Addr)) (fp : List Addr), PTs (blkH X p s H scope (compEnvC scope cl C X.env) fp) ifs tt)
    (he : ∀ (s : Shared) (H : Hp) (C : Addr) (cl : List (Str × Addr)) (fp : List Addr), PE (blkH X p s H scope (compEnvC scope cl C X.env) fp) elt te)
    (hs : ∀ x, foldedSetIterable iter X.env x = pure x := by intro _; rfl) :
    PS X (.Assign [.Name y py] (.ListComp elt [⟨tg, iter, ifs, 0⟩] scope pos) spos) (tAsg (tLcH X.K ti g tt te (own.map (·.2))) (gName i)) := by
  refine ⟨fun pins s σ H D I h0 => ?_⟩
  have h : tLcH X.K ti g tt te (own.map (·.2)) σ H (fun x H1 => gName i x σ H1 D.nx) := h0
  rw [exec_Assign_Name_used _ _ _ _ hsw]
  refine wpAny_bind (wpAny_standAt (wpAny_bind ?_))
  show wpAny _ X.A (do let _ ← comprehension (.ListComp elt [⟨tg, iter, ifs, 0⟩] scope pos) scope X.env (firstIterPos [⟨tg, iter, ifs, 0⟩] pos) (newList []) false (eval iter X.env) (some (assign (.Name y py) X.env))) _ _ s
  refine wpAny_bind (thn (lc_hot (Qf := fun _ s' => SP X pins D .next s') hp hpn hN I hi ok hg ht he hs h fun L C s' m H' I' q hn f => ?fin) fun _ s' hq => wpAny_pure (wpAny_pure hq))
  obtain ⟨f0, f1, f2, f3, f4, f5⟩ := f
  show wpAny _ _ (assign (.Name y py) X.env (.ref L)) _ _ _
  refine wpAny_assign_Name (store_ok2 (v := V.ref L) I' hN hy (.inl hyl) rfl (fun s2 I2 hx => ?_) (.inr hyl))
  obtain ⟨a, sb, ha⟩ := hx
  have nCa : C ≠ a := ha.elim (fun z => by rw [z]; exact f1) fun z e => f4 y a z e.symm
  exact ⟨m, hn.sameBut sb nCa, fun h3 sb3 => ⟨_, H', I2.turned (t' := s2.toks) (fun b o hb e => (sb3.2 b hb).trans e) f0 f1 f3 f4 f5, q⟩⟩
/-- an exception that came out of a try's body, looked at by its clauses: sI is the state without it -/
structure Gd (X : Cx) (pins : List (Addr × Obj)) (σ : L2.St) (H : Hp) (B : Heap) (sI : Shared) (a : Addr) (cls : Value) (d : Option Addr) (s : Shared) : Prop where
  inv : Inv X pins σ H sI
  nb : ∀ b o, sI.heap.get? b = some o → b ∉ frs X.stack → B.get? b = some o
  up : sI.heap.UpToSlots s.heap
  fl : HandSPX.FlyingZ B (X.env :: X.outer) a (L2N.Zn cls d) s.heap
  na : H a = none
  os : s.os = sI.os
  ag : AllBare s.gens
theorem Gd.at {pins : List (Addr × Obj)} {σ : L2.St} {H : Hp} {B : Heap} {sI s : Shared} {a : Addr} {cls : Value} {d : Option Addr} (G : Gd X pins σ H B sI a cls d s) : Inv X pins σ H s := G.inv.landed G.nb G.fl.1 G.up G.os G.ag
theorem Gd.suite {pins : List (Addr × Obj)} {σ : L2.St} {H : Hp} {B : Heap} {sI s : Shared} {a : Addr} {cls : Value} {d : Option Addr} (hf : X.env.frame = some X.env.locals) (G : Gd X pins σ H B sI a cls d s) :
    ∃ (oe : Obj) (vs : Array Value), s.heap.get? a = some oe ∧ L2N.Zn cls d oe ∧ oe.data = .fields vs ∧ Inv (X.suite a ((a, oe) :: (X.pn ++ pins))) [] σ H s := by
  obtain ⟨oe, vs, ge, ze, de⟩ := G.fl.there
  have nf : a ∉ frs (X.env :: X.outer) := fun hm => by
    obtain ⟨_, o', e', hnf⟩ := G.fl.2.2.1.mem hm
    rw [ge] at e'
    cases e'
    exact hnf _ de
  refine ⟨oe, vs, ge, ze, de, G.at.suite ge de G.na (fun z => nf ?_) fun hm => nf ?_⟩
  · exact List.mem_filterMap.mpr ⟨X.env, List.mem_cons_self, by rw [hf, z]⟩
  · obtain ⟨e, he, q⟩ := List.mem_filterMap.mp hm
    exact List.mem_filterMap.mpr ⟨e, List.mem_cons_of_mem _ he, q⟩
/-- the clause's class, asked of it -/
theorem Gd.ask {pins : List (Addr × Obj)} {σ : L2.St} {H : Hp} {B : Heap} {sI s : Shared} {a : Addr} {cls c : Value} {d : Option Addr} {x : Str} {np : Pos} {b : Bool} {R : Bool → Shared → Prop} {E E' : Value → Shared → Prop} (hf : X.env.frame = some X.env.locals) (G : Gd X pins σ H B sI a cls d s) (hc : Names X x c) (hx : PySem.W.exmOne X.K cls c = some b) (q : R b s) :
    wpAny (model X.prog X.w) (X.A.mark (some (.ref a))) (eval (.Name x np) X.env) (fun v s1 => wpAny (model X.prog X.w) (X.A.mark (some (.ref a))) (excMatches (.ref a) v) R E' s1) E s := by
  obtain ⟨oe, vs, ge, ze, de, S⟩ := G.suite hf
  have LT : PySem.W.Looks (model X.prog X.w) s.heap (typeOf (.ref a)) cls := fun A Q E s k q => wpAny_typeOf_ref (k _ _ ge) (by rw [ze.1]; exact q)
  have LM := PySem.W.exm_one (M := model X.prog X.w) G.at.kIn LT hx
  obtain ⟨hg, hdb, hm | ⟨hm, hv, hnn⟩⟩ := hc
  · exact ld_glob (X := X.suite a ((a, oe) :: (X.pn ++ pins))) S hg hm (LM.here q) hdb
  · exact ld_blt (X := X.suite a ((a, oe) :: (X.pn ++ pins))) S hg hm hv (LM.here q) hnn hdb
theorem Gd.again {pins : List (Addr × Obj)} {σ : L2.St} {H : Hp} {B : Heap} {sI s : Shared} {a : Addr} {cls : Value} {d : Option Addr} {M : Model} {A : Around} {E : Value → Shared → Prop} {Q : Unit → Shared → Prop} (G : Gd X pins σ H B sI a cls d s)
    (k : ∀ h', Gd X pins σ H B sI a cls d { s with heap := h' } → Q () { s with heap := h' }) : wpAny M A (setFlight (.ref a) none) Q E s :=
  HandSPX.lands_againZ G.fl fun h' fl' up' => k h' ⟨G.inv, G.nb, G.up.trans up', fl', G.na, G.os, G.ag⟩
/-- the clauses without a name, one after another -/
theorem Gd.plain {pins : List (Addr × Obj)} {σ : L2.St} {H : Hp} {B : Heap} {sI : Shared} {a : Addr} {cls : Value} {d : Option Addr} {D : Ends} {Wout : WX} (hs : X.stack = X.env :: X.outer) (hf : X.env.frame = some X.env.locals) (tk : L2N.Takes X Wout) :
    ∀ {hds : List ExceptHandler} {l : List (Value × (Addr → Value → Option Addr → TS))}, L2N.HdsOk X hds l → ∀ {s : Shared}, Gd X pins σ H B sI a cls d s → wMany X.K Wout D l cls d σ H → wpAny (model X.prog X.w) X.A (handleBy (.ref a) X.env hds) (SP X pins D) X.xe s := by
  intro hds l hk
  induction hk with
  | nil =>
    intro s G wsh
    refine wpAny_handleBy_nil ?_
    obtain ⟨_, _, _, oe, vs, T, oT, ts', he, hz, hd, h1, _⟩ := id G.fl
    have nT : ¬ ((Value.ref T == Value.none) = true) := by simp
    unfold PySem.passOn
    refine wpAny_bind (wpAny_field he hd h1 ?_)
    rw [if_neg nT]
    have on : wpAny (model X.prog X.w) X.A (setFlight (.ref a) X.env.frame) (fun _ s4 => wpAny (model X.prog X.w) X.A (throw (.ref a) : Sem Flow) (SP X pins D) X.xe s4) X.xe s := by
      rw [hf]
      refine HandSPX.setFlight_upZ G.fl fun h4 hh4 up4 => wpAny_throw (tk _ _ ?_)
      exact ⟨a, B, sI, pins, σ, H, cls, d, rfl, G.inv, G.nb, G.up.trans up4, .inr (.inr (by rw [hs]; exact hh4)), G.na, G.os, G.ag, wsh⟩
    first
      | exact wpAny_bind (wpAny_pure (wpAny_bind on))
      | exact wpAny_bind on
  | cons hc hsu r ih =>
    intro s G wsh
    obtain ⟨b, hb1, hyes, hno⟩ := wsh
    refine wpAny_handleBy_cons (codeAny_handlers_test (G.ask hf hc hb1 ?_)) (by intro q; cases q)
    cases b with
    | true =>
      refine codeAny_handlers_suite (G.again fun h' G' => ?_)
      obtain ⟨oe, vs, ge, ze, de, S⟩ := G'.suite hf
      refine wpAny_mono ((hsu a oe cls d (X.pn ++ pins) ze ⟨_, de⟩).run [] _ _ H _ S (hyes rfl a G.na)) (fun f s6 hsp => ?_) fun _ _ z => z.elim
      have ok := G.inv.ok
      cases f with
      | next => exact (let ⟨σ6, H6, S6, q6⟩ := hsp; ⟨σ6, H6, S6.unsuite ok, q6⟩)
      | brk => exact (let ⟨σ6, H6, S6, q6⟩ := hsp; ⟨σ6, H6, S6.unsuite ok, q6⟩)
      | cont => exact (let ⟨σ6, H6, S6, q6⟩ := hsp; ⟨σ6, H6, S6.unsuite ok, q6⟩)
      | ret u => exact (let ⟨v6, σ6, H6, S6, r6, q6⟩ := hsp; ⟨v6, σ6, H6, S6.unsuite ok, r6, q6⟩)
    | false => exact ih G (hno rfl)
/-- try: body / except x as n: suite / further clauses without a name -/
theorem ps_tryM {x n : Str} {c : Value} {i : Nat} {body suite : List Stmt} {b₀ : Stmt} {hds : List ExceptHandler} {np pos pos' : Pos} {tb : WX → TS} {ts : Addr → Value → Option Addr → TS} {Wout : WX} {l : List (Value × (Addr → Value → Option Addr → TS))}
    (hs : X.stack = X.env :: X.outer) (hf : X.env.frame = some X.env.locals) (hN : X.N.Nodup) (hi : X.N[i]? = some n) (hln : X.env.kindOf n = some .local) (hc : Names X x c) (tk : L2N.Takes X Wout)
    (hb : ∀ (W : WX) (pn : List (Addr × Obj)) (xe : Value → Shared → Prop), L2N.Takes (X.tr pn xe) W → PassesOwn (model X.prog X.w) X.A X.env xe → PSs (X.tr pn xe) body (tb W))
    (hsu : ∀ (a : Addr) (oe : Obj) (cls : Value) (d : Option Addr) (pn : List (Addr × Obj)), L2N.Zn cls d oe → (∃ vs, oe.data = .fields vs) → PSs (X.suite a ((a, oe) :: pn)) (b₀ :: suite) (ts a cls d)) (hh : L2N.HdsOk X hds l) :
    PS X (.Try body (.ExceptHandler (some (.Name x np)) (some n) (b₀ :: suite) pos' :: hds) [] [] pos) (fun D σ H => tb (wAs X.K c i ts (wMany X.K Wout D l) D) D σ H) := by
  refine ⟨fun pins s σ H D I h => ?_⟩
  have ok := I.ok
  have hfr : X.A.frames = some (X.env :: X.outer) := by rw [ok.frames, hs]
  refine wpAny_Try_except (wpAny_mono ((hb (wAs X.K c i ts (wMany X.K Wout D l) D) (X.pn ++ pins) (fun e s1 => wpAny (model X.prog X.w) X.A (noteFrame e X.env) (fun _ s2 => wpAny (model X.prog X.w) X.A (setFlight e none) (fun _ s3 =>
    wpAny (model X.prog X.w) X.A (handleBy e X.env (.ExceptHandler (some (.Name x np)) (some n) (b₀ :: suite) pos' :: hds)) (SP X pins D) X.xe s3) X.xe s2) X.xe s1) (fun u s' xx => ?cat) PassesOwn.looking).run [] s σ H D (I.toTry _) h) (fun f s1 hsp => ?thru) fun e s1 he => he)
  case thru =>
    cases f with
    | next => exact (let ⟨σ', H', J', q⟩ := hsp; wpAny_execs_nil ⟨σ', H', J'.ofTry ok, q⟩)
    | brk => exact (let ⟨σ', H', J', q⟩ := hsp; ⟨σ', H', J'.ofTry ok, q⟩)
    | cont => exact (let ⟨σ', H', J', q⟩ := hsp; ⟨σ', H', J'.ofTry ok, q⟩)
    | ret u => exact (let ⟨v, σ', H', J', r, q⟩ := hsp; ⟨v, σ', H', J'.ofTry ok, r, q⟩)
  case cat =>
    obtain ⟨a, B, sI, pins', σ', H', cls, d, rfl, J', nb, up, sky, na, os, ag, b, hb1, hyes, hno⟩ := xx
    have sky' : Sky B (X.env :: X.outer) a (L2N.Zn cls d) X.env.locals s'.heap := by rw [← hs]; exact sky
    show wpAny (model X.prog X.w) X.A (noteFrame (.ref a) X.env) _ _ _
    refine L2N.Sky.land L2N.Zn.steady hfr hf sky' fun h3 fl3 up3 => ?_
    have G : Gd X pins σ' H' B sI a cls d { s' with heap := h3 } := ⟨J'.ofTry ok, nb, up.trans up3, fl3, na, os, ag⟩
    refine wpAny_handleBy_cons (codeAny_handlers_test (G.ask hf hc hb1 ?_)) (by intro q; cases q)
    cases b with
    | false => exact G.plain hs hf tk hh (hno rfl)
    | true =>
      refine codeAny_handlers_suite_as (G.again fun h4 G4 => ?_)
      obtain ⟨oe, vs, ge, ze, de, S⟩ := G4.suite hf
      refine store_ok (X := X.suite a ((a, oe) :: (X.pn ++ pins))) (v := .ref a) S hN hi (.inl hln) rfl (fun s5 S5 => ?_) (.inr hln)
      refine wpAny_mono ((hsu a oe cls d (X.pn ++ pins) ze ⟨_, de⟩).run [] s5 _ H' _ S5 (hyes rfl a na)) (fun f s6 hsp => ?_) fun _ _ z => z.elim
      have goes : ∀ {σ6 : L2.St} {H6 : Hp} {Q : Shared → Prop}, Inv (X.suite a ((a, oe) :: (X.pn ++ pins))) [] σ6 H6 s6 → (∀ s7, Inv X pins (σ6.set i none) H6 s7 → Q s7) →
          wpAny (model X.prog X.w) X.A (do bindName X.env n .none; unbindBehindTheSuite X.env n pos') (fun _ s7 => Q s7) X.xe s6 := fun S6 hq => gone_ok (S6.unsuite ok) hN hi hln hq
      cases f with
      | next => exact (let ⟨σ6, H6, S6, q6⟩ := hsp; goes S6 fun s7 J7 => ⟨_, _, J7, q6⟩)
      | brk => exact (let ⟨σ6, H6, S6, q6⟩ := hsp; goes S6 fun s7 J7 => ⟨_, _, J7, q6⟩)
      | cont => exact (let ⟨σ6, H6, S6, q6⟩ := hsp; goes S6 fun s7 J7 => ⟨_, _, J7, q6⟩)
      | ret u => exact (let ⟨v6, σ6, H6, S6, r6, q6⟩ := hsp; goes S6 fun s7 J7 => ⟨_, _, _, J7, r6, q6⟩)
end
end Fm

namespace Fm
open PySem PySem.Spec PyProof.Rows L2
/-- what is wanted of an exception that leaves a lambda's frame -/
abbrev lamX (X : Cx) (A : Around) (outer : List Env) (s : Shared) (H : Hp) (E : XK) (scope : Scope) (f c : Addr) : Value → Shared → Prop := fun e s' =>
  wpAny (model X.prog X.w) (A.deeper (LamX.lamEnv X scope s.heap.objs.size f c)) (leaving (LamX.lamEnv X scope s.heap.objs.size f c) e) (fun _ s2 => L2N.CX X.prog X.w outer H s E e s2) (fun e' s2 => L2N.CX X.prog X.w outer H s E e' s2) s'
/-- the context of a lambda's body -/
abbrev lamN (X : Cx) (A : Around) (outer : List Env) (s : Shared) (H : Hp) (E : XK) (scope : Scope) (f c : Addr) : Cx := (LamX.lamCx X A outer s H E scope f c).wish (lamX X A outer s H E scope f c)
/-- what a lambda's body may let out is taken -/
theorem lamN_takes {X : Cx} {A : Around} {outer : List Env} {s : Shared} {H : Hp} {E : XK} {scope : Scope} {f c : Addr} : L2N.Takes (lamN X A outer s H E scope f c) (fun cls d _ H' => E cls d H') :=
  L2N.takes_of (X := lamN X A outer s H E scope f c) (E₁ := fun e' s2 => L2N.CX X.prog X.w outer H s E e' s2) rfl rfl rfl rfl
section
variable {X : Cx}
/-- a(), in the def that got the lambda (made in X at s): what it raises has no context -/
theorem pe_actN {CXg : CXT} {Eg : XK} {Ng : List Str} {qg : Str} {sg : Scope} {g f c : Addr} {cdg pm ctv : Value} {params : Arguments} {body : Expr} {scope : Scope} {k i : Nat} {a : Str} {pn : List (Addr × Obj)} {xe : Value → Shared → Prop} {W : WX} {E : XK} {tb : TE} {p1 p2 : Pos} {pins : List (Addr × Obj)} {σ : L2.St} {H : Hp} {s : Shared}
    (I : Inv X pins σ H s) (L : LamX.LamS X.env.scope scope) (of0 : s.heap.get? f = some (PySem.W.kla_obj "<lambda>" (X.env.qual ++ "<lambda>") params body scope (cloFrom X.env.cells scope.names []) pm c ctv)) (nf : H f = none) (nfr : f ∉ frs X.stack)
    (bnd : bindArgs (PySem.W.kla_fn "<lambda>" (X.env.qual ++ "<lambda>") params body scope (cloFrom X.env.cells scope.names []) pm (.ref c) ctv) ⟨[], []⟩ = pure [])
    (tk : L2N.Takes ((cxOf CXg X.prog X.w X.K X.mg X.base Ng qg sg g cdg X.A X.stack s H Eg).tr pn xe) W) (hr : Room (k + 1) (X.A.deeper (envOfC qg sg s.heap.objs.size g cdg)))
    (hbody : ∀ (A : Around) (outer : List Env) (s : Shared) (H : Hp), Room k (A.deeper (LamX.lamEnv X scope s.heap.objs.size f c)) → PE (lamN X A outer s H E scope f c) body tb)
    (hN : Ng[i]? = some a) (hv : Vis sg a) (hd : (a == ("__debug__" : Str)) = false) (hcd : (a == ("__classdict__" : Str)) = false) :
    PE ((cxOf CXg X.prog X.w X.K X.mg X.base Ng qg sg g cdg X.A X.stack s H Eg).tr pn xe) (.Call (.Name a p1) [] [] p2) (fun σZ HZ Q => (∀ cls d H', E cls d H' → W cls d σZ H') ∧ σZ[i]? = some (some (.ref f)) ∧ HZ c = some (LamX.CodeO c (X.env.qual ++ "<lambda>")) ∧ tb σ HZ Q) := by
  refine ⟨fun pinsZ sZ σZ HZ Q IZ hh => ?_⟩
  obtain ⟨hW, hs, hc, ht⟩ := hh
  refine wpAny_Call_Name_kw (thn ((pe_var (pos := p1) (i := i) hN hv hd hcd).run pinsZ sZ σZ HZ (fun v H1 => v = .ref f ∧ H1 = HZ) IZ ⟨.ref f, hs, rfl, rfl⟩) fun u s1 hu => ?_)
  obtain ⟨v, H1, I1, r1, rfl, rfl⟩ := hu
  obtain rfl : u = Value.ref f := r1
  have of1 := I1.base.keep f _ of0 nf nfr (fun z => nomatch (show f ∈ ([] : List Addr) from z))
  refine PySem.W.callWith_F0 ⟨_, _, _, _, of1⟩ ?_
  obtain ⟨⟨oc, vs, t, hoc, hdc, hvc⟩, _, _⟩ := I1.hok c _ hc
  have rc : codeAny (model X.prog X.w) (X.A.deeper (envOfC qg sg s.heap.objs.size g cdg)) (.call (.ref f) ⟨[], []⟩) (CR (L2N.CX X.prog X.w) (envOfC qg sg s.heap.objs.size g cdg :: X.stack) X.prog X.w H1 s1 Q E) s1 := by
    refine PySem.W.kla_callFunE hr.depth of1 rfl L.co L.gen rfl ⟨c, oc, vs, t, rfl, hoc, hdc, hvc⟩ ?_
    rw [bnd]
    refine wpAny_pure (wpAny_newFunctionEnv (fun y hy => (L.own y hy).2) (fun y hy => absurd hy (by simp)) (fun h₁ hns hsb => ⟨I1.nolimit.fresh _ hsb, ?_⟩) L.kind)
    show codeAny _ _ (.expr body (LamX.lamEnv X scope s1.heap.objs.size f c)) _ _
    have J := LamX.lam_start2 (E := E) (f := f) (c' := c) (tk := s1.toks + ([] : List (Str × Value)).length) I L I1.env0 hr.hd I1.base hns fun b o e => hsb.extBut b o (Nat.ne_of_lt (Heap.lt_size e)) (Heap.get?_push_of_some _ e)
    refine PySem.W.kla_codeExpr (wpAny_mono ((hbody _ _ s1 H1 (hr.deeper _)).run [] _ _ H1 Q (J.wish _) ht) (fun v s' hq => ?_) fun e s' hq => hq)
    obtain ⟨w', H', J', rv, q⟩ := hq
    exact ⟨w', H', J'.os, J'.bare, J'.base, J'.hok, rv, q⟩
  refine wpAny_call (codeAny_mono rc fun r s' hq => ?_)
  cases r with
  | error e => exact tk e s' (L2N.XE.of_call I1 hW hq)
  | ok fl =>
    cases fl with
    | ret u => exact I1.after hq
    | next => exact hq.elim
    | brk => exact hq.elim
    | cont => exact hq.elim
/-- the def that calls what it got: TT is what it makes of the lambda's reading -/
def GivesN (X : Cx) (Ng : List Str) (x : Str) (sg : Scope) (g : Addr) (cdg : Value) (bg : List Stmt) (a : Str) (q : Str) (TT : (XK → Hp → VK → Prop) → Hp → VK → Prop) : Prop :=
  ∀ (f c : Addr) (s : Shared) (H : Hp) (Q : VK) (tl : XK → Hp → VK → Prop), Room 1 (X.A.deeper (envOfC x sg s.heap.objs.size g cdg)) →
    (∀ (W : WX) (pn : List (Addr × Obj)) (xe : Value → Shared → Prop) (E : XK) (p1 p2 : Pos), L2N.Takes ((cxOf C8.CX0 X.prog X.w X.K X.mg X.base Ng x sg g cdg X.A X.stack s H C8.E0).tr pn xe) W →
      PE ((cxOf C8.CX0 X.prog X.w X.K X.mg X.base Ng x sg g cdg X.A X.stack s H C8.E0).tr pn xe) (.Call (.Name a p1) [] [] p2) (fun σZ HZ Q => (∀ cls d H', E cls d H' → W cls d σZ H') ∧ σZ[0]? = some (some (.ref f)) ∧ HZ c = some (LamX.CodeO c q) ∧ tl E HZ Q)) →
    H c = some (LamX.CodeO c q) → TT tl H Q →
    ∃ t, PSs (cxOf C8.CX0 X.prog X.w X.K X.mg X.base Ng x sg g cdg X.A X.stack s H C8.E0).nox bg t ∧ t { nx := fun _ H' => Q .non H', rt := Q } (L2.start Ng [.ref f]) H
/-- x(lambda: body) -/
theorem pe_lamN {T : List (Addr × Str)} {TT : (XK → Hp → VK → Prop) → Hp → VK → Prop} {x a : Str} {g c P : Addr} {k : Nat} {pg : Arguments} {bg : List Stmt} {sg : Scope} {dV kV doc pm cdv ct oc : Value} {an od : Option Addr} {osl : Array (Option Value)} {Ng : List Str}
    {params : Arguments} {body : Expr} {scope : Scope} {t : XK → TE} {p lpos pos : Pos} (hg : Gl X x) (hm : X.mg x = some (.ref g)) (hk : PySem.W.keepIn X.K (.ref g) = true)
    (lk : X.K.lookup g = some ⟨oc, od, .func (PySem.W.fnOf x x pg bg sg dV kV doc pm an cdv ct), osl⟩) (hcg : PySem.W.codeIn X.K cdv x = true) (hb : L2.Binds X.K (PySem.W.fnOf x x pg bg sg dV kV doc pm an cdv ct) [a] []) (Sg : FnScope Ng [a] sg) (hNg : Ng[0]? = some a) (hva : Vis sg a)
    (hG : GivesN X Ng x sg g cdv bg a (X.env.qual ++ "<lambda>") TT)
    (TB : LamX.TabB X.base X.mg c P) (hcode : X.env.code = .ref c) (hmT : (P, X.env.qual ++ "<lambda>") ∈ T) (hu : ∀ p ∈ T, p.1 = P → p.2 = X.env.qual ++ "<lambda>") (hr : Room (k + 2) X.A) (L : LamX.LamS X.env.scope scope) (hdef : defaultsOf params X.env = ([], []))
    (hbind : ∀ (q : Str) (cl : List (Str × Addr)) (pm cv ctv : Value), bindArgs (PySem.W.kla_fn "<lambda>" q params body scope cl pm cv ctv) ⟨[], []⟩ = pure [])
    (hbody : ∀ (A : Around) (outer : List Env) (s : Shared) (H : Hp) (E : XK) (f c : Addr), Room k (A.deeper (LamX.lamEnv X scope s.heap.objs.size f c)) → PE (lamN X A outer s H E scope f c) body (t E))
    (hdb : (x == ("__debug__" : Str)) = false := by decide) (hd : (a == ("__debug__" : Str)) = false := by decide) (hcd : (a == ("__classdict__" : Str)) = false := by decide) :
    PE X (.Call (.Name x p) [.Lambda params body scope lpos] [] pos) (LamX.tLam T TT t) := by
  refine ⟨fun pins s σ H Q I hh => ?_⟩
  obtain ⟨hT, hh⟩ := hh
  refine wpAny_Call_Name_kw (ld_glob I hg hm (PySem.W.callWith_K (h₀ := X.base) I.ok.mod.kin hk ?_ (by rfl) (by rfl)) hdb)
  show wpAny _ _ (spliced ((false, eval (.Lambda params body scope lpos) X.env) :: backTo pos (starEach [] X.env))) _ _ s
  refine Calls.spliced_cons (LamX.lam_make2 I TB hcode hmT hu hT hdef (L.has I.ok) fun f c' pm' ctv H1 s' I1 eN T1 hf hfn hfr hco => Calls.spliced_nil ⟨I1.kIn, ?_⟩)
  have rc : codeAny (model X.prog X.w) X.A (.call (.ref g) ⟨[.ref f], []⟩) (CR C8.CX0 X.stack X.prog X.w H1 s' Q C8.E0) s' := by
    refine LamX.run_ofS (N := Ng) (ps := [a]) (us := [.ref f]) (vs := [.ref f]) lk hcg Sg hr I1.env0 (hb s' [.ref f] I1.kIn rfl) (.cons rfl .nil) rfl fun hr' => ?_
    obtain ⟨t', ht', hq'⟩ := hG f c' s' H1 Q (fun E H' Q' => t E σ H' Q') (hr'.mono (by omega)) (fun W pn xe E p1 p2 tk => pe_actN (i := 0) I1 L hf hfn hfr (hbind _ _ _ _ _) tk hr' (fun A outer s H hr2 => hbody A outer s H E f c' hr2) hNg hva hd hcd) hco (hh H1 eN T1)
    exact ⟨t', ht'.nox, hq'⟩
  refine wpAny_call (codeAny_mono rc fun r s2 hq => ?_)
  cases r with
  | error e => exact (show False from hq).elim
  | ok fl =>
    cases fl with
    | ret u => exact I1.after hq
    | next => exact hq.elim
    | brk => exact hq.elim
    | cont => exact hq.elim
end
section
variable {P : Program} {w : World} {K : PySem.W.Frag} {mg : Str → Option Value} {base : Heap}
end
end Fm

namespace Fm
open PySem PySem.Spec PyProof.Rows L2
theorem pss_by {X : Cx} {body : List Stmt} {t' : TS} (h : ∀ D σ H, t' D σ H → ∃ t, PSs X body t ∧ t D σ H) : PSs X body t' := ⟨fun pins s σ H D I hh => by
  obtain ⟨t, ht, q⟩ := h D σ H hh
  exact ht.run pins s σ H D I q⟩
theorem list6 {α : Type} {l : List α} (h : l.length = 6) : ∃ a b c d e f, l = [a, b, c, d, e, f] := match l, h with
  | [a, b, c, d, e, f], _ => ⟨a, b, c, d, e, f, rfl⟩
theorem takes0N {X : Cx} : L2N.Takes X (fun _ _ _ _ => False) := fun _ _ x => by
  obtain ⟨_, _, _, _, _, _, _, _, _, _, _, _, _, _, _, _, z⟩ := x
  exact z.elim
/-- the names of those that are so -/
theorem names_read {K : PySem.W.Frag} {σ : L2.St} {H : Hp} {Q : VK} {L : Addr} {ts : List V} {ps : List (Str × Bool)} {iS j1 j2 : Nat} (hσ : σ[iS]? = some (some (.ref L))) (hL : H L = some (.lst ts)) (hlen : ts.length = ps.length) (hsm : ps.length ≤ 1000)
    (hts : ∀ (i : Nat) (t : V) (p : Str × Bool), ts[i]? = some t → ps[i]? = some p → ∃ a, t = .ref a ∧ H a = some (.tup [.str p.1, .bl p.2])) (h12 : j1 ≠ j2) (hj1 : j1 < σ.length) (hj2 : j2 < σ.length)
    (hw : ∀ v w, wipe (((wipe σ [j1, j2]).set j1 (some v)).set j2 (some w)) [j1, j2] = wipe σ [j1, j2]) 
    (q : ∀ D H', H D = none → Same H H' → H' D = some (.lst ((ps.filter (·.2)).map fun p => V.str p.1)) → Q (.ref D) H') :
    tLcH K (tVar iS) (gTup K 2 (gCons (gName j1) (gCons (gName j2) gNil))) (tB (tVar j2)) (tVar j1) [j1, j2] σ H Q := by
  refine ⟨.ref L, hσ, L, ts, rfl, SqL.of hL, fun D hD => ⟨fun i H' => Same H H' ∧ H' D = some (.lst (((ps.take i).filter (·.2)).map fun p => V.str p.1)), ⟨Same.updD (Same.refl H) hD, upd_same⟩, fun i H' hP => SqL.of (hP.1 _ _ hL), fun H' hP => ?_, fun i x H' hx hP => ?_⟩⟩
  · rw [hlen, List.take_length] at hP
    exact q D H' hD hP.1 hP.2
  · obtain ⟨sm, hD'⟩ := hP
    have hi : i < ps.length := by
      have := (List.getElem?_eq_some_iff.mp hx).1
      omega
    have hpi : ps[i]? = some ps[i] := List.getElem?_eq_getElem hi
    obtain ⟨a, rfl, ha⟩ := hts i x _ hx hpi
    have l1 : j1 < (wipe σ [j1, j2]).length := by rw [wipe_length]; exact hj1
    have l2 : j2 < ((wipe σ [j1, j2]).set j1 (some (V.str ps[i].1))).length := by rw [List.length_set, wipe_length]; exact hj2
    refine ⟨a, _, rfl, SqT.of (sm _ _ ha), rfl, _, _, rfl, _, _, rfl, rfl, hw _ _, .bl ps[i].2, List.getElem?_set_self l2, ps[i].2, rfl, ?_⟩
    cases hb : ps[i].2 with
    | false =>
      rw [if_neg Bool.false_ne_true]
      refine ⟨sm, ?_⟩
      have ef : List.filter (fun x : Str × Bool => x.2) [ps[i]] = [] := by rw [List.filter_cons, if_neg (by rw [hb]; exact Bool.false_ne_true)]; rfl
      rw [List.take_add_one, hpi, hD', List.filter_append, List.map_append]
      show _ = some (HO.lst (_ ++ List.map _ (List.filter (fun x : Str × Bool => x.2) [ps[i]])))
      rw [ef, List.map_nil, List.append_nil]
    | true =>
      rw [if_pos rfl]
      refine ⟨.str ps[i].1, ?_, _, hD', ?_, Same.updD sm hD, ?_⟩
      · rw [List.getElem?_set_ne (Ne.symm h12), List.getElem?_set_self l1]
      · refine small1000 ?_
        rw [List.length_map]
        exact Nat.le_trans (List.length_filter_le _ _) (by rw [List.length_take]; omega)
      · have ef : List.filter (fun x : Str × Bool => x.2) [ps[i]] = [ps[i]] := by rw [List.filter_cons, if_pos hb]; rfl
        rw [upd_same, List.take_add_one, hpi, List.filter_append, List.map_append]
        show _ = some (HO.lst (_ ++ List.map _ (List.filter (fun x : Str × Bool => x.2) [ps[i]])))
        rw [ef]
        rfl
/-- all classes of refusals under MirrorError -/
def mirNames : List Str := ["NoGround", "NoNumber", "NoRow", "NoTable", "NoForm", "NoKeeper", "NoWorth", "NoSeat", "NoFour", "NoPlace", "NoClaim", "NoText", "NoSaying", "TooMany", "NotKept"]
/-- the class at C is the one named nm among them, of errors without a dict -/
structure MirC (K : PySem.W.Frag) (C : Addr) (nm : Str) : Prop where
  exc : ExcC K C
  kit : ∀ x ∈ mirNames, PySem.W.kitOne K (.ref C) (.ref (He.ga K x)) = some (decide (x = nm))
  ve : PySem.W.kitOne K (.ref C) (.type "ValueError") = some true
  exm : PySem.W.exmOne K (.ref C) (.ref (He.ga K "MirrorError")) = some true
  one : mirNames.filter (fun x => decide (x = nm)) = [nm]
theorem mir_told {l : List Str} {nm : Str} (h : l.filter (fun x => decide (x = nm)) = [nm]) : ((l.map fun x => (x, decide (x = nm))).filter (·.2)).map (fun p => V.str p.1) = [V.str nm] := by
  rw [List.filter_map]
  show List.map _ (List.map _ (l.filter fun x => decide (x = nm))) = _
  rw [h]
  rfl
def excCB (K : PySem.W.Frag) (D : Addr) : Bool :=
  He.eqO (PySem.W.findIn K (.ref D) "__getattribute__") (some (some (.builtin "BaseException.__getattribute__"))) && (He.eqO (PySem.W.findIn K (.ref D) "__getattr__") (some none) && (decide (PySem.W.subIn K (.ref D) (.type "BaseException") = some true) && (PySem.W.hasDictIn K D &&
  (He.eqO (PySem.W.findIn K (.ref D) "__class__") (some (some (.builtin "object.__class__"))) && (He.eqO (PySem.W.specialIn K (.builtin "object.__class__") "__get__") (some (some (.builtin "getset_descriptor.__get__"))) && (decide (PySem.W.takesIn K (.builtin "object.__class__") = some true) && decide (PySem.W.mroIn K D (.type "object") = some true)))))))
theorem excCB_ok {K : PySem.W.Frag} {D : Addr} (h : excCB K D = true) : ExcC K D := by
  unfold excCB at h
  obtain ⟨h1, h⟩ := He.ba h
  obtain ⟨h2, h⟩ := He.ba h
  obtain ⟨h3, h⟩ := He.ba h
  obtain ⟨h4, h⟩ := He.ba h
  obtain ⟨h5, h⟩ := He.ba h
  obtain ⟨h6, h⟩ := He.ba h
  obtain ⟨h7, h8⟩ := He.ba h
  exact ⟨He.eqO_ok h1, He.eqO_ok h2, of_decide_eq_true h3, h4, He.eqO_ok h5, He.eqO_ok h6, of_decide_eq_true h7, of_decide_eq_true h8⟩
/-- what the written part must say of the class named nm -/
def mirB (K : PySem.W.Frag) (nm : Str) : Bool :=
  excCB K (He.ga K nm) && ((mirNames.all fun x => decide (PySem.W.kitOne K (.ref (He.ga K nm)) (.ref (He.ga K x)) = some (decide (x = nm)))) && (decide (PySem.W.kitOne K (.ref (He.ga K nm)) (.type "ValueError") = some true) && decide (PySem.W.exmOne K (.ref (He.ga K nm)) (.ref (He.ga K "MirrorError")) = some true)))
theorem mirB_ok {K : PySem.W.Frag} {nm : Str} (h : mirB K nm = true) (h1 : mirNames.filter (fun x => decide (x = nm)) = [nm]) : MirC K (He.ga K nm) nm := by
  unfold mirB at h
  obtain ⟨a, h⟩ := He.ba h
  obtain ⟨b, h⟩ := He.ba h
  obtain ⟨c, d⟩ := He.ba h
  exact ⟨excCB_ok a, fun x hx => of_decide_eq_true (List.all_eq_true.mp b x hx), of_decide_eq_true c, of_decide_eq_true d, h1⟩
/-- the suite of the first clause, as read: the class's name is told -/
def tsMir (K : PySem.W.Frag) (iE : Nat) (n : Nat) : Addr → Value → Option Addr → TS := fun a cls d D σ H => ∃ C nm, cls = .ref C ∧ d = none ∧ MirC K C nm ∧ σ[iE]? = some (some (.ref a)) ∧ σ.length = n ∧ ∀ H', Same H H' → D.rt (.str nm) H'
/-- what _law_refusal makes of the lambda's reading: None, or the name of what is raised -/
def TTref (K : PySem.W.Frag) : (XK → Hp → VK → Prop) → Hp → VK → Prop := fun tl H Q => tl (fun cls d H' => (∃ C nm, cls = .ref C ∧ d = none ∧ MirC K C nm ∧ ∀ H'', Same H' H'' → Q (.str nm) H'') ∨
  (∃ C, cls = .ref C ∧ PySem.W.exmOne K cls (.ref (He.ga K "MirrorError")) = some false ∧ PySem.W.exmOne K cls (.ref (He.ga K "OverNought")) = some true ∧ Q (.str "OverNought") H') ∨
  (∃ C, cls = .ref C ∧ PySem.W.exmOne K cls (.ref (He.ga K "MirrorError")) = some false ∧ PySem.W.exmOne K cls (.ref (He.ga K "OverNought")) = some false ∧ PySem.W.exmOne K cls (.ref (He.ga K "Flat")) = some true ∧ Q (.str "Flat") H')) H (fun _ H' => Q .non H')
section
variable {P : Program} {w : World} {K : PySem.W.Frag} {mg : Str → Option Value} {base : Heap} {x qual : Str} {params : Arguments} {body : List Stmt} {scope : Scope} {dvs : List V} {kws : List (Str × V)} {f c : Addr} {fd : FuncData}
/-- as F.ok, where the def's code object is known -/
def CodeAt (K : PySem.W.Frag) (f c : Addr) : Prop := ∀ (oc : Value) (od : Option Addr) (fd : FuncData) (osl : Array (Option Value)), K.lookup f = some ⟨oc, od, .func fd, osl⟩ → fd.code = .ref c
theorem okC {CX : CXT} {N ps : List Str} {k : Nat} {sp : Sp} (F : FunD K x qual params body scope dvs kws f fd) (hC : CodeAt K f c) (S : FnScope N ps scope) (len : ∀ vs H Q E, sp vs H Q E → vs.length = ps.length)
    (hbody : ∀ (A : Around) (outer : List Env) (s : Shared) (H : Hp) (vs : List V) (Q : VK) (E : XK), Room k (A.deeper (envOfC qual scope s.heap.objs.size f (.ref c))) → sp vs H Q E →
      ∃ t, PSs (cxOf CX P w K mg base N qual scope f (.ref c) A outer s H E) body t ∧ t { nx := fun _ H' => Q .non H', rt := Q } (start N vs) H) : FnOk P w K mg base CX (k + 1) f fd ps sp := by
  obtain ⟨oc, od, dV, kV, doc, pm, an, cdv, ct, osl, rfl, lk, hcd, _, _⟩ := F.ex
  have e : cdv = .ref c := hC _ _ _ _ lk
  subst e
  exact fn_of lk hcd S len fun A outer s H vs Q E hr hsp => hbody A outer s H vs Q E hr hsp
theorem codeAt_of {p : He.Defn} (F : FunD K x qual params body scope dvs kws (He.fAd K p) fd) : CodeAt K (He.fAd K p) (He.codeOf K p) := by
  obtain ⟨oc, od, dV, kV, doc, pm, an, cdv, ct, osl, rfl, lk, hcd, _, _⟩ := F.ex
  obtain ⟨c, rfl⟩ := He.codeIn_ref hcd
  intro oc' od' fd' osl' lk'
  have e := lk.symm.trans lk'
  cases e
  rw [He.codeOf_eq lk rfl]
end
section
variable {X : Cx}
/-- x(lambda: body), x by its facts -/
theorem pe_lamF {T : List (Addr × Str)} {TT : (XK → Hp → VK → Prop) → Hp → VK → Prop} {x a : Str} {g c P : Addr} {k : Nat} {pg : Arguments} {bg : List Stmt} {sg : Scope} {fd : FuncData} {Ng : List Str} {params : Arguments} {body : Expr} {scope : Scope} {t : XK → TE} {p lpos pos : Pos}
    (F : FunD X.K x x pg bg sg [] [] g fd) (hb : L2.Binds X.K fd [a] []) (hg : Gl X x) (hm : X.mg x = some (.ref g)) (Sg : FnScope Ng [a] sg) (hNg : Ng[0]? = some a) (hva : Vis sg a) (hG : ∀ cdv, GivesN X Ng x sg g cdv bg a (X.env.qual ++ "<lambda>") TT)
    (TB : LamX.TabB X.base X.mg c P) (hcode : X.env.code = .ref c) (hmT : (P, X.env.qual ++ "<lambda>") ∈ T) (hu : ∀ p ∈ T, p.1 = P → p.2 = X.env.qual ++ "<lambda>") (hr : Room (k + 2) X.A) (L : LamX.LamS X.env.scope scope) (hdef : defaultsOf params X.env = ([], []))
    (hbind : ∀ (q : Str) (cl : List (Str × Addr)) (pm cv ctv : Value), bindArgs (PySem.W.kla_fn "<lambda>" q params body scope cl pm cv ctv) ⟨[], []⟩ = pure [])
    (hbody : ∀ (A : Around) (outer : List Env) (s : Shared) (H : Hp) (E : XK) (f c : Addr), Room k (A.deeper (LamX.lamEnv X scope s.heap.objs.size f c)) → PE (lamN X A outer s H E scope f c) body (t E))
    (hdb : (x == ("__debug__" : Str)) = false := by decide) (hd : (a == ("__debug__" : Str)) = false := by decide) (hcd : (a == ("__classdict__" : Str)) = false := by decide) :
    PE X (.Call (.Name x p) [.Lambda params body scope lpos] [] pos) (LamX.tLam T TT t) := by
  obtain ⟨oc, od, dV, kV, doc, pm, an, cdv, ct, osl, rfl, lk, hcd', _, _⟩ := F.ex
  exact pe_lamN hg hm F.kp lk hcd' hb Sg hNg hva (hG cdv) TB hcode hmT hu hr L hdef hbind hbody hdb hd hcd
end
end Fm

namespace Fm
open PySem PySem.Spec PyProof.Rows L2
/-! ### xs[::-2]: some of the items -/
theorem vals_pick {xs : List V} {its : List Value} (r : Vals xs its) : ∀ R : List Nat, Vals (R.filterMap (xs[·]?)) (R.filterMap (its[·]?))
  | [] => .nil
  | i :: R => by
    have ih := vals_pick r R
    rw [List.filterMap_cons, List.filterMap_cons]
    have hl := r.length
    cases e : xs[i]? with
    | none =>
      have e2 : its[i]? = none := by
        rw [List.getElem?_eq_none_iff] at e ⊢
        omega
      simp only [e2]
      exact ih
    | some x =>
      obtain ⟨u, hu, ru⟩ := r.get e
      simp only [hu]
      exact .cons ru ih
def tStep2 (K : PySem.W.Frag) (te : TE) : TE := fun σ H Q => te σ H fun x H1 => ∃ a xs, x = .ref a ∧ SqL K H1 a xs ∧ ∀ p ys, H1 p = none → ys.length ≤ xs.length → (∀ y ∈ ys, y ∈ xs) → Q (.ref p) (upd H1 p (.lst ys))
theorem pe_step2 {X : Cx} {e : Expr} {te : TE} {k : Nat} {p1 p2 p3 pos : Pos} (he : PE X e te) : PE X (.Subscript e (.Slice none none (some (.UnaryOp .USub (.Constant (.int 2) k p1) p2)) p3) pos) (tStep2 X.K te) := by
  refine ⟨fun pins s σ H Q I h => ?_⟩
  refine Subscript_ (thn (he.run pins s σ H _ I h) fun v s1 hr => ?_)
  obtain ⟨x, H1, I1, r1, a, xs, rfl, hx, q⟩ := hr
  cases r1
  have hst : PO X (some (.UnaryOp .USub (.Constant (.int 2) k p1) p2)) (tPart (tUn (rU fun i => .int (-i)) (tC (.int 2)))) := po_some (pe_un un_neg pe_int)
  refine wpAny_Slice (thn (po_none.run pins s1 σ H1 (fun o H2 => o = none ∧ H2 = H1) I1 ⟨rfl, rfl⟩) fun vl s2 hr2 => ?_)
  obtain ⟨l, H2, I2, pl, rfl, rfl⟩ := hr2
  refine thn (po_none.run pins s2 σ H2 (fun o H3 => o = none ∧ H3 = H2) I2 ⟨rfl, rfl⟩) fun vu s3 hr3 => ?_
  obtain ⟨u, H3, I3, pu, rfl, rfl⟩ := hr3
  refine thn (hst.run pins s3 σ H3 (fun o H4 => o = some (-2) ∧ H4 = H3) I3 ⟨2, rfl, -2, rfl, rfl, rfl⟩) fun vs s4 hr4 => ?_
  obtain ⟨o, H4, I4, ps, rfl, rfl⟩ := hr4
  have I5 : Inv X pins σ H4 { s4 with heap := s4.heap.push { cls := .type "slice", data := .fields #[vl, vu, vs] } } := I4.kept (t' := s4.toks) fun b ob e => Heap.get?_push_of_some _ e
  obtain ⟨its, r, ht, hz⟩ := I5.list hx
  have hlen := r.length
  show wpAny (model X.prog X.w) X.A (subscriptTail e (.Slice none none (some (.UnaryOp .USub (.Constant (.int 2) k p1) p2)) p3) (.ref a) (.ref s4.heap.objs.size)) (EP X pins σ Q) X.xe _
  refine tail_any (ops := [.ref a, .ref s4.heap.objs.size]) ht.isList.typeIs (PySem.slot_list_getitem.lookup) ?_ (by with_unfolding_all rfl)
  refine wpAny_getItem_list_slice ht.isList (Heap.IsSliceOf.new _ vl vu vs) pl pu ps (by decide) ?_ (by rw [List.size_toArray]; omega)
  have hsz := slicePick_size_le its.toArray none none (some (-2))
  have hp : slicePick its.toArray none none (some (-2)) = ((sliceRange (sliceBounds none none (some (-2)) its.length).1 (sliceBounds none none (some (-2)) its.length).2.1 (sliceBounds none none (some (-2)) its.length).2.2).filterMap (its[·]?)).toArray := by
    unfold slicePick
    simp
  rw [hp] at hsz ⊢
  generalize sliceRange _ _ _ = R at hsz ⊢
  have rv := vals_pick r R
  have hl2 := rv.length
  simp only [List.size_toArray] at hsz
  refine ⟨.ref _, _, I5.laid (t' := s4.toks) (o := .lst (R.filterMap (xs[·]?))) (fun b ob e => Heap.get?_push_of_some _ e) (Nat.le_refl _) ⟨by omega, _, 0, rv, Heap.get?_push_size _ rfl⟩, rfl, q _ _ (I5.hok.fresh (Nat.le_refl _)) (by omega) fun y hy => ?_⟩
  obtain ⟨i, _, e⟩ := List.mem_filterMap.mp hy
  exact List.mem_of_getElem? e
theorem w_step2 {K : PySem.W.Frag} {te : TE} {σ : L2.St} {H : Hp} {Q : VK} (h : te σ H fun x H1 => ∃ a xs, x = .ref a ∧ SqL K H1 a xs ∧ ∀ p ys, H1 p = none → ys.length ≤ xs.length → (∀ y ∈ ys, y ∈ xs) → Q (.ref p) (upd H1 p (.lst ys))) : tStep2 K te σ H Q := h
theorem w_par3 {i j l : Nat} {as : TA} {D : Ends} {σ : L2.St} {H : Hp} (h : as σ H fun vs H1 => ∃ u v w, vs = [u, v, w] ∧ D.nx (((σ.set i (some u)).set j (some v)).set l (some w)) H1) : tPar3 i j l as D σ H := h
theorem w_ex3 {a b c : V} {R : V → V → V → Prop} (h : R a b c) : ∃ u v w, [a, b, c] = [u, v, w] ∧ R u v w := ⟨a, b, c, rfl, h⟩
theorem w_bits {to : TE} {σ : L2.St} {H : Hp} {Q : VK} (h : to σ H fun x H1 => ∃ i, x = .int i ∧ Q (.int (Builtin.Int.intBits i : Nat)) H1) : tBits to σ H Q := h
/-! ### whole roots by value -/
def isqrt : Nat → Nat
  | 0 => 0
  | n + 1 => if (isqrt n + 1) * (isqrt n + 1) ≤ n + 1 then isqrt n + 1 else isqrt n
theorem isqrt_spec (n : Nat) : RootOf n (isqrt n) := by
  induction n with
  | zero => exact ⟨Nat.le_refl _, by decide⟩
  | succ n ih =>
    obtain ⟨h1, h2⟩ := ih
    unfold isqrt
    split
    · rename_i h
      refine ⟨h, ?_⟩
      have : (isqrt n + 1 + 1) * (isqrt n + 1 + 1) = (isqrt n + 1) * (isqrt n + 1) + 2 * isqrt n + 3 := by grind
      omega
    · rename_i h
      exact ⟨by omega, by omega⟩
theorem root_is {n r : Nat} (h : RootOf n r) : r = isqrt n := root_uniq h (isqrt_spec n)
/-- the root on a wheel: the first one -/
def wroot (g a : Int) : Option Int := ((List.range g.toNat).map fun (i : Nat) => (i : Int)).find? fun i => decide ((i * i).fmod g = a)
/-- the root of a number, as both sides reckon it -/
def rootV (g : Int) (a : Int × Int) : Option (Int × Int) :=
  if g = 0 then (if a.1 < 0 then none else if (isqrt a.1.toNat : Int) * (isqrt a.1.toNat : Int) = a.1 ∧ (isqrt a.2.toNat : Int) * (isqrt a.2.toNat : Int) = a.2 then some ((isqrt a.1.toNat : Int), (isqrt a.2.toNat : Int)) else none) else (wroot g a.1).map fun i => (i, 1)
/-- None, or a number -/
def OptV (H : Hp) (v : V) : Option (Int × Int) → Prop
  | none => v = .non
  | some r => NumV H v r
theorem OptV.kt {H H' : Hp} {v : V} {o : Option (Int × Int)} (h : OptV H v o) (k : Kt H H') : OptV H' v o := by
  cases o with
  | none => exact h
  | some r => exact NumV.kt h k
/-- a number of the ground g, below 2 ^ k -/
def TN (g : Int) (k : Nat) (a : Int × Int) : Prop := ((g = 0 ∧ Red a) ∨ (0 < g ∧ 0 ≤ a.1 ∧ a.1 < g ∧ a.2 = 1)) ∧ a.1.natAbs < 2 ^ k ∧ a.2.natAbs < 2 ^ k
theorem TN.mono {g : Int} {k l : Nat} {a : Int × Int} (h : TN g k a) (hl : k ≤ l) : TN g l a := ⟨h.1, Nat.lt_of_lt_of_le h.2.1 (Nat.pow_le_pow_right (by decide) hl), Nat.lt_of_lt_of_le h.2.2 (Nat.pow_le_pow_right (by decide) hl)⟩
theorem TN.pos {g : Int} {k : Nat} {a : Int × Int} (h : TN g k a) : 0 < a.2 := by
  rcases h.1 with ⟨_, h⟩ | ⟨_, _, _, h⟩
  · exact h.1
  · omega
theorem TN.num {g : Int} {k : Nat} {a : Int × Int} (h : TN g k a) : numOk g [.int a.1, .int a.2] = true := by
  rcases h.1 with ⟨rfl, hr⟩ | ⟨hg, h1, h2, h3⟩
  · rw [numOk_0, decide_eq_true (show 1 ≤ a.2 from hr.1), hr.2]
    rfl
  · rw [numOk_g (by omega), decide_eq_true h1, decide_eq_true h2, decide_eq_true h3]
    rfl
def Gr5 (g : Int) : Prop := g = 3 ∨ g = 5 ∨ g = 7 ∨ g = 11 ∨ g = 13
/-- on a wheel what is no multiple has a back -/
theorem inv_of {g d : Int} (hg : Gr5 g) (hd : d.fmod g ≠ 0) : ∃ f : Int, 1 ≤ f ∧ f ≤ 13 ∧ (f * d).fmod g = 1 := by
  have g0 : 0 < g := by unfold Gr5 at hg; omega
  have e : ∀ f : Int, (f * d).fmod g = (f * d.fmod g).fmod g := fun f => by
    rw [fmod_pos _ g0, fmod_pos _ g0, fmod_pos _ g0, Int.mul_emod f (d % g), Int.emod_emod_of_dvd d (Int.dvd_refl g), ← Int.mul_emod]
  have r0 : 0 ≤ d.fmod g := by rw [fmod_pos _ g0]; exact Int.emod_nonneg _ (by omega)
  have r1 : d.fmod g < g := by rw [fmod_pos _ g0]; exact Int.emod_lt_of_pos _ g0
  simp only [e]
  generalize d.fmod g = r at hd r0 r1 ⊢
  have key : ∀ g ∈ [3, 5, 7, 11, 13], ∀ r ∈ List.range g, r ≠ 0 → ∃ f ∈ List.range 14, 1 ≤ f ∧ ((f : Int) * (r : Int)).fmod (g : Int) = 1 := by decide +kernel
  obtain ⟨n, rfl⟩ := Int.eq_ofNat_of_zero_le r0
  have mk : ∀ m : Nat, m ∈ [3, 5, 7, 11, 13] → (n : Int) < m → ∃ f : Int, 1 ≤ f ∧ f ≤ 13 ∧ (f * (n : Int)).fmod (m : Int) = 1 := fun m hm hn => by
    obtain ⟨f, hf, h1, h2⟩ := key m hm n (List.mem_range.mpr (by omega)) (by omega)
    exact ⟨f, by omega, by have := List.mem_range.mp hf; omega, h2⟩
  unfold Gr5 at hg
  rcases hg with rfl | rfl | rfl | rfl | rfl
  · exact mk 3 (by decide) r1
  · exact mk 5 (by decide) r1
  · exact mk 7 (by decide) r1
  · exact mk 11 (by decide) r1
  · exact mk 13 (by decide) r1
/-- what comes of lowest terms is a number -/
theorem tn_low {g u d : Int} {k : Nat} (hg : g = 0 ∨ Gr5 g) (hd : d ≠ 0) (hg2 : g ≠ 0 → d.fmod g ≠ 0) (hk : 4 ≤ k) (h1 : u.natAbs < 2 ^ k) (h2 : d.natAbs < 2 ^ k) : TN g k (lowF g u d) := by
  have g13 : g ≤ 13 := by unfold Gr5 at hg; omega
  obtain ⟨b1, b2, b3⟩ := low_bd (g := g) (u := u) g13 hd hk h1 h2
  refine ⟨?_, b1, b2⟩
  rcases hg with rfl | hg
  · exact .inl ⟨rfl, (low0_red hd).1⟩
  · have g0 : 0 < g := by unfold Gr5 at hg; omega
    obtain ⟨f, f1, f2, f3⟩ := inv_of hg (hg2 (by omega))
    refine .inr ⟨g0, ?_⟩
    rw [low_inv g0 f3]
    refine ⟨?_, ?_, rfl⟩
    · show 0 ≤ (u * f).fmod g
      rw [fmod_pos _ g0]
      exact Int.emod_nonneg _ (by omega)
    · show (u * f).fmod g < g
      rw [fmod_pos _ g0]
      exact Int.emod_lt_of_pos _ g0
theorem one_fmod {g : Int} (hg : Gr5 g) : (1 : Int).fmod g ≠ 0 := by
  unfold Gr5 at hg
  rcases hg with rfl | rfl | rfl | rfl | rfl <;> decide
theorem TN.bd {g : Int} {k : Nat} {a : Int × Int} (h : TN g k a) (hk : k ≤ 3000) : PBd a := ⟨(h.mono hk).2.1, (h.mono hk).2.2, by have := h.pos; omega⟩
theorem tn_times {g : Int} {k l : Nat} {a c : Int × Int} (hg : g = 0 ∨ Gr5 g) (ha : TN g k a) (hc : TN g l c) (hk : 4 ≤ k) : TN g (k + l) (timesF g a c) := by
  have ha2 := ha.pos
  have hc2 := hc.pos
  refine tn_low hg (Int.mul_ne_zero (by omega) (by omega)) (fun z => ?_) (by omega) (wide_lt ha.2.1 hc.2.1) (wide_lt ha.2.2 hc.2.2)
  rcases ha.1 with ⟨e, _⟩ | ⟨_, _, _, e⟩
  · exact absurd e z
  · rcases hc.1 with ⟨e2, _⟩ | ⟨_, _, _, e2⟩
    · exact absurd e2 z
    · rw [e, e2]
      exact one_fmod (hg.resolve_left z)
theorem tn_plus {g : Int} {k l : Nat} {a c : Int × Int} (hg : g = 0 ∨ Gr5 g) (ha : TN g k a) (hc : TN g l c) (hk : 4 ≤ k) : TN g (k + l + 1) (plusF g a c) := by
  have ha2 := ha.pos
  have hc2 := hc.pos
  have b1 : (a.1 * c.2 + c.1 * a.2).natAbs < 2 ^ (k + l + 1) := by
    have h1 := wide_lt ha.2.1 hc.2.2
    have h2 := wide_lt hc.2.1 ha.2.2
    rw [Nat.add_comm l k] at h2
    rw [Nat.pow_succ]
    generalize 2 ^ (k + l) = z at h1 h2 ⊢
    omega
  refine tn_low hg (Int.mul_ne_zero (by omega) (by omega)) (fun z => ?_) (by omega) b1 (Nat.lt_of_lt_of_le (wide_lt ha.2.2 hc.2.2) (Nat.pow_le_pow_right (by decide) (by omega)))
  rcases ha.1 with ⟨e, _⟩ | ⟨_, _, _, e⟩
  · exact absurd e z
  · rcases hc.1 with ⟨e2, _⟩ | ⟨_, _, _, e2⟩
    · exact absurd e2 z
    · rw [e, e2]
      exact one_fmod (hg.resolve_left z)
def minusF (g : Int) (a : Int × Int) : Int × Int := lowF g (0 - a.1) a.2
theorem tn_minus {g : Int} {k : Nat} {a : Int × Int} (hg : g = 0 ∨ Gr5 g) (ha : TN g k a) (hk : 4 ≤ k) : TN g k (minusF g a) := by
  have ha2 := ha.pos
  refine tn_low hg (by omega) (fun z => ?_) hk (by have := ha.2.1; omega) ha.2.2
  rcases ha.1 with ⟨e, _⟩ | ⟨_, _, _, e⟩
  · exact absurd e z
  · rw [e]
    exact one_fmod (hg.resolve_left z)
/-- the root of a number is a number -/
theorem root_num {g : Int} {k : Nat} {a r : Int × Int} (ha : TN g k a) (h : rootV g a = some r) : numOk g [.int r.1, .int r.2] = true := by
  unfold rootV at h
  rcases ha.1 with ⟨rfl, h1, h2⟩ | ⟨hg, h1, h2, h3⟩
  · rw [if_pos rfl] at h
    split at h
    · cases h
    · split at h
      · rename_i h0 hh
        obtain ⟨e1, e2⟩ := hh
        cases h
        generalize (isqrt a.1.toNat : Int) = p at e1 ⊢
        generalize hq : (isqrt a.2.toNat : Int) = q at e2 ⊢
        have q0 : 0 ≤ q := by omega
        have qp : 0 < q := by
          rcases Int.lt_or_eq_of_le q0 with z | z
          · exact z
          · rw [← z] at e2
            omega
        rw [← e1, ← e2] at h2
        have hg2 : Int.gcd p q = 1 := by
          have d1 : (Int.gcd p q : Int) ∣ p * p := Int.dvd_trans (Int.gcd_dvd_left p q) (Int.dvd_mul_right p p)
          have d2 : (Int.gcd p q : Int) ∣ q * q := Int.dvd_trans (Int.gcd_dvd_right p q) (Int.dvd_mul_right q q)
          have d3 := Int.dvd_coe_gcd d1 d2
          rw [h2] at d3
          have d4 : Int.gcd p q ∣ 1 := Int.ofNat_dvd.mp d3
          exact Nat.dvd_one.mp d4
        rw [numOk_0, decide_eq_true (show 1 ≤ q from qp), hg2]
        rfl
      · cases h
  · rw [if_neg (by omega)] at h
    cases e : wroot g a.1 with
    | none =>
      rw [e] at h
      cases h
    | some i =>
      rw [e] at h
      cases h
      obtain ⟨n, hn, rfl⟩ := List.mem_map.mp (List.mem_of_find?_eq_some e)
      have := List.mem_range.mp hn
      rw [numOk_g (by omega), decide_eq_true (show 0 ≤ (n : Int) by omega), decide_eq_true (show (n : Int) < g by omega)]
      rfl
/-! ### numbers compared -/
theorem w_neBl {H : Hp} {Q : VK} {a b : Bool} (e : a = b) (q : Q (.bl false) H) : rNe (.bl a) (.bl b) H Q := by
  subst e
  refine ⟨rfl, ?_⟩
  show Q (.bl (!decide (V.bl a = V.bl a))) H
  rw [decide_eq_true rfl]
  exact q
theorem w_eqStr {H : Hp} {Q : VK} {a b : Str} (q : Q (.bl (decide (a = b))) H) : rEq (.str a) (.str b) H Q := by
  refine ⟨rfl, ?_⟩
  have e : decide (V.str a = V.str b) = decide (a = b) := by
    by_cases h : a = b
    · rw [decide_eq_true h, decide_eq_true (by rw [h])]
    · rw [decide_eq_false h, decide_eq_false (fun z => h (V.str.inj z))]
  show Q (.bl (decide (V.str a = V.str b))) H
  rw [e]
  exact q
theorem w_neStr {H : Hp} {Q : VK} {a b : Str} (q : Q (.bl (!decide (a = b))) H) : rNe (.str a) (.str b) H Q := by
  refine ⟨rfl, ?_⟩
  have e : decide (V.str a = V.str b) = decide (a = b) := by
    by_cases h : a = b
    · rw [decide_eq_true h, decide_eq_true (by rw [h])]
    · rw [decide_eq_false h, decide_eq_false (fun z => h (V.str.inj z))]
  show Q (.bl (!decide (V.str a = V.str b))) H
  rw [e]
  exact q
theorem num_eqv (a b : Int × Int) : PyData.eqv (numD a) (numD b) = decide (a = b) := by
  obtain ⟨a1, a2⟩ := a
  obtain ⟨b1, b2⟩ := b
  by_cases h1 : a1 = b1
  · by_cases h2 : a2 = b2
    · subst h1 h2
      rw [decide_eq_true rfl]
      exact SeqAt.eqv_refl _ (by simp [numD, PyData.canLay0, PyData.canLayAll0])
    · rw [decide_eq_false (by intro z; cases z; exact h2 rfl)]
      simp [numD, PyData.eqv, PyData.eqvAll, h1, h2]
  · rw [decide_eq_false (by intro z; cases z; exact h1 rfl)]
    simp [numD, PyData.eqv, PyData.eqvAll, h1]
theorem num_shaped (a : Int × Int) : SeqAt.shaped (numD a) = true := shaped_of (by simp [numD, PyData.canLay0, PyData.canLayAll0]) (by simp [numD, PyData.depth, PyData.depthAll])
theorem w_eqNum {K : PySem.W.Frag} {H : Hp} {Q : VK} {v v' : V} {a b : Int × Int} (h1 : NumV H v a) (h2 : NumV H v' b) (q : Q (.bl (decide (a = b))) H) : rEqD K v v' H Q := by
  refine ⟨_, _, NumV.dp h1, NumV.dp h2, num_shaped a, num_shaped b, ?_⟩
  rw [num_eqv]
  exact q
theorem w_neNum {K : PySem.W.Frag} {H : Hp} {Q : VK} {v v' : V} {a b : Int × Int} (h1 : NumV H v a) (h2 : NumV H v' b) (q : Q (.bl (!decide (a = b))) H) : rNeD K v v' H Q := by
  refine ⟨_, _, NumV.dp h1, NumV.dp h2, num_shaped a, num_shaped b, ?_⟩
  rw [num_eqv]
  exact q
theorem w_eqNil {K : PySem.W.Frag} {H : Hp} {Q : VK} {p r : Addr} {xs : List V} {n : Nat} (h : H p = some (.lst xs)) (h2 : H r = some (.lst [])) (hx : ∀ x ∈ xs, Dat K H x n) (hn : n ≤ 60) (q : Q (.bl (decide (xs = []))) H) : rEqD K (.ref p) (.ref r) H Q := by
  obtain ⟨d, e, h3, h4, h5, h6, h7⟩ := w_neNil (K := K) (Q := fun v H' => Q (match v with | .bl b => .bl (!b) | v => v) H') h h2 hx hn (by show Q (.bl (!(!decide (xs = [])))) H; rw [Bool.not_not]; exact q)
  refine ⟨d, e, h3, h4, h5, h6, ?_⟩
  have h8 : Q (.bl (!(!PyData.eqv d e))) H := h7
  rw [Bool.not_not] at h8
  exact h8
/-! ### calls of what might raise, where it doesn't -/
theorem passLN {X : Cx} : Passes (L2N.CX X.prog X.w) X E0 := fun _ _ _ _ _ _ _ h => by
  obtain ⟨_, _, _, _, _, _, _, _, _, _, _, _, z⟩ := h
  exact z.elim
/-- a class of refusals, to be raised with a text -/
structure RaiseC (K : PySem.W.Frag) (mg : Str → Option Value) (x : Str) : Prop where
  g : mg x = some (.ref (He.ga K x))
  e : PySem.W.excIn K (He.ga K x) He.veBase "ValueError.__new__" = true
  k : PySem.W.keepIn K (.ref (He.ga K x)) = true
  b : PySem.W.subIn K (.ref (He.ga K x)) (.type "BaseException") = some true
  t : PySem.W.typeIn K (.ref (He.ga K x)) = some (.type "type")
theorem raiseC_of {K : PySem.W.Frag} {mg : Str → Option Value} {x : Str} (g : mg x = some (.ref (He.ga K x))) (c : (He.Fa.exc x).ok K = true) : RaiseC K mg x := by
  obtain ⟨a, b, d, e⟩ := He.exc_ok c
  exact ⟨g, a, b, d, e⟩
/-! ### tables of code objects beside the bag -/
open LamX in
theorem tabs_mv {T : List (Addr × Str)} {H H' : Hp} {b : Addr} (t : Tabs T H) (hb : Bag H b) (m : Mv b H H') : Tabs T H' := fun p hp => by
  obtain ⟨A, B, eb, _⟩ := hb
  obtain ⟨ps, h1, h2, h3⟩ := t p hp
  refine ⟨ps, m _ _ (fun z => ?_) h1, h2, fun pos cv hc => ?_⟩
  · rw [z, eb] at h1
    cases h1
  · obtain ⟨c, e1, e2⟩ := h3 pos cv hc
    refine ⟨c, e1, m _ _ (fun z => ?_) e2⟩
    rw [z, eb] at e2
    exact absurd (Option.some.inj e2) (fun q => by unfold CodeO at q; cases q)
open LamX in
theorem tabs_updL {T : List (Addr × Str)} {H : Hp} {D : Addr} {xs ys : List V} (t : Tabs T H) (hD : H D = some (.lst xs)) : Tabs T (upd H D (.lst ys)) := fun p hp => by
  obtain ⟨ps, h1, h2, h3⟩ := t p hp
  refine ⟨ps, ?_, h2, fun pos cv hc => ?_⟩
  · rw [upd_ne (fun z => by rw [z, hD] at h1; cases h1)]
    exact h1
  · obtain ⟨c, e1, e2⟩ := h3 pos cv hc
    refine ⟨c, e1, ?_⟩
    rw [upd_ne (fun z => ?_)]
    · exact e2
    · rw [z, hD] at e2
      exact absurd (Option.some.inj e2) (fun q => by unfold CodeO at q; cases q)
open LamX in
theorem tabs_sm {T : List (Addr × Str)} {H H' : Hp} (t : Tabs T H) (s : Same H H') : Tabs T H' := t.ext s
/-- all but the tables stay, and these are tables still -/
def Sx (T : List (Addr × Str)) (H H' : Hp) : Prop := LamX.ExtN H H' ∧ LamX.Tabs T H'
theorem Sx.tup {T : List (Addr × Str)} {H H' : Hp} {p : Addr} {xs : List V} (s : Sx T H H') (h : H p = some (.tup xs)) : H' p = some (.tup xs) := s.1 _ _ h fun _ z => by cases z
theorem Sx.lst {T : List (Addr × Str)} {H H' : Hp} {p : Addr} {xs : List V} (s : Sx T H H') (h : H p = some (.lst xs)) : H' p = some (.lst xs) := s.1 _ _ h fun _ z => by cases z
theorem Sx.kt {T : List (Addr × Str)} {H H' : Hp} (s : Sx T H H') : Kt H H' := fun _ _ h => s.tup h
theorem Sx.trans {T : List (Addr × Str)} {H H1 H2 : Hp} (a : Sx T H H1) (b : Sx T H1 H2) : Sx T H H2 := ⟨a.1.trans b.1, b.2⟩
theorem Sx.same {T : List (Addr × Str)} {H H' : Hp} (t : LamX.Tabs T H) (s : Same H H') : Sx T H H' := ⟨LamX.ExtN.of s, tabs_sm t s⟩
theorem Sx.refl {T : List (Addr × Str)} {H : Hp} (t : LamX.Tabs T H) : Sx T H H := ⟨LamX.ExtN.refl H, t⟩
theorem Sx.bag {T : List (Addr × Str)} {H H' : Hp} {b : Addr} (s : Sx T H H') (hb : Bag H b) : Bag H' b := by
  obtain ⟨A, B, h, r⟩ := hb
  exact ⟨A, B, s.lst h, r⟩
/-- a new list, filled -/
theorem Sx.updD {T : List (Addr × Str)} {H H' : Hp} {D : Addr} {xs ys : List V} (s : Sx T H H') (hD : H D = none) (h : H' D = some (.lst xs)) : Sx T H (upd H' D (.lst ys)) :=
  ⟨fun b o e n => by rw [upd_ne (fresh_of e hD)]; exact s.1 b o e n, tabs_updL s.2 h⟩
/-- a bag that is new -/
theorem Sx.mv {T : List (Addr × Str)} {H H1 H2 : Hp} {b : Addr} (s : Sx T H H1) (hn : H b = none) (hb : Bag H1 b) (m : Mv b H1 H2) : Sx T H H2 := ⟨fun p o e n => m p o (fresh_of e hn) (s.1 p o e n), tabs_mv s.2 hb m⟩
end Fm

namespace Fm
open PySem PySem.Spec PyProof.Rows L2
def CPowW (i j : Int) : Prop := 0 ≤ j ∧ (Builtin.Int.intBits i : Int) * j ≤ 2 ^ 27
theorem op_powW {X : Cx} : OpR X (binaryOp .Pow) (rI CPowW fun i j => .int (i ^ j.toNat)) := opI fun _ _ _ _ _ _ _ hc q => pow_int hc.1 hc.2 q
/-! ### fractions as rational numbers -/
def qv (p : Int × Int) : Rat := (p.1 : Rat) / (p.2 : Rat)
theorem rat_ne {z : Int} (h : z ≠ 0) : (z : Rat) ≠ 0 := fun e => h (by exact_mod_cast e)
theorem qv_eq {p : Int × Int} {n d : Int} (hp : p.2 ≠ 0) (hd : d ≠ 0) (h : p.1 * d = n * p.2) : qv p = (n : Rat) / (d : Rat) := by
  unfold qv
  have h1 := rat_ne hp
  have h2 := rat_ne hd
  have e : (p.1 : Rat) * (d : Rat) = (n : Rat) * (p.2 : Rat) := by exact_mod_cast h
  grind
theorem qv_cross {p : Int × Int} {n d : Int} (hp : p.2 ≠ 0) (hd : d ≠ 0) (h : qv p = (n : Rat) / (d : Rat)) : p.1 * d = n * p.2 := by
  unfold qv at h
  have h1 := rat_ne hp
  have h2 := rat_ne hd
  have e : (p.1 : Rat) * (d : Rat) = (n : Rat) * (p.2 : Rat) := by grind
  exact_mod_cast e
theorem qv_low {u d : Int} (hd : d ≠ 0) : qv (lowF 0 u d) = (u : Rat) / (d : Rat) := by
  obtain ⟨h1, h2⟩ := low0_red (u := u) hd
  exact qv_eq (by have := h1.1; omega) hd h2
theorem qv_inj {p q : Int × Int} (hp : Red p) (hq : Red q) (h : qv p = qv q) : p = q := by
  refine red_uniq hp hq ?_
  have := qv_cross (p := p) (n := q.1) (d := q.2) (by have := hp.1; omega) (by have := hq.1; omega) h
  exact this
theorem qv_times {a c : Int × Int} (ha : a.2 ≠ 0) (hc : c.2 ≠ 0) : qv (timesF 0 a c) = qv a * qv c := by
  unfold timesF
  rw [qv_low (Int.mul_ne_zero ha hc)]
  unfold qv
  have h1 := rat_ne ha
  have h2 := rat_ne hc
  have e1 : ((a.1 * c.1 : Int) : Rat) = (a.1 : Rat) * (c.1 : Rat) := by exact_mod_cast rfl
  have e2 : ((a.2 * c.2 : Int) : Rat) = (a.2 : Rat) * (c.2 : Rat) := by exact_mod_cast rfl
  rw [e1, e2]
  grind
theorem fmod_mul_r {a b g : Int} (hg : 0 < g) : (a * b.fmod g).fmod g = (a * b).fmod g := by
  rw [fmod_pos _ hg, fmod_pos _ hg, fmod_pos _ hg, Int.mul_emod a (b % g), Int.emod_emod_of_dvd b (Int.dvd_refl g), ← Int.mul_emod]
theorem fmod_mul_l {a b g : Int} (hg : 0 < g) : (a.fmod g * b).fmod g = (a * b).fmod g := by
  rw [Int.mul_comm, fmod_mul_r hg, Int.mul_comm]
theorem times_wheel {g : Int} {a c : Int × Int} (hg : 0 < g) (ha : a.2 = 1) (hc : c.2 = 1) : timesF g a c = ((a.1 * c.1).fmod g, 1) := by
  unfold timesF
  rw [ha, hc, Int.mul_one]
  exact low_one hg
/-- a square has a root -/
theorem isqrt_sq (n : Nat) : isqrt (n * n) = n := (root_is ⟨Nat.le_refl _, Nat.mul_lt_mul'' (Nat.lt_succ_self n) (Nat.lt_succ_self n)⟩).symm
theorem sq_some {g : Int} {k : Nat} {q : Int × Int} (hg : g = 0 ∨ Gr5 g) (hq : TN g k q) (hk : 4 ≤ k) : (rootV g (timesF g q q)).isSome = true := by
  have tq := tn_times hg hq hq hk
  rcases hq.1 with ⟨rfl, hr⟩ | ⟨g0, q0, q1, q2⟩
  · have hp : Red (timesF 0 q q) := by
      rcases tq.1 with ⟨_, h⟩ | ⟨h, _⟩
      · exact h
      · exact absurd h (by decide)
    rw [red_square hp hr rfl]
    have hq2 := hr.1
    have e1 : (q.1 * q.1).toNat = q.1.natAbs * q.1.natAbs := by rw [← Int.natAbs_mul_self (a := q.1)]; exact Int.toNat_natCast _
    have e2 : (q.2 * q.2).toNat = q.2.natAbs * q.2.natAbs := by rw [← Int.natAbs_mul_self (a := q.2)]; exact Int.toNat_natCast _
    have n0 : ¬ q.1 * q.1 < 0 := by rw [← Int.natAbs_mul_self (a := q.1)]; omega
    have y1 : (isqrt (q.1 * q.1).toNat : Int) * (isqrt (q.1 * q.1).toNat : Int) = q.1 * q.1 := by rw [e1, isqrt_sq, ← Int.natCast_mul]; exact Int.natAbs_mul_self
    have y2 : (isqrt (q.2 * q.2).toNat : Int) * (isqrt (q.2 * q.2).toNat : Int) = q.2 * q.2 := by rw [e2, isqrt_sq, ← Int.natCast_mul]; exact Int.natAbs_mul_self
    unfold rootV
    rw [if_pos rfl, if_neg n0, if_pos ⟨y1, y2⟩]
    rfl
  · rw [times_wheel g0 q2 q2]
    unfold rootV
    rw [if_neg (by omega), Option.isSome_map]
    unfold wroot
    rw [List.find?_isSome]
    refine ⟨q.1, List.mem_map.mpr ⟨q.1.toNat, List.mem_range.mpr (by omega), by omega⟩, decide_eq_true rfl⟩
theorem TN.red {k : Nat} {a : Int × Int} (h : TN 0 k a) : Red a := by
  rcases h.1 with ⟨_, h⟩ | ⟨h, _⟩
  · exact h
  · exact absurd h (by decide)
theorem TN.one {g : Int} {k : Nat} {a : Int × Int} (h : TN g k a) (hg : 0 < g) : a.2 = 1 := by
  rcases h.1 with ⟨e, _⟩ | ⟨_, _, _, e⟩
  · omega
  · exact e
theorem TN.gpos {g : Int} {k : Nat} {a : Int × Int} (h : TN g k a) (hz : g ≠ 0) : 0 < g := by rcases h.1 with ⟨e, _⟩ | ⟨e, _⟩ <;> omega
theorem alike_sq {g : Int} {k : Nat} {x y : Int × Int} (hg : g = 0 ∨ Gr5 g) (hx : TN g k x) (hy : TN g k y) (hk : 4 ≤ k) : (rootV g (timesF g x (timesF g x (timesF g y y)))).isSome = true := by
  have tq := tn_times hg hx hy hk
  have e : timesF g x (timesF g x (timesF g y y)) = timesF g (timesF g x y) (timesF g x y) := by
    have t1 := tn_times hg hy hy hk
    have t2 := tn_times hg hx t1 hk
    have t3 := tn_times hg hx t2 hk
    have t4 := tn_times hg tq tq (by omega)
    rcases hg with rfl | hg5
    · refine qv_inj t3.red t4.red ?_
      have nx : x.2 ≠ 0 := by have := hx.pos; omega
      have ny : y.2 ≠ 0 := by have := hy.pos; omega
      rw [qv_times nx (by have := t2.pos; omega), qv_times nx (by have := t1.pos; omega), qv_times ny ny, qv_times (by have := tq.pos; omega) (by have := tq.pos; omega), qv_times nx ny]
      grind
    · have g0 : 0 < g := by unfold Gr5 at hg5; omega
      rw [times_wheel g0 (hx.one g0) (t2.one g0), times_wheel g0 (hx.one g0) (t1.one g0), times_wheel g0 (hy.one g0) (hy.one g0), times_wheel g0 (tq.one g0) (tq.one g0), times_wheel g0 (hx.one g0) (hy.one g0)]
      simp only [fmod_mul_r g0, fmod_mul_l g0]
      rw [show x.1 * (x.1 * (y.1 * y.1)) = x.1 * y.1 * (x.1 * y.1) by grind]
  rw [e]
  exact sq_some hg tq (by omega)
theorem times_one {g : Int} {k : Nat} {x : Int × Int} (hg : g = 0 ∨ Gr5 g) (hx : TN g k x) : timesF g x (1, 1) = x := by
  rcases hg with rfl | hg5
  · unfold timesF
    have := hx.pos
    refine low0_uniq hx.red (by omega) ?_
    show x.1 * (x.2 * 1) = x.1 * 1 * x.2
    rw [Int.mul_one, Int.mul_one]
  · have g0 : 0 < g := by unfold Gr5 at hg5; omega
    rw [times_wheel g0 (hx.one g0) rfl]
    rcases hx.1 with ⟨e, _⟩ | ⟨_, h1, h2, h3⟩
    · omega
    · have e : (x.1 * 1).fmod g = x.1 := by
        rw [Int.mul_one, fmod_pos _ g0]
        exact Int.emod_eq_of_lt h1 h2
      show ((x.1 * 1).fmod g, (1 : Int)) = x
      rw [e, ← h3]
/-! ### numbers other than nought -/
theorem nz_times {g : Int} {k l : Nat} {a c : Int × Int} (hg : g = 0 ∨ Gr5 g) (ha : TN g k a) (hc : TN g l c) (h1 : a.1 ≠ 0) (h2 : c.1 ≠ 0) : (timesF g a c).1 ≠ 0 := by
  rcases hg with rfl | hg5
  · intro z
    have hd : a.2 * c.2 ≠ 0 := Int.mul_ne_zero (by have := ha.pos; omega) (by have := hc.pos; omega)
    obtain ⟨r, e⟩ := low0_red (u := a.1 * c.1) hd
    have z' : (lowF 0 (a.1 * c.1) (a.2 * c.2)).1 = 0 := z
    rw [z', Int.zero_mul] at e
    exact Int.mul_ne_zero (Int.mul_ne_zero h1 h2) (by have := r.1; omega) e.symm
  · have g0 : 0 < g := by unfold Gr5 at hg5; omega
    rw [times_wheel g0 (ha.one g0) (hc.one g0)]
    rcases ha.1 with ⟨e, _⟩ | ⟨_, a0, a1, _⟩
    · omega
    rcases hc.1 with ⟨e, _⟩ | ⟨_, c0, c1, _⟩
    · omega
    have key : ∀ g ∈ [3, 5, 7, 11, 13], ∀ a ∈ List.range g, ∀ c ∈ List.range g, a ≠ 0 → c ≠ 0 → ((a : Int) * (c : Int)).fmod (g : Int) ≠ 0 := by decide +kernel
    obtain ⟨na, ea⟩ := Int.eq_ofNat_of_zero_le a0
    obtain ⟨nc, ec⟩ := Int.eq_ofNat_of_zero_le c0
    rw [ea] at a1 h1
    rw [ec] at c1 h2
    show (a.1 * c.1).fmod g ≠ 0
    rw [ea, ec]
    have mk : ∀ m : Nat, m ∈ [3, 5, 7, 11, 13] → (na : Int) < m → (nc : Int) < m → ((na : Int) * (nc : Int)).fmod (m : Int) ≠ 0 := fun m hm x1 x2 => key m hm na (List.mem_range.mpr (by omega)) nc (List.mem_range.mpr (by omega)) (by omega) (by omega)
    unfold Gr5 at hg5
    rcases hg5 with rfl | rfl | rfl | rfl | rfl
    · exact mk 3 (by decide) a1 c1
    · exact mk 5 (by decide) a1 c1
    · exact mk 7 (by decide) a1 c1
    · exact mk 11 (by decide) a1 c1
    · exact mk 13 (by decide) a1 c1
theorem nz_minus {g : Int} {k : Nat} {a : Int × Int} (hg : g = 0 ∨ Gr5 g) (ha : TN g k a) (h1 : a.1 ≠ 0) : (minusF g a).1 ≠ 0 := by
  unfold minusF
  have hp := ha.pos
  rcases hg with rfl | hg5
  · intro z
    obtain ⟨r, e⟩ := low0_red (u := 0 - a.1) (d := a.2) (by omega)
    rw [z, Int.zero_mul] at e
    exact Int.mul_ne_zero (show 0 - a.1 ≠ 0 by omega) (by have := r.1; omega) e.symm
  · have g0 : 0 < g := by unfold Gr5 at hg5; omega
    rcases ha.1 with ⟨e, _⟩ | ⟨_, a0, a1, a2⟩
    · omega
    rw [a2, low_one g0]
    show (0 - a.1).fmod g ≠ 0
    rw [fmod_pos _ g0, ← Int.add_emod_right, Int.emod_eq_of_lt (by omega) (by omega)]
    omega
/-- only nought is written with nought above -/
theorem TN.zero {g : Int} {k : Nat} {a : Int × Int} (h : TN g k a) : a.1 = 0 ↔ a = (0, 1) := by
  constructor
  · intro z
    rcases h.1 with ⟨rfl, hr⟩ | ⟨_, _, _, e⟩
    · have h2 := hr.2
      rw [z, Int.gcd_zero_left] at h2
      have := hr.1
      exact Prod.ext z (by show a.2 = 1; omega)
    · exact Prod.ext z e
  · intro e
    rw [e]
end Fm

namespace Fm
open PySem PySem.Spec PyProof.Rows L2
def topS (i : Nat) : Stmt := PySem.Challenge.pw_fewmirrors_k33_classes_alike.main.body.getD i (.Pass ⟨0, 0, 0, 0⟩)
local macro_rules | `(tactic| walk_at "s1") => `(tactic| first
  | with_reducible refine w_seq ?_ | with_reducible refine w_asg ?_ | with_reducible refine w_ret ?_ | with_reducible refine w_drop ?_ | with_reducible refine w_ifs ?_ | with_reducible refine w_next ?_
  | with_reducible refine w_op ?_ | with_reducible refine w_un ?_ | with_reducible refine w_c ?_ | ((with_reducible refine' w_var ?h ?_); (case h => exact rfl)) | with_reducible refine w_name ?_ | with_reducible refine w_sub ?_
  | with_reducible refine w_test ?_ | with_reducible refine w_B ?_ | with_reducible refine w_exb ?_ | with_reducible refine w_and ?_ | with_reducible refine w_or ?_ | with_reducible refine w_not ?_
  | with_reducible refine w_andV ?_ | with_reducible refine w_orV ?_ | with_reducible refine w_notV ?_ | with_reducible refine w_if ?_
  | with_reducible refine w_I0 ?_ | with_reducible refine w_U ?_ | with_reducible refine w_eqI ?_ | with_reducible refine w_neI ?_
  | with_reducible refine w_nil ?_ | with_reducible refine w_cons ?_ | with_reducible refine w_tup ?_ | with_reducible refine w_lst ?_ | with_reducible refine w_cb ?_ | with_reducible refine w_call ?_
  | ((with_reducible refine' w_ixL ?h ?e ?_); (case h => assumption); (case e => exact rfl)) | ((with_reducible refine' w_ixT ?h ?e ?_); (case h => assumption); (case e => exact rfl))
  | with_reducible refine w_par ?_ | with_reducible refine w_ex2 ?_ | with_reducible refine w_t ?_ | with_reducible refine w_f ?_ | with_reducible refine w_for ?_ | with_reducible refine w_sl ?_ | with_reducible refine w_part ?_ | with_reducible refine w_nopart ?_ | with_reducible refine w_exi ?_ | with_reducible refine w_chain ?_ | with_reducible refine w_rng2 ?_ | with_reducible refine w_bm ?_ | with_reducible refine w_revL ?_ | with_reducible refine w_js ?_ | with_reducible refine w_js0 ?_ | with_reducible refine w_fmt ?_ | with_reducible refine w_lc ?_ | with_reducible refine w_yes ?_ | with_reducible refine w_zipA ?_ | with_reducible refine w_itup ?_ | with_reducible refine w_ilist ?_ | with_reducible refine w_gcons ?_ | with_reducible refine w_gnil ?_
  | ((with_reducible refine' w_gtup ?h ?e ?_); (case h => assumption); (case e => exact rfl)) | with_reducible refine w_rng1 ?_ | with_reducible refine w_e1 ?_ | with_reducible refine w_e2 ?_ | with_reducible refine w_bits ?_ | with_reducible refine w_step2 ?_ | with_reducible refine w_par3 ?_ | with_reducible refine w_ex3 ?_)
local macro_rules | `(tactic| walk_at "go") => `(tactic| repeat (walk_at "s1"))
local macro_rules | `(tactic| walk_at "tr") => `(tactic| repeat (first | assumption | (refine TB.kd (Kd.of (by assumption)) ?_) | (refine TB.kd (by assumption) ?_)))

abbrev s_is_whole : Stmt := topS 21
theorem sc_is_whole : FnScope ["thing"] ["thing"] (defScope s_is_whole) := ⟨rfl, rfl, rfl, by decide +kernel, rfl, by decide +kernel, by decide +kernel⟩

abbrev s_common_divisor : Stmt := topS 22
theorem sc_common_divisor : FnScope ["a", "b"] ["a", "b"] (defScope s_common_divisor) := ⟨rfl, rfl, rfl, by decide +kernel, rfl, by decide +kernel, by decide +kernel⟩

abbrev s_whole_root : Stmt := topS 23
theorem sc_whole_root : FnScope ["square", "guess", "better"] ["square"] (defScope s_whole_root) := ⟨rfl, rfl, rfl, by decide +kernel, rfl, by decide +kernel, by decide +kernel⟩

abbrev s_wheel_back : Stmt := topS 27
theorem sc_wheel_back : FnScope ["wheel", "whole", "found"] ["wheel", "whole"] (defScope s_wheel_back) := ⟨rfl, rfl, rfl, by decide +kernel, rfl, by decide +kernel, by decide +kernel⟩

abbrev s_wheel_root : Stmt := topS 32
theorem sc_wheel_root : FnScope ["wheel", "x", "a"] ["wheel", "x"] (defScope s_wheel_root) := ⟨rfl, rfl, rfl, by decide +kernel, rfl, by decide +kernel, by decide +kernel⟩

abbrev s__law_bag : Stmt := topS 36
theorem sc__law_bag : FnScope ["_law_script", "_law_at", "_law_cell", "_law_great_here", "_law_primes", "_law_mixed"] ["_law_script", "_law_at"] (defScope s__law_bag) := ⟨rfl, rfl, rfl, by decide +kernel, rfl, by decide +kernel, by decide +kernel⟩

abbrev s__law_take : Stmt := topS 37
theorem sc__law_take : FnScope ["_law_bag_here", "_law_many", "_law_digit"] ["_law_bag_here", "_law_many"] (defScope s__law_take) := ⟨rfl, rfl, rfl, by decide +kernel, rfl, by decide +kernel, by decide +kernel⟩

abbrev s__law_is_whole : Stmt := topS 38
theorem sc__law_is_whole : FnScope ["_law_thing"] ["_law_thing"] (defScope s__law_is_whole) := ⟨rfl, rfl, rfl, by decide +kernel, rfl, by decide +kernel, by decide +kernel⟩

abbrev s__law_shared : Stmt := topS 39
theorem sc__law_shared : FnScope ["_law_one", "_law_other"] ["_law_one", "_law_other"] (defScope s__law_shared) := ⟨rfl, rfl, rfl, by decide +kernel, rfl, by decide +kernel, by decide +kernel⟩

abbrev s__law_root_beneath : Stmt := topS 50
theorem sc__law_root_beneath : FnScope ["_law_whole", "_law_low_here", "_law_high", "_law_middle"] ["_law_whole"] (defScope s__law_root_beneath) := ⟨rfl, rfl, rfl, by decide +kernel, rfl, by decide +kernel, by decide +kernel⟩

abbrev s_is_number : Stmt := topS 25
theorem sc_is_number : FnScope ["ground", "thing", "top", "bottom"] ["ground", "thing"] (defScope s_is_number) := ⟨rfl, rfl, rfl, by decide +kernel, rfl, by decide +kernel, by decide +kernel⟩

abbrev s_lowest : Stmt := topS 26
theorem sc_lowest : FnScope ["ground", "top", "bottom", "shared"] ["ground", "top", "bottom"] (defScope s_lowest) := ⟨rfl, rfl, rfl, by decide +kernel, rfl, by decide +kernel, by decide +kernel⟩

abbrev s_fraction_root : Stmt := topS 31
theorem sc_fraction_root : FnScope ["x", "top", "bottom", "root"] ["x"] (defScope s_fraction_root) := ⟨rfl, rfl, rfl, by decide +kernel, rfl, by decide +kernel, by decide +kernel⟩

abbrev s__law_low : Stmt := topS 40
theorem sc__law_low : FnScope ["_law_g", "_law_up", "_law_down", "_law_one", "_law_common"] ["_law_g", "_law_up", "_law_down"] (defScope s__law_low) := ⟨rfl, rfl, rfl, by decide +kernel, rfl, by decide +kernel, by decide +kernel⟩

abbrev s__law_is_number : Stmt := topS 41
theorem sc__law_is_number : FnScope ["_law_g", "_law_thing", "_law_one"] ["_law_g", "_law_thing"] (defScope s__law_is_number) := ⟨rfl, rfl, rfl, by decide +kernel, rfl, by decide +kernel, by decide +kernel⟩

abbrev s__law_ground : Stmt := topS 45
theorem sc__law_ground : FnScope ["_law_bag_here"] ["_law_bag_here"] (defScope s__law_ground) := ⟨rfl, rfl, rfl, by decide +kernel, rfl, by decide +kernel, by decide +kernel⟩

abbrev s__law_odd : Stmt := topS 48
theorem sc__law_odd : FnScope ["_law_bag_here", "_law_some"] ["_law_bag_here"] (defScope s__law_odd) := ⟨rfl, rfl, rfl, by decide +kernel, rfl, by decide +kernel, by decide +kernel⟩

abbrev s__law_is_square : Stmt := topS 51
theorem sc__law_is_square : FnScope ["_law_g", "_law_x", "_law_one"] ["_law_g", "_law_x"] (defScope s__law_is_square) := ⟨rfl, rfl, rfl, by decide +kernel, rfl, by decide +kernel, by decide +kernel⟩

abbrev s_times : Stmt := topS 28
theorem sc_times : FnScope ["ground", "x", "y"] ["ground", "x", "y"] (defScope s_times) := ⟨rfl, rfl, rfl, by decide +kernel, rfl, by decide +kernel, by decide +kernel⟩

abbrev s_root_or_none : Stmt := topS 30
theorem sc_root_or_none : FnScope ["ground", "x"] ["ground", "x"] (defScope s_root_or_none) := ⟨rfl, rfl, rfl, by decide +kernel, rfl, by decide +kernel, by decide +kernel⟩

abbrev s__law_plus : Stmt := topS 42
theorem sc__law_plus : FnScope ["_law_g", "_law_x", "_law_y"] ["_law_g", "_law_x", "_law_y"] (defScope s__law_plus) := ⟨rfl, rfl, rfl, by decide +kernel, rfl, by decide +kernel, by decide +kernel⟩

abbrev s__law_times : Stmt := topS 43
theorem sc__law_times : FnScope ["_law_g", "_law_x", "_law_y"] ["_law_g", "_law_x", "_law_y"] (defScope s__law_times) := ⟨rfl, rfl, rfl, by decide +kernel, rfl, by decide +kernel, by decide +kernel⟩

abbrev s__law_minus : Stmt := topS 44
theorem sc__law_minus : FnScope ["_law_g", "_law_x"] ["_law_g", "_law_x"] (defScope s__law_minus) := ⟨rfl, rfl, rfl, by decide +kernel, rfl, by decide +kernel, by decide +kernel⟩

abbrev s__law_number : Stmt := topS 46
theorem sc__law_number : FnScope ["_law_bag_here", "_law_g", "_law_wide", "_law_down"] ["_law_bag_here", "_law_g"] (defScope s__law_number) := ⟨rfl, rfl, rfl, by decide +kernel, rfl, by decide +kernel, by decide +kernel⟩

abbrev s_is_square : Stmt := topS 29
theorem sc_is_square : FnScope ["ground", "x"] ["ground", "x"] (defScope s_is_square) := ⟨rfl, rfl, rfl, by decide +kernel, rfl, by decide +kernel, by decide +kernel⟩

abbrev s__law_other_than_nought : Stmt := topS 47
theorem sc__law_other_than_nought : FnScope ["_law_bag_here", "_law_g", "_law_x"] ["_law_bag_here", "_law_g"] (defScope s__law_other_than_nought) := ⟨rfl, rfl, rfl, by decide +kernel, rfl, by decide +kernel, by decide +kernel⟩

abbrev s_are_alike : Stmt := topS 34
theorem sc_are_alike : FnScope ["ground", "x", "y", "thing"] ["ground", "x", "y"] (defScope s_are_alike) := ⟨rfl, rfl, rfl, by decide +kernel, rfl, by decide +kernel, by decide +kernel⟩

abbrev s__law_great : Stmt := topS 52
theorem sc__law_great : FnScope ["_law_bag_here", "_law_g", "_law_x", "_law_turn"] ["_law_bag_here", "_law_g"] (defScope s__law_great) := ⟨rfl, rfl, rfl, by decide +kernel, rfl, by decide +kernel, by decide +kernel⟩

abbrev s__law_is_told : Stmt := topS 53
theorem sc__law_is_told : FnScope ["_law_g", "_law_x", "_law_y", "_law_due", "_law_told", "_law_one"] ["_law_g", "_law_x", "_law_y"] (defScope s__law_is_told) := ⟨rfl, rfl, rfl, by decide +kernel, rfl, by decide +kernel, by decide +kernel⟩

abbrev s_law : Stmt := topS 54
theorem sc_law : FnScope ["_law_script", "_law_k", "_law_bag_here", "_law_y", "_law_far", "_law_square", "_law_near", "_law_some", "_law_due", "_law_g", "_law_thing", "_law_x", "_law_one", "_law_a", "_law_b"] ["_law_script"] (defScope s_law) := ⟨rfl, rfl, rfl, by decide +kernel, rfl, by decide +kernel, by decide +kernel⟩

abbrev s__law_refusal : Stmt := topS 49
theorem sc__law_refusal : FnScope ["_law_deed", "e", "_law_some", "_law_names", "_law_name", "_law_is_so"] ["_law_deed"] (defScope s__law_refusal) := ⟨rfl, rfl, rfl, by decide +kernel, rfl, by decide +kernel, by decide +kernel⟩

/-- the names that _law_refusal asks for, as the top has them -/
structure MirG (K : PySem.W.Frag) (mg : Str → Option Value) : Prop where
  g_MirrorError : mg "MirrorError" = some (.ref (He.ga K "MirrorError"))
  g_NoGround : mg "NoGround" = some (.ref (He.ga K "NoGround"))
  g_NoNumber : mg "NoNumber" = some (.ref (He.ga K "NoNumber"))
  g_NoRow : mg "NoRow" = some (.ref (He.ga K "NoRow"))
  g_NoTable : mg "NoTable" = some (.ref (He.ga K "NoTable"))
  g_NoForm : mg "NoForm" = some (.ref (He.ga K "NoForm"))
  g_NoKeeper : mg "NoKeeper" = some (.ref (He.ga K "NoKeeper"))
  g_NoWorth : mg "NoWorth" = some (.ref (He.ga K "NoWorth"))
  g_NoSeat : mg "NoSeat" = some (.ref (He.ga K "NoSeat"))
  g_NoFour : mg "NoFour" = some (.ref (He.ga K "NoFour"))
  g_NoPlace : mg "NoPlace" = some (.ref (He.ga K "NoPlace"))
  g_NoClaim : mg "NoClaim" = some (.ref (He.ga K "NoClaim"))
  g_NoText : mg "NoText" = some (.ref (He.ga K "NoText"))
  g_NoSaying : mg "NoSaying" = some (.ref (He.ga K "NoSaying"))
  g_TooMany : mg "TooMany" = some (.ref (He.ga K "TooMany"))
  g_NotKept : mg "NotKept" = some (.ref (He.ga K "NotKept"))
  g_OverNought : mg "OverNought" = some (.ref (He.ga K "OverNought"))
  g_Flat : mg "Flat" = some (.ref (He.ga K "Flat"))
  g_NoName : mg "NoName" = some (.ref (He.ga K "NoName"))
  isi : mg "isinstance" = none
  len : mg "len" = none
  ve : mg "ValueError" = none
theorem ref_rel {a : Addr} : ∀ u, RelV (V.ref a) u → u = Value.ref a := fun _ h => h
theorem ty_rel {x : String} : ∀ u, RelV (V.ty x) u → u = Value.type x := fun _ h => h
theorem refusal_gives {X : Cx} {g : Addr} {cdg : Value} {q : Str} (G : MirG X.K X.mg) : GivesN X ["_law_deed", "e", "_law_some", "_law_names", "_law_name", "_law_is_so"] "_law_refusal" (defScope s__law_refusal) g cdg (defBody s__law_refusal) "_law_deed" q (TTref X.K) := by
  intro f c s H Q tl hr act hc h
  refine ⟨_, pss_cons (ps_tryM (X := (cxOf C8.CX0 X.prog X.w X.K X.mg X.base ["_law_deed", "e", "_law_some", "_law_names", "_law_name", "_law_is_so"] "_law_refusal" (defScope s__law_refusal) g cdg X.A X.stack s H C8.E0).nox) (c := .ref (He.ga X.K "MirrorError")) (i := 1)
      (tb := fun W D σ H => ∃ Ech : XK, (∀ cls d H', Ech cls d H' → W cls d σ H') ∧ σ[0]? = some (some (.ref f)) ∧ H c = some (LamX.CodeO c q) ∧ tl Ech H (fun _ H' => D.nx σ H')) (ts := tsMir X.K 1 6)
      rfl rfl sc__law_refusal.nd rfl rfl ⟨rfl, by decide, .inl G.g_MirrorError⟩ takes0N (fun W pn xe tk _ => ?body) (fun a oe cls d pn hz hf => ?suite)
      (L2N.HdsOk.cons (ts := fun _ _ _ => tRet (tC (.str "OverNought"))) ⟨rfl, by decide, .inl G.g_OverNought⟩ (fun _ _ _ _ _ _ _ => pss_one (ps_ret pe_str)) (L2N.HdsOk.cons (ts := fun _ _ _ => tRet (tC (.str "Flat"))) ⟨rfl, by decide, .inl G.g_Flat⟩ (fun _ _ _ _ _ _ _ => pss_one (ps_ret pe_str)) (L2N.HdsOk.cons (ts := fun _ _ _ => tRet (tC (.str "NoName"))) ⟨rfl, by decide, .inl G.g_NoName⟩ (fun _ _ _ _ _ _ _ => pss_one (ps_ret pe_str)) L2N.HdsOk.nil)))) (pss_one (ps_ret pe_non)), ?read⟩
  case body =>
    refine pss_by fun D σ H' hh => ?_
    obtain ⟨Ech, hW, h1, h2, h3⟩ := hh
    exact ⟨_, pss_one (ps_expr (act W pn xe Ech _ _ tk)), hW, h1, h2, h3⟩
  case suite =>
    refine pss_by fun D σ H1 hh => ?_
    obtain ⟨C, nm, rfl, rfl, M, h1, hlen, hq⟩ := hh
    have hot : L2H.Hot1 ((cxOf C8.CX0 X.prog X.w X.K X.mg X.base ["_law_deed", "e", "_law_some", "_law_names", "_law_name", "_law_is_so"] "_law_refusal" (defScope s__law_refusal) g cdg X.A X.stack s H C8.E0).nox.suite a ((a, oe) :: pn)).A (a, oe) := ⟨rfl, by
      obtain ⟨vs, e⟩ := hf
      exact ⟨vs, e, hz.2.2 vs e⟩⟩
    refine ⟨_, (pss_cons (ps_set (i := 2) sc__law_refusal.nd rfl (.inl rfl) (pe_lst (pa_cons (pe_tup (pa_cons pe_str (pa_cons (pe_callB (r := rIsE X.K C a) (call_isE M.exc hz.zc hf) (by rfl) G.isi (by decide +kernel) (pa_cons (pv 1) (pa_cons (pe_glob (v := .ref (He.ga X.K "NoGround")) (by rfl) G.g_NoGround rfl) pa_nil))) pa_nil)))
        (pa_cons (pe_tup (pa_cons pe_str (pa_cons (pe_callB (r := rIsE X.K C a) (call_isE M.exc hz.zc hf) (by rfl) G.isi (by decide +kernel) (pa_cons (pv 1) (pa_cons (pe_glob (v := .ref (He.ga X.K "NoNumber")) (by rfl) G.g_NoNumber rfl) pa_nil))) pa_nil)))
        (pa_cons (pe_tup (pa_cons pe_str (pa_cons (pe_callB (r := rIsE X.K C a) (call_isE M.exc hz.zc hf) (by rfl) G.isi (by decide +kernel) (pa_cons (pv 1) (pa_cons (pe_glob (v := .ref (He.ga X.K "NoRow")) (by rfl) G.g_NoRow rfl) pa_nil))) pa_nil)))
        (pa_cons (pe_tup (pa_cons pe_str (pa_cons (pe_callB (r := rIsE X.K C a) (call_isE M.exc hz.zc hf) (by rfl) G.isi (by decide +kernel) (pa_cons (pv 1) (pa_cons (pe_glob (v := .ref (He.ga X.K "NoTable")) (by rfl) G.g_NoTable rfl) pa_nil))) pa_nil)))
        (pa_cons (pe_tup (pa_cons pe_str (pa_cons (pe_callB (r := rIsE X.K C a) (call_isE M.exc hz.zc hf) (by rfl) G.isi (by decide +kernel) (pa_cons (pv 1) (pa_cons (pe_glob (v := .ref (He.ga X.K "NoForm")) (by rfl) G.g_NoForm rfl) pa_nil))) pa_nil)))
        (pa_cons (pe_tup (pa_cons pe_str (pa_cons (pe_callB (r := rIsE X.K C a) (call_isE M.exc hz.zc hf) (by rfl) G.isi (by decide +kernel) (pa_cons (pv 1) (pa_cons (pe_glob (v := .ref (He.ga X.K "NoKeeper")) (by rfl) G.g_NoKeeper rfl) pa_nil))) pa_nil)))
        (pa_cons (pe_tup (pa_cons pe_str (pa_cons (pe_callB (r := rIsE X.K C a) (call_isE M.exc hz.zc hf) (by rfl) G.isi (by decide +kernel) (pa_cons (pv 1) (pa_cons (pe_glob (v := .ref (He.ga X.K "NoWorth")) (by rfl) G.g_NoWorth rfl) pa_nil))) pa_nil)))
        (pa_cons (pe_tup (pa_cons pe_str (pa_cons (pe_callB (r := rIsE X.K C a) (call_isE M.exc hz.zc hf) (by rfl) G.isi (by decide +kernel) (pa_cons (pv 1) (pa_cons (pe_glob (v := .ref (He.ga X.K "NoSeat")) (by rfl) G.g_NoSeat rfl) pa_nil))) pa_nil)))
        (pa_cons (pe_tup (pa_cons pe_str (pa_cons (pe_callB (r := rIsE X.K C a) (call_isE M.exc hz.zc hf) (by rfl) G.isi (by decide +kernel) (pa_cons (pv 1) (pa_cons (pe_glob (v := .ref (He.ga X.K "NoFour")) (by rfl) G.g_NoFour rfl) pa_nil))) pa_nil)))
        (pa_cons (pe_tup (pa_cons pe_str (pa_cons (pe_callB (r := rIsE X.K C a) (call_isE M.exc hz.zc hf) (by rfl) G.isi (by decide +kernel) (pa_cons (pv 1) (pa_cons (pe_glob (v := .ref (He.ga X.K "NoPlace")) (by rfl) G.g_NoPlace rfl) pa_nil))) pa_nil)))
        (pa_cons (pe_tup (pa_cons pe_str (pa_cons (pe_callB (r := rIsE X.K C a) (call_isE M.exc hz.zc hf) (by rfl) G.isi (by decide +kernel) (pa_cons (pv 1) (pa_cons (pe_glob (v := .ref (He.ga X.K "NoClaim")) (by rfl) G.g_NoClaim rfl) pa_nil))) pa_nil)))
        (pa_cons (pe_tup (pa_cons pe_str (pa_cons (pe_callB (r := rIsE X.K C a) (call_isE M.exc hz.zc hf) (by rfl) G.isi (by decide +kernel) (pa_cons (pv 1) (pa_cons (pe_glob (v := .ref (He.ga X.K "NoText")) (by rfl) G.g_NoText rfl) pa_nil))) pa_nil)))
        (pa_cons (pe_tup (pa_cons pe_str (pa_cons (pe_callB (r := rIsE X.K C a) (call_isE M.exc hz.zc hf) (by rfl) G.isi (by decide +kernel) (pa_cons (pv 1) (pa_cons (pe_glob (v := .ref (He.ga X.K "NoSaying")) (by rfl) G.g_NoSaying rfl) pa_nil))) pa_nil)))
        (pa_cons (pe_tup (pa_cons pe_str (pa_cons (pe_callB (r := rIsE X.K C a) (call_isE M.exc hz.zc hf) (by rfl) G.isi (by decide +kernel) (pa_cons (pv 1) (pa_cons (pe_glob (v := .ref (He.ga X.K "TooMany")) (by rfl) G.g_TooMany rfl) pa_nil))) pa_nil)))
        (pa_cons (pe_tup (pa_cons pe_str (pa_cons (pe_callB (r := rIsE X.K C a) (call_isE M.exc hz.zc hf) (by rfl) G.isi (by decide +kernel) (pa_cons (pv 1) (pa_cons (pe_glob (v := .ref (He.ga X.K "NotKept")) (by rfl) G.g_NotKept rfl) pa_nil))) pa_nil)))
        pa_nil)))))))))))))))))
      (pss_cons (ps_setLcH (i := 3) (own := [("_law_name", 4), ("_law_is_so", 5)]) (ti := tVar 2) (g := gTup X.K 2 (gCons (gName 4) (gCons (gName 5) gNil))) (tt := tB (tVar 5)) (te := tVar 4) (p := (a, oe)) hot List.mem_cons_self sc__law_refusal.nd rfl rfl (sw_true rfl rfl rfl (by decide +kernel)) (pv 2) (blkOk_by (own := [("_law_name", 4), ("_law_is_so", 5)]) (N := ["_law_deed", "e", "_law_some", "_law_names", "_law_name", "_law_is_so"]) (sc := defScope s__law_refusal) (by decide +kernel))
        (fun _ _ _ _ _ => pg_tupH (hot_blk hot) (pgs_cons (pg_name (i := 4) sc__law_refusal.nd rfl (.inl rfl)) (pgs_cons (pg_name (i := 5) sc__law_refusal.nd rfl (.inl rfl)) pgs_nil)))
        (fun _ _ _ _ _ => (pts_one (pt_val (pv 5)))) (fun _ _ _ _ _ => (pv 4)))
      (pss_cons (ps_if (PW.pt (pw_and (pt_cmpR op_eq (pe_callB call_len_seq (by rfl) G.len (by decide +kernel) (pa_cons (pv 3) pa_nil)) pe_int (nomark _)) (pw_and1 (pt_val (pe_callB (r := rIsE X.K C a) (call_isE M.exc hz.zc hf) (by rfl) G.isi (by decide +kernel) (pa_cons (pv 1) (pa_cons (pe_bltn (v := .ty "ValueError") (by rfl) G.ve (by decide +kernel) rfl) pa_nil))))))) (pss_one (ps_ret (pe_ix ix_list (pv 3) pe_int (fun _ _ => rfl)))) pss_nil) (pss_one (ps_ret pe_str))))), ?_⟩
    obtain ⟨σ0, σ1, σ2, σ3, σ4, σ5, rfl⟩ : ∃ a b c d e f, σ = [a, b, c, d, e, f] := list6 hlen
    obtain rfl : σ1 = some (.ref a) := Option.some.inj h1
    walk_at "go"
    refine ⟨.ref (He.ga X.K "NoGround"), .ref (He.ga X.K "NoGround"), _, rfl, ref_rel, M.kit _ (by decide), ?_⟩
    walk_at "go"
    refine w_new (by simp) fun t0 J0 n0 s0 i0 => ?_
    walk_at "go"
    refine ⟨.ref (He.ga X.K "NoNumber"), .ref (He.ga X.K "NoNumber"), _, rfl, ref_rel, M.kit _ (by decide), ?_⟩
    walk_at "go"
    refine w_new (by simp) fun t1 J1 n1 s1 i1 => ?_
    walk_at "go"
    refine ⟨.ref (He.ga X.K "NoRow"), .ref (He.ga X.K "NoRow"), _, rfl, ref_rel, M.kit _ (by decide), ?_⟩
    walk_at "go"
    refine w_new (by simp) fun t2 J2 n2 s2 i2 => ?_
    walk_at "go"
    refine ⟨.ref (He.ga X.K "NoTable"), .ref (He.ga X.K "NoTable"), _, rfl, ref_rel, M.kit _ (by decide), ?_⟩
    walk_at "go"
    refine w_new (by simp) fun t3 J3 n3 s3 i3 => ?_
    walk_at "go"
    refine ⟨.ref (He.ga X.K "NoForm"), .ref (He.ga X.K "NoForm"), _, rfl, ref_rel, M.kit _ (by decide), ?_⟩
    walk_at "go"
    refine w_new (by simp) fun t4 J4 n4 s4 i4 => ?_
    walk_at "go"
    refine ⟨.ref (He.ga X.K "NoKeeper"), .ref (He.ga X.K "NoKeeper"), _, rfl, ref_rel, M.kit _ (by decide), ?_⟩
    walk_at "go"
    refine w_new (by simp) fun t5 J5 n5 s5 i5 => ?_
    walk_at "go"
    refine ⟨.ref (He.ga X.K "NoWorth"), .ref (He.ga X.K "NoWorth"), _, rfl, ref_rel, M.kit _ (by decide), ?_⟩
    walk_at "go"
    refine w_new (by simp) fun t6 J6 n6 s6 i6 => ?_
    walk_at "go"
    refine ⟨.ref (He.ga X.K "NoSeat"), .ref (He.ga X.K "NoSeat"), _, rfl, ref_rel, M.kit _ (by decide), ?_⟩
    walk_at "go"
    refine w_new (by simp) fun t7 J7 n7 s7 i7 => ?_
    walk_at "go"
    refine ⟨.ref (He.ga X.K "NoFour"), .ref (He.ga X.K "NoFour"), _, rfl, ref_rel, M.kit _ (by decide), ?_⟩
    walk_at "go"
    refine w_new (by simp) fun t8 J8 n8 s8 i8 => ?_
    walk_at "go"
    refine ⟨.ref (He.ga X.K "NoPlace"), .ref (He.ga X.K "NoPlace"), _, rfl, ref_rel, M.kit _ (by decide), ?_⟩
    walk_at "go"
    refine w_new (by simp) fun t9 J9 n9 s9 i9 => ?_
    walk_at "go"
    refine ⟨.ref (He.ga X.K "NoClaim"), .ref (He.ga X.K "NoClaim"), _, rfl, ref_rel, M.kit _ (by decide), ?_⟩
    walk_at "go"
    refine w_new (by simp) fun t10 J10 n10 s10 i10 => ?_
    walk_at "go"
    refine ⟨.ref (He.ga X.K "NoText"), .ref (He.ga X.K "NoText"), _, rfl, ref_rel, M.kit _ (by decide), ?_⟩
    walk_at "go"
    refine w_new (by simp) fun t11 J11 n11 s11 i11 => ?_
    walk_at "go"
    refine ⟨.ref (He.ga X.K "NoSaying"), .ref (He.ga X.K "NoSaying"), _, rfl, ref_rel, M.kit _ (by decide), ?_⟩
    walk_at "go"
    refine w_new (by simp) fun t12 J12 n12 s12 i12 => ?_
    walk_at "go"
    refine ⟨.ref (He.ga X.K "TooMany"), .ref (He.ga X.K "TooMany"), _, rfl, ref_rel, M.kit _ (by decide), ?_⟩
    walk_at "go"
    refine w_new (by simp) fun t13 J13 n13 s13 i13 => ?_
    walk_at "go"
    refine ⟨.ref (He.ga X.K "NotKept"), .ref (He.ga X.K "NotKept"), _, rfl, ref_rel, M.kit _ (by decide), ?_⟩
    walk_at "go"
    refine w_new (by simp) fun t14 J14 n14 s14 i14 => ?_
    walk_at "go"
    refine w_new (by simp) fun L J15 nL s15 iL => ?_
    walk_at "go"
    have hts : ∀ (i : Nat) (t : V) (p : Str × Bool), ([V.ref t0, V.ref t1, V.ref t2, V.ref t3, V.ref t4, V.ref t5, V.ref t6, V.ref t7, V.ref t8, V.ref t9, V.ref t10, V.ref t11, V.ref t12, V.ref t13, V.ref t14] : List V)[i]? = some t → (mirNames.map fun x => (x, decide (x = nm)))[i]? = some p → ∃ a, t = .ref a ∧ J15 a = some (.tup [.str p.1, .bl p.2]) := by
      intro i t p e1 e2
      match i, e1, e2 with
      | 0, e1, e2 => cases e1; cases e2; exact ⟨t0, rfl, (s15 _ _ (s14 _ _ (s13 _ _ (s12 _ _ (s11 _ _ (s10 _ _ (s9 _ _ (s8 _ _ (s7 _ _ (s6 _ _ (s5 _ _ (s4 _ _ (s3 _ _ (s2 _ _ (s1 _ _ i0)))))))))))))))⟩
      | 1, e1, e2 => cases e1; cases e2; exact ⟨t1, rfl, (s15 _ _ (s14 _ _ (s13 _ _ (s12 _ _ (s11 _ _ (s10 _ _ (s9 _ _ (s8 _ _ (s7 _ _ (s6 _ _ (s5 _ _ (s4 _ _ (s3 _ _ (s2 _ _ i1))))))))))))))⟩
      | 2, e1, e2 => cases e1; cases e2; exact ⟨t2, rfl, (s15 _ _ (s14 _ _ (s13 _ _ (s12 _ _ (s11 _ _ (s10 _ _ (s9 _ _ (s8 _ _ (s7 _ _ (s6 _ _ (s5 _ _ (s4 _ _ (s3 _ _ i2)))))))))))))⟩
      | 3, e1, e2 => cases e1; cases e2; exact ⟨t3, rfl, (s15 _ _ (s14 _ _ (s13 _ _ (s12 _ _ (s11 _ _ (s10 _ _ (s9 _ _ (s8 _ _ (s7 _ _ (s6 _ _ (s5 _ _ (s4 _ _ i3))))))))))))⟩
      | 4, e1, e2 => cases e1; cases e2; exact ⟨t4, rfl, (s15 _ _ (s14 _ _ (s13 _ _ (s12 _ _ (s11 _ _ (s10 _ _ (s9 _ _ (s8 _ _ (s7 _ _ (s6 _ _ (s5 _ _ i4)))))))))))⟩
      | 5, e1, e2 => cases e1; cases e2; exact ⟨t5, rfl, (s15 _ _ (s14 _ _ (s13 _ _ (s12 _ _ (s11 _ _ (s10 _ _ (s9 _ _ (s8 _ _ (s7 _ _ (s6 _ _ i5))))))))))⟩
      | 6, e1, e2 => cases e1; cases e2; exact ⟨t6, rfl, (s15 _ _ (s14 _ _ (s13 _ _ (s12 _ _ (s11 _ _ (s10 _ _ (s9 _ _ (s8 _ _ (s7 _ _ i6)))))))))⟩
      | 7, e1, e2 => cases e1; cases e2; exact ⟨t7, rfl, (s15 _ _ (s14 _ _ (s13 _ _ (s12 _ _ (s11 _ _ (s10 _ _ (s9 _ _ (s8 _ _ i7))))))))⟩
      | 8, e1, e2 => cases e1; cases e2; exact ⟨t8, rfl, (s15 _ _ (s14 _ _ (s13 _ _ (s12 _ _ (s11 _ _ (s10 _ _ (s9 _ _ i8)))))))⟩
      | 9, e1, e2 => cases e1; cases e2; exact ⟨t9, rfl, (s15 _ _ (s14 _ _ (s13 _ _ (s12 _ _ (s11 _ _ (s10 _ _ i9))))))⟩
      | 10, e1, e2 => cases e1; cases e2; exact ⟨t10, rfl, (s15 _ _ (s14 _ _ (s13 _ _ (s12 _ _ (s11 _ _ i10)))))⟩
      | 11, e1, e2 => cases e1; cases e2; exact ⟨t11, rfl, (s15 _ _ (s14 _ _ (s13 _ _ (s12 _ _ i11))))⟩
      | 12, e1, e2 => cases e1; cases e2; exact ⟨t12, rfl, (s15 _ _ (s14 _ _ (s13 _ _ i12)))⟩
      | 13, e1, e2 => cases e1; cases e2; exact ⟨t13, rfl, (s15 _ _ (s14 _ _ i13))⟩
      | 14, e1, e2 => cases e1; cases e2; exact ⟨t14, rfl, (s15 _ _ i14)⟩
      | _ + 15, e1, _ => cases e1
    refine names_read (iS := 2) (j1 := 4) (j2 := 5) rfl iL rfl (by rw [List.length_map]; decide) hts (by decide) (by show 4 < 6; decide) (by show 5 < 6; decide) (fun _ _ => rfl) fun D' J16 nD s16 hD => ?_
    rw [mir_told M.one] at hD
    walk_at "go"
    refine ⟨D', _, rfl, .inl (SqL.of hD), ?_⟩
    walk_at "go"
    refine w_ite (fun _ => ?_) (fun z => absurd rfl z)
    walk_at "go"
    refine ⟨.ty "ValueError", .type "ValueError", _, rfl, ty_rel, M.ve, ?_⟩
    walk_at "go"
    exact hq _ ((s0.trans (s1.trans (s2.trans (s3.trans (s4.trans (s5.trans (s6.trans (s7.trans (s8.trans (s9.trans (s10.trans (s11.trans (s12.trans (s13.trans (s14.trans s15))))))))))))))).trans s16)
  case read =>
    refine ⟨_, fun cls d H' hh => ?_, rfl, hc, h⟩
    rcases hh with ⟨C, nm, rfl, rfl, M, hq⟩ | ⟨C, rfl, e1, e2, hq⟩ | ⟨C, rfl, e1, e2, e3, hq⟩
    · exact ⟨true, M.exm, fun _ a ha => ⟨C, nm, rfl, rfl, M, rfl, rfl, hq⟩, fun z => Bool.noConfusion z⟩
    · exact ⟨false, e1, fun z => Bool.noConfusion z, fun _ => ⟨true, e2, fun _ a ha => hq, fun z => Bool.noConfusion z⟩⟩
    · exact ⟨false, e1, fun z => Bool.noConfusion z, fun _ => ⟨false, e2, fun z => Bool.noConfusion z, fun _ => ⟨true, e3, fun _ a ha => hq, fun z => Bool.noConfusion z⟩⟩⟩

variable {P : Program} {w : World} {K : PySem.W.Frag} {mg : Str → Option Value} {base : Heap} {T : List (Addr × Str)}
def sp_is_whole (K : PySem.W.Frag) : Sp := fun vs H Q _ => ∃ (v : V), vs = [v] ∧ Th H v ∧ Q (.bl (wholeB v)) H

def sp_common_divisor (K : PySem.W.Frag) : Sp := fun vs H Q _ => ∃ (a c : Int), vs = [.int a, .int c] ∧ Q (.int (Int.gcd a c : Int)) H

def sp_whole_root (K : PySem.W.Frag) : Sp := fun vs H Q _ => ∃ (n : Nat), vs = [.int n] ∧ n < 2 ^ 8000 ∧ Q (.int (isqrt n : Nat)) H
theorem bits_lt (n : Nat) : n < 2 ^ Builtin.Int.intBits (n : Int) := by
  unfold Builtin.Int.intBits
  split
  · rename_i h
    have : (n : Int) = 0 := by simpa using h
    have : n = 0 := by omega
    rw [this]
    decide
  · exact Nat.lt_log2_self
theorem guess_gt {n L : Nat} (h : n < 2 ^ L) : n < (2 ^ (L / 2 + 1) + 1) * (2 ^ (L / 2 + 1) + 1) := by
  have e : 2 ^ L ≤ 2 ^ (L / 2 + 1) * 2 ^ (L / 2 + 1) := by
    rw [← Nat.pow_add]
    exact Nat.pow_le_pow_right (by decide) (by omega)
  have e2 : 2 ^ (L / 2 + 1) * 2 ^ (L / 2 + 1) ≤ (2 ^ (L / 2 + 1) + 1) * (2 ^ (L / 2 + 1) + 1) := Nat.mul_le_mul (Nat.le_succ _) (Nat.le_succ _)
  omega
theorem fdiv_nat (a b : Nat) : ((a : Int)).fdiv (b : Int) = ((a / b : Nat) : Int) := by
  rw [Int.fdiv_eq_ediv_of_nonneg _ (by omega)]
  exact (Int.natCast_ediv a b).symm

def sp_wheel_back (K : PySem.W.Frag) : Sp := fun vs H Q _ => ∃ (g w k : Int), vs = [.int g, .int w] ∧ 3 ≤ g ∧ 1 ≤ k ∧ k ≤ 13 ∧ (k * w).fmod g = 1 ∧ ∀ f : Int, 1 ≤ f → f ≤ 13 → (f * w).fmod g = 1 → Q (.int f) H

def sp_wheel_root (K : PySem.W.Frag) : Sp := fun vs H Q _ => ∃ (g : Int) (v : V) (a : Int × Int), vs = [.int g, v] ∧ 0 < g ∧ g ≤ 13 ∧ NumV H v a ∧ ∀ H' v', Same H H' → OptV H' v' ((wroot g a.1).map fun i => (i, 1)) → Q v' H'
theorem wroot_some {g a : Int} {i : Nat} (h : ∀ j : Nat, j < i → ((j : Int) * (j : Int)).fmod g ≠ a) (hi : ((i : Int) * (i : Int)).fmod g = a) (hg : i < g.toNat) : wroot g a = some (i : Int) := by
  unfold wroot
  rw [List.find?_map]
  have e : (List.range g.toNat).find? ((fun i : Int => decide ((i * i).fmod g = a)) ∘ fun (i : Nat) => (i : Int)) = some i := by
    rw [List.find?_range_eq_some]
    refine ⟨?_, ?_, fun j hj => ?_⟩
    · show decide _ = true
      exact decide_eq_true hi
    · exact List.mem_range.mpr hg
    · show (!decide _) = true
      rw [decide_eq_false (h j hj)]
      rfl
  rw [e]
  rfl
theorem wroot_none {g a : Int} (h : ∀ j : Nat, j < g.toNat → ((j : Int) * (j : Int)).fmod g ≠ a) : wroot g a = none := by
  unfold wroot
  rw [List.find?_eq_none]
  intro x hx
  obtain ⟨n, hn, rfl⟩ := List.mem_map.mp hx
  have := h n (List.mem_range.mp hn)
  simpa using this

def sp__law_bag (K : PySem.W.Frag) : Sp := fun vs H Q _ => ∃ (a : Addr) (ns : List Int) (k : Int), vs = [.ref a, .int k] ∧ SqL K H a (ns.map V.int) ∧ 0 ≤ k ∧ k < 64 ∧ ∀ (p : Addr) (H' : Hp), H p = none → Same H H' → Bag H' p → Q (.ref p) H'
theorem bag_primes {i : Int} (h0 : 0 ≤ i) (h8 : i < 8) : ∃ m : Int, atI [V.int 2147483647, V.int 2147483629, V.int 2147483587, V.int 2147483579, V.int 2147483563, V.int 2147483549, V.int 2147483543, V.int 2147483497] i = some (.int m) ∧ 0 < m ∧ m ≤ 2147483647 := by
  rcases (by omega : i = 0 ∨ i = 1 ∨ i = 2 ∨ i = 3 ∨ i = 4 ∨ i = 5 ∨ i = 6 ∨ i = 7) with rfl | rfl | rfl | rfl | rfl | rfl | rfl | rfl <;> exact ⟨_, rfl, by decide, by decide⟩

def sp__law_take (K : PySem.W.Frag) : Sp := fun vs H Q _ => ∃ (b : Addr) (m : Int), vs = [.ref b, .int m] ∧ 0 < m ∧ m < 1073741824 ∧ Bag H b ∧ ∀ (H' : Hp) (d : Int), 0 ≤ d → d < m → Mv b H H' → Bag H' b → Q (.int d) H'

def sp__law_is_whole (K : PySem.W.Frag) : Sp := fun vs H Q _ => ∃ (v : V), vs = [v] ∧ Th H v ∧ Q (.bl (wholeB v)) H

def sp__law_shared (K : PySem.W.Frag) : Sp := fun vs H Q _ => ∃ (a c : Int), vs = [.int a, .int c] ∧ Q (.int (Int.gcd a c : Int)) H
theorem abs_nat (a : Int) : (if a < 0 then -a else a) = ((a.natAbs : Nat) : Int) := by
  split <;> omega

def sp__law_root_beneath (K : PySem.W.Frag) : Sp := fun vs H Q _ => ∃ (n : Nat), vs = [.int n] ∧ n < 2 ^ 8000 ∧ ∀ H', Same H H' → Q (.int (isqrt n : Nat)) H'
theorem bin_step {n l h m : Nat} (h1 : l * l ≤ n) (h2 : n < h * h) : (m * m ≤ n → m * m ≤ n ∧ n < h * h) ∧ (¬ m * m ≤ n → l * l ≤ n ∧ n < m * m) := ⟨fun z => ⟨z, h2⟩, fun z => ⟨h1, by omega⟩⟩
theorem fdiv_natB (a b : Nat) : ((a : Int)).fdiv (b : Int) = ((a / b : Nat) : Int) := by
  rw [Int.fdiv_eq_ediv_of_nonneg _ (by omega)]
  exact (Int.natCast_ediv a b).symm

def sp_is_number (K : PySem.W.Frag) : Sp := fun vs H Q _ => ∃ (g : Int) (v : V), vs = [.int g, v] ∧ Th H v ∧ Q (.bl (numOf H g v)) H

def sp_lowest (K : PySem.W.Frag) : Sp := fun vs H Q _ => ∃ (g u d : Int), vs = [.int g, .int u, .int d] ∧ ((g = 0 ∧ d ≠ 0 ∧ d.natAbs < 2 ^ 8500) ∨ (3 ≤ g ∧ u.natAbs < 2 ^ 50000 ∧ ∃ k : Int, 1 ≤ k ∧ k ≤ 13 ∧ (k * d).fmod g = 1)) ∧ ∀ (p : Addr) (H' : Hp), H p = none → Same H H' → H' p = some (.tup [.int (lowF g u d).1, .int (lowF g u d).2]) → Q (.ref p) H'

def sp_fraction_root (K : PySem.W.Frag) : Sp := fun vs H Q _ => ∃ (v : V) (a : Int × Int), vs = [v] ∧ 0 < a.2 ∧ a.1.natAbs < 2 ^ 8000 ∧ a.2.natAbs < 2 ^ 8000 ∧ NumV H v a ∧ ∀ H' v', Same H H' → OptV H' v' (rootV 0 a) → Q v' H'
theorem isqrt_le (n : Nat) : isqrt n ≤ n := by
  have h := (isqrt_spec n).1
  rcases Nat.eq_zero_or_pos (isqrt n) with e | e
  · omega
  · exact Nat.le_trans (Nat.le_mul_of_pos_right _ e) h
theorem rootV_neg {a : Int × Int} (h : a.1 < 0) : rootV 0 a = none := by
  unfold rootV
  rw [if_pos rfl, if_pos h]
theorem rootV_yes {a : Int × Int} (h : ¬ a.1 < 0) (h1 : (isqrt a.1.toNat : Int) * (isqrt a.1.toNat : Int) = a.1) (h2 : (isqrt a.2.toNat : Int) * (isqrt a.2.toNat : Int) = a.2) : rootV 0 a = some ((isqrt a.1.toNat : Int), (isqrt a.2.toNat : Int)) := by
  unfold rootV
  rw [if_pos rfl, if_neg h, if_pos ⟨h1, h2⟩]
theorem rootV_no {a : Int × Int} (h : ¬ a.1 < 0) (h1 : ¬ ((isqrt a.1.toNat : Int) * (isqrt a.1.toNat : Int) = a.1 ∧ (isqrt a.2.toNat : Int) * (isqrt a.2.toNat : Int) = a.2)) : rootV 0 a = none := by
  unfold rootV
  rw [if_pos rfl, if_neg h, if_neg h1]
theorem isq_mulW {n : Nat} (h : n < 2 ^ 8000) : CMulW (isqrt n : Int) (isqrt n : Int) := wide_mul (a := 8000) (b := 8000) (by rw [Int.natAbs_natCast]; exact Nat.lt_of_le_of_lt (isqrt_le n) h) (by rw [Int.natAbs_natCast]; exact Nat.lt_of_le_of_lt (isqrt_le n) h) (by decide) (by decide) (by decide)

def sp__law_low (K : PySem.W.Frag) : Sp := fun vs H Q _ => ∃ (g u d : Int), vs = [.int g, .int u, .int d] ∧ 0 ≤ g ∧ g ≤ 13 ∧ d ≠ 0 ∧ d.natAbs < 2 ^ 8000 ∧ ∀ (p : Addr) (H' : Hp), H p = none → Same H H' → H' p = some (.tup [.int (lowF g u d).1, .int (lowF g u d).2]) → Q (.ref p) H'
theorem lowI_some {g u d : Int} {i : Nat} (hi : i < g.toNat) (h : ((i : Int) * d).fmod g = u.fmod g) (hn : ∀ j : Nat, j < i → ¬ ((j : Int) * d).fmod g = u.fmod g) : lowI g u d = some i := by
  unfold lowI
  rw [if_pos (by omega)]
  refine List.find?_range_eq_some.mpr ⟨decide_eq_true h, List.mem_range.mpr hi, fun j hj => ?_⟩
  rw [decide_eq_false (hn j hj)]
  rfl
theorem lowI_none {g u d : Int} (hn : ∀ j : Nat, j < g.toNat → ¬ ((j : Int) * d).fmod g = u.fmod g) : lowI g u d = none := by
  unfold lowI
  split
  · refine List.find?_range_eq_none.mpr fun j hj => ?_
    rw [decide_eq_false (hn j hj)]
    rfl
  · rfl
theorem low_sign (d : Int) : atI [V.int 1, V.int (-1)] (if decide (d < 0) = true then 1 else 0) = some (.int (if d < 0 then -1 else 1)) := by
  by_cases h : d < 0
  · rw [decide_eq_true h, if_pos h]; rfl
  · rw [decide_eq_false h, if_neg h]; rfl
theorem low_cb {u d : Int} (hd : d ≠ 0) (hz : d.natAbs < 2 ^ 8000) (i : Int) : CDivZ i ((Int.gcd u d : Int) * (if d < 0 then -1 else 1)) :=
  divZ_of (b := 8000) (lowC_ne hd) (Nat.lt_of_le_of_lt (lowC_le hd) hz) (by decide) (by decide)

def sp__law_is_number (K : PySem.W.Frag) : Sp := fun vs H Q _ => ∃ (g : Int) (v : V), vs = [.int g, v] ∧ 0 ≤ g ∧ Th H v ∧ ∀ H', Same H H' → Q (.bl (numOf H g v)) H'

def Gr (g : Int) : Prop := g = 0 ∨ g = 3 ∨ g = 5 ∨ g = 7 ∨ g = 11 ∨ g = 13
def sp__law_ground (K : PySem.W.Frag) : Sp := fun vs H Q _ => ∃ (b : Addr), vs = [.ref b] ∧ Bag H b ∧ ∀ (H' : Hp) (g : Int), Gr g → Mv b H H' → Bag H' b → Q (.int g) H'
theorem gr_three {i : Int} (h0 : 0 ≤ i) (h3 : i < 3) : ∃ m : Int, atI [V.int 7, V.int 11, V.int 13] i = some (.int m) ∧ Gr m := by
  rcases (by omega : i = 0 ∨ i = 1 ∨ i = 2) with rfl | rfl | rfl <;> exact ⟨_, rfl, by unfold Gr; decide⟩
theorem gr_eight {i m : Int} (h0 : 0 ≤ i) (h8 : i < 8) (hm : Gr m) : ∃ g : Int, atI [V.int 0, V.int 0, V.int 0, V.int 0, V.int 3, V.int 3, V.int 5, V.int m] i = some (.int g) ∧ Gr g := by
  rcases (by omega : i = 0 ∨ i = 1 ∨ i = 2 ∨ i = 3 ∨ i = 4 ∨ i = 5 ∨ i = 6 ∨ i = 7) with rfl | rfl | rfl | rfl | rfl | rfl | rfl | rfl
  · exact ⟨_, rfl, by unfold Gr; decide⟩
  · exact ⟨_, rfl, by unfold Gr; decide⟩
  · exact ⟨_, rfl, by unfold Gr; decide⟩
  · exact ⟨_, rfl, by unfold Gr; decide⟩
  · exact ⟨_, rfl, by unfold Gr; decide⟩
  · exact ⟨_, rfl, by unfold Gr; decide⟩
  · exact ⟨_, rfl, by unfold Gr; decide⟩
  · exact ⟨_, rfl, hm⟩

def sp__law_odd (K : PySem.W.Frag) : Sp := fun vs H Q _ => ∃ (b : Addr), vs = [.ref b] ∧ Bag H b ∧ ∀ (H' : Hp) (v : V), Th H' v → (∀ a, NumV H' v a → a.1.natAbs < 2 ^ 4 ∧ a.2.natAbs < 2 ^ 4) → Mv b H H' → Bag H' b → Q v H'
def smB : List V → Bool
  | [.int a, .int b] => decide (a.natAbs < 2 ^ 4) && decide (b.natAbs < 2 ^ 4)
  | _ => true
def SmV (H : Hp) (v : V) : Prop := ∀ a, NumV H v a → a.1.natAbs < 2 ^ 4 ∧ a.2.natAbs < 2 ^ 4
theorem sm_atom {H : Hp} {v : V} (h : atomB v = true) : SmV H v := fun a ⟨p, e, _⟩ => by
  subst e
  cases h
theorem sm_lst {H : Hp} {p : Addr} {xs : List V} (h : H p = some (.lst xs)) : SmV H (.ref p) := fun a ⟨p', e, h'⟩ => by
  cases e
  rw [h] at h'
  cases h'
theorem sm_tup {H : Hp} {p : Addr} {xs : List V} (h : H p = some (.tup xs)) (hs : smB xs = true) : SmV H (.ref p) := fun a ⟨p', e, h'⟩ => by
  cases e
  rw [h] at h'
  cases h'
  have z : (decide (a.1.natAbs < 2 ^ 4) && decide (a.2.natAbs < 2 ^ 4)) = true := hs
  rw [Bool.and_eq_true, decide_eq_true_eq, decide_eq_true_eq] at z
  exact z
theorem SmV.kd {H H' : Hp} {v : V} (h : SmV H v) (t : Th H v) (k : Kd H H') : SmV H' v := fun a ⟨p, e, h'⟩ => by
  subst e
  rcases t with z | ⟨p', xs, e, hh⟩ | ⟨p', xs, e, hh, _⟩
  · cases z
  · cases e
    obtain ⟨ys, z⟩ := k.2 _ _ hh
    rw [z] at h'
    cases h'
  · cases e
    rw [k.1 _ _ hh] at h'
    cases h'
    exact h a ⟨_, rfl, hh⟩

def sp__law_is_square (K : PySem.W.Frag) : Sp := fun vs H Q _ => ∃ (g : Int) (v : V) (a : Int × Int) (k : Nat), vs = [.int g, v] ∧ g ≤ 13 ∧ TN g k a ∧ k ≤ 8000 ∧ NumV H v a ∧ ∀ H', Same H H' → Q (.bl (rootV g a).isSome) H'
def wbs (g a : Int) (i : Nat) : List Bool := (List.range i).map fun (j : Nat) => decide (((j : Int) * (j : Int)).fmod g = a)
theorem wbs_len (g a : Int) (i : Nat) : (wbs g a i).length = i := by
  unfold wbs
  rw [List.length_map, List.length_range]
theorem wbs_succ (g a : Int) (i : Nat) : wbs g a (i + 1) = wbs g a i ++ [decide (((i : Int) * (i : Int)).fmod g = a)] := by
  unfold wbs
  rw [List.range_succ, List.map_append]
  rfl
theorem wbs_any {g : Int} {a : Int × Int} (hg : g ≠ 0) : (wbs g a.1 g.toNat).any id = (rootV g a).isSome := by
  unfold rootV
  rw [if_neg hg, Option.isSome_map]
  unfold wbs wroot
  rw [Bool.eq_iff_iff, List.any_eq_true, List.find?_isSome]
  constructor
  · rintro ⟨b, hb, h⟩
    obtain ⟨j, hj, e⟩ := List.mem_map.mp hb
    exact ⟨(j : Int), List.mem_map.mpr ⟨j, hj, rfl⟩, by rw [e]; exact h⟩
  · rintro ⟨z, hz, h⟩
    obtain ⟨j, hj, rfl⟩ := List.mem_map.mp hz
    exact ⟨_, List.mem_map.mpr ⟨j, hj, rfl⟩, h⟩

def sp_times (K : PySem.W.Frag) : Sp := fun vs H Q _ => ∃ (g : Int) (x y : V) (a c : Int × Int) (k l : Nat), vs = [.int g, x, y] ∧ (g = 0 ∨ Gr5 g) ∧ NumV H x a ∧ NumV H y c ∧ TN g k a ∧ TN g l c ∧ 4 ≤ k ∧ 4 ≤ l ∧ k ≤ 3000 ∧ l ≤ 3000 ∧ ∀ (p : Addr) (H' : Hp), H p = none → Same H H' → H' p = some (.tup [.int (timesF g a c).1, .int (timesF g a c).2]) → Q (.ref p) H'
theorem low_pre {g u d : Int} {k : Nat} (hg : g = 0 ∨ Gr5 g) (hd : d ≠ 0) (h1 : g ≠ 0 → d.fmod g ≠ 0) (hu : u.natAbs < 2 ^ k) (hb : d.natAbs < 2 ^ k) (hk : k ≤ 8500) : (g = 0 ∧ d ≠ 0 ∧ d.natAbs < 2 ^ 8500) ∨ (3 ≤ g ∧ u.natAbs < 2 ^ 50000 ∧ ∃ k : Int, 1 ≤ k ∧ k ≤ 13 ∧ (k * d).fmod g = 1) := by
  rcases hg with e | h5
  · exact .inl ⟨e, hd, Nat.lt_of_lt_of_le hb (Nat.pow_le_pow_right (by decide) hk)⟩
  · have g3 : 3 ≤ g := by unfold Gr5 at h5; omega
    exact .inr ⟨g3, Nat.lt_of_lt_of_le hu (Nat.pow_le_pow_right (by decide) (by omega)), inv_of h5 (h1 (by omega))⟩
theorem TN.dn {g : Int} {k l : Nat} {a c : Int × Int} (hg : g = 0 ∨ Gr5 g) (ha : TN g k a) (hc : TN g l c) : g ≠ 0 → (a.2 * c.2).fmod g ≠ 0 := fun z => by
  have g0 := ha.gpos z
  rw [ha.one g0, hc.one g0]
  exact one_fmod (hg.resolve_left z)

def sp_root_or_none (K : PySem.W.Frag) : Sp := fun vs H Q _ => ∃ (g : Int) (v : V) (a : Int × Int) (k : Nat), vs = [.int g, v] ∧ g ≤ 13 ∧ TN g k a ∧ k ≤ 8000 ∧ NumV H v a ∧ ∀ H' v', Same H H' → OptV H' v' (rootV g a) → Q v' H'
theorem TN.g0 {g : Int} {k : Nat} {a : Int × Int} (h : TN g k a) : 0 ≤ g := by
  rcases h.1 with ⟨e, _⟩ | ⟨e, _⟩ <;> omega
theorem rootV_wheel {g : Int} {a : Int × Int} (h : g ≠ 0) : rootV g a = (wroot g a.1).map fun i => (i, 1) := by
  unfold rootV
  rw [if_neg h]

def sp__law_plus (K : PySem.W.Frag) : Sp := fun vs H Q _ => ∃ (g : Int) (x y : V) (a c : Int × Int), vs = [.int g, x, y] ∧ 0 ≤ g ∧ g ≤ 13 ∧ NumV H x a ∧ NumV H y c ∧ PBd a ∧ PBd c ∧ ∀ (p : Addr) (H' : Hp), H p = none → Same H H' → H' p = some (.tup [.int (plusF g a c).1, .int (plusF g a c).2]) → Q (.ref p) H'

def sp__law_times (K : PySem.W.Frag) : Sp := fun vs H Q _ => ∃ (g : Int) (x y : V) (a c : Int × Int), vs = [.int g, x, y] ∧ 0 ≤ g ∧ g ≤ 13 ∧ NumV H x a ∧ NumV H y c ∧ PBd a ∧ PBd c ∧ ∀ (p : Addr) (H' : Hp), H p = none → Same H H' → H' p = some (.tup [.int (timesF g a c).1, .int (timesF g a c).2]) → Q (.ref p) H'

def sp__law_minus (K : PySem.W.Frag) : Sp := fun vs H Q _ => ∃ (g : Int) (x : V) (a : Int × Int), vs = [.int g, x] ∧ 0 ≤ g ∧ g ≤ 13 ∧ NumV H x a ∧ a.2.natAbs < 2 ^ 8000 ∧ a.2 ≠ 0 ∧ ∀ (p : Addr) (H' : Hp), H p = none → Same H H' → H' p = some (.tup [.int (minusF g a).1, .int (minusF g a).2]) → Q (.ref p) H'

def sp__law_number (K : PySem.W.Frag) : Sp := fun vs H Q _ => ∃ (b : Addr) (g : Int), vs = [.ref b, .int g] ∧ Gr g ∧ Bag H b ∧ ∀ (H' : Hp) (v : V) (a : Int × Int), NumV H' v a → TN g 7 a → Mv b H H' → Bag H' b → Q v H'
theorem nu_six {i : Int} (h0 : 0 ≤ i) (h6 : i < 6) : ∃ m : Int, atI [V.int 3, V.int 5, V.int 5, V.int 9, V.int 19, V.int 99] i = some (.int m) ∧ 3 ≤ m ∧ m ≤ 99 := by
  rcases (by omega : i = 0 ∨ i = 1 ∨ i = 2 ∨ i = 3 ∨ i = 4 ∨ i = 5) with rfl | rfl | rfl | rfl | rfl | rfl <;> exact ⟨_, rfl, by decide, by decide⟩
theorem nu_four {i d : Int} (h0 : 0 ≤ i) (h4 : i < 4) (d0 : 0 ≤ d) (d8 : d < 8) : ∃ m : Int, atI [V.int 1, V.int 1, V.int 1, V.int (2 + d)] i = some (.int m) ∧ 1 ≤ m ∧ m ≤ 9 := by
  rcases (by omega : i = 0 ∨ i = 1 ∨ i = 2 ∨ i = 3) with rfl | rfl | rfl | rfl
  · exact ⟨_, rfl, by decide, by decide⟩
  · exact ⟨_, rfl, by decide, by decide⟩
  · exact ⟨_, rfl, by decide, by decide⟩
  · exact ⟨_, rfl, by omega, by omega⟩
theorem Gr.two {g : Int} (h : Gr g) : g = 0 ∨ Gr5 g := by
  unfold Gr at h
  unfold Gr5
  omega
theorem Gr.bd {g : Int} (h : Gr g) : 0 ≤ g ∧ g ≤ 13 := by
  unfold Gr at h
  omega

def sp_is_square (K : PySem.W.Frag) : Sp := fun vs H Q _ => ∃ (g : Int) (v : V) (a : Int × Int) (k : Nat), vs = [.int g, v] ∧ g ≤ 13 ∧ TN g k a ∧ k ≤ 8000 ∧ NumV H v a ∧ ∀ H', Same H H' → Q (.bl (rootV g a).isSome) H'

def sp__law_other_than_nought (K : PySem.W.Frag) : Sp := fun vs H Q _ => ∃ (b : Addr) (g : Int), vs = [.ref b, .int g] ∧ Gr g ∧ Bag H b ∧ ∀ (H' : Hp) (v : V) (a : Int × Int), NumV H' v a → TN g 7 a → a.1 ≠ 0 → Mv b H H' → Bag H' b → Q v H'
theorem pick_two {b : Bool} {x y : V} : atI [x, y] (if b = true then 1 else 0) = some (if b = true then y else x) := by
  cases b <;> rfl
theorem tn_oneA {g : Int} (hg : g = 0 ∨ Gr5 g) : TN g 4 (1, 1) := by
  refine ⟨?_, by decide, by decide⟩
  rcases hg with rfl | hg
  · exact .inl ⟨rfl, by decide, by decide⟩
  · refine .inr ?_
    unfold Gr5 at hg
    refine ⟨by omega, by decide, ?_, rfl⟩
    show (1 : Int) < g
    omega

/-- a number of g other than nought, at v -/
def NZV (H : Hp) (g : Int) (v : V) : Prop := ∃ a, NumV H v a ∧ numOk g [.int a.1, .int a.2] = true ∧ a.1 ≠ 0
/-- any thing, a number of at most so many bits if it is one -/
def ThN (H : Hp) (v : V) : Prop := Th H v ∧ ∀ a, NumV H v a → a.1.natAbs < 2 ^ 1300 ∧ a.2.natAbs < 2 ^ 1300
def sp_are_alike (K : PySem.W.Frag) : Sp := fun vs H Q E => ∃ (g : Int) (x y : V), vs = [.int g, x, y] ∧ (g = 0 ∨ Gr5 g) ∧ ThN H x ∧ ThN H y ∧ (∀ a c, NumV H x a → NumV H y c → TN g 1300 a → TN g 1300 c → a.1 ≠ 0 → c.1 ≠ 0 → ∀ H', Same H H' → Q (.bl (rootV g (timesF g a c)).isSome) H') ∧ (¬ (NZV H g x ∧ NZV H g y) → ∀ H', Same H H' → E (.ref (He.ga K "NoNumber")) none H')
theorem num_true {H : Hp} {g : Int} {v : V} (h : numOf H g v = true) : ∃ p a, v = .ref p ∧ H p = some (.tup [.int a.1, .int a.2]) ∧ numOk g [.int (a : Int × Int).1, .int a.2] = true := by
  unfold numOf at h
  split at h
  · rename_i p
    unfold numAt at h
    split at h
    · rename_i xs e
      have h' := h
      unfold numOk at h'
      split at h'
      · rename_i t b
        exact ⟨p, (t, b), rfl, e, h⟩
      · cases h'
    · cases h
  · cases h
theorem tn_num {g : Int} {k : Nat} {a : Int × Int} (hg : g = 0 ∨ Gr5 g) (h : numOk g [.int a.1, .int a.2] = true) (h1 : a.1.natAbs < 2 ^ k) (h2 : a.2.natAbs < 2 ^ k) : TN g k a := by
  refine ⟨?_, h1, h2⟩
  rcases hg with rfl | h5
  · rw [numOk_0, Bool.and_eq_true, decide_eq_true_eq, decide_eq_true_eq] at h
    exact .inl ⟨rfl, by omega, by have := h.2; omega⟩
  · have g0 : 0 < g := by unfold Gr5 at h5; omega
    rw [numOk_g (by omega), Bool.and_eq_true, Bool.and_eq_true, decide_eq_true_eq, decide_eq_true_eq, decide_eq_true_eq] at h
    exact .inr ⟨g0, h.1.1, h.1.2, h.2⟩
theorem numV_uniq {H : Hp} {v : V} {a c : Int × Int} (h1 : NumV H v a) (h2 : NumV H v c) : a = c := by
  obtain ⟨p, rfl, e1⟩ := h1
  obtain ⟨p', e, e2⟩ := h2
  cases e
  rw [e1] at e2
  have e3 := HO.tup.inj (Option.some.inj e2)
  simp only [List.cons.injEq, V.int.injEq, and_true] at e3
  exact Prod.ext e3.1 e3.2
theorem nzv_num {H : Hp} {g : Int} {v : V} {a : Int × Int} (h : NZV H g v) (hv : NumV H v a) : numOk g [.int a.1, .int a.2] = true ∧ a.1 ≠ 0 := by
  obtain ⟨c, h1, h2, h3⟩ := h
  rw [← numV_uniq h1 hv]
  exact ⟨h2, h3⟩
theorem NZV.kt {H H' : Hp} {g : Int} {v : V} (h : NZV H g v) (k : Kt H H') : NZV H' g v := by
  obtain ⟨a, h1, h2⟩ := h
  exact ⟨a, NumV.kt h1 k, h2⟩
theorem NZV.num {H : Hp} {g : Int} {v : V} (h : NZV H g v) : numOf H g v = true := by
  obtain ⟨a, ⟨p, rfl, e⟩, h2, _⟩ := h
  rw [numOf_tup e]
  exact h2

def sp__law_great (K : PySem.W.Frag) : Sp := fun vs H Q _ => ∃ (b : Addr) (g : Int), vs = [.ref b, .int g] ∧ Gr g ∧ Bag H b ∧ ∀ (H' : Hp) (v : V) (a : Int × Int), NumV H' v a → TN g 84 a → a.1 ≠ 0 → Mv b H H' → Bag H' b → Q v H'

def sp__law_is_told (K : PySem.W.Frag) : Sp := fun vs H Q _ => ∃ (g : Int) (x y : V) (a c : Int × Int) (k l : Nat), vs = [.int g, x, y] ∧ Gr g ∧ NumV H x a ∧ NumV H y c ∧ TN g k a ∧ TN g l c ∧ a.1 ≠ 0 ∧ c.1 ≠ 0 ∧ 4 ≤ k ∧ 4 ≤ l ∧ k ≤ 1300 ∧ l ≤ 1300 ∧ ∀ H', Same H H' → Q (.bl true) H'
theorem times_comm (g : Int) (a c : Int × Int) : timesF g a c = timesF g c a := by
  unfold timesF
  rw [Int.mul_comm a.1, Int.mul_comm a.2]
theorem thn_num {H : Hp} {v : V} {a : Int × Int} (h : NumV H v a) (h1 : a.1.natAbs < 2 ^ 1300) (h2 : a.2.natAbs < 2 ^ 1300) : ThN H v := by
  obtain ⟨p, rfl, hp⟩ := h
  refine ⟨Th.tup hp rfl, fun c hc => ?_⟩
  rw [← numV_uniq ⟨p, rfl, hp⟩ hc]
  exact ⟨h1, h2⟩
theorem w_eqBB {K : PySem.W.Frag} {H : Hp} {Q : VK} {p r : Addr} {a b c d : Bool} (h : H p = some (.lst [.bl a, .bl b])) (h2 : H r = some (.lst [.bl c, .bl d])) (e1 : a = c) (e2 : b = d) (q : Q (.bl true) H) : rEqD K (.ref p) (.ref r) H Q := by
  obtain ⟨d, e, h3, h4, h5, h6, h7⟩ := w_neBB (K := K) (Q := fun v H' => Q (match v with | .bl b => .bl (!b) | v => v) H') h h2 e1 e2 (by show Q (.bl (!false)) H; exact q)
  refine ⟨d, e, h3, h4, h5, h6, ?_⟩
  have h8 : Q (.bl (!(!PyData.eqv d e))) H := h7
  rw [Bool.not_not] at h8
  exact h8

def sp_law (K : PySem.W.Frag) (T : List (Addr × Str)) : Sp := fun vs H Q _ => ∃ (a : Addr) (ns : List Int), vs = [.ref a] ∧ SqL K H a (ns.map V.int) ∧ LamX.Tabs T H ∧ ∀ H', Q (.bl true) H'
theorem sql_ext {K : PySem.W.Frag} {T : List (Addr × Str)} {H H' : Hp} {a : Addr} {xs : List V} (h : SqL K H a xs) (s : Sx T H H') : SqL K H' a xs := by
  rcases h with (h | ⟨o, h⟩) | h
  · exact .inl (.inl (s.lst h))
  · exact .inl (.inr ⟨o, s.1 _ _ h fun _ z => by cases z⟩)
  · exact .inr h
/-- a number of g other than nought at x -/
def TZ (g : Int) (k : Nat) (H : Hp) (x : V) : Prop := ∃ a, NumV H x a ∧ TN g k a ∧ a.1 ≠ 0
theorem TZ.kt {g : Int} {k : Nat} {H H' : Hp} {x : V} (h : TZ g k H x) (s : Kt H H') : TZ g k H' x := by
  obtain ⟨a, h1, h2⟩ := h
  exact ⟨a, NumV.kt h1 s, h2⟩
theorem Kd.sx {T : List (Addr × Str)} {H H' : Hp} (s : Sx T H H') : Kd H H' := ⟨s.kt, fun p xs h => ⟨xs, s.lst h⟩⟩
theorem w_neSame {H : Hp} {Q : VK} {x : V} (h : scal x x = true) (q : Q (.bl false) H) : rNe x x H Q := by
  refine ⟨h, ?_⟩
  show Q (.bl (!decide (x = x))) H
  rw [decide_eq_true rfl]
  exact q
/-- what is a number behind was one ahead -/
theorem nzv_back {T : List (Addr × Str)} {H H' : Hp} {g : Int} {v : V} (h : Th H v ∧ SmV H v) (x : Sx T H H') (z : NZV H' g v) : NZV H g v := by
  obtain ⟨a, ⟨p, rfl, e⟩, h1, h2⟩ := z
  rcases h.1 with q | ⟨p', xs, e2, hh⟩ | ⟨p', xs, e2, hh, _⟩
  · cases q
  · cases e2
    rw [x.lst hh] at e
    cases e
  · cases e2
    rw [x.tup hh] at e
    cases e
    exact ⟨a, ⟨_, rfl, hh⟩, h1, h2⟩
/-- any thing with small numbers -/
def TA (H : Hp) (v : V) : Prop := Th H v ∧ SmV H v
theorem TA.kd {H H' : Hp} {v : V} (h : TA H v) (k : Kd H H') : TA H' v := ⟨h.1.kd k, h.2.kd h.1 k⟩
theorem TA.thn {H : Hp} {v : V} (h : TA H v) : ThN H v := ⟨h.1, fun a ha => ⟨Nat.lt_of_lt_of_le (h.2 a ha).1 (Nat.pow_le_pow_right (by decide) (by decide)), Nat.lt_of_lt_of_le (h.2 a ha).2 (Nat.pow_le_pow_right (by decide) (by decide))⟩⟩

theorem ok_is_whole {f : Addr} {fd : FuncData} (F : FnP K "is_whole" s_is_whole f fd) (m_isinstance : mg "isinstance" = none) (m_int : mg "int" = none) (m_bool : mg "bool" = none) :
    FnOk P w K mg base CX0 1 f fd ["thing"] (sp_is_whole K) := by
  refine F.ok sc_is_whole (fun vs H Q E h => ?_) (fun cdv A outer s H vs Q E hr h => ?_)
  · obtain ⟨v, rfl, hv, q⟩ := h
    rfl
  · obtain ⟨v, rfl, hv, q⟩ := h
    refine ⟨_, PSs.nox (pss_one (ps_ret (pe_and (pe_callB call_isi (by rfl) m_isinstance (by decide +kernel) (pa_cons (pv 0) (pa_cons (pe_bltn (v := .ty "int") (by rfl) m_int (by decide +kernel) rfl) pa_nil))) (pe_one (pe_not (pe_callB call_isi (by rfl) m_isinstance (by decide +kernel) (pa_cons (pv 0) (pa_cons (pe_bltn (v := .ty "bool") (by rfl) m_bool (by decide +kernel) rfl) pa_nil)))))))), ?_⟩
    have e := whole_eq v
    walk_at "go"
    refine isi_int hv ?_
    walk_at "go"
    refine w_iteB (fun hi => ?_) (fun hi => ?_)
    · walk_at "go"
      refine isi_bool hv ?_
      walk_at "go"
      rw [e, hi] at q
      exact q
    · rw [e, hi] at q
      exact q
theorem ok_common_divisor {f : Addr} {fd : FuncData} (F : FnP K "common_divisor" s_common_divisor f fd) (m_abs : mg "abs" = none) :
    FnOk P w K mg base CX0 1 f fd ["a", "b"] (sp_common_divisor K) := by
  refine F.ok sc_common_divisor (fun vs H Q E h => ?_) (fun cdv A outer s H vs Q E hr h => ?_)
  · obtain ⟨a, c, rfl, q⟩ := h
    rfl
  · obtain ⟨a, c, rfl, q⟩ := h
    refine ⟨_, PSs.nox (pss_cons (ps_while PassesOwn.never (pt_cmpR op_ne (pv 1) pe_int (nomark _)) (pss_one (ps_par (i := 0) (j := 1) (by rfl) sc_common_divisor.nd rfl rfl (by decide) rfl rfl (pa_cons (pv 1) (pa_cons (pe_op op_modN (pv 0) (pv 1)) pa_nil)) (by rfl))))
        (pss_one (ps_ret (pe_callB call_abs (by rfl) m_abs (by decide +kernel) (pa_cons (pv 0) pa_nil))))), ?_⟩
    walk_at "go"
    refine while_by (fun σ H' => ∃ x y : Int, σ = [some (.int x), some (.int y)] ∧ Int.gcd x y = Int.gcd a c ∧ H' = H) (fun σ _ => match σ with | [_, some (.int y)] => y.natAbs | _ => 0) ⟨a, c, rfl, rfl, rfl⟩ (fun σ H' hP => ?_) (fun σ H' Q1 Q2 f h => ?_)
    · obtain ⟨x, y, rfl, e, rfl⟩ := hP
      walk_at "go"
      refine w_iteN (fun hc => ?_) (fun hc => ?_)
      · walk_at "go"
        refine w_I hc ?_
        walk_at "go"
        exact ⟨⟨y, x.fmod y, rfl, by rw [gcd_fmod]; exact e, rfl⟩, fmod_small x hc⟩
      · walk_at "go"
        subst hc
        rw [Int.gcd_zero_right] at e
        rw [← e] at q
        have e2 : (if x < 0 then -x else x) = ((x.natAbs : Nat) : Int) := by split <;> omega
        rw [e2]
        exact q
    · obtain ⟨v, hv, e1, k, ek, qq⟩ := h
      exact ⟨v, hv, e1, k, ek, f _ _ qq⟩
theorem ok_whole_root {f : Addr} {fd : FuncData} (F : FnP K "whole_root" s_whole_root f fd) :
    FnOk P w K mg base CX0 1 f fd ["square"] (sp_whole_root K) := by
  refine F.ok sc_whole_root (fun vs H Q E h => ?_) (fun cdv A outer s H vs Q E hr h => ?_)
  · obtain ⟨n, rfl, hn, q⟩ := h
    rfl
  · obtain ⟨n, rfl, hn, q⟩ := h
    refine ⟨_, PSs.nox (pss_cons (ps_if (pt_cmpR op_eq (pv 0) pe_int (nomark _)) (pss_one (ps_ret pe_int)) pss_nil)
        (pss_cons (ps_set (i := 1) sc_whole_root.nd rfl (.inl rfl) (pe_op op_shl pe_int (pe_op op_add (pe_op op_fdivZ (pe_bits (pv 0)) pe_int) pe_int)))
        (pss_cons (ps_set (i := 2) sc_whole_root.nd rfl (.inl rfl) (pe_op op_fdivZ (pe_op op_add (pv 1) (pe_op op_fdivZ (pv 0) (pv 1))) pe_int))
        (pss_cons (ps_while PassesOwn.never (pt_cmpR op_lt (pv 2) (pv 1) (nomark _)) (pss_cons (ps_set (i := 1) sc_whole_root.nd rfl (.inl rfl) (pv 2))
        (pss_one (ps_set (i := 2) sc_whole_root.nd rfl (.inl rfl) (pe_op op_fdivZ (pe_op op_add (pv 1) (pe_op op_fdivZ (pv 0) (pv 1))) pe_int)))))
        (pss_one (ps_ret (pv 1))))))), ?_⟩
    walk_at "go"
    refine w_ite (fun hc => ?_) (fun hc => ?_)
    · walk_at "go"
      have : n = 0 := by omega
      subst this
      exact q
    · walk_at "go"
      have hL := bits_lt n
      have hLb : Builtin.Int.intBits (n : Int) ≤ 8000 := PyProof.Rows.intBits_le (by rw [Int.natAbs_natCast]; exact hn)
      generalize Builtin.Int.intBits (n : Int) = L at hL hLb ⊢
      refine w_I (divZ_small (by decide) (by decide)) ?_
      walk_at "go"
      have eL : ((L : Int)).fdiv 2 + 1 = ((L / 2 + 1 : Nat) : Int) := by rw [show (2 : Int) = ((2 : Nat) : Int) from rfl, fdiv_nat]; omega
      rw [eL]
      refine w_I ⟨by omega, by omega, by decide⟩ ?_
      have eG : (1 : Int) * 2 ^ ((L / 2 + 1 : Nat) : Int).toNat = ((2 ^ (L / 2 + 1) : Nat) : Int) := by rw [Int.toNat_natCast, Int.one_mul, Int.natCast_pow]; rfl
      rw [eG]
      have hgt := guess_gt hL
      have hg0 : 0 < 2 ^ (L / 2 + 1) := Nat.pow_pos (by decide)
      have hgb : 2 ^ (L / 2 + 1) ≤ 2 ^ 4001 := Nat.pow_le_pow_right (by decide) (by omega)
      generalize 2 ^ (L / 2 + 1) = g0 at hgt hg0 hgb ⊢
      walk_at "go"
      have hdv : ∀ i : Int, ∀ g : Nat, 0 < g → g ≤ 2 ^ 4001 → CDivZ i (g : Int) := fun i g h1 h2 => divZ_of (b := 4002) (by omega) (by rw [Int.natAbs_natCast]; exact Nat.lt_of_le_of_lt h2 (Nat.pow_lt_pow_right (by decide) (by decide))) (by decide) (by decide)
      have enx : ∀ g : Nat, ((g : Int) + ((n : Int)).fdiv (g : Int)).fdiv 2 = (((g + n / g) / 2 : Nat) : Int) := fun g => by
        rw [fdiv_nat, show (2 : Int) = ((2 : Nat) : Int) from rfl, ← Int.natCast_add, fdiv_nat]
      refine w_I (hdv _ _ hg0 hgb) ?_
      walk_at "go"
      refine w_I (divZ_small (by decide) (by decide)) ?_
      rw [enx]
      walk_at "go"
      refine while_by (fun σ H' => ∃ g : Nat, σ = [some (.int n), some (.int (g : Nat)), some (.int ((g + n / g) / 2 : Nat))] ∧ 0 < g ∧ g ≤ 2 ^ 4001 ∧ n < (g + 1) * (g + 1) ∧ H' = H) (fun σ _ => match σ with | [_, some (.int g), _] => g.toNat | _ => 0) ⟨g0, rfl, hg0, hgb, hgt, rfl⟩ (fun σ H' hP => ?_) (fun σ H' Q1 Q2 f h => ?_)
      · obtain ⟨g, rfl, h1, h2, h3, rfl⟩ := hP
        walk_at "go"
        refine w_ite (fun hb => ?_) (fun hb => ?_)
        · have hb' : (g + n / g) / 2 < g := by omega
          have hnp : 0 < (g + n / g) / 2 := by
            have h4 := newton_ge (n := n) h1
            by_cases h0 : 0 < (g + n / g) / 2
            · exact h0
            · rw [Nat.eq_zero_of_not_pos h0] at h4
              have : n < 1 := h4
              omega
          walk_at "go"
          refine w_I (hdv _ _ hnp (by omega)) ?_
          walk_at "go"
          refine w_I (divZ_small (by decide) (by decide)) ?_
          rw [enx]
          walk_at "go"
          refine ⟨⟨(g + n / g) / 2, rfl, hnp, by omega, newton_ge h1, rfl⟩, ?_⟩
          show (((g + n / g) / 2 : Nat) : Int).toNat < ((g : Nat) : Int).toNat
          omega
        · walk_at "go"
          have e : g = isqrt n := root_is ⟨newton_end h1 (by omega), h3⟩
          rw [e]
          exact q
      · obtain ⟨v1, h1, v2, h2, i, j, e1, e2, b, eb, qq⟩ := h
        exact ⟨v1, h1, v2, h2, i, j, e1, e2, b, eb, f _ _ qq⟩
theorem ok_wheel_back {f : Addr} {fd : FuncData} (F : FnP K "wheel_back" s_wheel_back f fd) :
    FnOk P w K mg base CX0 1 f fd ["wheel", "whole"] (sp_wheel_back K) := by
  refine F.ok sc_wheel_back (fun vs H Q E h => ?_) (fun cdv A outer s H vs Q E hr h => ?_)
  · obtain ⟨g, w, k, rfl, hg, hk1, hk, hw, q⟩ := h
    rfl
  · obtain ⟨g, w, k, rfl, hg, hk1, hk, hw, q⟩ := h
    refine ⟨_, PSs.nox (pss_cons (ps_set (i := 2) sc_wheel_back.nd rfl (.inl rfl) pe_int)
        (pss_cons (ps_while PassesOwn.never (pt_cmpR op_ne (pe_op op_modN (pe_op op_mul (pv 2) (pv 1)) (pv 0)) pe_int (nomark _)) (pss_one (ps_aug (i := 2) sc_wheel_back.nd rfl (.inl rfl) pe_int ip_add)))
        (pss_one (ps_ret (pv 2))))), ?_⟩
    walk_at "go"
    refine while_by (fun σ H' => ∃ f : Int, σ = [some (.int g), some (.int w), some (.int f)] ∧ 1 ≤ f ∧ f ≤ k ∧ H' = H) (fun σ _ => match σ with | [_, _, some (.int f)] => (k - f).toNat | _ => 0) ⟨1, rfl, by decide, hk1, rfl⟩ (fun σ H' hP => ?_) (fun σ H' Q1 Q2 f h => ?_)
    · obtain ⟨f, rfl, hf1, hf, rfl⟩ := hP
      walk_at "go"
      refine w_I (.inl ⟨by omega, by omega⟩) ?_
      walk_at "go"
      refine w_I (by omega) ?_
      walk_at "go"
      refine w_iteN (fun hc => ?_) (fun hc => ?_)
      · have hne : f ≠ k := fun e => hc (by rw [e]; exact hw)
        refine w_aug rfl ?_
        walk_at "go"
        refine ⟨f, 1, rfl, rfl, ⟨f + 1, rfl, by omega, by omega, rfl⟩, ?_⟩
        show (k - (f + 1)).toNat < (k - f).toNat
        omega
      · walk_at "go"
        exact q f hf1 (by omega) hc
    · obtain ⟨v1, h1, v2, h2, i, j, e1, e2, c1, v3, h3, i2, j2, e3, e4, c2, sc, b, eb, qq⟩ := h
      exact ⟨v1, h1, v2, h2, i, j, e1, e2, c1, v3, h3, i2, j2, e3, e4, c2, sc, b, eb, f _ _ qq⟩
theorem ok_wheel_root {f : Addr} {fd : FuncData} (F : FnP K "wheel_root" s_wheel_root f fd) (m_range : mg "range" = none) :
    FnOk P w K mg base CX0 1 f fd ["wheel", "x"] (sp_wheel_root K) := by
  refine F.ok sc_wheel_root (fun vs H Q E h => ?_) (fun cdv A outer s H vs Q E hr h => ?_)
  · obtain ⟨g, v, a, rfl, hg0, hg, hv, q⟩ := h
    rfl
  · obtain ⟨g, v, a, rfl, hg0, hg, hv, q⟩ := h
    refine ⟨_, PSs.nox (pss_cons (ps_for PassesOwn.never rfl (pi_range1 (by rfl) m_range (pa_cons (pv 0) pa_nil)) (pg_name (i := 2) sc_wheel_root.nd rfl (.inl rfl)) (pss_one (ps_if (pt_cmpR op_eq (pe_op op_modN (pe_op op_mul (pv 2) (pv 2)) (pv 0)) (pe_ix ix_tup (pv 1) pe_int (fun _ _ => rfl)) (nomark _)) (pss_one (ps_ret (pe_tup (pa_cons (pv 2) (pa_cons pe_int pa_nil))))) pss_nil)))
        (pss_one (ps_ret pe_non))), ?_⟩
    obtain ⟨p, rfl, hp⟩ := hv
    walk_at "go"
    refine ⟨by omega, by omega, ?_⟩
    refine for_range (fun i σ H' => H' = H ∧ (∃ y, σ = [some (.int g), some (.ref p), y]) ∧ ∀ j : Nat, j < i → ((j : Int) * (j : Int)).fmod g ≠ a.1) ⟨rfl, ⟨_, rfl⟩, fun j hj => absurd hj (by omega)⟩ (fun i σ H' hi hP => ?_) (fun σ H' hP => ?_)
    · obtain ⟨rfl, ⟨y, rfl⟩, hj⟩ := hP
      have hi' : i < g.toNat := hi
      walk_at "go"
      rw [Int.zero_add]
      refine w_I (.inl ⟨by omega, by omega⟩) ?_
      walk_at "go"
      refine w_I (by omega) ?_
      walk_at "go"
      refine w_ite (fun hc => ?_) (fun hc => ?_)
      · walk_at "go"
        refine w_new (by simp) fun p1 H1 hp1 s1 h1 => ?_
        refine q H1 _ s1 ?_
        rw [wroot_some hj hc hi']
        exact ⟨p1, rfl, h1⟩
      · walk_at "go"
        refine ⟨rfl, ⟨_, rfl⟩, fun j hj2 => ?_⟩
        rcases Nat.lt_succ_iff_lt_or_eq.mp hj2 with h | h
        · exact hj j h
        · rw [h]
          exact hc
    · obtain ⟨rfl, ⟨y, rfl⟩, hj⟩ := hP
      walk_at "go"
      refine q _ _ (Same.refl _) ?_
      rw [wroot_none hj]
      exact rfl
theorem ok__law_bag {f : Addr} {fd : FuncData} (F : FnP K "_law_bag" s__law_bag f fd) (m_len : mg "len" = none) (m_abs : mg "abs" = none) :
    FnOk P w K mg base CX0 1 f fd ["_law_script", "_law_at"] (sp__law_bag K) := by
  refine F.ok sc__law_bag (fun vs H Q E h => ?_) (fun cdv A outer s H vs Q E hr h => ?_)
  · obtain ⟨a, ns, k, rfl, hS, hk0, hk, q⟩ := h
    rfl
  · obtain ⟨a, ns, k, rfl, hS, hk0, hk, q⟩ := h
    refine ⟨_, PSs.nox (pss_cons (ps_set (i := 2) sc__law_bag.nd rfl (.inl rfl) pe_int)
        (pss_cons (ps_if (pt_cmpR op_lt (pv 1) (pe_callB call_len_seq (by rfl) m_len (by decide +kernel) (pa_cons (pv 0) pa_nil)) (nomark _)) (pss_one (ps_set (i := 2) sc__law_bag.nd rfl (.inl rfl) (pe_ix ix_list (pv 0) (pv 1) (fun _ _ => rfl)))) pss_nil)
        (pss_cons (ps_set (i := 3) sc__law_bag.nd rfl (.inl rfl) pe_int)
        (pss_cons (ps_if (pt_cmpR op_ge (pe_callB call_abs (by rfl) m_abs (by decide +kernel) (pa_cons (pv 2) pa_nil)) (pe_op op_pow pe_int pe_int) (nomark _)) (pss_one (ps_set (i := 3) sc__law_bag.nd rfl (.inl rfl) (pe_callB call_abs (by rfl) m_abs (by decide +kernel) (pa_cons (pv 2) pa_nil)))) pss_nil)
        (pss_cons (ps_set (i := 4) sc__law_bag.nd rfl (.inl rfl) (pe_lst (pa_cons pe_int (pa_cons pe_int (pa_cons pe_int (pa_cons pe_int (pa_cons pe_int (pa_cons pe_int (pa_cons pe_int (pa_cons pe_int pa_nil))))))))))
        (pss_cons (ps_set (i := 5) sc__law_bag.nd rfl (.inl rfl) (pe_op op_add (pe_op op_add (pe_op op_add (pe_op op_mul (pe_op op_modN (pv 2) pe_int) pe_int) (pe_op op_mul (pe_op op_mul pe_int (pv 1)) (pv 1))) (pe_op op_mul pe_int (pv 1))) pe_int))
        (pss_one (ps_ret (pe_lst (pa_cons (pv 3) (pa_cons (pe_op op_modN (pv 5) (pe_ix ix_list (pv 4) (pe_op op_modN (pv 1) pe_int) (fun _ _ => rfl))) pa_nil))))))))))), ?_⟩
    walk_at "go"
    refine ⟨a, _, rfl, .inl hS, ?_⟩
    walk_at "go"
    refine w_ite (fun hc => ?a) (fun hc => ?b)
    case' a =>
      have hlt : k.toNat < ns.length := by
        rw [List.length_map] at hc
        omega
      obtain ⟨cl, hcl⟩ : ∃ cl, ns[k.toNat]? = some cl := ⟨_, List.getElem?_eq_getElem hlt⟩
      have hat : atI (ns.map V.int) ((k.toNat : Nat) : Int) = some (.int cl) := atI_nat (by rw [List.getElem?_map, hcl]; rfl)
      rw [show ((k.toNat : Nat) : Int) = k by omega] at hat
      walk_at "go"
      refine w_ixLs hS hat ?_
    all_goals
      walk_at "go"
      refine w_Iv ⟨by decide, by decide, by decide⟩ rfl ?_
      walk_at "go"
      refine w_ite (fun hc2 => ?_) (fun hc2 => ?_)
    all_goals
      walk_at "go"
      refine w_new (by simp) fun p1 H1 hp1 s1 h1 => ?_
      walk_at "go"
      refine w_I (by decide) ?_
      walk_at "go"
      refine w_I (.inr ⟨by decide, by decide⟩) ?_
      walk_at "go"
      refine w_I (.inl ⟨by decide, by decide⟩) ?_
      walk_at "go"
      refine w_I (.inr ⟨by omega, by omega⟩) ?_
      walk_at "go"
      refine w_I (.inl ⟨by decide, by decide⟩) ?_
      walk_at "go"
      refine w_I (by decide) ?_
      obtain ⟨m, em, hm0, hm1⟩ := bag_primes (i := k.fmod 8) (by rw [fmod_pos _ (by decide)]; exact Int.emod_nonneg _ (by decide)) (by rw [fmod_pos _ (by decide)]; exact Int.emod_lt_of_pos _ (by decide))
      refine w_ixL h1 em ?_
      refine w_I (by omega) ?_
      walk_at "go"
      refine w_new (by simp) fun p2 H2 hp2 s2 h2 => ?_
      refine q p2 H2 (s1.free hp2) (s1.trans s2) ⟨_, _, h2, ?_, ?_, ?_⟩
      · first | decide | omega
      · rw [fmod_pos _ hm0]
        exact Int.emod_nonneg _ (by omega)
      · rw [fmod_pos _ hm0]
        exact Int.lt_of_lt_of_le (Int.emod_lt_of_pos _ hm0) hm1
theorem ok__law_take {f : Addr} {fd : FuncData} (F : FnP K "_law_take" s__law_take f fd) :
    FnOk P w K mg base CX0 1 f fd ["_law_bag_here", "_law_many"] (sp__law_take K) := by
  refine F.ok sc__law_take (fun vs H Q E h => ?_) (fun cdv A outer s H vs Q E hr h => ?_)
  · obtain ⟨b, m, rfl, hm, hm2, hb, q⟩ := h
    rfl
  · obtain ⟨b, m, rfl, hm, hm2, hb, q⟩ := h
    refine ⟨_, PSs.nox (pss_cons (ps_if (pt_cmpR op_gt (pe_ix ix_list (pv 0) pe_int (fun _ _ => rfl)) pe_int (nomark _)) (pss_cons (ps_set (i := 2) sc__law_take.nd rfl (.inl rfl) (pe_op op_modN (pe_ix ix_list (pv 0) pe_int (fun _ _ => rfl)) (pv 1)))
        (pss_cons (ps_asg (pe_op op_fdivZ (pe_ix ix_list (pv 0) pe_int (fun _ _ => rfl)) (pv 1)) (pg_sub (pv 0) pe_int set_list))
        (pss_one (ps_ret (pv 2))))) pss_nil)
        (pss_cons (ps_asg (pe_op op_modN (pe_op op_add (pe_op op_mul (pe_ix ix_list (pv 0) pe_int (fun _ _ => rfl)) pe_int) pe_int) pe_int) (pg_sub (pv 0) pe_int set_list))
        (pss_one (ps_ret (pe_op op_modN (pe_op op_fdivZ (pe_op op_modN (pe_op op_pow (pe_ix ix_list (pv 0) pe_int (fun _ _ => rfl)) pe_int) pe_int) pe_int) (pv 1)))))), ?_⟩
    obtain ⟨A, B, hb, hA, hB, hB2⟩ := hb
    walk_at "go"
    refine w_ite (fun hc => ?_) (fun hc => ?_)
    · walk_at "go"
      refine w_I (by omega) ?_
      walk_at "go"
      refine w_I (divZ_small hm (by omega)) ?_
      walk_at "go"
      refine w_setL hb rfl ?_
      walk_at "go"
      refine q _ _ ?_ ?_ Mv.upd ⟨_, _, upd_same, ?_, hB, hB2⟩
      · rw [fmod_pos _ hm]
        exact Int.emod_nonneg _ (by omega)
      · rw [fmod_pos _ hm]
        exact Int.emod_lt_of_pos _ hm
      · rw [fdiv_pos _ hm]
        exact Int.ediv_nonneg hA (by omega)
    · walk_at "go"
      refine w_I (.inr ⟨by decide, by decide⟩) ?_
      walk_at "go"
      refine w_I (by decide) ?_
      walk_at "go"
      refine w_setL hb rfl ?_
      walk_at "go"
      have hb' : (upd H b (.lst ([V.int A, V.int B].set 1 (V.int ((B * 48271 + 2531011).fmod 2147483647))))) b = some (.lst [.int A, .int ((B * 48271 + 2531011).fmod 2147483647)]) := upd_same
      have hx : 0 ≤ (B * 48271 + 2531011).fmod 2147483647 ∧ (B * 48271 + 2531011).fmod 2147483647 < 2147483647 := by
        rw [fmod_pos _ (by decide)]
        exact ⟨Int.emod_nonneg _ (by decide), Int.emod_lt_of_pos _ (by decide)⟩
      generalize (B * 48271 + 2531011).fmod 2147483647 = x at hb' hx ⊢
      refine w_ixL hb' rfl ?_
      walk_at "go"
      refine w_I ⟨by decide, by decide, by omega⟩ ?_
      walk_at "go"
      refine w_I (by decide) ?_
      walk_at "go"
      refine w_I (divZ_small (by decide) (by decide)) ?_
      walk_at "go"
      refine w_I (by omega) ?_
      refine q _ _ ?_ ?_ Mv.upd ⟨_, _, hb', hA, hx.1, hx.2⟩
      · rw [fmod_pos _ hm]
        exact Int.emod_nonneg _ (by omega)
      · rw [fmod_pos _ hm]
        exact Int.emod_lt_of_pos _ hm
theorem ok__law_is_whole {f : Addr} {fd : FuncData} (F : FnP K "_law_is_whole" s__law_is_whole f fd) (m_isinstance : mg "isinstance" = none) (m_int : mg "int" = none) (m_bool : mg "bool" = none) :
    FnOk P w K mg base CX0 1 f fd ["_law_thing"] (sp__law_is_whole K) := by
  refine F.ok sc__law_is_whole (fun vs H Q E h => ?_) (fun cdv A outer s H vs Q E hr h => ?_)
  · obtain ⟨v, rfl, hv, q⟩ := h
    rfl
  · obtain ⟨v, rfl, hv, q⟩ := h
    refine ⟨_, PSs.nox (pss_one (ps_ret (pe_and (pe_callB call_isi (by rfl) m_isinstance (by decide +kernel) (pa_cons (pv 0) (pa_cons (pe_bltn (v := .ty "int") (by rfl) m_int (by decide +kernel) rfl) pa_nil))) (pe_one (pe_not (pe_callB call_isi (by rfl) m_isinstance (by decide +kernel) (pa_cons (pv 0) (pa_cons (pe_bltn (v := .ty "bool") (by rfl) m_bool (by decide +kernel) rfl) pa_nil)))))))), ?_⟩
    have e := whole_eq v
    walk_at "go"
    refine isi_int hv ?_
    walk_at "go"
    refine w_iteB (fun hi => ?_) (fun hi => ?_)
    · walk_at "go"
      refine isi_bool hv ?_
      walk_at "go"
      rw [e, hi] at q
      exact q
    · rw [e, hi] at q
      exact q
theorem ok__law_shared {f : Addr} {fd : FuncData} (F : FnP K "_law_shared" s__law_shared f fd) (m_abs : mg "abs" = none) :
    FnOk P w K mg base CX0 1 f fd ["_law_one", "_law_other"] (sp__law_shared K) := by
  refine F.ok sc__law_shared (fun vs H Q E h => ?_) (fun cdv A outer s H vs Q E hr h => ?_)
  · obtain ⟨a, c, rfl, q⟩ := h
    rfl
  · obtain ⟨a, c, rfl, q⟩ := h
    refine ⟨_, PSs.nox (pss_cons (ps_par (i := 0) (j := 1) (by rfl) sc__law_shared.nd rfl rfl (by decide) rfl rfl (pa_cons (pe_callB call_abs (by rfl) m_abs (by decide +kernel) (pa_cons (pv 0) pa_nil)) (pa_cons (pe_callB call_abs (by rfl) m_abs (by decide +kernel) (pa_cons (pv 1) pa_nil)) pa_nil)) (by rfl))
        (pss_cons (ps_while PassesOwn.never (pt_cmpR op_gt (pv 1) pe_int (nomark _)) (pss_one (ps_par (i := 0) (j := 1) (by rfl) sc__law_shared.nd rfl rfl (by decide) rfl rfl (pa_cons (pv 1) (pa_cons (pe_op op_modN (pv 0) (pv 1)) pa_nil)) (by rfl))))
        (pss_one (ps_ret (pv 0))))), ?_⟩
    walk_at "go"
    rw [abs_nat, abs_nat]
    refine while_by (fun σ H' => ∃ x y : Nat, σ = [some (.int (x : Int)), some (.int (y : Int))] ∧ Nat.gcd x y = Int.gcd a c ∧ H' = H) (fun σ _ => match σ with | [_, some (.int y)] => y.toNat | _ => 0) ⟨a.natAbs, c.natAbs, rfl, rfl, rfl⟩ (fun σ H' hP => ?_) (fun σ H' Q1 Q2 f h => ?_)
    · obtain ⟨x, y, rfl, e, rfl⟩ := hP
      walk_at "go"
      refine w_ite (fun hc => ?_) (fun hc => ?_)
      · walk_at "go"
        refine w_I (by omega) ?_
        walk_at "go"
        have e1 : (x : Int).fmod (y : Int) = ((x % y : Nat) : Int) := by
          rw [fmod_pos _ hc]
          rfl
        rw [e1]
        refine ⟨⟨y, x % y, rfl, ?_, rfl⟩, ?_⟩
        · rw [← e, Nat.gcd_comm y, ← Nat.gcd_rec, Nat.gcd_comm]
        · show ((x % y : Nat) : Int).toNat < ((y : Nat) : Int).toNat
          have := Nat.mod_lt x (by omega : y > 0)
          omega
      · walk_at "go"
        have e0 : y = 0 := by omega
        subst e0
        rw [Nat.gcd_zero_right] at e
        rw [e]
        exact q
    · obtain ⟨v, hv, i, j, e1, e2, k, ek, qq⟩ := h
      exact ⟨v, hv, i, j, e1, e2, k, ek, f _ _ qq⟩
theorem ok__law_root_beneath {f : Addr} {fd : FuncData} (F : FnP K "_law_root_beneath" s__law_root_beneath f fd) :
    FnOk P w K mg base CX0 1 f fd ["_law_whole"] (sp__law_root_beneath K) := by
  refine F.ok sc__law_root_beneath (fun vs H Q E h => ?_) (fun cdv A outer s H vs Q E hr h => ?_)
  · obtain ⟨n, rfl, hn, q⟩ := h
    rfl
  · obtain ⟨n, rfl, hn, q⟩ := h
    refine ⟨_, PSs.nox (pss_cons (ps_asg (pe_tup (pa_cons pe_int (pa_cons pe_int pa_nil))) (pg_tup rfl (pgs_cons (pg_name (i := 1) sc__law_root_beneath.nd rfl (.inl rfl)) (pgs_cons (pg_name (i := 2) sc__law_root_beneath.nd rfl (.inl rfl)) pgs_nil))))
        (pss_cons (ps_while PassesOwn.never (pt_cmpR op_le (pe_op op_mulW (pv 2) (pv 2)) (pv 0) (nomark _)) (pss_one (ps_set (i := 2) sc__law_root_beneath.nd rfl (.inl rfl) (pe_op op_mulW pe_int (pv 2)))))
        (pss_cons (ps_while PassesOwn.never (pt_cmpR op_gt (pe_op op_sub (pv 2) (pv 1)) pe_int (nomark _)) (pss_cons (ps_set (i := 3) sc__law_root_beneath.nd rfl (.inl rfl) (pe_op op_fdivZ (pe_op op_add (pv 1) (pv 2)) pe_int))
        (pss_one (ps_if (pt_cmpR op_le (pe_op op_mulW (pv 3) (pv 3)) (pv 0) (nomark _)) (pss_one (ps_set (i := 1) sc__law_root_beneath.nd rfl (.inl rfl) (pv 3))) (pss_one (ps_set (i := 2) sc__law_root_beneath.nd rfl (.inl rfl) (pv 3)))))))
        (pss_one (ps_ret (pv 1)))))), ?_⟩
    walk_at "go"
    refine w_new (by simp) fun p1 H1 hp1 s1 h1 => ?_
    walk_at "go"
    have sqb : ∀ s : Nat, s * s ≤ n → s < 2 ^ 8000 := fun s h => by
      rcases Nat.eq_zero_or_pos s with e | e
      · rw [e]
        exact Nat.pow_pos (by decide)
      · exact Nat.lt_of_le_of_lt (Nat.le_trans (Nat.le_mul_of_pos_right s e) h) hn
    have hW : ∀ s t : Nat, s < 2 ^ 8002 → t < 2 ^ 8002 → CMulW (s : Int) (t : Int) := fun s t h1 h2 => wide_mul (a := 8002) (b := 8002) (by rw [Int.natAbs_natCast]; exact h1) (by rw [Int.natAbs_natCast]; exact h2) (by decide) (by decide) (by decide)
    have p2 : 2 ^ 8002 = 2 ^ 8000 * 4 := by rw [show 8002 = 8000 + 2 from rfl, Nat.pow_add]
    have p0 : 0 < 2 ^ 8000 := Nat.pow_pos (by decide)
    refine while_by (fun σ H' => ∃ (h : Nat) (y : Option V), σ = [some (.int n), some (.int 0), some (.int (h : Nat)), y] ∧ 0 < h ∧ h ≤ 2 ^ 8000 * 2 ∧ H' = H1) (fun σ _ => match σ with | [_, _, some (.int g), _] => (n + 1 - g.toNat) | _ => 0) ⟨1, _, rfl, by decide, by omega, rfl⟩ (fun σ H' hP => ?_) (fun σ H' Q1 Q2 f h => ?_)
    · obtain ⟨h, y, rfl, h0, hb, eH⟩ := hP
      subst eH
      walk_at "go"
      refine w_I (hW _ _ (by omega) (by omega)) ?_
      walk_at "go"
      refine w_ite (fun hc => ?_) (fun hc => ?_)
      · have hc' : h * h ≤ n := by
          rw [← Int.natCast_mul] at hc
          exact Int.ofNat_le.mp hc
        have hs := sqb _ hc'
        walk_at "go"
        refine w_I (hW 2 _ (by omega) (by omega)) ?_
        walk_at "go"
        refine ⟨⟨2 * h, _, rfl, by omega, by omega, rfl⟩, ?_⟩
        show n + 1 - ((2 : Int) * ((h : Nat) : Int)).toNat < n + 1 - ((h : Nat) : Int).toNat
        have : h ≤ n := Nat.le_trans (Nat.le_mul_of_pos_right _ h0) hc'
        omega
      · have hc' : n < h * h := by
          rw [← Int.natCast_mul] at hc
          exact Int.ofNat_lt.mp (Int.not_le.mp hc)
        walk_at "go"
        refine while_by (fun σ H'' => ∃ (l h : Nat) (y : Option V), σ = [some (.int n), some (.int (l : Nat)), some (.int (h : Nat)), y] ∧ l < h ∧ h ≤ 2 ^ 8000 * 2 ∧ l * l ≤ n ∧ n < h * h ∧ H'' = H') (fun σ _ => match σ with | [_, some (.int l), some (.int g), _] => (g - l).toNat | _ => 0) ⟨0, h, _, rfl, h0, hb, Nat.zero_le _, hc', rfl⟩ (fun σ H'' hP => ?_) (fun σ H'' Q1 Q2 f h => ?_)
        · obtain ⟨l, h, y, rfl, hlh, hb, hl, hh, eH⟩ := hP
          subst eH
          walk_at "go"
          refine w_ite (fun hd => ?_) (fun hd => ?_)
          · walk_at "go"
            refine w_I (divZ_small (by decide) (by decide)) ?_
            have em : ((l : Int) + (h : Int)).fdiv 2 = (((l + h) / 2 : Nat) : Int) := by
              rw [← Int.natCast_add, show (2 : Int) = ((2 : Nat) : Int) from rfl, fdiv_natB]
            rw [em]
            walk_at "go"
            refine w_I (hW _ _ (by omega) (by omega)) ?_
            walk_at "go"
            rw [← Int.natCast_mul]
            have bs := bin_step (m := (l + h) / 2) hl hh
            refine w_ite (fun he => ?_) (fun he => ?_)
            · have he' : (l + h) / 2 * ((l + h) / 2) ≤ n := Int.ofNat_le.mp he
              walk_at "go"
              refine ⟨⟨(l + h) / 2, h, _, rfl, by omega, hb, (bs.1 he').1, hh, rfl⟩, ?_⟩
              show (((h : Nat) : Int) - (((l + h) / 2 : Nat) : Int)).toNat < (((h : Nat) : Int) - ((l : Nat) : Int)).toNat
              omega
            · have he' : ¬ (l + h) / 2 * ((l + h) / 2) ≤ n := fun z => he (Int.ofNat_le.mpr z)
              walk_at "go"
              refine ⟨⟨l, (l + h) / 2, _, rfl, by omega, by omega, hl, (bs.2 he').2, rfl⟩, ?_⟩
              show ((((l + h) / 2 : Nat) : Int) - ((l : Nat) : Int)).toNat < (((h : Nat) : Int) - ((l : Nat) : Int)).toNat
              omega
          · walk_at "go"
            have eh : h = l + 1 := by omega
            subst eh
            have e : l = isqrt n := root_is ⟨hl, hh⟩
            rw [e]
            exact q _ s1
        · obtain ⟨v1, h1, v2, h2, i, j, e1, e2, i2, j2, e3, e4, b, eb, qq⟩ := h
          exact ⟨v1, h1, v2, h2, i, j, e1, e2, i2, j2, e3, e4, b, eb, f _ _ qq⟩
    · obtain ⟨v1, h1, v2, h2, i, j, e1, e2, c1, v3, h3, i2, j2, e3, e4, b, eb, qq⟩ := h
      exact ⟨v1, h1, v2, h2, i, j, e1, e2, c1, v3, h3, i2, j2, e3, e4, b, eb, f _ _ qq⟩
theorem ok_is_number {f : Addr} {fd : FuncData} (F : FnP K "is_number" s_is_number f fd)
    {f_is_whole : Addr} {fd_is_whole : FuncData} (F_is_whole : FnP K "is_whole" s_is_whole f_is_whole fd_is_whole) (b_is_whole : Binds K fd_is_whole ["thing"] []) (g_is_whole : mg "is_whole" = some (.ref f_is_whole)) (G_is_whole : FnOk P w K mg base CX0 1 f_is_whole fd_is_whole ["thing"] (sp_is_whole K))
    {f_common_divisor : Addr} {fd_common_divisor : FuncData} (F_common_divisor : FnP K "common_divisor" s_common_divisor f_common_divisor fd_common_divisor) (b_common_divisor : Binds K fd_common_divisor ["a", "b"] []) (g_common_divisor : mg "common_divisor" = some (.ref f_common_divisor)) (G_common_divisor : FnOk P w K mg base CX0 1 f_common_divisor fd_common_divisor ["a", "b"] (sp_common_divisor K)) (m_isinstance : mg "isinstance" = none) (m_tuple : mg "tuple" = none) (m_len : mg "len" = none) :
    FnOk P w K mg base CX0 2 f fd ["ground", "thing"] (sp_is_number K) := by
  refine F.ok sc_is_number (fun vs H Q E h => ?_) (fun cdv A outer s H vs Q E hr h => ?_)
  · obtain ⟨g, v, rfl, hv, q⟩ := h
    rfl
  · obtain ⟨g, v, rfl, hv, q⟩ := h
    refine ⟨_, PSs.nox (pss_cons (ps_if (PW.pt (pw_or (pt_not (pt_val (pe_callB call_isi (by rfl) m_isinstance (by decide +kernel) (pa_cons (pv 1) (pa_cons (pe_bltn (v := .ty "tuple") (by rfl) m_tuple (by decide +kernel) rfl) pa_nil))))) (pw_or1 (pt_cmpR op_ne (pe_callB call_len_seq (by rfl) m_len (by decide +kernel) (pa_cons (pv 1) pa_nil)) pe_int (nomark _))))) (pss_one (ps_ret pe_bl)) pss_nil)
        (pss_cons (ps_asg (pv 1) (pg_tup rfl (pgs_cons (pg_name (i := 2) sc_is_number.nd rfl (.inl rfl)) (pgs_cons (pg_name (i := 3) sc_is_number.nd rfl (.inl rfl)) pgs_nil))))
        (pss_cons (ps_if (PW.pt (pw_or (pt_not (pt_val (pe_call G_is_whole hr (by rfl) g_is_whole F_is_whole.kp b_is_whole .nil pass0 (pa_cons (pv 2) pa_nil)))) (pw_or1 (pt_not (pt_val (pe_call G_is_whole hr (by rfl) g_is_whole F_is_whole.kp b_is_whole .nil pass0 (pa_cons (pv 3) pa_nil))))))) (pss_one (ps_ret pe_bl)) pss_nil)
        (pss_cons (ps_if (pt_cmpR op_eq (pv 0) pe_int (nomark _)) (pss_one (ps_ret (pe_and (pe_cmpR op_ge (pv 3) pe_int (nomark _)) (pe_one (pe_cmpR op_eq (pe_call G_common_divisor hr (by rfl) g_common_divisor F_common_divisor.kp b_common_divisor .nil pass0 (pa_cons (pv 2) (pa_cons (pv 3) pa_nil))) pe_int (nomark _)))))) pss_nil)
        (pss_one (ps_ret (pe_and (pe_chain op_le op_lt pe_int (pv 2) (pv 0)) (pe_one (pe_cmpR op_eq (pv 3) pe_int (nomark _)))))))))), ?_⟩
    walk_at "go"
    refine isi_tup hv (fun p xs e hp hx => ?_) (fun hn => ?_)
    · subst e
      rw [numOf_tup hp] at q
      walk_at "go"
      refine iteF ?_
      walk_at "go"
      refine ⟨p, xs, rfl, .inr (SqT.of hp), ?_⟩
      walk_at "go"
      refine w_iteN (fun hl => ?_) (fun hl => ?_)
      · walk_at "go"
        rw [numOk_len (by omega)] at q
        exact q
      · obtain ⟨t, b, rfl⟩ : ∃ t b, xs = [t, b] := by
          match xs, hl with
          | [t, b], _ => exact ⟨t, b, rfl⟩
          | [], h => simp at h
          | [_], h => simp at h
          | _ :: _ :: _ :: _, h => simp at h; omega
        walk_at "go"
        refine ⟨t, rfl, .inl (hx t (by simp)), ?_⟩
        walk_at "go"
        refine w_iteBN (fun hw => ?_) (fun hw => ?_)
        · walk_at "go"
          rw [numOk_l hw] at q
          exact q
        · walk_at "go"
          refine ⟨b, rfl, .inl (hx b (by simp)), ?_⟩
          walk_at "go"
          refine w_iteBN (fun hw2 => ?_) (fun hw2 => ?_)
          · walk_at "go"
            rw [numOk_r hw2] at q
            exact q
          · obtain ⟨t, rfl⟩ := whole_int hw
            obtain ⟨b, rfl⟩ := whole_int hw2
            walk_at "go"
            refine w_ite (fun hg => ?_) (fun hg => ?_)
            · subst hg
              rw [numOk_0] at q
              walk_at "go"
              refine w_ite (fun hb => ?_) (fun hb => ?_)
              · walk_at "go"
                refine ⟨t, b, rfl, ?_⟩
                walk_at "go"
                rw [decide_eq_true hb] at q
                exact q
              · rw [decide_eq_false hb] at q
                exact q
            · rw [numOk_g hg] at q
              walk_at "go"
              refine w_ite (fun h0 => ?_) (fun h0 => ?_)
              · walk_at "go"
                refine w_ite (fun h1 => ?_) (fun h1 => ?_)
                · walk_at "go"
                  rw [decide_eq_true h0, decide_eq_true h1] at q
                  exact q
                · rw [decide_eq_true h0, decide_eq_false h1] at q
                  exact q
              · walk_at "go"
                rw [decide_eq_false h0] at q
                exact q
    · rw [hn g] at q
      walk_at "go"
      refine iteT ?_
      walk_at "go"
      exact q
theorem ok_lowest {f : Addr} {fd : FuncData} (F : FnP K "lowest" s_lowest f fd)
    {f_common_divisor : Addr} {fd_common_divisor : FuncData} (F_common_divisor : FnP K "common_divisor" s_common_divisor f_common_divisor fd_common_divisor) (b_common_divisor : Binds K fd_common_divisor ["a", "b"] []) (g_common_divisor : mg "common_divisor" = some (.ref f_common_divisor)) (G_common_divisor : FnOk P w K mg base CX0 1 f_common_divisor fd_common_divisor ["a", "b"] (sp_common_divisor K))
    {f_wheel_back : Addr} {fd_wheel_back : FuncData} (F_wheel_back : FnP K "wheel_back" s_wheel_back f_wheel_back fd_wheel_back) (b_wheel_back : Binds K fd_wheel_back ["wheel", "whole"] []) (g_wheel_back : mg "wheel_back" = some (.ref f_wheel_back)) (G_wheel_back : FnOk P w K mg base CX0 1 f_wheel_back fd_wheel_back ["wheel", "whole"] (sp_wheel_back K)) :
    FnOk P w K mg base CX0 2 f fd ["ground", "top", "bottom"] (sp_lowest K) := by
  refine F.ok sc_lowest (fun vs H Q E h => ?_) (fun cdv A outer s H vs Q E hr h => ?_)
  · obtain ⟨g, u, d, rfl, hh, q⟩ := h
    rfl
  · obtain ⟨g, u, d, rfl, hh, q⟩ := h
    refine ⟨_, PSs.nox (pss_cons (ps_if (pt_cmpR op_ne (pv 0) pe_int (nomark _)) (pss_one (ps_ret (pe_tup (pa_cons (pe_op op_modN (pe_op op_mulW (pv 1) (pe_call G_wheel_back hr (by rfl) g_wheel_back F_wheel_back.kp b_wheel_back .nil pass0 (pa_cons (pv 0) (pa_cons (pv 2) pa_nil)))) (pv 0)) (pa_cons pe_int pa_nil))))) pss_nil)
        (pss_cons (ps_set (i := 3) sc_lowest.nd rfl (.inl rfl) (pe_call G_common_divisor hr (by rfl) g_common_divisor F_common_divisor.kp b_common_divisor .nil pass0 (pa_cons (pv 1) (pa_cons (pv 2) pa_nil))))
        (pss_cons (ps_if (pt_cmpR op_lt (pv 2) pe_int (nomark _)) (pss_one (ps_set (i := 3) sc_lowest.nd rfl (.inl rfl) (pe_un un_neg (pv 3)))) pss_nil)
        (pss_one (ps_ret (pe_tup (pa_cons (pe_op op_fdivZ (pv 1) (pv 3)) (pa_cons (pe_op op_fdivZ (pv 2) (pv 3)) pa_nil)))))))), ?_⟩
    walk_at "go"
    refine w_iteN (fun hc => ?_) (fun hc => ?_)
    · rcases hh with ⟨h0, _⟩ | ⟨hg, hu, k, hk1, hk, hkd⟩
      · exact absurd h0 hc
      · walk_at "go"
        refine ⟨g, d, k, rfl, hg, hk1, hk, hkd, fun f hf1 hf hfd => ?_⟩
        refine w_I (wide_mul (b := 5) hu (show f.natAbs < 2 ^ 5 by omega) (by decide) (by decide) (by decide)) ?_
        walk_at "go"
        refine w_I (by omega) ?_
        walk_at "go"
        refine w_new (by simp) fun p1 H1 hp1 s1 h1 => ?_
        refine q p1 H1 hp1 s1 ?_
        rw [low_inv (by omega) hfd]
        exact h1
    · subst hc
      rcases hh with ⟨_, hd, hz⟩ | ⟨hg, _⟩
      · have hI : lowI 0 u d = none := by
          unfold lowI
          rw [if_neg (by decide)]
        have e : lowF 0 u d = (u.fdiv (lowC u d), d.fdiv (lowC u d)) := by
          unfold lowF
          rw [hI]
        have hcz : ∀ i : Int, CDivZ i (lowC u d) := fun i => divZ_of (b := 8500) (lowC_ne hd) (Nat.lt_of_le_of_lt (lowC_le hd) hz) (by decide) (by decide)
        rw [e] at q
        walk_at "go"
        refine ⟨u, d, rfl, ?_⟩
        walk_at "go"
        refine w_ite (fun hn => ?_) (fun hn => ?_)
        · walk_at "go"
          have ec : lowC u d = -(Int.gcd u d : Int) := by
            unfold lowC
            rw [if_pos hn, Int.mul_neg, Int.mul_one]
          rw [← ec]
          refine w_I (hcz _) ?_
          walk_at "go"
          refine w_I (hcz _) ?_
          walk_at "go"
          refine w_new (by simp) fun p1 H1 hp1 s1 h1 => ?_
          exact q p1 H1 hp1 s1 h1
        · walk_at "go"
          have ec : lowC u d = (Int.gcd u d : Int) := by
            unfold lowC
            rw [if_neg hn, Int.mul_one]
          rw [← ec]
          refine w_I (hcz _) ?_
          walk_at "go"
          refine w_I (hcz _) ?_
          walk_at "go"
          refine w_new (by simp) fun p1 H1 hp1 s1 h1 => ?_
          exact q p1 H1 hp1 s1 h1
      · exact absurd hg (by decide)
theorem ok_fraction_root {f : Addr} {fd : FuncData} (F : FnP K "fraction_root" s_fraction_root f fd)
    {f_whole_root : Addr} {fd_whole_root : FuncData} (F_whole_root : FnP K "whole_root" s_whole_root f_whole_root fd_whole_root) (b_whole_root : Binds K fd_whole_root ["square"] []) (g_whole_root : mg "whole_root" = some (.ref f_whole_root)) (G_whole_root : FnOk P w K mg base CX0 1 f_whole_root fd_whole_root ["square"] (sp_whole_root K)) :
    FnOk P w K mg base CX0 2 f fd ["x"] (sp_fraction_root K) := by
  refine F.ok sc_fraction_root (fun vs H Q E h => ?_) (fun cdv A outer s H vs Q E hr h => ?_)
  · obtain ⟨v, a, rfl, ha, h1, h2, hv, q⟩ := h
    rfl
  · obtain ⟨v, a, rfl, ha, h1, h2, hv, q⟩ := h
    refine ⟨_, PSs.nox (pss_cons (ps_asg (pv 0) (pg_tup rfl (pgs_cons (pg_name (i := 1) sc_fraction_root.nd rfl (.inl rfl)) (pgs_cons (pg_name (i := 2) sc_fraction_root.nd rfl (.inl rfl)) pgs_nil))))
        (pss_cons (ps_if (pt_cmpR op_lt (pv 1) pe_int (nomark _)) (pss_one (ps_ret pe_non)) pss_nil)
        (pss_cons (ps_set (i := 3) sc_fraction_root.nd rfl (.inl rfl) (pe_tup (pa_cons (pe_call G_whole_root hr (by rfl) g_whole_root F_whole_root.kp b_whole_root .nil pass0 (pa_cons (pv 1) pa_nil)) (pa_cons (pe_call G_whole_root hr (by rfl) g_whole_root F_whole_root.kp b_whole_root .nil pass0 (pa_cons (pv 2) pa_nil)) pa_nil))))
        (pss_cons (ps_if (PW.pt (pw_or (pt_cmpR op_ne (pe_op op_mulW (pe_ix ix_tup (pv 3) pe_int (fun _ _ => rfl)) (pe_ix ix_tup (pv 3) pe_int (fun _ _ => rfl))) (pv 1) (nomark _)) (pw_or1 (pt_cmpR op_ne (pe_op op_mulW (pe_ix ix_tup (pv 3) pe_int (fun _ _ => rfl)) (pe_ix ix_tup (pv 3) pe_int (fun _ _ => rfl))) (pv 2) (nomark _))))) (pss_one (ps_ret pe_non)) pss_nil)
        (pss_one (ps_ret (pv 3))))))), ?_⟩
    obtain ⟨p, rfl, hp⟩ := hv
    walk_at "go"
    refine w_ite (fun hc => ?_) (fun hc => ?_)
    · walk_at "go"
      refine q _ _ (Same.refl H) ?_
      rw [rootV_neg hc]
      exact rfl
    · walk_at "go"
      have n1 : a.1.toNat < 2 ^ 8000 := by omega
      have n2 : a.2.toNat < 2 ^ 8000 := by omega
      refine ⟨a.1.toNat, by rw [Int.toNat_of_nonneg (by omega)]; rfl, n1, ?_⟩
      walk_at "go"
      refine ⟨a.2.toNat, by rw [Int.toNat_of_nonneg (by omega)]; rfl, n2, ?_⟩
      walk_at "go"
      refine w_new (by simp) fun p1 H1 hp1 s1 i1 => ?_
      walk_at "go"
      refine w_I (isq_mulW n1) ?_
      walk_at "go"
      refine w_iteN (fun hd => ?_) (fun hd => ?_)
      · walk_at "go"
        refine q _ _ s1 ?_
        rw [rootV_no hc fun z => hd z.1]
        exact rfl
      · walk_at "go"
        refine w_I (isq_mulW n2) ?_
        walk_at "go"
        refine w_iteN (fun he => ?_) (fun he => ?_)
        · walk_at "go"
          refine q _ _ s1 ?_
          rw [rootV_no hc fun z => he z.2]
          exact rfl
        · walk_at "go"
          refine q _ _ s1 ?_
          rw [rootV_yes hc hd he]
          exact ⟨p1, rfl, i1⟩
theorem ok__law_low {f : Addr} {fd : FuncData} (F : FnP K "_law_low" s__law_low f fd)
    {f__law_shared : Addr} {fd__law_shared : FuncData} (F__law_shared : FnP K "_law_shared" s__law_shared f__law_shared fd__law_shared) (b__law_shared : Binds K fd__law_shared ["_law_one", "_law_other"] []) (g__law_shared : mg "_law_shared" = some (.ref f__law_shared)) (G__law_shared : FnOk P w K mg base CX0 1 f__law_shared fd__law_shared ["_law_one", "_law_other"] (sp__law_shared K)) (m_range : mg "range" = none) (m_int : mg "int" = none) :
    FnOk P w K mg base CX0 2 f fd ["_law_g", "_law_up", "_law_down"] (sp__law_low K) := by
  refine F.ok sc__law_low (fun vs H Q E h => ?_) (fun cdv A outer s H vs Q E hr h => ?_)
  · obtain ⟨g, u, d, rfl, hg0, hg, hd, hz, q⟩ := h
    rfl
  · obtain ⟨g, u, d, rfl, hg0, hg, hd, hz, q⟩ := h
    refine ⟨_, PSs.nox (pss_cons (ps_if (pt_cmpR op_gt (pv 0) pe_int (nomark _)) (pss_one (ps_for PassesOwn.never rfl (pi_range1 (by rfl) m_range (pa_cons (pv 0) pa_nil)) (pg_name (i := 3) sc__law_low.nd rfl (.inl rfl)) (pss_one (ps_if (pt_cmpR op_eq (pe_op op_modN (pe_op op_mul (pv 3) (pv 2)) (pv 0)) (pe_op op_modN (pv 1) (pv 0)) (nomark _)) (pss_one (ps_ret (pe_tup (pa_cons (pv 3) (pa_cons pe_int pa_nil))))) pss_nil)))) pss_nil)
        (pss_cons (ps_set (i := 4) sc__law_low.nd rfl (.inl rfl) (pe_op op_mul (pe_call G__law_shared hr (by rfl) g__law_shared F__law_shared.kp b__law_shared .nil pass0 (pa_cons (pv 1) (pa_cons (pv 2) pa_nil))) (pe_ix ix_list (pe_lst (pa_cons pe_int (pa_cons (pe_un un_neg pe_int) pa_nil))) (pe_callTy call_int1 (by rfl) m_int (by decide +kernel) (pa_cons (pe_cmpR op_lt (pv 2) pe_int (nomark _)) pa_nil)) (fun _ _ => rfl))))
        (pss_one (ps_ret (pe_tup (pa_cons (pe_op op_fdivZ (pv 1) (pv 4)) (pa_cons (pe_op op_fdivZ (pv 2) (pv 4)) pa_nil))))))), ?_⟩
    walk_at "go"
    refine w_ite (fun hc => ?a) (fun hc => ?b)
    case' a =>
      walk_at "go"
      refine ⟨by omega, by omega, ?_⟩
      refine for_range (fun i σ H' => H' = H ∧ (∃ y y2, σ = [some (.int g), some (.int u), some (.int d), y, y2]) ∧ ∀ j : Nat, j < i → ¬ ((j : Int) * d).fmod g = u.fmod g) ⟨rfl, ⟨none, none, rfl⟩, fun j hj => absurd hj (Nat.not_lt_zero _)⟩ (fun i σ H' hi hP => ?s1) (fun σ H' hP => ?s2)
    case' s1 =>
      obtain ⟨rfl, ⟨y, y2, rfl⟩, hn⟩ := hP
      walk_at "go"
      rw [Int.zero_add]
      refine w_I (.inl ⟨by omega, by omega⟩) ?_
      walk_at "go"
      refine w_I (by omega) ?_
      walk_at "go"
      refine w_I (by omega) ?_
      walk_at "go"
      refine w_ite (fun hc2 => ?_) (fun hc2 => ?_)
      · walk_at "go"
        refine w_new (by simp) fun p1 H1 hp1 s1 h1 => ?_
        refine q p1 H1 hp1 s1 ?_
        have e : lowF g u d = ((i : Int), 1) := by
          unfold lowF
          rw [lowI_some hi hc2 hn]
        rw [e]
        exact h1
      · walk_at "go"
        refine ⟨rfl, ⟨_, _, rfl⟩, fun j hj => ?_⟩
        by_cases e : j = i
        · rw [e]; exact hc2
        · exact hn j (by omega)
    case' s2 =>
      obtain ⟨rfl, ⟨y, y2, rfl⟩, hn⟩ := hP
      have hI : lowI g u d = none := lowI_none hn
    case' b =>
      have hI : lowI g u d = none := lowI_none (fun j hj => by omega)
    all_goals
      walk_at "go"
      refine ⟨u, d, rfl, ?_⟩
      walk_at "go"
      refine w_new (by simp) fun p1 H1 hp1 s1 h1 => ?_
      walk_at "go"
      refine .inr ⟨_, rfl, ?_⟩
      refine w_ixL h1 (low_sign d) ?_
      refine w_I (.inr (by split <;> decide)) ?_
      walk_at "go"
      refine w_I (low_cb hd hz _) ?_
      walk_at "go"
      refine w_I (low_cb hd hz _) ?_
      walk_at "go"
      refine w_new (by simp) fun p2 H2 hp2 s2 h2 => ?_
      refine q p2 H2 (s1.free hp2) (s1.trans s2) ?_
      have e : lowF g u d = (u.fdiv (lowC u d), d.fdiv (lowC u d)) := by
        unfold lowF
        rw [hI]
      rw [e]
      exact h2
theorem ok__law_is_number {f : Addr} {fd : FuncData} (F : FnP K "_law_is_number" s__law_is_number f fd)
    {f__law_shared : Addr} {fd__law_shared : FuncData} (F__law_shared : FnP K "_law_shared" s__law_shared f__law_shared fd__law_shared) (b__law_shared : Binds K fd__law_shared ["_law_one", "_law_other"] []) (g__law_shared : mg "_law_shared" = some (.ref f__law_shared)) (G__law_shared : FnOk P w K mg base CX0 1 f__law_shared fd__law_shared ["_law_one", "_law_other"] (sp__law_shared K))
    {f__law_is_whole : Addr} {fd__law_is_whole : FuncData} (F__law_is_whole : FnP K "_law_is_whole" s__law_is_whole f__law_is_whole fd__law_is_whole) (b__law_is_whole : Binds K fd__law_is_whole ["_law_thing"] []) (g__law_is_whole : mg "_law_is_whole" = some (.ref f__law_is_whole)) (G__law_is_whole : FnOk P w K mg base CX0 1 f__law_is_whole fd__law_is_whole ["_law_thing"] (sp__law_is_whole K)) (m_isinstance : mg "isinstance" = none) (m_tuple : mg "tuple" = none) (m_len : mg "len" = none) (m_all : mg "all" = none) :
    FnOk P w K mg base CX0 2 f fd ["_law_g", "_law_thing"] (sp__law_is_number K) := by
  refine F.ok sc__law_is_number (fun vs H Q E h => ?_) (fun cdv A outer s H vs Q E hr h => ?_)
  · obtain ⟨g, v, rfl, hg0, hv, q⟩ := h
    rfl
  · obtain ⟨g, v, rfl, hg0, hv, q⟩ := h
    refine ⟨_, PSs.nox (pss_cons (ps_if (PW.pt (pw_or (pt_not (pt_val (pe_callB call_isi (by rfl) m_isinstance (by decide +kernel) (pa_cons (pv 1) (pa_cons (pe_bltn (v := .ty "tuple") (by rfl) m_tuple (by decide +kernel) rfl) pa_nil))))) (pw_or (pt_cmpR op_ne (pe_callB call_len_seq (by rfl) m_len (by decide +kernel) (pa_cons (pv 1) pa_nil)) pe_int (nomark _)) (pw_or1 (pt_not (pt_val (pe_callB (cr_all rfl) (by rfl) m_all (by decide +kernel) (pa_cons (pe_lc (own := [("_law_one", 2)]) (g := gName 2) (tt := tYes) (by rfl) sc__law_is_number.nd (pi_tup (pv 1)) (blkOk_by (own := [("_law_one", 2)]) (N := ["_law_g", "_law_thing", "_law_one"]) (sc := defScope s__law_is_number) (by decide +kernel)) (fun _ _ _ _ _ => (pg_name (i := 2) sc__law_is_number.nd rfl (.inl rfl))) (fun _ _ _ _ _ => pts_nil) (fun _ _ _ _ _ => (pe_call G__law_is_whole hr (by rfl) g__law_is_whole F__law_is_whole.kp b__law_is_whole .nil pass0 (pa_cons (pv 2) pa_nil)))) pa_nil)))))))) (pss_one (ps_ret pe_bl)) pss_nil)
        (pss_cons (ps_if (pt_cmpR op_gt (pv 0) pe_int (nomark _)) (pss_one (ps_ret (pe_and (pe_chain op_le op_lt pe_int (pe_ix ix_tup (pv 1) pe_int (fun _ _ => rfl)) (pv 0)) (pe_one (pe_cmpR op_eq (pe_ix ix_tup (pv 1) pe_int (fun _ _ => rfl)) pe_int (nomark _)))))) pss_nil)
        (pss_one (ps_ret (pe_and (pe_cmpR op_gt (pe_ix ix_tup (pv 1) pe_int (fun _ _ => rfl)) pe_int (nomark _)) (pe_one (pe_cmpR op_eq (pe_call G__law_shared hr (by rfl) g__law_shared F__law_shared.kp b__law_shared .nil pass0 (pa_cons (pe_ix ix_tup (pv 1) pe_int (fun _ _ => rfl)) (pa_cons (pe_ix ix_tup (pv 1) pe_int (fun _ _ => rfl)) pa_nil))) pe_int (nomark _)))))))), ?_⟩
    walk_at "go"
    refine isi_tup hv (fun p xs e hp hx => ?_) (fun hn => ?_)
    · subst e
      rw [numOf_tup hp] at q
      walk_at "go"
      refine iteF ?_
      walk_at "go"
      refine ⟨p, xs, rfl, .inr (SqT.of hp), ?_⟩
      walk_at "go"
      refine w_iteN (fun hl => ?_) (fun hl => ?_)
      · walk_at "go"
        rw [numOk_len (by omega)] at q
        exact q _ (Same.refl _)
      · obtain ⟨t, b, rfl⟩ : ∃ t b, xs = [t, b] := by
          match xs, hl with
          | [t, b], _ => exact ⟨t, b, rfl⟩
          | [], h => simp at h
          | [_], h => simp at h
          | _ :: _ :: _ :: _, h => simp at h; omega
        walk_at "go"
        refine ⟨p, rfl, ⟨_, SqT.of hp⟩, fun D hD => ?_⟩
        refine lc_tup (xs := [t, b]) (fun i H' => Same H H' ∧ H' D = some (.lst (([wholeB t, wholeB b].take i).map V.bl))) ⟨Same.updD (Same.refl H) hD, upd_same⟩ (fun i H' _ hP => SqT.of (hP.1 _ _ hp)) (fun i x H' hxi hP => ?_) (fun H' hP => ?_)
        · obtain ⟨sm, hD'⟩ := hP
          have hi : i < 2 := (List.getElem?_eq_some_iff.mp hxi).1
          walk_at "go"
          refine ⟨rfl, ?_⟩
          walk_at "go"
          refine ⟨x, rfl, .inl (hx x (List.mem_of_getElem? hxi)), ?_⟩
          refine ⟨_, hD', ?_, Same.updD sm hD, ?_⟩
          · rw [List.length_map, List.length_take]
            exact small1000 (by omega)
          · rw [upd_same]
            match i, hi, hxi with
            | 0, _, hxi =>
              cases Option.some.inj hxi
              rfl
            | 1, _, hxi =>
              cases Option.some.inj hxi
              rfl
        · obtain ⟨sm, hD'⟩ := hP
          walk_at "go"
          refine ⟨D, [wholeB t, wholeB b], rfl, SqL.of hD', ?_⟩
          have ea : [wholeB t, wholeB b].all id = (wholeB t && wholeB b) := by
            show (wholeB t && (wholeB b && true)) = _
            rw [Bool.and_true]
          rw [ea]
          walk_at "go"
          refine w_iteBN (fun hw => ?_) (fun hw => ?_)
          · walk_at "go"
            have ef : numOk g [t, b] = false := by
              cases h : wholeB t with
              | false => exact numOk_l h
              | true =>
                rw [h] at hw
                exact numOk_r hw
            rw [ef] at q
            exact q _ sm
          · rw [Bool.and_eq_true] at hw
            obtain ⟨t, rfl⟩ := whole_int hw.1
            obtain ⟨b, rfl⟩ := whole_int hw.2
            have hp' := sm _ _ hp
            walk_at "go"
            refine w_ite (fun hg => ?_) (fun hg => ?_)
            · rw [numOk_g (by omega)] at q
              walk_at "go"
              refine w_ite (fun h0 => ?_) (fun h0 => ?_)
              · walk_at "go"
                refine w_ite (fun h1 => ?_) (fun h1 => ?_)
                · walk_at "go"
                  rw [decide_eq_true h0, decide_eq_true h1] at q
                  exact q _ sm
                · rw [decide_eq_true h0, decide_eq_false h1] at q
                  exact q _ sm
              · walk_at "go"
                rw [decide_eq_false h0] at q
                exact q _ sm
            · have e0 : g = 0 := by omega
              subst e0
              rw [numOk_0] at q
              walk_at "go"
              refine w_ite (fun hb => ?_) (fun hb => ?_)
              · walk_at "go"
                refine ⟨t, b, rfl, ?_⟩
                walk_at "go"
                rw [decide_eq_true (show 1 ≤ b by omega)] at q
                exact q _ sm
              · rw [decide_eq_false (show ¬ 1 ≤ b by omega)] at q
                exact q _ sm
    · rw [hn g] at q
      walk_at "go"
      refine iteT ?_
      walk_at "go"
      exact q _ (Same.refl _)
theorem ok__law_ground {f : Addr} {fd : FuncData} (F : FnP K "_law_ground" s__law_ground f fd)
    {f__law_take : Addr} {fd__law_take : FuncData} (F__law_take : FnP K "_law_take" s__law_take f__law_take fd__law_take) (b__law_take : Binds K fd__law_take ["_law_bag_here", "_law_many"] []) (g__law_take : mg "_law_take" = some (.ref f__law_take)) (G__law_take : FnOk P w K mg base CX0 1 f__law_take fd__law_take ["_law_bag_here", "_law_many"] (sp__law_take K)) :
    FnOk P w K mg base CX0 2 f fd ["_law_bag_here"] (sp__law_ground K) := by
  refine F.ok sc__law_ground (fun vs H Q E h => ?_) (fun cdv A outer s H vs Q E hr h => ?_)
  · obtain ⟨b, rfl, hb, q⟩ := h
    rfl
  · obtain ⟨b, rfl, hb, q⟩ := h
    refine ⟨_, PSs.nox (pss_one (ps_ret (pe_ix ix_list (pe_lst (pa_cons pe_int (pa_cons pe_int (pa_cons pe_int (pa_cons pe_int (pa_cons pe_int (pa_cons pe_int (pa_cons pe_int (pa_cons (pe_ix ix_list (pe_lst (pa_cons pe_int (pa_cons pe_int (pa_cons pe_int pa_nil)))) (pe_call G__law_take hr (by rfl) g__law_take F__law_take.kp b__law_take .nil pass0 (pa_cons (pv 0) (pa_cons pe_int pa_nil))) (fun _ _ => rfl)) pa_nil))))))))) (pe_call G__law_take hr (by rfl) g__law_take F__law_take.kp b__law_take .nil pass0 (pa_cons (pv 0) (pa_cons pe_int pa_nil))) (fun _ _ => rfl)))), ?_⟩
    walk_at "go"
    refine w_new (by simp) fun p1 H1 hp1 s1 h1 => ?_
    walk_at "go"
    refine ⟨b, 3, rfl, by decide, by decide, hb.same s1, fun H2 d hd0 hd1 mv2 hb2 => ?_⟩
    obtain ⟨m, em, hm⟩ := gr_three hd0 hd1
    have n1 : p1 ≠ b := fun e => by
      subst e
      obtain ⟨A, B, h2, _⟩ := hb
      rw [hp1] at h2
      cases h2
    refine w_ixL (mv2 _ _ n1 h1) em ?_
    walk_at "go"
    refine w_new (by simp) fun p3 H3 hp3 s3 h3 => ?_
    walk_at "go"
    refine ⟨b, 8, rfl, by decide, by decide, hb2.same s3, fun H4 e he0 he1 mv4 hb4 => ?_⟩
    obtain ⟨g, eg, hg⟩ := gr_eight he0 he1 hm
    have n3 : p3 ≠ b := fun e => by
      subst e
      obtain ⟨A, B, h2, _⟩ := hb2
      rw [hp3] at h2
      cases h2
    refine w_ixL (mv4 _ _ n3 h3) eg ?_
    exact q _ _ hg ((Mv.same s1).trans (mv2.trans ((Mv.same s3).trans mv4))) hb4
theorem ok__law_odd {f : Addr} {fd : FuncData} (F : FnP K "_law_odd" s__law_odd f fd)
    {f__law_take : Addr} {fd__law_take : FuncData} (F__law_take : FnP K "_law_take" s__law_take f__law_take fd__law_take) (b__law_take : Binds K fd__law_take ["_law_bag_here", "_law_many"] []) (g__law_take : mg "_law_take" = some (.ref f__law_take)) (G__law_take : FnOk P w K mg base CX0 1 f__law_take fd__law_take ["_law_bag_here", "_law_many"] (sp__law_take K)) :
    FnOk P w K mg base CX0 2 f fd ["_law_bag_here"] (sp__law_odd K) := by
  refine F.ok sc__law_odd (fun vs H Q E h => ?_) (fun cdv A outer s H vs Q E hr h => ?_)
  · obtain ⟨b, rfl, hb, q⟩ := h
    rfl
  · obtain ⟨b, rfl, hb, q⟩ := h
    refine ⟨_, PSs.nox (pss_cons (ps_set (i := 1) sc__law_odd.nd rfl (.inl rfl) (pe_lst (pa_cons pe_non (pa_cons pe_bl (pa_cons pe_bl (pa_cons pe_str (pa_cons pe_str (pa_cons (pe_un un_neg pe_int) (pa_cons pe_int (pa_cons pe_int (pa_cons (pe_op op_pow pe_int pe_int) (pa_cons (pe_tup pa_nil) (pa_cons (pe_lst pa_nil) (pa_cons (pe_lst (pa_cons pe_int pa_nil)) (pa_cons (pe_tup (pa_cons pe_int (pa_cons pe_int pa_nil))) (pa_cons (pe_tup (pa_cons pe_int (pa_cons pe_int pa_nil))) (pa_cons (pe_tup (pa_cons pe_int (pa_cons pe_int pa_nil))) (pa_cons (pe_tup (pa_cons pe_bl (pa_cons pe_int pa_nil))) (pa_cons (pe_tup (pa_cons pe_int (pa_cons (pe_un un_neg pe_int) pa_nil))) (pa_cons (pe_tup (pa_cons pe_int pa_nil)) (pa_cons (pe_lst (pa_cons pe_int (pa_cons pe_int pa_nil))) (pa_cons (pe_tup (pa_cons pe_int (pa_cons pe_int (pa_cons pe_int pa_nil)))) pa_nil))))))))))))))))))))))
        (pss_one (ps_ret (pe_ix ix_list (pv 1) (pe_call G__law_take hr (by rfl) g__law_take F__law_take.kp b__law_take .nil pass0 (pa_cons (pv 0) (pa_cons pe_int pa_nil))) (fun _ _ => rfl))))), ?_⟩
    walk_at "go"
    refine w_Iv ⟨by decide, by decide, by decide⟩ rfl ?_
    walk_at "go"
    refine w_new (by simp) fun p1 H1 hp1 s1 h1 => ?_
    have t1 : Th H1 (.ref p1) := Th.tup h1 rfl
    walk_at "go"
    refine w_new (by simp) fun p2 H2 hp2 s2 h2 => ?_
    have t2 : Th H2 (.ref p2) := Th.lst h2
    walk_at "go"
    refine w_new (by simp) fun p3 H3 hp3 s3 h3 => ?_
    have t3 : Th H3 (.ref p3) := Th.lst h3
    walk_at "go"
    refine w_new (by simp) fun p4 H4 hp4 s4 h4 => ?_
    have t4 : Th H4 (.ref p4) := Th.tup h4 rfl
    walk_at "go"
    refine w_new (by simp) fun p5 H5 hp5 s5 h5 => ?_
    have t5 : Th H5 (.ref p5) := Th.tup h5 rfl
    walk_at "go"
    refine w_new (by simp) fun p6 H6 hp6 s6 h6 => ?_
    have t6 : Th H6 (.ref p6) := Th.tup h6 rfl
    walk_at "go"
    refine w_new (by simp) fun p7 H7 hp7 s7 h7 => ?_
    have t7 : Th H7 (.ref p7) := Th.tup h7 rfl
    walk_at "go"
    refine w_new (by simp) fun p8 H8 hp8 s8 h8 => ?_
    have t8 : Th H8 (.ref p8) := Th.tup h8 rfl
    walk_at "go"
    refine w_new (by simp) fun p9 H9 hp9 s9 h9 => ?_
    have t9 : Th H9 (.ref p9) := Th.tup h9 rfl
    walk_at "go"
    refine w_new (by simp) fun p10 H10 hp10 s10 h10 => ?_
    have t10 : Th H10 (.ref p10) := Th.lst h10
    walk_at "go"
    refine w_new (by simp) fun p11 H11 hp11 s11 h11 => ?_
    have t11 : Th H11 (.ref p11) := Th.tup h11 rfl
    walk_at "go"
    refine w_new (by simp) fun L HL hL sL hLL => ?_
    have sA := (s1.trans (s2.trans (s3.trans (s4.trans (s5.trans (s6.trans (s7.trans (s8.trans (s9.trans (s10.trans (s11.trans sL)))))))))))
    walk_at "go"
    refine ⟨b, 20, rfl, by decide, by decide, hb.same sA, fun HZ d hd0 hd1 mZ hbZ => ?_⟩
    have nL : L ≠ b := bag_ne hb ((Same.free ((s1.trans (s2.trans (s3.trans (s4.trans (s5.trans (s6.trans (s7.trans (s8.trans (s9.trans (s10.trans s11))))))))))) hL))
    obtain ⟨v, ev, hv⟩ := atI_some hd0 (show d < (([V.non, V.bl true, V.bl false, V.str (Str.ofString "1"), V.str (Str.ofString ""), V.int (-1), V.int 0, V.int 1, V.int (10 ^ (59 : Nat)), V.ref p1, V.ref p2, V.ref p3, V.ref p4, V.ref p5, V.ref p6, V.ref p7, V.ref p8, V.ref p9, V.ref p10, V.ref p11] : List V).length : Int) from hd1)
    refine w_ixL (mZ _ _ nL hLL) ev ?_
    have hS : SmV HL v := by
      clear sA
      simp only [List.mem_cons, List.not_mem_nil, or_false] at hv
      rcases hv with rfl | rfl | rfl | rfl | rfl | rfl | rfl | rfl | rfl | rfl | rfl | rfl | rfl | rfl | rfl | rfl | rfl | rfl | rfl | rfl
      iterate 9 exact sm_atom rfl
      · exact sm_tup (sL _ _ (s11 _ _ (s10 _ _ (s9 _ _ (s8 _ _ (s7 _ _ (s6 _ _ (s5 _ _ (s4 _ _ (s3 _ _ (s2 _ _ h1))))))))))) (by decide)
      · exact sm_lst (sL _ _ (s11 _ _ (s10 _ _ (s9 _ _ (s8 _ _ (s7 _ _ (s6 _ _ (s5 _ _ (s4 _ _ (s3 _ _ h2))))))))))
      · exact sm_lst (sL _ _ (s11 _ _ (s10 _ _ (s9 _ _ (s8 _ _ (s7 _ _ (s6 _ _ (s5 _ _ (s4 _ _ h3)))))))))
      · exact sm_tup (sL _ _ (s11 _ _ (s10 _ _ (s9 _ _ (s8 _ _ (s7 _ _ (s6 _ _ (s5 _ _ h4)))))))) (by decide)
      · exact sm_tup (sL _ _ (s11 _ _ (s10 _ _ (s9 _ _ (s8 _ _ (s7 _ _ (s6 _ _ h5))))))) (by decide)
      · exact sm_tup (sL _ _ (s11 _ _ (s10 _ _ (s9 _ _ (s8 _ _ (s7 _ _ h6)))))) (by decide)
      · exact sm_tup (sL _ _ (s11 _ _ (s10 _ _ (s9 _ _ (s8 _ _ h7))))) (by decide)
      · exact sm_tup (sL _ _ (s11 _ _ (s10 _ _ (s9 _ _ h8)))) (by decide)
      · exact sm_tup (sL _ _ (s11 _ _ (s10 _ _ h9))) (by decide)
      · exact sm_lst (sL _ _ (s11 _ _ h10))
      · exact sm_tup (sL _ _ h11) (by decide)
    have hT : Th HL v := by
      clear sA
      simp only [List.mem_cons, List.not_mem_nil, or_false] at hv
      rcases hv with rfl | rfl | rfl | rfl | rfl | rfl | rfl | rfl | rfl | rfl | rfl | rfl | rfl | rfl | rfl | rfl | rfl | rfl | rfl | rfl
      iterate 9 exact .inl rfl
      · exact Th.tup (sL _ _ (s11 _ _ (s10 _ _ (s9 _ _ (s8 _ _ (s7 _ _ (s6 _ _ (s5 _ _ (s4 _ _ (s3 _ _ (s2 _ _ h1))))))))))) rfl
      · exact Th.lst (sL _ _ (s11 _ _ (s10 _ _ (s9 _ _ (s8 _ _ (s7 _ _ (s6 _ _ (s5 _ _ (s4 _ _ (s3 _ _ h2))))))))))
      · exact Th.lst (sL _ _ (s11 _ _ (s10 _ _ (s9 _ _ (s8 _ _ (s7 _ _ (s6 _ _ (s5 _ _ (s4 _ _ h3)))))))))
      · exact Th.tup (sL _ _ (s11 _ _ (s10 _ _ (s9 _ _ (s8 _ _ (s7 _ _ (s6 _ _ (s5 _ _ h4)))))))) rfl
      · exact Th.tup (sL _ _ (s11 _ _ (s10 _ _ (s9 _ _ (s8 _ _ (s7 _ _ (s6 _ _ h5))))))) rfl
      · exact Th.tup (sL _ _ (s11 _ _ (s10 _ _ (s9 _ _ (s8 _ _ (s7 _ _ h6)))))) rfl
      · exact Th.tup (sL _ _ (s11 _ _ (s10 _ _ (s9 _ _ (s8 _ _ h7))))) rfl
      · exact Th.tup (sL _ _ (s11 _ _ (s10 _ _ (s9 _ _ h8)))) rfl
      · exact Th.tup (sL _ _ (s11 _ _ (s10 _ _ h9))) rfl
      · exact Th.lst (sL _ _ (s11 _ _ h10))
      · exact Th.tup (sL _ _ h11) rfl
    exact q _ _ (hT.kd (Kd.mv mZ (hb.same sA) hbZ)) (hS.kd hT (Kd.mv mZ (hb.same sA) hbZ)) ((Mv.same sA).trans mZ) hbZ
theorem ok__law_is_square {f : Addr} {fd : FuncData} (F : FnP K "_law_is_square" s__law_is_square f fd)
    {f__law_root_beneath : Addr} {fd__law_root_beneath : FuncData} (F__law_root_beneath : FnP K "_law_root_beneath" s__law_root_beneath f__law_root_beneath fd__law_root_beneath) (b__law_root_beneath : Binds K fd__law_root_beneath ["_law_whole"] []) (g__law_root_beneath : mg "_law_root_beneath" = some (.ref f__law_root_beneath)) (G__law_root_beneath : FnOk P w K mg base CX0 1 f__law_root_beneath fd__law_root_beneath ["_law_whole"] (sp__law_root_beneath K)) (m_any : mg "any" = none) (m_all : mg "all" = none) (m_range : mg "range" = none) :
    FnOk P w K mg base CX0 2 f fd ["_law_g", "_law_x"] (sp__law_is_square K) := by
  refine F.ok sc__law_is_square (fun vs H Q E h => ?_) (fun cdv A outer s H vs Q E hr h => ?_)
  · obtain ⟨g, v, a, k, rfl, hg, ha, hk, hv, q⟩ := h
    rfl
  · obtain ⟨g, v, a, k, rfl, hg, ha, hk, hv, q⟩ := h
    refine ⟨_, PSs.nox (pss_cons (ps_if (pt_cmpR op_gt (pv 0) pe_int (nomark _)) (pss_one (ps_ret (pe_callB (cr_any rfl) (by rfl) m_any (by decide +kernel) (pa_cons (pe_lc (own := [("_law_one", 2)]) (g := gName 2) (tt := tYes) (by rfl) sc__law_is_square.nd (pi_range1 (by rfl) m_range (pa_cons (pv 0) pa_nil)) (blkOk_by (own := [("_law_one", 2)]) (N := ["_law_g", "_law_x", "_law_one"]) (sc := defScope s__law_is_square) (by decide +kernel)) (fun _ _ _ _ _ => (pg_name (i := 2) sc__law_is_square.nd rfl (.inl rfl))) (fun _ _ _ _ _ => pts_nil) (fun _ _ _ _ _ => (pe_cmpR op_eq (pe_op op_modN (pe_op op_mul (pv 2) (pv 2)) (pv 0)) (pe_ix (r := rIxT K) ix_tup (pv 1) pe_int (fun _ _ => rfl)) (nomark _)))) pa_nil)))) pss_nil)
        (pss_one (ps_ret (pe_and (pe_cmpR op_ge (pe_ix ix_tup (pv 1) pe_int (fun _ _ => rfl)) pe_int (nomark _)) (pe_one (pe_callB (cr_all rfl) (by rfl) m_all (by decide +kernel) (pa_cons (pe_lc (own := [("_law_one", 2)]) (g := gName 2) (tt := tYes) (by rfl) sc__law_is_square.nd (pi_tup (pv 1)) (blkOk_by (own := [("_law_one", 2)]) (N := ["_law_g", "_law_x", "_law_one"]) (sc := defScope s__law_is_square) (by decide +kernel)) (fun _ _ _ _ _ => (pg_name (i := 2) sc__law_is_square.nd rfl (.inl rfl))) (fun _ _ _ _ _ => pts_nil) (fun _ _ _ _ _ => (pe_cmpR op_eq (pe_op op_powW (pe_call G__law_root_beneath hr (by rfl) g__law_root_beneath F__law_root_beneath.kp b__law_root_beneath .nil pass0 (pa_cons (pv 2) pa_nil)) pe_int) (pv 2) (nomark _)))) pa_nil))))))), ?_⟩
    have g0 := ha.g0
    obtain ⟨p, rfl, hp⟩ := hv
    walk_at "go"
    refine w_ite (fun hc => ?_) (fun hc => ?_)
    · walk_at "go"
      refine ⟨by omega, by omega, fun D hD => ?_⟩
      refine lc_range (fun i H' => Same H H' ∧ H' D = some (.lst ((wbs g a.1 i).map V.bl))) ⟨Same.updD (Same.refl H) hD, upd_same⟩ (fun i H' hi hP => ?_) (fun H' hP => ?_)
      · obtain ⟨sm, hD'⟩ := hP
        have hp' := sm _ _ hp
        have hi' : i < g.toNat := hi
        walk_at "go"
        refine ⟨rfl, ?_⟩
        walk_at "go"
        rw [Int.zero_add]
        refine w_I (.inl ⟨by omega, by omega⟩) ?_
        walk_at "go"
        refine w_I (by omega) ?_
        walk_at "go"
        refine ⟨_, hD', small1000 (by rw [List.length_map, wbs_len]; omega), Same.updD sm hD, ?_⟩
        rw [upd_same, wbs_succ, List.map_append]
        rfl
      · obtain ⟨sm, hD'⟩ := hP
        walk_at "go"
        refine ⟨D, _, rfl, SqL.of hD', ?_⟩
        rw [wbs_any (by omega)]
        exact q _ sm
    · have e0 : g = 0 := by omega
      subst e0
      walk_at "go"
      refine w_ite (fun hd => ?_) (fun hd => ?_)
      · have hb := ha.mono hk
        have n1 : a.1.toNat < 2 ^ 8000 := by have := hb.2.1; omega
        have n2 : a.2.toNat < 2 ^ 8000 := by have := hb.2.2; omega
        have hpos := ha.pos
        walk_at "go"
        refine ⟨p, rfl, ⟨_, SqT.of hp⟩, fun D hD => ?_⟩
        have isb : ∀ n : Nat, n < 2 ^ 8000 → CPowW ((isqrt n : Nat) : Int) 2 := fun n h => by
          refine ⟨by decide, ?_⟩
          have := PyProof.Rows.intBits_le (a := ((isqrt n : Nat) : Int)) (k := 8000) (by rw [Int.natAbs_natCast]; exact Nat.lt_of_le_of_lt (isqrt_le n) h)
          omega
        refine lc_tup (xs := [.int a.1, .int a.2]) (fun i H' => Same H H' ∧ H' D = some (.lst (([decide ((isqrt a.1.toNat : Int) * (isqrt a.1.toNat : Int) = a.1), decide ((isqrt a.2.toNat : Int) * (isqrt a.2.toNat : Int) = a.2)].take i).map V.bl))) ⟨Same.updD (Same.refl H) hD, upd_same⟩ (fun i H' _ hP => SqT.of (hP.1 _ _ hp)) (fun i x H' hx hP => ?_) (fun H' hP => ?_)
        · obtain ⟨sm, hD'⟩ := hP
          obtain ⟨n, rfl, hn, hnx⟩ : ∃ n : Nat, x = .int (n : Nat) ∧ n < 2 ^ 8000 ∧ [decide ((isqrt a.1.toNat : Int) * (isqrt a.1.toNat : Int) = a.1), decide ((isqrt a.2.toNat : Int) * (isqrt a.2.toNat : Int) = a.2)][i]? = some (decide ((isqrt n : Int) * (isqrt n : Int) = (n : Nat))) := by
            match i, hx with
            | 0, hx =>
              refine ⟨a.1.toNat, ?_, n1, ?_⟩
              · rw [Int.toNat_of_nonneg (by omega)]
                exact (Option.some.inj hx).symm
              · rw [Int.toNat_of_nonneg (by omega)]
                rfl
            | 1, hx =>
              refine ⟨a.2.toNat, ?_, n2, ?_⟩
              · rw [Int.toNat_of_nonneg (by omega)]
                exact (Option.some.inj hx).symm
              · rw [Int.toNat_of_nonneg (by omega)]
                rfl
            | _ + 2, hx => cases hx
          have hi2 : i < 2 := (List.getElem?_eq_some_iff.mp hx).1
          walk_at "go"
          refine ⟨rfl, ?_⟩
          walk_at "go"
          refine ⟨n, rfl, hn, fun H2 s2 => ?_⟩
          walk_at "go"
          refine w_I (isb n hn) ?_
          walk_at "go"
          refine ⟨_, s2 _ _ hD', small1000 (by rw [List.length_map, List.length_take]; omega), Same.updD (sm.trans s2) hD, ?_⟩
          rw [upd_same, List.take_add_one, hnx, List.map_append]
          have e2 : ((isqrt n : Nat) : Int) ^ (2 : Int).toNat = (isqrt n : Int) * (isqrt n : Int) := by
            show ((isqrt n : Nat) : Int) ^ 2 = _
            rw [Int.pow_succ, Int.pow_succ, Int.pow_zero, Int.one_mul]
          rw [e2]
          rfl
        · obtain ⟨sm, hD'⟩ := hP
          walk_at "go"
          refine ⟨D, _, rfl, SqL.of hD', ?_⟩
          have ea : (rootV 0 a).isSome = (decide ((isqrt a.1.toNat : Int) * (isqrt a.1.toNat : Int) = a.1) && decide ((isqrt a.2.toNat : Int) * (isqrt a.2.toNat : Int) = a.2)) := by
            unfold rootV
            rw [if_pos rfl, if_neg (by omega)]
            by_cases z1 : (isqrt a.1.toNat : Int) * (isqrt a.1.toNat : Int) = a.1
            · by_cases z2 : (isqrt a.2.toNat : Int) * (isqrt a.2.toNat : Int) = a.2
              · rw [if_pos ⟨z1, z2⟩, decide_eq_true z1, decide_eq_true z2]
                rfl
              · rw [if_neg (fun z => z2 z.2), decide_eq_true z1, decide_eq_false z2]
                rfl
            · rw [if_neg (fun z => z1 z.1), decide_eq_false z1]
              rfl
          rw [ea] at q
          have eb : ([decide ((isqrt a.1.toNat : Int) * (isqrt a.1.toNat : Int) = a.1), decide ((isqrt a.2.toNat : Int) * (isqrt a.2.toNat : Int) = a.2)].take 2).all id = (decide ((isqrt a.1.toNat : Int) * (isqrt a.1.toNat : Int) = a.1) && decide ((isqrt a.2.toNat : Int) * (isqrt a.2.toNat : Int) = a.2)) := by
            show (_ && (_ && true)) = _
            rw [Bool.and_true]
            rfl
          show Q (.bl (List.all (List.take 2 _) _)) H'
          rw [eb]
          exact q _ sm
      · walk_at "go"
        rw [rootV_neg (by omega)] at q
        exact q _ (Same.refl H)
theorem ok_times {f : Addr} {fd : FuncData} (F : FnP K "times" s_times f fd)
    {f_lowest : Addr} {fd_lowest : FuncData} (F_lowest : FnP K "lowest" s_lowest f_lowest fd_lowest) (b_lowest : Binds K fd_lowest ["ground", "top", "bottom"] []) (g_lowest : mg "lowest" = some (.ref f_lowest)) (G_lowest : FnOk P w K mg base CX0 2 f_lowest fd_lowest ["ground", "top", "bottom"] (sp_lowest K)) :
    FnOk P w K mg base CX0 3 f fd ["ground", "x", "y"] (sp_times K) := by
  refine F.ok sc_times (fun vs H Q E h => ?_) (fun cdv A outer s H vs Q E hr h => ?_)
  · obtain ⟨g, x, y, a, c, k, l, rfl, hg, hx, hy, ha, hc, hk4, hl4, hk, hl, q⟩ := h
    rfl
  · obtain ⟨g, x, y, a, c, k, l, rfl, hg, hx, hy, ha, hc, hk4, hl4, hk, hl, q⟩ := h
    refine ⟨_, PSs.nox (pss_one (ps_ret (pe_call G_lowest hr (by rfl) g_lowest F_lowest.kp b_lowest .nil pass0 (pa_cons (pv 0) (pa_cons (pe_op op_mulW (pe_ix ix_tup (pv 1) pe_int (fun _ _ => rfl)) (pe_ix ix_tup (pv 2) pe_int (fun _ _ => rfl))) (pa_cons (pe_op op_mulW (pe_ix ix_tup (pv 1) pe_int (fun _ _ => rfl)) (pe_ix ix_tup (pv 2) pe_int (fun _ _ => rfl))) pa_nil)))))), ?_⟩
    obtain ⟨px, rfl, hpx⟩ := hx
    obtain ⟨py, rfl, hpy⟩ := hy
    walk_at "go"
    refine w_I (wide_mul ha.2.1 hc.2.1 (by omega) (by omega) (by omega)) ?_
    walk_at "go"
    refine w_I (wide_mul ha.2.2 hc.2.2 (by omega) (by omega) (by omega)) ?_
    walk_at "go"
    exact ⟨g, _, _, rfl, low_pre hg (Int.mul_ne_zero (by have := ha.pos; omega) (by have := hc.pos; omega)) (TN.dn hg ha hc) (wide_lt ha.2.1 hc.2.1) (wide_lt ha.2.2 hc.2.2) (by omega), fun p H1 hp s1 h1 => q p H1 hp s1 h1⟩
theorem ok_root_or_none {f : Addr} {fd : FuncData} (F : FnP K "root_or_none" s_root_or_none f fd)
    {f_wheel_root : Addr} {fd_wheel_root : FuncData} (F_wheel_root : FnP K "wheel_root" s_wheel_root f_wheel_root fd_wheel_root) (b_wheel_root : Binds K fd_wheel_root ["wheel", "x"] []) (g_wheel_root : mg "wheel_root" = some (.ref f_wheel_root)) (G_wheel_root : FnOk P w K mg base CX0 1 f_wheel_root fd_wheel_root ["wheel", "x"] (sp_wheel_root K))
    {f_fraction_root : Addr} {fd_fraction_root : FuncData} (F_fraction_root : FnP K "fraction_root" s_fraction_root f_fraction_root fd_fraction_root) (b_fraction_root : Binds K fd_fraction_root ["x"] []) (g_fraction_root : mg "fraction_root" = some (.ref f_fraction_root)) (G_fraction_root : FnOk P w K mg base CX0 2 f_fraction_root fd_fraction_root ["x"] (sp_fraction_root K)) :
    FnOk P w K mg base CX0 3 f fd ["ground", "x"] (sp_root_or_none K) := by
  refine F.ok sc_root_or_none (fun vs H Q E h => ?_) (fun cdv A outer s H vs Q E hr h => ?_)
  · obtain ⟨g, v, a, k, rfl, hg, ha, hk, hv, q⟩ := h
    rfl
  · obtain ⟨g, v, a, k, rfl, hg, ha, hk, hv, q⟩ := h
    refine ⟨_, PSs.nox (pss_cons (ps_if (pt_cmpR op_eq (pv 0) pe_int (nomark _)) (pss_one (ps_ret (pe_call G_fraction_root hr (by rfl) g_fraction_root F_fraction_root.kp b_fraction_root .nil pass0 (pa_cons (pv 1) pa_nil)))) pss_nil)
        (pss_one (ps_ret (pe_call G_wheel_root (hr.mono (by decide)) (by rfl) g_wheel_root F_wheel_root.kp b_wheel_root .nil pass0 (pa_cons (pv 0) (pa_cons (pv 1) pa_nil)))))), ?_⟩
    have g0 := ha.g0
    walk_at "go"
    refine w_ite (fun hc => ?_) (fun hc => ?_)
    · subst hc
      walk_at "go"
      exact ⟨v, a, rfl, ha.pos, (ha.mono hk).2.1, (ha.mono hk).2.2, hv, q⟩
    · walk_at "go"
      refine ⟨g, v, a, rfl, by omega, hg, hv, fun H' v' s h => q H' v' s ?_⟩
      rw [rootV_wheel hc]
      exact h
theorem ok__law_plus {f : Addr} {fd : FuncData} (F : FnP K "_law_plus" s__law_plus f fd)
    {f__law_low : Addr} {fd__law_low : FuncData} (F__law_low : FnP K "_law_low" s__law_low f__law_low fd__law_low) (b__law_low : Binds K fd__law_low ["_law_g", "_law_up", "_law_down"] []) (g__law_low : mg "_law_low" = some (.ref f__law_low)) (G__law_low : FnOk P w K mg base CX0 2 f__law_low fd__law_low ["_law_g", "_law_up", "_law_down"] (sp__law_low K)) :
    FnOk P w K mg base CX0 3 f fd ["_law_g", "_law_x", "_law_y"] (sp__law_plus K) := by
  refine F.ok sc__law_plus (fun vs H Q E h => ?_) (fun cdv A outer s H vs Q E hr h => ?_)
  · obtain ⟨g, x, y, a, c, rfl, hg0, hg, hx, hy, ha, hc, q⟩ := h
    rfl
  · obtain ⟨g, x, y, a, c, rfl, hg0, hg, hx, hy, ha, hc, q⟩ := h
    refine ⟨_, PSs.nox (pss_one (ps_ret (pe_call G__law_low hr (by rfl) g__law_low F__law_low.kp b__law_low .nil pass0 (pa_cons (pv 0) (pa_cons (pe_op op_add (pe_op op_mulW (pe_ix ix_tup (pv 1) pe_int (fun _ _ => rfl)) (pe_ix ix_tup (pv 2) pe_int (fun _ _ => rfl))) (pe_op op_mulW (pe_ix ix_tup (pv 2) pe_int (fun _ _ => rfl)) (pe_ix ix_tup (pv 1) pe_int (fun _ _ => rfl)))) (pa_cons (pe_op op_mulW (pe_ix ix_tup (pv 1) pe_int (fun _ _ => rfl)) (pe_ix ix_tup (pv 2) pe_int (fun _ _ => rfl))) pa_nil)))))), ?_⟩
    obtain ⟨px, rfl, hpx⟩ := hx
    obtain ⟨py, rfl, hpy⟩ := hy
    have hW : ∀ {u v : Int}, u.natAbs < 2 ^ 3000 → v.natAbs < 2 ^ 3000 → CMulW u v := fun h1 h2 => wide_mul h1 h2 (by decide) (by decide) (by decide)
    have hD : (a.2 * c.2).natAbs < 2 ^ 8000 := Nat.lt_of_lt_of_le (wide_lt ha.2.1 hc.2.1) (Nat.pow_le_pow_right (by decide) (by decide))
    walk_at "go"
    refine w_I (hW ha.1 hc.2.1) ?_
    walk_at "go"
    refine w_I (hW hc.1 ha.2.1) ?_
    walk_at "go"
    refine w_I (hW ha.2.1 hc.2.1) ?_
    walk_at "go"
    exact ⟨g, _, _, rfl, hg0, hg, Int.mul_ne_zero ha.2.2 hc.2.2, hD, fun p H1 hp s1 h1 => q p H1 hp s1 h1⟩
theorem ok__law_times {f : Addr} {fd : FuncData} (F : FnP K "_law_times" s__law_times f fd)
    {f__law_low : Addr} {fd__law_low : FuncData} (F__law_low : FnP K "_law_low" s__law_low f__law_low fd__law_low) (b__law_low : Binds K fd__law_low ["_law_g", "_law_up", "_law_down"] []) (g__law_low : mg "_law_low" = some (.ref f__law_low)) (G__law_low : FnOk P w K mg base CX0 2 f__law_low fd__law_low ["_law_g", "_law_up", "_law_down"] (sp__law_low K)) :
    FnOk P w K mg base CX0 3 f fd ["_law_g", "_law_x", "_law_y"] (sp__law_times K) := by
  refine F.ok sc__law_times (fun vs H Q E h => ?_) (fun cdv A outer s H vs Q E hr h => ?_)
  · obtain ⟨g, x, y, a, c, rfl, hg0, hg, hx, hy, ha, hc, q⟩ := h
    rfl
  · obtain ⟨g, x, y, a, c, rfl, hg0, hg, hx, hy, ha, hc, q⟩ := h
    refine ⟨_, PSs.nox (pss_one (ps_ret (pe_call G__law_low hr (by rfl) g__law_low F__law_low.kp b__law_low .nil pass0 (pa_cons (pv 0) (pa_cons (pe_op op_mulW (pe_ix ix_tup (pv 1) pe_int (fun _ _ => rfl)) (pe_ix ix_tup (pv 2) pe_int (fun _ _ => rfl))) (pa_cons (pe_op op_mulW (pe_ix ix_tup (pv 1) pe_int (fun _ _ => rfl)) (pe_ix ix_tup (pv 2) pe_int (fun _ _ => rfl))) pa_nil)))))), ?_⟩
    obtain ⟨px, rfl, hpx⟩ := hx
    obtain ⟨py, rfl, hpy⟩ := hy
    have hW : ∀ {u v : Int}, u.natAbs < 2 ^ 3000 → v.natAbs < 2 ^ 3000 → CMulW u v := fun h1 h2 => wide_mul h1 h2 (by decide) (by decide) (by decide)
    have hD : (a.2 * c.2).natAbs < 2 ^ 8000 := Nat.lt_of_lt_of_le (wide_lt ha.2.1 hc.2.1) (Nat.pow_le_pow_right (by decide) (by decide))
    walk_at "go"
    refine w_I (hW ha.1 hc.1) ?_
    walk_at "go"
    refine w_I (hW ha.2.1 hc.2.1) ?_
    walk_at "go"
    exact ⟨g, _, _, rfl, hg0, hg, Int.mul_ne_zero ha.2.2 hc.2.2, hD, fun p H1 hp s1 h1 => q p H1 hp s1 h1⟩
theorem ok__law_minus {f : Addr} {fd : FuncData} (F : FnP K "_law_minus" s__law_minus f fd)
    {f__law_low : Addr} {fd__law_low : FuncData} (F__law_low : FnP K "_law_low" s__law_low f__law_low fd__law_low) (b__law_low : Binds K fd__law_low ["_law_g", "_law_up", "_law_down"] []) (g__law_low : mg "_law_low" = some (.ref f__law_low)) (G__law_low : FnOk P w K mg base CX0 2 f__law_low fd__law_low ["_law_g", "_law_up", "_law_down"] (sp__law_low K)) :
    FnOk P w K mg base CX0 3 f fd ["_law_g", "_law_x"] (sp__law_minus K) := by
  refine F.ok sc__law_minus (fun vs H Q E h => ?_) (fun cdv A outer s H vs Q E hr h => ?_)
  · obtain ⟨g, x, a, rfl, hg0, hg, hx, ha, ha2, q⟩ := h
    rfl
  · obtain ⟨g, x, a, rfl, hg0, hg, hx, ha, ha2, q⟩ := h
    refine ⟨_, PSs.nox (pss_one (ps_ret (pe_call G__law_low hr (by rfl) g__law_low F__law_low.kp b__law_low .nil pass0 (pa_cons (pv 0) (pa_cons (pe_op op_sub pe_int (pe_ix ix_tup (pv 1) pe_int (fun _ _ => rfl))) (pa_cons (pe_ix ix_tup (pv 1) pe_int (fun _ _ => rfl)) pa_nil)))))), ?_⟩
    obtain ⟨px, rfl, hpx⟩ := hx
    walk_at "go"
    exact ⟨g, _, _, rfl, hg0, hg, ha2, ha, fun p H1 hp s1 h1 => q p H1 hp s1 h1⟩
theorem ok__law_number {f : Addr} {fd : FuncData} (F : FnP K "_law_number" s__law_number f fd)
    {f__law_low : Addr} {fd__law_low : FuncData} (F__law_low : FnP K "_law_low" s__law_low f__law_low fd__law_low) (b__law_low : Binds K fd__law_low ["_law_g", "_law_up", "_law_down"] []) (g__law_low : mg "_law_low" = some (.ref f__law_low)) (G__law_low : FnOk P w K mg base CX0 2 f__law_low fd__law_low ["_law_g", "_law_up", "_law_down"] (sp__law_low K))
    {f__law_take : Addr} {fd__law_take : FuncData} (F__law_take : FnP K "_law_take" s__law_take f__law_take fd__law_take) (b__law_take : Binds K fd__law_take ["_law_bag_here", "_law_many"] []) (g__law_take : mg "_law_take" = some (.ref f__law_take)) (G__law_take : FnOk P w K mg base CX0 1 f__law_take fd__law_take ["_law_bag_here", "_law_many"] (sp__law_take K)) :
    FnOk P w K mg base CX0 3 f fd ["_law_bag_here", "_law_g"] (sp__law_number K) := by
  refine F.ok sc__law_number (fun vs H Q E h => ?_) (fun cdv A outer s H vs Q E hr h => ?_)
  · obtain ⟨b, g, rfl, hgr, hb, q⟩ := h
    rfl
  · obtain ⟨b, g, rfl, hgr, hb, q⟩ := h
    refine ⟨_, PSs.nox (pss_cons (ps_if (pt_cmpR op_gt (pv 1) pe_int (nomark _)) (pss_one (ps_ret (pe_tup (pa_cons (pe_call G__law_take (hr.mono (by decide)) (by rfl) g__law_take F__law_take.kp b__law_take .nil pass0 (pa_cons (pv 0) (pa_cons (pv 1) pa_nil))) (pa_cons pe_int pa_nil))))) pss_nil)
        (pss_cons (ps_set (i := 2) sc__law_number.nd rfl (.inl rfl) (pe_ix ix_list (pe_lst (pa_cons pe_int (pa_cons pe_int (pa_cons pe_int (pa_cons pe_int (pa_cons pe_int (pa_cons pe_int pa_nil))))))) (pe_call G__law_take (hr.mono (by decide)) (by rfl) g__law_take F__law_take.kp b__law_take .nil pass0 (pa_cons (pv 0) (pa_cons pe_int pa_nil))) (fun _ _ => rfl)))
        (pss_cons (ps_set (i := 3) sc__law_number.nd rfl (.inl rfl) (pe_ix ix_list (pe_lst (pa_cons pe_int (pa_cons pe_int (pa_cons pe_int (pa_cons (pe_op op_add pe_int (pe_call G__law_take (hr.mono (by decide)) (by rfl) g__law_take F__law_take.kp b__law_take .nil pass0 (pa_cons (pv 0) (pa_cons pe_int pa_nil)))) pa_nil))))) (pe_call G__law_take (hr.mono (by decide)) (by rfl) g__law_take F__law_take.kp b__law_take .nil pass0 (pa_cons (pv 0) (pa_cons pe_int pa_nil))) (fun _ _ => rfl)))
        (pss_one (ps_ret (pe_call G__law_low hr (by rfl) g__law_low F__law_low.kp b__law_low .nil pass0 (pa_cons pe_int (pa_cons (pe_op op_sub (pe_call G__law_take (hr.mono (by decide)) (by rfl) g__law_take F__law_take.kp b__law_take .nil pass0 (pa_cons (pv 0) (pa_cons (pv 2) pa_nil))) (pe_op op_fdivZ (pv 2) pe_int)) (pa_cons (pv 3) pa_nil))))))))), ?_⟩
    obtain ⟨hg0, hg⟩ := hgr.bd
    walk_at "go"
    refine w_ite (fun hc => ?_) (fun hc => ?_)
    · walk_at "go"
      refine ⟨b, g, rfl, hc, by omega, hb, fun H1 d hd0 hd1 m1 hb1 => ?_⟩
      walk_at "go"
      refine w_new (by simp) fun p H2 hp s2 h2 => ?_
      refine q _ _ (d, 1) ⟨p, rfl, h2⟩ ⟨.inr ⟨hc, hd0, hd1, rfl⟩, ?_, show (1 : Int).natAbs < 2 ^ 7 by decide⟩ (m1.trans (Mv.same s2)) (hb1.same s2)
      show d.natAbs < 2 ^ 7
      omega
    · walk_at "go"
      refine w_new (by simp) fun p1 H1 hp1 s1 h1 => ?_
      walk_at "go"
      refine ⟨b, 6, rfl, by decide, by decide, hb.same s1, fun H2 d2 h20 h21 m2 hb2 => ?_⟩
      obtain ⟨wd, ew, hw0, hw1⟩ := nu_six h20 h21
      refine w_ixL (m2 _ _ (bag_ne hb hp1) h1) ew ?_
      walk_at "go"
      refine ⟨b, 8, rfl, by decide, by decide, hb2, fun H3 d3 h30 h31 m3 hb3 => ?_⟩
      walk_at "go"
      refine w_new (by simp) fun p4 H4 hp4 s4 h4 => ?_
      walk_at "go"
      refine ⟨b, 4, rfl, by decide, by decide, hb3.same s4, fun H5 d5 h50 h51 m5 hb5 => ?_⟩
      obtain ⟨dn, ed, hdn0, hdn1⟩ := nu_four h50 h51 h30 h31
      refine w_ixL (m5 _ _ (bag_ne hb3 hp4) h4) ed ?_
      walk_at "go"
      refine ⟨b, wd, rfl, by omega, by omega, hb5, fun H6 d6 h60 h61 m6 hb6 => ?_⟩
      walk_at "go"
      refine w_I (divZ_small (by decide) (by decide)) ?_
      walk_at "go"
      refine ⟨0, _, dn, rfl, by decide, by decide, by omega, Nat.lt_of_lt_of_le (show dn.natAbs < 2 ^ 7 by omega) (Nat.pow_le_pow_right (by decide) (by decide)), fun p H7 hp s7 h7 => ?_⟩
      have hu : (d6 - wd.fdiv 2).natAbs < 2 ^ 7 := by
        rw [fdiv_pos _ (by decide)]
        omega
      have e0 : g = 0 := by omega
      subst e0
      exact q _ _ _ ⟨p, rfl, h7⟩ (tn_low (.inl rfl) (by omega) (fun z => absurd rfl z) (by decide) hu (by omega)) ((Mv.same s1).trans (m2.trans (m3.trans ((Mv.same s4).trans (m5.trans (m6.trans (Mv.same s7))))))) (hb6.same s7)
theorem ok_is_square {f : Addr} {fd : FuncData} (F : FnP K "is_square" s_is_square f fd)
    {f_root_or_none : Addr} {fd_root_or_none : FuncData} (F_root_or_none : FnP K "root_or_none" s_root_or_none f_root_or_none fd_root_or_none) (b_root_or_none : Binds K fd_root_or_none ["ground", "x"] []) (g_root_or_none : mg "root_or_none" = some (.ref f_root_or_none)) (G_root_or_none : FnOk P w K mg base CX0 3 f_root_or_none fd_root_or_none ["ground", "x"] (sp_root_or_none K)) :
    FnOk P w K mg base CX0 4 f fd ["ground", "x"] (sp_is_square K) := by
  refine F.ok sc_is_square (fun vs H Q E h => ?_) (fun cdv A outer s H vs Q E hr h => ?_)
  · obtain ⟨g, v, a, k, rfl, hg, ha, hk, hv, q⟩ := h
    rfl
  · obtain ⟨g, v, a, k, rfl, hg, ha, hk, hv, q⟩ := h
    refine ⟨_, PSs.nox (pss_one (ps_ret (pe_cmpR op_notN (pe_call G_root_or_none hr (by rfl) g_root_or_none F_root_or_none.kp b_root_or_none .nil pass0 (pa_cons (pv 0) (pa_cons (pv 1) pa_nil))) pe_non (nomark _)))), ?_⟩
    walk_at "go"
    refine ⟨g, v, a, k, rfl, hg, ha, hk, hv, fun H' v' s h => ?_⟩
    walk_at "go"
    cases e : rootV g a with
    | none =>
      rw [e] at h q
      obtain rfl : v' = .non := h
      exact ⟨rfl, q H' s⟩
    | some r =>
      rw [e] at h q
      obtain ⟨p, rfl, hp⟩ := h
      exact ⟨rfl, q H' s⟩
theorem ok__law_other_than_nought {f : Addr} {fd : FuncData} (F : FnP K "_law_other_than_nought" s__law_other_than_nought f fd)
    {f__law_number : Addr} {fd__law_number : FuncData} (F__law_number : FnP K "_law_number" s__law_number f__law_number fd__law_number) (b__law_number : Binds K fd__law_number ["_law_bag_here", "_law_g"] []) (g__law_number : mg "_law_number" = some (.ref f__law_number)) (G__law_number : FnOk P w K mg base CX0 3 f__law_number fd__law_number ["_law_bag_here", "_law_g"] (sp__law_number K)) (m_int : mg "int" = none) :
    FnOk P w K mg base CX0 4 f fd ["_law_bag_here", "_law_g"] (sp__law_other_than_nought K) := by
  refine F.ok sc__law_other_than_nought (fun vs H Q E h => ?_) (fun cdv A outer s H vs Q E hr h => ?_)
  · obtain ⟨b, g, rfl, hgr, hb, q⟩ := h
    rfl
  · obtain ⟨b, g, rfl, hgr, hb, q⟩ := h
    refine ⟨_, PSs.nox (pss_cons (ps_set (i := 2) sc__law_other_than_nought.nd rfl (.inl rfl) (pe_call G__law_number hr (by rfl) g__law_number F__law_number.kp b__law_number .nil pass0 (pa_cons (pv 0) (pa_cons (pv 1) pa_nil))))
        (pss_one (ps_ret (pe_ix ix_list (pe_lst (pa_cons (pv 2) (pa_cons (pe_tup (pa_cons pe_int (pa_cons pe_int pa_nil))) pa_nil))) (pe_callTy call_int1 (by rfl) m_int (by decide +kernel) (pa_cons (pe_cmpR (op_eqD hr.units) (pv 2) (pe_tup (pa_cons pe_int (pa_cons pe_int pa_nil))) (nomark _)) pa_nil)) (fun _ _ => rfl))))), ?_⟩
    walk_at "go"
    refine ⟨b, g, rfl, hgr, hb, fun H1 v a hv ta m1 hb1 => ?_⟩
    obtain ⟨pv', rfl, hpv⟩ := hv
    walk_at "go"
    refine w_new (by simp) fun p2 H2 hp2 s2 h2 => ?_
    walk_at "go"
    refine w_new (by simp) fun p3 H3 hp3 s3 h3 => ?_
    walk_at "go"
    refine w_new (by simp) fun p4 H4 hp4 s4 h4 => ?_
    have s24 := s2.trans (s3.trans s4)
    have hpv4 := s24 _ _ hpv
    refine w_eqNum ⟨pv', rfl, hpv4⟩ (b := (0, 1)) ⟨p4, rfl, h4⟩ ?_
    walk_at "go"
    refine .inr ⟨_, rfl, ?_⟩
    refine w_ixL (s4 _ _ h3) pick_two ?_
    by_cases e : a = (0, 1)
    · rw [decide_eq_true e, if_pos rfl]
      exact q _ _ (1, 1) ⟨p2, rfl, s4 _ _ (s3 _ _ h2)⟩ ((tn_oneA hgr.two).mono (by decide)) (by decide) (m1.trans (Mv.same s24)) (hb1.same s24)
    · rw [decide_eq_false e, if_neg Bool.false_ne_true]
      exact q _ _ a ⟨pv', rfl, hpv4⟩ ta (fun z => e (ta.zero.mp z)) (m1.trans (Mv.same s24)) (hb1.same s24)
theorem ok_are_alike {f : Addr} {fd : FuncData} (F : FnP K "are_alike" s_are_alike f fd)
    {f_is_square : Addr} {fd_is_square : FuncData} (F_is_square : FnP K "is_square" s_is_square f_is_square fd_is_square) (b_is_square : Binds K fd_is_square ["ground", "x"] []) (g_is_square : mg "is_square" = some (.ref f_is_square)) (G_is_square : FnOk P w K mg base CX0 4 f_is_square fd_is_square ["ground", "x"] (sp_is_square K))
    {f_times : Addr} {fd_times : FuncData} (F_times : FnP K "times" s_times f_times fd_times) (b_times : Binds K fd_times ["ground", "x", "y"] []) (g_times : mg "times" = some (.ref f_times)) (G_times : FnOk P w K mg base CX0 3 f_times fd_times ["ground", "x", "y"] (sp_times K))
    {f_is_number : Addr} {fd_is_number : FuncData} (F_is_number : FnP K "is_number" s_is_number f_is_number fd_is_number) (b_is_number : Binds K fd_is_number ["ground", "thing"] []) (g_is_number : mg "is_number" = some (.ref f_is_number)) (G_is_number : FnOk P w K mg base CX0 2 f_is_number fd_is_number ["ground", "thing"] (sp_is_number K)) (R_NoNumber : RaiseC K mg "NoNumber") :
    FnOk P w K mg base (L2N.CX P w) 5 f fd ["ground", "x", "y"] (sp_are_alike K) := by
  refine F.ok sc_are_alike (fun vs H Q E h => ?_) (fun cdv A outer s H vs Q E hr h => ?_)
  · obtain ⟨g, x, y, rfl, hg, hx, hy, q, qe⟩ := h
    rfl
  · obtain ⟨g, x, y, rfl, hg, hx, hy, q, qe⟩ := h
    refine ⟨_, id (pss_cons (ps_for PassesOwn.leaving rfl (pi_tup (pe_tup (pa_cons (pv 1) (pa_cons (pv 2) pa_nil)))) (pg_name (i := 3) sc_are_alike.nd rfl (.inl rfl)) (pss_one (ps_if (PW.pt (pw_or (pt_not (pt_val (pe_call G_is_number (hr.mono (by decide)) (by rfl) g_is_number F_is_number.kp b_is_number .nil pass0 (pa_cons (pv 0) (pa_cons (pv 3) pa_nil))))) (pw_or1 (pt_cmpR op_eq (pe_ix ix_tup (pv 3) pe_int (fun _ _ => rfl)) pe_int (nomark _))))) (pss_one (L2N.ps_raise rfl (L2N.takes_of rfl rfl rfl rfl) (L2N.pmk_own PySem.F.excBase_ValueError R_NoNumber.e R_NoNumber.g R_NoNumber.k (raises_own R_NoNumber.b R_NoNumber.t) rfl))) pss_nil)))
        (pss_one (ps_ret (pe_call G_is_square hr (by rfl) g_is_square F_is_square.kp b_is_square .nil pass0 (pa_cons (pv 0) (pa_cons (pe_call G_times (hr.mono (by decide)) (by rfl) g_times F_times.kp b_times .nil pass0 (pa_cons (pv 0) (pa_cons (pv 1) (pa_cons (pv 2) pa_nil)))) pa_nil)))))), ?_⟩
    walk_at "go"
    refine w_new (by simp) fun t H1 ht s1 h1 => ?_
    refine ⟨t, rfl, ⟨_, SqT.of h1⟩, ?_⟩
    refine for_tup (xs := [x, y]) (fun i σ H' => H' = H1 ∧ (∃ z, σ = [some (.int g), some x, some y, z]) ∧ (0 < i → NZV H1 g x) ∧ (1 < i → NZV H1 g y)) ⟨rfl, ⟨_, rfl⟩, fun z => absurd z (by decide), fun z => absurd z (by decide)⟩ (fun i σ H' _ hP => by obtain ⟨rfl, _⟩ := hP; exact SqT.of h1) (fun i v σ H' hv hP => ?_) (fun σ H' hP => ?_)
    · obtain ⟨rfl, ⟨z, rfl⟩, hn1, hn2⟩ := hP
      have hv2 : v = x ∧ i = 0 ∨ v = y ∧ i = 1 := by
        match i, hv with
        | 0, hv => exact .inl ⟨(Option.some.inj hv).symm, rfl⟩
        | 1, hv => exact .inr ⟨(Option.some.inj hv).symm, rfl⟩
        | _ + 2, hv => cases hv
      have hth : Th H v := by
        rcases hv2 with ⟨rfl, _⟩ | ⟨rfl, _⟩
        · exact hx.1
        · exact hy.1
      have bad : ¬ NZV H' g v → ∀ H2, Same H H2 → E (.ref (He.ga K "NoNumber")) none H2 := fun hb => qe fun z => by
        rcases hv2 with ⟨rfl, _⟩ | ⟨rfl, _⟩
        · exact hb (z.1.kt (Kt.of s1))
        · exact hb (z.2.kt (Kt.of s1))
      walk_at "go"
      refine ⟨g, v, rfl, hth.sm s1, ?_⟩
      walk_at "go"
      cases e : numOf H' g v with
      | false =>
        walk_at "go"
        exact bad (fun z => by rw [z.num] at e; cases e) _ s1
      | true =>
        obtain ⟨p, a, rfl, hp, hok⟩ := num_true e
        walk_at "go"
        refine w_iteBN (fun z => nomatch z) (fun _ => ?_)
        walk_at "go"
        refine w_ite (fun hc => ?_) (fun hc => ?_)
        · walk_at "go"
          exact bad (fun z => (nzv_num z ⟨p, rfl, hp⟩).2 hc) _ s1
        · walk_at "go"
          have hz : NZV H' g (.ref p) := ⟨a, ⟨p, rfl, hp⟩, hok, hc⟩
          refine ⟨rfl, ⟨_, rfl⟩, fun _ => ?_, fun z => ?_⟩
          · rcases hv2 with ⟨e1, _⟩ | ⟨_, e1⟩
            · rw [← e1]
              exact hz
            · exact hn1 (by omega)
          · rcases hv2 with ⟨_, e1⟩ | ⟨e1, _⟩
            · omega
            · rw [← e1]
              exact hz
    · obtain ⟨rfl, ⟨z, rfl⟩, hn1, hn2⟩ := hP
      obtain ⟨a, ha, oa, za⟩ := hn1 (by show 0 < 2; decide)
      obtain ⟨c, hc, oc, zc⟩ := hn2 (by show 1 < 2; decide)
      obtain ⟨pa, rfl, hpa⟩ := ha
      obtain ⟨pc, rfl, hpc⟩ := hc
      have old : ∀ {p : Addr} {a : Int × Int}, ThN H (.ref p) → H' p = some (.tup [.int a.1, .int a.2]) → NumV H (.ref p) a := fun {p a} hth hp => by
        obtain ⟨t1, _⟩ := hth
        rcases t1 with z | ⟨p', xs, e, h⟩ | ⟨p', xs, e, h, _⟩
        · cases z
        · cases e
          rw [s1 _ _ h] at hp
          cases hp
        · cases e
          rw [s1 _ _ h] at hp
          cases hp
          exact ⟨_, rfl, h⟩
      have va := old hx hpa
      have vc := old hy hpc
      have ta := tn_num hg oa (hx.2 a va).1 (hx.2 a va).2
      have tc := tn_num hg oc (hy.2 c vc).1 (hy.2 c vc).2
      walk_at "go"
      refine ⟨g, .ref pa, .ref pc, a, c, 1300, 1300, rfl, hg, ⟨pa, rfl, hpa⟩, ⟨pc, rfl, hpc⟩, ta, tc, by decide, by decide, by decide, by decide, fun p2 H2 hp2 s2 h2 => ?_⟩
      walk_at "go"
      refine ⟨g, .ref p2, timesF g a c, 2600, rfl, by unfold Gr5 at hg; omega, tn_times hg ta tc (by decide), by decide, ⟨p2, rfl, h2⟩, fun H3 s3 => ?_⟩
      exact q a c va vc ta tc za zc _ (s1.trans (s2.trans s3))
theorem ok__law_great {f : Addr} {fd : FuncData} (F : FnP K "_law_great" s__law_great f fd)
    {f__law_other_than_nought : Addr} {fd__law_other_than_nought : FuncData} (F__law_other_than_nought : FnP K "_law_other_than_nought" s__law_other_than_nought f__law_other_than_nought fd__law_other_than_nought) (b__law_other_than_nought : Binds K fd__law_other_than_nought ["_law_bag_here", "_law_g"] []) (g__law_other_than_nought : mg "_law_other_than_nought" = some (.ref f__law_other_than_nought)) (G__law_other_than_nought : FnOk P w K mg base CX0 4 f__law_other_than_nought fd__law_other_than_nought ["_law_bag_here", "_law_g"] (sp__law_other_than_nought K))
    {f__law_take : Addr} {fd__law_take : FuncData} (F__law_take : FnP K "_law_take" s__law_take f__law_take fd__law_take) (b__law_take : Binds K fd__law_take ["_law_bag_here", "_law_many"] []) (g__law_take : mg "_law_take" = some (.ref f__law_take)) (G__law_take : FnOk P w K mg base CX0 1 f__law_take fd__law_take ["_law_bag_here", "_law_many"] (sp__law_take K))
    {f__law_times : Addr} {fd__law_times : FuncData} (F__law_times : FnP K "_law_times" s__law_times f__law_times fd__law_times) (b__law_times : Binds K fd__law_times ["_law_g", "_law_x", "_law_y"] []) (g__law_times : mg "_law_times" = some (.ref f__law_times)) (G__law_times : FnOk P w K mg base CX0 3 f__law_times fd__law_times ["_law_g", "_law_x", "_law_y"] (sp__law_times K)) (m_range : mg "range" = none) :
    FnOk P w K mg base CX0 5 f fd ["_law_bag_here", "_law_g"] (sp__law_great K) := by
  refine F.ok sc__law_great (fun vs H Q E h => ?_) (fun cdv A outer s H vs Q E hr h => ?_)
  · obtain ⟨b, g, rfl, hgr, hb, q⟩ := h
    rfl
  · obtain ⟨b, g, rfl, hgr, hb, q⟩ := h
    refine ⟨_, PSs.nox (pss_cons (ps_set (i := 2) sc__law_great.nd rfl (.inl rfl) (pe_call G__law_other_than_nought hr (by rfl) g__law_other_than_nought F__law_other_than_nought.kp b__law_other_than_nought .nil pass0 (pa_cons (pv 0) (pa_cons (pv 1) pa_nil))))
        (pss_cons (ps_for PassesOwn.never rfl (pi_range1 (by rfl) m_range (pa_cons (pe_call G__law_take (hr.mono (by decide)) (by rfl) g__law_take F__law_take.kp b__law_take .nil pass0 (pa_cons (pv 0) (pa_cons pe_int pa_nil))) pa_nil)) (pg_name (i := 3) sc__law_great.nd rfl (.inl rfl)) (pss_one (ps_set (i := 2) sc__law_great.nd rfl (.inl rfl) (pe_call G__law_times (hr.mono (by decide)) (by rfl) g__law_times F__law_times.kp b__law_times .nil pass0 (pa_cons (pv 1) (pa_cons (pv 2) (pa_cons (pe_call G__law_other_than_nought hr (by rfl) g__law_other_than_nought F__law_other_than_nought.kp b__law_other_than_nought .nil pass0 (pa_cons (pv 0) (pa_cons (pv 1) pa_nil))) pa_nil)))))))
        (pss_one (ps_ret (pv 2))))), ?_⟩
    obtain ⟨hg0, hg⟩ := hgr.bd
    walk_at "go"
    refine ⟨b, g, rfl, hgr, hb, fun H1 v a hv ta za m1 hb1 => ?_⟩
    walk_at "go"
    refine ⟨b, 12, rfl, by decide, by decide, hb1, fun H2 d h20 h21 m2 hb2 => ?_⟩
    walk_at "go"
    refine ⟨by omega, by omega, ?_⟩
    refine for_range (fun i σ H' => Mv b H H' ∧ Bag H' b ∧ ∃ (v : V) (a : Int × Int) (y : Option V), σ = [some (.ref b), some (.int g), some v, y] ∧ NumV H' v a ∧ TN g (7 * (i + 1)) a ∧ a.1 ≠ 0) ⟨m1.trans m2, hb2, v, a, _, rfl, NumV.kt hv (m2.kt hb1), ta, za⟩ (fun i σ H' hi hP => ?_) (fun σ H' hP => ?_)
    · obtain ⟨mv, hbi, v, a, y, rfl, hv, ta, za⟩ := hP
      walk_at "go"
      refine ⟨b, g, rfl, hgr, hbi, fun H3 v3 a3 hv3 ta3 za3 m3 hb3 => ?_⟩
      walk_at "go"
      refine ⟨g, v, v3, a, a3, rfl, hg0, hg, NumV.kt hv (m3.kt hbi), hv3, ta.bd (by omega), ta3.bd (by decide), fun p H4 hp s4 h4 => ?_⟩
      walk_at "go"
      refine ⟨mv.trans (m3.trans (Mv.same s4)), hb3.same s4, _, timesF g a a3, _, rfl, ⟨p, rfl, h4⟩, (tn_times hgr.two ta ta3 (by omega)).mono (by omega), nz_times hgr.two ta ta3 za za3⟩
    · obtain ⟨mv, hbi, v, a, y, rfl, hv, ta, za⟩ := hP
      walk_at "go"
      exact q _ _ a hv (ta.mono (by omega)) za mv hbi
theorem ok__law_is_told {f : Addr} {fd : FuncData} (F : FnP K "_law_is_told" s__law_is_told f fd)
    {f__law_is_square : Addr} {fd__law_is_square : FuncData} (F__law_is_square : FnP K "_law_is_square" s__law_is_square f__law_is_square fd__law_is_square) (b__law_is_square : Binds K fd__law_is_square ["_law_g", "_law_x"] []) (g__law_is_square : mg "_law_is_square" = some (.ref f__law_is_square)) (G__law_is_square : FnOk P w K mg base CX0 2 f__law_is_square fd__law_is_square ["_law_g", "_law_x"] (sp__law_is_square K))
    {f__law_times : Addr} {fd__law_times : FuncData} (F__law_times : FnP K "_law_times" s__law_times f__law_times fd__law_times) (b__law_times : Binds K fd__law_times ["_law_g", "_law_x", "_law_y"] []) (g__law_times : mg "_law_times" = some (.ref f__law_times)) (G__law_times : FnOk P w K mg base CX0 3 f__law_times fd__law_times ["_law_g", "_law_x", "_law_y"] (sp__law_times K))
    {f_are_alike : Addr} {fd_are_alike : FuncData} (F_are_alike : FnP K "are_alike" s_are_alike f_are_alike fd_are_alike) (b_are_alike : Binds K fd_are_alike ["ground", "x", "y"] []) (g_are_alike : mg "are_alike" = some (.ref f_are_alike)) (G_are_alike : FnOk P w K mg base (L2N.CX P w) 5 f_are_alike fd_are_alike ["ground", "x", "y"] (sp_are_alike K)) (m_all : mg "all" = none) (m_isinstance : mg "isinstance" = none) (m_bool : mg "bool" = none) :
    FnOk P w K mg base CX0 6 f fd ["_law_g", "_law_x", "_law_y"] (sp__law_is_told K) := by
  refine F.ok sc__law_is_told (fun vs H Q E h => ?_) (fun cdv A outer s H vs Q E hr h => ?_)
  · obtain ⟨g, x, y, a, c, k, l, rfl, hgr, hx, hy, ha, hc, za, zc, hk4, hl4, hk, hl, q⟩ := h
    rfl
  · obtain ⟨g, x, y, a, c, k, l, rfl, hgr, hx, hy, ha, hc, za, zc, hk4, hl4, hk, hl, q⟩ := h
    refine ⟨_, PSs.nox (pss_cons (ps_set (i := 3) sc__law_is_told.nd rfl (.inl rfl) (pe_call G__law_is_square (hr.mono (by decide)) (by rfl) g__law_is_square F__law_is_square.kp b__law_is_square .nil pass0 (pa_cons (pv 0) (pa_cons (pe_call G__law_times (hr.mono (by decide)) (by rfl) g__law_times F__law_times.kp b__law_times .nil pass0 (pa_cons (pv 0) (pa_cons (pv 1) (pa_cons (pv 2) pa_nil)))) pa_nil))))
        (pss_cons (ps_set (i := 4) sc__law_is_told.nd rfl (.inl rfl) (pe_lst (pa_cons (pe_call G_are_alike hr (by rfl) g_are_alike F_are_alike.kp b_are_alike .nil passLN (pa_cons (pv 0) (pa_cons (pv 1) (pa_cons (pv 2) pa_nil)))) (pa_cons (pe_call G_are_alike hr (by rfl) g_are_alike F_are_alike.kp b_are_alike .nil passLN (pa_cons (pv 0) (pa_cons (pv 2) (pa_cons (pv 1) pa_nil)))) pa_nil))))
        (pss_one (ps_ret (pe_and (pe_cmpR (op_eqD hr.units) (pv 4) (pe_lst (pa_cons (pv 3) (pa_cons (pv 3) pa_nil))) (nomark _)) (pe_one (pe_callB (cr_all rfl) (by rfl) m_all (by decide +kernel) (pa_cons (pe_lc (own := [("_law_one", 5)]) (g := gName 5) (tt := tYes) (by rfl) sc__law_is_told.nd (pi_list (pv 4)) (blkOk_by (own := [("_law_one", 5)]) (N := ["_law_g", "_law_x", "_law_y", "_law_due", "_law_told", "_law_one"]) (sc := defScope s__law_is_told) (by decide +kernel)) (fun _ _ _ _ _ => (pg_name (i := 5) sc__law_is_told.nd rfl (.inl rfl))) (fun _ _ _ _ _ => pts_nil) (fun _ _ _ _ _ => (pe_callB (r := rIsi K) call_isi (by rfl) m_isinstance (by decide +kernel) (pa_cons (pv 5) (pa_cons (pe_bltn (v := .ty "bool") (by rfl) m_bool (by decide +kernel) rfl) pa_nil))))) pa_nil)))))))), ?_⟩
    obtain ⟨hg0, hg⟩ := hgr.bd
    have g2 := hgr.two
    have ta := ha.mono hk
    have tc := hc.mono hl
    walk_at "go"
    refine ⟨g, x, y, a, c, rfl, hg0, hg, hx, hy, ha.bd (by omega), hc.bd (by omega), fun p1 H1 hp1 s1 h1 => ?_⟩
    walk_at "go"
    refine ⟨g, .ref p1, timesF g a c, 2600, rfl, hg, tn_times g2 ta tc (by decide), by decide, ⟨p1, rfl, h1⟩, fun H2 s2 => ?_⟩
    have s12 := s1.trans s2
    have hx2 := NumV.kt hx (Kt.of s12)
    have hy2 := NumV.kt hy (Kt.of s12)
    walk_at "go"
    refine ⟨g, x, y, rfl, g2, thn_num hx2 ta.2.1 ta.2.2, thn_num hy2 tc.2.1 tc.2.2, fun a' c' hx' hy' _ _ _ _ H3 s3 => ?_, fun z => absurd ⟨⟨a, hx2, ha.num, za⟩, ⟨c, hy2, hc.num, zc⟩⟩ z⟩
    have ea := numV_uniq hx2 hx'
    have ec := numV_uniq hy2 hy'
    subst ea ec
    have hx3 := NumV.kt hx2 (Kt.of s3)
    have hy3 := NumV.kt hy2 (Kt.of s3)
    walk_at "go"
    refine ⟨g, y, x, rfl, g2, thn_num hy3 tc.2.1 tc.2.2, thn_num hx3 ta.2.1 ta.2.2, fun c' a' hy' hx' _ _ _ _ H4 s4 => ?_, fun z => absurd ⟨⟨c, hy3, hc.num, zc⟩, ⟨a, hx3, ha.num, za⟩⟩ z⟩
    have ea := numV_uniq hx3 hx'
    have ec := numV_uniq hy3 hy'
    subst ea ec
    rw [times_comm g c a]
    walk_at "go"
    refine w_new (by simp) fun p5 H5 hp5 s5 h5 => ?_
    walk_at "go"
    refine w_new (by simp) fun p6 H6 hp6 s6 h6 => ?_
    refine w_eqBB (s6 _ _ h5) h6 rfl rfl ?_
    walk_at "go"
    have h56 := s6 _ _ h5
    refine ⟨p5, rfl, ⟨_, SqL.of h56⟩, fun D hD => ?_⟩
    refine lc_list (xs := [V.bl (rootV g (timesF g a c)).isSome, V.bl (rootV g (timesF g a c)).isSome]) (fun n H'' => Same H6 H'' ∧ H'' D = some (.lst ((List.replicate n true).map V.bl))) ⟨Same.updD (Same.refl H6) hD, upd_same⟩ (fun n H'' _ hP => SqL.of (hP.1 _ _ h56)) (fun n z H'' hz hP => ?_) (fun J2 hP => ?_)
    · obtain ⟨sn, hD'⟩ := hP
      obtain ⟨zz, rfl⟩ : ∃ zz, z = .bl zz := by
        have := List.mem_of_getElem? hz
        simp only [List.mem_cons, List.not_mem_nil, or_false] at this
        rcases this with rfl | rfl <;> exact ⟨_, rfl⟩
      have hn2 : n < 2 := (List.getElem?_eq_some_iff.mp hz).1
      walk_at "go"
      refine ⟨rfl, ?_⟩
      walk_at "go"
      refine isi_bool (.inl rfl) ?_
      refine ⟨_, hD', ?_, Same.updD sn hD, ?_⟩
      · rw [List.length_map, List.length_replicate]
        exact small1000 (by omega)
      · rw [upd_same, List.replicate_succ', List.map_append]
        rfl
    · obtain ⟨k2, hD'⟩ := hP
      walk_at "go"
      refine ⟨D, _, rfl, SqL.of hD', ?_⟩
      rw [all_true]
      exact q _ (s12.trans (s3.trans (s4.trans (s5.trans (s6.trans k2)))))
theorem ok_law {f : Addr} {fd : FuncData} (F : FnP K "law" s_law f fd)
    {f__law_bag : Addr} {fd__law_bag : FuncData} (F__law_bag : FnP K "_law_bag" s__law_bag f__law_bag fd__law_bag) (b__law_bag : Binds K fd__law_bag ["_law_script", "_law_at"] []) (g__law_bag : mg "_law_bag" = some (.ref f__law_bag)) (G__law_bag : FnOk P w K mg base CX0 1 f__law_bag fd__law_bag ["_law_script", "_law_at"] (sp__law_bag K))
    {f__law_ground : Addr} {fd__law_ground : FuncData} (F__law_ground : FnP K "_law_ground" s__law_ground f__law_ground fd__law_ground) (b__law_ground : Binds K fd__law_ground ["_law_bag_here"] []) (g__law_ground : mg "_law_ground" = some (.ref f__law_ground)) (G__law_ground : FnOk P w K mg base CX0 2 f__law_ground fd__law_ground ["_law_bag_here"] (sp__law_ground K))
    {f__law_times : Addr} {fd__law_times : FuncData} (F__law_times : FnP K "_law_times" s__law_times f__law_times fd__law_times) (b__law_times : Binds K fd__law_times ["_law_g", "_law_x", "_law_y"] []) (g__law_times : mg "_law_times" = some (.ref f__law_times)) (G__law_times : FnOk P w K mg base CX0 3 f__law_times fd__law_times ["_law_g", "_law_x", "_law_y"] (sp__law_times K))
    {f__law_plus : Addr} {fd__law_plus : FuncData} (F__law_plus : FnP K "_law_plus" s__law_plus f__law_plus fd__law_plus) (b__law_plus : Binds K fd__law_plus ["_law_g", "_law_x", "_law_y"] []) (g__law_plus : mg "_law_plus" = some (.ref f__law_plus)) (G__law_plus : FnOk P w K mg base CX0 3 f__law_plus fd__law_plus ["_law_g", "_law_x", "_law_y"] (sp__law_plus K))
    {f__law_great : Addr} {fd__law_great : FuncData} (F__law_great : FnP K "_law_great" s__law_great f__law_great fd__law_great) (b__law_great : Binds K fd__law_great ["_law_bag_here", "_law_g"] []) (g__law_great : mg "_law_great" = some (.ref f__law_great)) (G__law_great : FnOk P w K mg base CX0 5 f__law_great fd__law_great ["_law_bag_here", "_law_g"] (sp__law_great K))
    {f__law_take : Addr} {fd__law_take : FuncData} (F__law_take : FnP K "_law_take" s__law_take f__law_take fd__law_take) (b__law_take : Binds K fd__law_take ["_law_bag_here", "_law_many"] []) (g__law_take : mg "_law_take" = some (.ref f__law_take)) (G__law_take : FnOk P w K mg base CX0 1 f__law_take fd__law_take ["_law_bag_here", "_law_many"] (sp__law_take K))
    {f__law_low : Addr} {fd__law_low : FuncData} (F__law_low : FnP K "_law_low" s__law_low f__law_low fd__law_low) (b__law_low : Binds K fd__law_low ["_law_g", "_law_up", "_law_down"] []) (g__law_low : mg "_law_low" = some (.ref f__law_low)) (G__law_low : FnOk P w K mg base CX0 2 f__law_low fd__law_low ["_law_g", "_law_up", "_law_down"] (sp__law_low K))
    {f__law_minus : Addr} {fd__law_minus : FuncData} (F__law_minus : FnP K "_law_minus" s__law_minus f__law_minus fd__law_minus) (b__law_minus : Binds K fd__law_minus ["_law_g", "_law_x"] []) (g__law_minus : mg "_law_minus" = some (.ref f__law_minus)) (G__law_minus : FnOk P w K mg base CX0 3 f__law_minus fd__law_minus ["_law_g", "_law_x"] (sp__law_minus K))
    {f__law_odd : Addr} {fd__law_odd : FuncData} (F__law_odd : FnP K "_law_odd" s__law_odd f__law_odd fd__law_odd) (b__law_odd : Binds K fd__law_odd ["_law_bag_here"] []) (g__law_odd : mg "_law_odd" = some (.ref f__law_odd)) (G__law_odd : FnOk P w K mg base CX0 2 f__law_odd fd__law_odd ["_law_bag_here"] (sp__law_odd K))
    {f_are_alike : Addr} {fd_are_alike : FuncData} (F_are_alike : FnP K "are_alike" s_are_alike f_are_alike fd_are_alike) (b_are_alike : Binds K fd_are_alike ["ground", "x", "y"] []) (g_are_alike : mg "are_alike" = some (.ref f_are_alike)) (G_are_alike : FnOk P w K mg base (L2N.CX P w) 5 f_are_alike fd_are_alike ["ground", "x", "y"] (sp_are_alike K))
    {f__law_refusal : Addr} {fd__law_refusal : FuncData} (F__law_refusal : FnP K "_law_refusal" s__law_refusal f__law_refusal fd__law_refusal) (b__law_refusal : Binds K fd__law_refusal ["_law_deed"] []) (g__law_refusal : mg "_law_refusal" = some (.ref f__law_refusal))
    {f__law_is_number : Addr} {fd__law_is_number : FuncData} (F__law_is_number : FnP K "_law_is_number" s__law_is_number f__law_is_number fd__law_is_number) (b__law_is_number : Binds K fd__law_is_number ["_law_g", "_law_thing"] []) (g__law_is_number : mg "_law_is_number" = some (.ref f__law_is_number)) (G__law_is_number : FnOk P w K mg base CX0 2 f__law_is_number fd__law_is_number ["_law_g", "_law_thing"] (sp__law_is_number K))
    {f__law_is_told : Addr} {fd__law_is_told : FuncData} (F__law_is_told : FnP K "_law_is_told" s__law_is_told f__law_is_told fd__law_is_told) (b__law_is_told : Binds K fd__law_is_told ["_law_g", "_law_x", "_law_y"] []) (g__law_is_told : mg "_law_is_told" = some (.ref f__law_is_told)) (G__law_is_told : FnOk P w K mg base CX0 6 f__law_is_told fd__law_is_told ["_law_g", "_law_x", "_law_y"] (sp__law_is_told K))
    {c P' : Addr} (FC : CodeAt K f c) (TB : LamX.TabB base mg c P') (hmT : (P', ((envOfC "law" (defScope s_law) 0 0 .none).qual ++ "<lambda>")) ∈ T) (hu : ∀ p ∈ T, p.1 = P' → p.2 = ((envOfC "law" (defScope s_law) 0 0 .none).qual ++ "<lambda>")) (MG : MirG K mg) (MC_NoNumber : MirC K (He.ga K "NoNumber") "NoNumber") (m_range : mg "range" = none) (m_max : mg "max" = none) (m_min : mg "min" = none) (m_int : mg "int" = none) (m_all : mg "all" = none) (m_len : mg "len" = none) :
    FnOk P w K mg base CX0 8 f fd ["_law_script"] (sp_law K T) := by
  refine okC F FC sc_law (fun vs H Q E h => ?_) (fun A outer s H vs Q E hr h => ?_)
  · obtain ⟨a, ns, rfl, hA, hT, q⟩ := h
    rfl
  · obtain ⟨a, ns, rfl, hA, hT, q⟩ := h
    refine ⟨_, PSs.nox (pss_cons (ps_for PassesOwn.never rfl (pi_range1 (by rfl) m_range (pa_cons (pe_callB (call_max2 rfl) (by rfl) m_max (by decide +kernel) (pa_cons pe_int (pa_cons (pe_callB (call_min2 rfl) (by rfl) m_min (by decide +kernel) (pa_cons pe_int (pa_cons (pe_callB call_len_seq (by rfl) m_len (by decide +kernel) (pa_cons (pv 0) pa_nil)) pa_nil))) pa_nil))) pa_nil)) (pg_name (i := 1) sc_law.nd rfl (.inl rfl)) (pss_cons (ps_set (i := 2) sc_law.nd rfl (.inl rfl) (pe_call G__law_bag (hr.mono (by decide)) (by rfl) g__law_bag F__law_bag.kp b__law_bag .nil pass0 (pa_cons (pv 0) (pa_cons (pv 1) pa_nil))))
        (pss_cons (ps_set (i := 9) sc_law.nd rfl (.inr rfl) (pe_call G__law_ground (hr.mono (by decide)) (by rfl) g__law_ground F__law_ground.kp b__law_ground .nil pass0 (pa_cons (pv 2) pa_nil)))
        (pss_cons (ps_asg (pe_tup (pa_cons (pe_call G__law_great (hr.mono (by decide)) (by rfl) g__law_great F__law_great.kp b__law_great .nil pass0 (pa_cons (pv 2) (pa_cons (pv 9) pa_nil))) (pa_cons (pe_call G__law_great (hr.mono (by decide)) (by rfl) g__law_great F__law_great.kp b__law_great .nil pass0 (pa_cons (pv 2) (pa_cons (pv 9) pa_nil))) pa_nil))) (pg_tup rfl (pgs_cons (pg_name (i := 11) sc_law.nd rfl (.inr rfl)) (pgs_cons (pg_name (i := 3) sc_law.nd rfl (.inr rfl)) pgs_nil))))
        (pss_cons (ps_if (pt_cmpR op_eq (pe_call G__law_take (hr.mono (by decide)) (by rfl) g__law_take F__law_take.kp b__law_take .nil pass0 (pa_cons (pv 2) (pa_cons pe_int pa_nil))) pe_int (nomark _)) (pss_cons (ps_set (i := 4) sc_law.nd rfl (.inl rfl) (pe_op op_add (pe_op op_add (pe_op op_mulW (pe_op op_mulW (pe_op op_pow pe_int pe_int) (pe_op op_pow pe_int pe_int)) (pe_op op_pow pe_int pe_int)) pe_int) (pe_op op_mul pe_int (pe_call G__law_take (hr.mono (by decide)) (by rfl) g__law_take F__law_take.kp b__law_take .nil pass0 (pa_cons (pv 2) (pa_cons pe_int pa_nil))))))
        (pss_one (ps_set (i := 3) sc_law.nd rfl (.inr rfl) (pe_call G__law_low (hr.mono (by decide)) (by rfl) g__law_low F__law_low.kp b__law_low .nil pass0 (pa_cons (pv 9) (pa_cons (pv 4) (pa_cons (pe_ix ix_list (pe_lst (pa_cons (pe_op op_add pe_int (pe_call G__law_take (hr.mono (by decide)) (by rfl) g__law_take F__law_take.kp b__law_take .nil pass0 (pa_cons (pv 2) (pa_cons pe_int pa_nil)))) (pa_cons pe_int pa_nil))) (pe_callTy call_int1 (by rfl) m_int (by decide +kernel) (pa_cons (pe_cmpR op_gt (pv 9) pe_int (nomark _)) pa_nil)) (fun _ _ => rfl)) pa_nil))))))) pss_nil)
        (pss_cons (ps_set (i := 3) sc_law.nd rfl (.inr rfl) (pe_ix ix_list (pe_lst (pa_cons (pv 3) (pa_cons (pe_tup (pa_cons pe_int (pa_cons pe_int pa_nil))) pa_nil))) (pe_callTy call_int1 (by rfl) m_int (by decide +kernel) (pa_cons (pe_cmpR (op_eqD hr.units) (pv 3) (pe_tup (pa_cons pe_int (pa_cons pe_int pa_nil))) (nomark _)) pa_nil)) (fun _ _ => rfl)))
        (pss_cons (ps_set (i := 5) sc_law.nd rfl (.inl rfl) (pe_call G__law_times (hr.mono (by decide)) (by rfl) g__law_times F__law_times.kp b__law_times .nil pass0 (pa_cons (pv 9) (pa_cons (pv 3) (pa_cons (pv 3) pa_nil)))))
        (pss_cons (ps_set (i := 6) sc_law.nd rfl (.inl rfl) (pe_call G__law_plus (hr.mono (by decide)) (by rfl) g__law_plus F__law_plus.kp b__law_plus .nil pass0 (pa_cons (pv 9) (pa_cons (pv 5) (pa_cons (pe_call G__law_low (hr.mono (by decide)) (by rfl) g__law_low F__law_low.kp b__law_low .nil pass0 (pa_cons (pv 9) (pa_cons pe_int (pa_cons pe_int pa_nil)))) pa_nil)))))
        (pss_cons (ps_set (i := 7) sc_law.nd rfl (.inl rfl) (pe_lst (pa_cons (pv 11) (pa_cons (pv 3) (pa_cons (pv 5) (pa_cons (pe_call G__law_times (hr.mono (by decide)) (by rfl) g__law_times F__law_times.kp b__law_times .nil pass0 (pa_cons (pv 9) (pa_cons (pv 11) (pa_cons (pv 5) pa_nil)))) (pa_cons (pe_call G__law_times (hr.mono (by decide)) (by rfl) g__law_times F__law_times.kp b__law_times .nil pass0 (pa_cons (pv 9) (pa_cons (pv 11) (pa_cons (pv 3) pa_nil)))) (pa_cons (pe_call G__law_minus (hr.mono (by decide)) (by rfl) g__law_minus F__law_minus.kp b__law_minus .nil pass0 (pa_cons (pv 9) (pa_cons (pv 11) pa_nil))) pa_nil))))))))
        (pss_cons (ps_set (i := 7) sc_law.nd rfl (.inl rfl) (pe_op op_cat (pv 7) (pe_op op_rep (pe_lst (pa_cons (pv 6) pa_nil)) (pe_callTy call_int1 (by rfl) m_int (by decide +kernel) (pa_cons (pe_cmpR (op_neD hr.units) (pv 6) (pe_tup (pa_cons pe_int (pa_cons pe_int pa_nil))) (nomark _)) pa_nil)))))
        (pss_cons (ps_if (pt_not (pt_val (pe_callB (cr_all rfl) (by rfl) m_all (by decide +kernel) (pa_cons (pe_lc (own := [("_law_one", 12)]) (g := gName 12) (tt := tYes) (by rfl) sc_law.nd (pi_list (pv 7)) (blkOk_by (own := [("_law_one", 12)]) (N := ["_law_script", "_law_k", "_law_bag_here", "_law_y", "_law_far", "_law_square", "_law_near", "_law_some", "_law_due", "_law_g", "_law_thing", "_law_x", "_law_one", "_law_a", "_law_b"]) (sc := defScope s_law) (by decide +kernel)) (fun _ _ _ _ _ => (pg_name (i := 12) sc_law.nd rfl (.inl rfl))) (fun _ _ _ _ _ => pts_nil) (fun _ _ _ _ _ => (pe_and (pe_call G__law_is_told (hr.mono (by decide)) (by rfl) g__law_is_told F__law_is_told.kp b__law_is_told .nil pass0 (pa_cons (pv 9) (pa_cons (pv 11) (pa_cons (pv 12) pa_nil)))) (pe_one (pe_call G__law_is_told (hr.mono (by decide)) (by rfl) g__law_is_told F__law_is_told.kp b__law_is_told .nil pass0 (pa_cons (pv 9) (pa_cons (pv 3) (pa_cons (pv 12) pa_nil)))))))) pa_nil)))) (pss_one (ps_ret pe_bl)) pss_nil)
        (pss_cons (ps_if (PW.pt (pw_or (pt_not (pt_val (pe_call G_are_alike (hr.mono (by decide)) (by rfl) g_are_alike F_are_alike.kp b_are_alike .nil passLN (pa_cons (pv 9) (pa_cons (pv 11) (pa_cons (pe_call G__law_times (hr.mono (by decide)) (by rfl) g__law_times F__law_times.kp b__law_times .nil pass0 (pa_cons (pv 9) (pa_cons (pv 11) (pa_cons (pv 5) pa_nil)))) pa_nil)))))) (pw_or1 (pt_not (pt_val (pe_call G_are_alike (hr.mono (by decide)) (by rfl) g_are_alike F_are_alike.kp b_are_alike .nil passLN (pa_cons (pv 9) (pa_cons (pv 5) (pa_cons (pe_tup (pa_cons pe_int (pa_cons pe_int pa_nil))) pa_nil))))))))) (pss_one (ps_ret pe_bl)) pss_nil)
        (pss_one (ps_for PassesOwn.never rfl (pi_list (pe_lst (pa_cons (pe_tup (pa_cons pe_int (pa_cons pe_int pa_nil))) (pa_cons (pe_call G__law_odd (hr.mono (by decide)) (by rfl) g__law_odd F__law_odd.kp b__law_odd .nil pass0 (pa_cons (pv 2) pa_nil)) (pa_cons (pe_call G__law_odd (hr.mono (by decide)) (by rfl) g__law_odd F__law_odd.kp b__law_odd .nil pass0 (pa_cons (pv 2) pa_nil)) (pa_cons (pe_lst (pa_cons pe_int (pa_cons pe_int pa_nil))) (pa_cons (pe_tup (pa_cons (pe_op op_add (pv 9) pe_int) (pa_cons pe_int pa_nil))) (pa_cons (pe_tup (pa_cons pe_int (pa_cons pe_int pa_nil))) pa_nil)))))))) (pg_name (i := 10) sc_law.nd rfl (.inr rfl)) (pss_cons (ps_set (i := 8) sc_law.nd rfl (.inl rfl) (pe_ifExp (PW.pt (pw_and (pt_val (pe_call G__law_is_number (hr.mono (by decide)) (by rfl) g__law_is_number F__law_is_number.kp b__law_is_number .nil pass0 (pa_cons (pv 9) (pa_cons (pv 10) pa_nil)))) (pw_and1 (pt_cmpR (op_neD hr.units) (pv 10) (pe_tup (pa_cons pe_int (pa_cons pe_int pa_nil))) (nomark _))))) pe_non pe_str))
        (pss_cons (ps_if (pt_cmpR op_ne (pe_lamF (T := T) (TT := (TTref K)) (k := 5) F__law_refusal b__law_refusal (by rfl) g__law_refusal sc__law_refusal rfl (.inl rfl) (fun _ => refusal_gives MG) TB rfl hmT hu (hr.mono (by decide)) (LamX.lamS_by (sc := defScope s_law) (by decide +kernel)) rfl (fun _ _ _ _ _ => rfl) (fun _ _ _ _ _ _ _ hr2 => (pe_callS G_are_alike hr2 (by rfl) g_are_alike F_are_alike.kp b_are_alike (fun σ => L2N.passAt lamN_takes σ) (pa_cons (pv 9) (pa_cons (pv 11) (pa_cons (pv 10) pa_nil)))))) (pv 8) (nomark _)) (pss_one (ps_ret pe_bl)) pss_nil)
        (pss_one (ps_if (pt_cmpR op_ne (pe_lamF (T := T) (TT := (TTref K)) (k := 5) F__law_refusal b__law_refusal (by rfl) g__law_refusal sc__law_refusal rfl (.inl rfl) (fun _ => refusal_gives MG) TB rfl hmT hu (hr.mono (by decide)) (LamX.lamS_by (sc := defScope s_law) (by decide +kernel)) rfl (fun _ _ _ _ _ => rfl) (fun _ _ _ _ _ _ _ hr2 => (pe_callS G_are_alike hr2 (by rfl) g_are_alike F_are_alike.kp b_are_alike (fun σ => L2N.passAt lamN_takes σ) (pa_cons (pv 9) (pa_cons (pv 10) (pa_cons (pv 11) pa_nil)))))) (pv 8) (nomark _)) (pss_one (ps_ret pe_bl)) pss_nil))))))))))))))))))
        (pss_cons (ps_for PassesOwn.never rfl (pi_list (pe_lst (pa_cons pe_int (pa_cons pe_int (pa_cons pe_int (pa_cons pe_int (pa_cons pe_int (pa_cons pe_int (pa_cons pe_int (pa_cons pe_int (pa_cons pe_int (pa_cons pe_int pa_nil)))))))))))) (pg_name (i := 9) sc_law.nd rfl (.inr rfl)) (pss_one (ps_if (pt_not (pt_val (pe_callB (cr_all rfl) (by rfl) m_all (by decide +kernel) (pa_cons (pe_lc (own := [("_law_a", 13), ("_law_b", 14)]) (g := gTup K 2 (gCons (gName 13) (gCons (gName 14) (gNil)))) (tt := tYes) (by rfl) sc_law.nd (pi_list (pe_lst (pa_cons (pe_tup (pa_cons pe_int (pa_cons pe_int pa_nil))) (pa_cons (pe_tup (pa_cons pe_int (pa_cons pe_int pa_nil))) (pa_cons (pe_tup (pa_cons pe_int (pa_cons pe_int pa_nil))) (pa_cons (pe_tup (pa_cons pe_int (pa_cons pe_int pa_nil))) pa_nil)))))) (blkOk_by (own := [("_law_a", 13), ("_law_b", 14)]) (N := ["_law_script", "_law_k", "_law_bag_here", "_law_y", "_law_far", "_law_square", "_law_near", "_law_some", "_law_due", "_law_g", "_law_thing", "_law_x", "_law_one", "_law_a", "_law_b"]) (sc := defScope s_law) (by decide +kernel)) (fun _ _ _ _ _ => (pg_tup rfl (pgs_cons (pg_name (i := 13) sc_law.nd rfl (.inl rfl)) (pgs_cons (pg_name (i := 14) sc_law.nd rfl (.inl rfl)) pgs_nil)))) (fun _ _ _ _ _ => pts_nil) (fun _ _ _ _ _ => (pe_call G__law_is_told (hr.mono (by decide)) (by rfl) g__law_is_told F__law_is_told.kp b__law_is_told .nil pass0 (pa_cons (pv 9) (pa_cons (pe_tup (pa_cons (pv 13) (pa_cons pe_int pa_nil))) (pa_cons (pe_tup (pa_cons (pv 14) (pa_cons pe_int pa_nil))) pa_nil)))))) pa_nil)))) (pss_one (ps_ret pe_bl)) pss_nil)))
        (pss_one (ps_ret pe_bl)))), ?_⟩
    walk_at "go"
    refine ⟨a, _, rfl, .inl hA, ?_⟩
    walk_at "go"
    refine ⟨by split <;> (try split) <;> omega, by split <;> (try split) <;> omega, ?_⟩
    refine for_range (fun i σ H' => (∃ y1 y2 y3 y4 y5 y6 y7 y8 y9 y10 y11 y12 y13 y14, σ = [some (.ref a), y1, y2, y3, y4, y5, y6, y7, y8, y9, y10, y11, y12, y13, y14]) ∧ Sx T H H') ⟨⟨_, _, _, _, _, _, _, _, _, _, _, _, _, _, rfl⟩, Sx.refl hT⟩ (fun i σ H' hi hP => ?_) (fun σ H' hP => ?_)
    · have hi6 : i < 6 := by
        revert hi
        split <;> (try split) <;> omega
      clear hi
      obtain ⟨⟨y1, y2, y3, y4, y5, y6, y7, y8, y9, y10, y11, y12, y13, y14, rfl⟩, sm⟩ := hP
      walk_at "go"
      refine ⟨a, ns, 0 + i, rfl, sql_ext hA sm, by omega, by omega, fun b H2 hb0 s2 hb2 => ?_⟩
      have x2 : Sx T H' H2 := Sx.same sm.2 s2
      walk_at "go"
      refine ⟨b, rfl, hb2, fun H3 g hgr m3 hb3 => ?_⟩
      obtain ⟨hg0, hg⟩ := hgr.bd
      have g2 := hgr.two
      walk_at "go"
      refine ⟨b, g, rfl, hgr, hb3, fun H4 vx ax hx tx zx m4 hb4 => ?_⟩
      walk_at "go"
      refine ⟨b, g, rfl, hgr, hb4, fun H5 vy ay hy ty zy m5 hb5 => ?_⟩
      walk_at "go"
      refine w_new (by simp) fun tt H6 htt s6 h6 => ?_
      walk_at "go"
      have m26 : Mv b H2 H6 := m3.trans (m4.trans (m5.trans (Mv.same s6)))
      have hb6 := hb5.same s6
      have hx6 := NumV.kt hx ((m5.kt hb4).trans (Kt.of s6))
      have hy6 := NumV.kt hy (Kt.of s6)
      refine ⟨b, 4, rfl, by decide, by decide, hb6, fun H7 d7 h70 h71 m7 hb7 => ?_⟩
      have m27 := m26.trans m7
      have hx7 := NumV.kt hx6 (m7.kt hb6)
      have hy7 := NumV.kt hy6 (m7.kt hb6)
      walk_at "go"
      refine w_ite (fun hc => ?a) (fun hc => ?b)
      case' a =>
        walk_at "go"
        refine w_Iv ⟨by decide, by decide, by decide⟩ rfl ?_
        walk_at "go"
        refine w_Iv ⟨by decide, by decide, by decide⟩ rfl ?_
        refine w_I (wide_mul (a := 200) (b := 200) (by decide +kernel) (by decide +kernel) (by decide) (by decide) (by decide)) ?_
        walk_at "go"
        refine w_Iv ⟨by decide, by decide, by decide⟩ rfl ?_
        refine w_I (wide_mul (a := 400) (b := 100) (by decide +kernel) (by decide +kernel) (by decide) (by decide) (by decide)) ?_
        walk_at "go"
        refine ⟨b, 9, rfl, by decide, by decide, hb7, fun H8 d8 h80 h81 m8 hb8 => ?_⟩
        have m28 := m27.trans m8
        have hx8 := NumV.kt hx7 (m8.kt hb7)
        walk_at "go"
        refine w_I (.inl ⟨by decide, by decide⟩) ?_
        walk_at "go"
        have hfar : (10 ^ Int.toNat 60 * 10 ^ Int.toNat 60 * 10 ^ Int.toNat 20 + 7 + 2 * d8 : Int).natAbs < 2 ^ 470 := by
          have e1 : (0 : Int) ≤ 10 ^ Int.toNat 60 * 10 ^ Int.toNat 60 * 10 ^ Int.toNat 20 := by decide +kernel
          have e2 : (10 ^ Int.toNat 60 * 10 ^ Int.toNat 60 * 10 ^ Int.toNat 20 : Int) + 100 < 2 ^ 470 := by decide +kernel
          have e3 : ((2 ^ 470 : Nat) : Int) = (2 : Int) ^ 470 := by decide +kernel
          generalize (10 ^ Int.toNat 60 * 10 ^ Int.toNat 60 * 10 ^ Int.toNat 20 : Int) = z at e1 e2 ⊢
          rw [← e3] at e2
          generalize (2 ^ 470 : Nat) = zz at e2 ⊢
          omega
        generalize (10 ^ Int.toNat 60 * 10 ^ Int.toNat 60 * 10 ^ Int.toNat 20 + 7 + 2 * d8 : Int) = far at hfar ⊢
        refine ⟨b, 5, rfl, by decide, by decide, hb8, fun H9 d9 h90 h91 m9 hb9 => ?_⟩
        have m29 := m28.trans m9
        have hx9 := NumV.kt hx8 (m9.kt hb8)
        walk_at "go"
        refine w_new (by simp) fun L1 H10 hL1 s10 h10 => ?_
        walk_at "go"
        refine .inr ⟨_, rfl, ?_⟩
        refine w_ixL h10 pick_two ?_
        have hdn : ∃ dn : Int, (if decide (g > 0) = true then V.int 1 else V.int (1 + d9)) = V.int dn ∧ 1 ≤ dn ∧ dn ≤ 5 ∧ (g ≠ 0 → dn.fmod g ≠ 0) := by
          by_cases hz : g > 0
          · rw [decide_eq_true hz, if_pos rfl]
            exact ⟨1, rfl, by decide, by decide, fun z => one_fmod (g2.resolve_left z)⟩
          · rw [decide_eq_false hz, if_neg Bool.false_ne_true]
            exact ⟨1 + d9, rfl, by omega, by omega, fun z => absurd (show g = 0 by omega) z⟩
        obtain ⟨dn, edn, hdn1, hdn5, hdng⟩ := hdn
        rw [edn]
        walk_at "go"
        refine ⟨g, far, dn, rfl, hg0, hg, by omega, Nat.lt_of_lt_of_le (show dn.natAbs < 2 ^ 4 by omega) (Nat.pow_le_pow_right (by decide) (by decide)), fun pw H11 hpw s11 h11 => ?_⟩
        have tyN : TN g 470 (lowF g far dn) := tn_low g2 (by omega) hdng (by decide) hfar (Nat.lt_of_lt_of_le (show dn.natAbs < 2 ^ 4 by omega) (Nat.pow_le_pow_right (by decide) (by decide)))
        have hyN : NumV H11 (.ref pw) (lowF g far dn) := ⟨pw, rfl, h11⟩
        generalize lowF g far dn = ayN at tyN hyN
        have mN : Mv b H2 H11 := m29.trans (Mv.same (s10.trans s11))
        have hbN : Bag H11 b := hb9.same (s10.trans s11)
        have hxN : NumV H11 vx ax := NumV.kt hx9 (Kt.of (s10.trans s11))
        generalize V.ref pw = vyN at hyN ⊢
        clear h11 hpw s11 h10
        generalize H11 = HN at mN hbN hxN hyN ⊢
        walk_at "go"
      case' b =>
        have tyN : TN g 470 ay := ty.mono (by decide)
        have hyN := hy7
        have mN := m27
        have hbN := hb7
        have hxN := hx7
        generalize ay = ayN at tyN hyN
        generalize vy = vyN at hyN ⊢
        generalize H7 = HN at mN hbN hxN hyN ⊢
        walk_at "go"
      all_goals
        obtain ⟨pyN, rfl, hpyN⟩ := hyN
        refine w_new (by simp) fun p12 H12 hp12 s12 h12 => ?_
        walk_at "go"
        refine w_new (by simp) fun p13 H13 hp13 s13 h13 => ?_
        walk_at "go"
        refine w_new (by simp) fun p14 H14 hp14 s14 h14 => ?_
        have sN4 := s12.trans (s13.trans s14)
        refine w_eqNum ⟨pyN, rfl, sN4 _ _ hpyN⟩ (b := (0, 1)) ⟨p14, rfl, h14⟩ ?_
        walk_at "go"
        refine .inr ⟨_, rfl, ?_⟩
        refine w_ixL (s14 _ _ h13) pick_two ?_
        have hyy : ∃ py ay', (if decide (ayN = (0, 1)) = true then V.ref p12 else V.ref pyN) = V.ref py ∧ H14 py = some (.tup [.int (ay' : Int × Int).1, .int ay'.2]) ∧ TN g 470 ay' ∧ ay'.1 ≠ 0 := by
          by_cases hz : ayN = (0, 1)
          · rw [decide_eq_true hz, if_pos rfl]
            exact ⟨p12, (1, 1), rfl, s14 _ _ (s13 _ _ h12), (tn_oneA g2).mono (by decide), by decide⟩
          · rw [decide_eq_false hz, if_neg Bool.false_ne_true]
            exact ⟨pyN, ayN, rfl, sN4 _ _ hpyN, tyN, fun z => hz (tyN.zero.mp z)⟩
        obtain ⟨py, yy, epy, hpy, tyy, zyy⟩ := hyy
        rw [epy]
        have m14 : Mv b H2 H14 := mN.trans (Mv.same sN4)
        have hb14 := hbN.same sN4
        have hx14 := NumV.kt hxN (Kt.of sN4)
        obtain ⟨px, rfl, hpx⟩ := hx14
        clear h12 h13 h14 hp12 hp13 hp14 s12 s13 s14 sN4 hpyN epy
        walk_at "go"
        refine ⟨g, .ref py, .ref py, yy, yy, rfl, hg0, hg, ⟨py, rfl, hpy⟩, ⟨py, rfl, hpy⟩, tyy.bd (by decide), tyy.bd (by decide), fun ps I1 hps j1 i1 => ?_⟩
        have tsq := tn_times g2 tyy tyy (by decide)
        have zsq := nz_times g2 tyy tyy zyy zyy
        walk_at "go"
        refine ⟨g, 1, 1, rfl, hg0, hg, by decide, by decide +kernel, fun po I2 hpo j2 i2 => ?_⟩
        have tlo : TN g 4 (lowF g 1 1) := tn_low g2 (by decide) (fun z => one_fmod (g2.resolve_left z)) (by decide) (by decide) (by decide)
        generalize lowF g 1 1 = lo at i2 tlo
        walk_at "go"
        refine ⟨g, .ref ps, .ref po, _, lo, rfl, hg0, hg, ⟨ps, rfl, j2 _ _ i1⟩, ⟨po, rfl, i2⟩, tsq.bd (by decide), tlo.bd (by decide), fun pn I3 hpn j3 i3 => ?_⟩
        have tne := tn_plus g2 tsq tlo (by decide)
        generalize plusF g (timesF g yy yy) lo = ne at i3 tne
        have j13 := j1.trans (j2.trans j3)
        have hpx3 := j13 _ _ hpx
        have hpy3 := j13 _ _ hpy
        have hps3 := j3 _ _ (j2 _ _ i1)
        walk_at "go"
        refine ⟨g, .ref px, .ref ps, ax, _, rfl, hg0, hg, ⟨px, rfl, hpx3⟩, ⟨ps, rfl, hps3⟩, tx.bd (by decide), tsq.bd (by decide), fun pa I4 hpa j4 i4 => ?_⟩
        have tpa := tn_times g2 tx tsq (by decide)
        have zpa := nz_times g2 tx tsq zx zsq
        walk_at "go"
        refine ⟨g, .ref px, .ref py, ax, yy, rfl, hg0, hg, ⟨px, rfl, j4 _ _ hpx3⟩, ⟨py, rfl, j4 _ _ hpy3⟩, tx.bd (by decide), tyy.bd (by decide), fun pb I5 hpb j5 i5 => ?_⟩
        have tpb := tn_times g2 tx tyy (by decide)
        have zpb := nz_times g2 tx tyy zx zyy
        walk_at "go"
        refine ⟨g, .ref px, ax, rfl, hg0, hg, ⟨px, rfl, j5 _ _ (j4 _ _ hpx3)⟩, (tx.mono (show 84 ≤ 8000 by decide)).2.2, by have := tx.pos; omega, fun pc I6 hpc j6 i6 => ?_⟩
        have tpc := tn_minus g2 tx (by decide)
        have zpc := nz_minus g2 tx zx
        walk_at "go"
        refine w_new (by simp) fun L7 I7 hL7 j7 i7 => ?_
        walk_at "go"
        refine w_new (by simp) fun L8 I8 hL8 j8 i8 => ?_
        walk_at "go"
        refine w_new (by simp) fun p9 I9 hp9 j9 i9 => ?_
        have j39 := j4.trans (j5.trans (j6.trans (j7.trans (j8.trans j9))))
        refine w_neNum ⟨pn, rfl, j39 _ _ i3⟩ (b := (0, 1)) ⟨p9, rfl, i9⟩ ?_
        walk_at "go"
        refine .inr ⟨_, rfl, ?_⟩
        refine w_rep (j9 _ _ i8) (by split <;> decide) (by split <;> decide) (by simp) ?_
        refine w_newO fun L10 I10 hL10 j10 i10 => ?_
        have j310 := j39.trans j10
        refine w_cat ((j8.trans (j9.trans j10)) _ _ i7) i10 (by split <;> simp) ?_
        refine w_newO fun M I11 hM j11 hMM => ?_
        have j311 := j310.trans j11
        have tz6 : ∀ x ∈ [V.ref px, V.ref py, V.ref ps, V.ref pa, V.ref pb, V.ref pc] ++ (List.replicate (if (!decide (ne = (0, 1))) = true then (1 : Int) else 0).toNat [V.ref pn]).flatten, TZ g 1100 I11 x := fun x hx' => by
          rcases List.mem_append.mp hx' with h | h
          · simp only [List.mem_cons, List.not_mem_nil, or_false] at h
            rcases h with rfl | rfl | rfl | rfl | rfl | rfl
            · exact ⟨ax, ⟨px, rfl, j311 _ _ hpx3⟩, tx.mono (by decide), zx⟩
            · exact ⟨yy, ⟨py, rfl, j311 _ _ hpy3⟩, tyy.mono (by decide), zyy⟩
            · exact ⟨_, ⟨ps, rfl, j311 _ _ hps3⟩, tsq.mono (by decide), zsq⟩
            · exact ⟨_, ⟨pa, rfl, (j5.trans (j6.trans (j7.trans (j8.trans (j9.trans (j10.trans j11)))))) _ _ i4⟩, tpa.mono (by decide), zpa⟩
            · exact ⟨_, ⟨pb, rfl, (j6.trans (j7.trans (j8.trans (j9.trans (j10.trans j11))))) _ _ i5⟩, tpb.mono (by decide), zpb⟩
            · exact ⟨_, ⟨pc, rfl, (j7.trans (j8.trans (j9.trans (j10.trans j11)))) _ _ i6⟩, tpc.mono (by decide), zpc⟩
          · by_cases hz : ne = (0, 1)
            · rw [decide_eq_true hz] at h
              cases h
            · rw [decide_eq_false hz] at h
              have h' : x ∈ [V.ref pn] := h
              rw [List.mem_singleton.mp h']
              exact ⟨ne, ⟨pn, rfl, j311 _ _ i3⟩, tne.mono (by decide), fun z => hz (tne.zero.mp z)⟩
        have hlen : ([V.ref px, V.ref py, V.ref ps, V.ref pa, V.ref pb, V.ref pc] ++ (List.replicate (if (!decide (ne = (0, 1))) = true then (1 : Int) else 0).toNat [V.ref pn]).flatten).length ≤ 7 := by split <;> simp
        generalize [V.ref px, V.ref py, V.ref ps, V.ref pa, V.ref pb, V.ref pc] ++ (List.replicate (if (!decide (ne = (0, 1))) = true then (1 : Int) else 0).toNat [V.ref pn]).flatten = zs at tz6 hMM hlen
        have hpxM : I11 px = some (.tup [.int ax.1, .int ax.2]) := j311 _ _ hpx3
        have hpyM : I11 py = some (.tup [.int yy.1, .int yy.2]) := j311 _ _ hpy3
        have hpsM := j311 _ _ hps3
        have mM : Mv b H2 I11 := m14.trans (Mv.same (j13.trans j311))
        have hbM := hb14.same (j13.trans j311)
        clear i3 i4 i5 i6 i7 i8 i9 i10
        walk_at "go"
        refine ⟨M, rfl, ⟨_, SqL.of hMM⟩, fun D hD => ?_⟩
        refine lc_list (xs := zs) (fun n H'' => Same I11 H'' ∧ H'' D = some (.lst ((List.replicate n true).map V.bl))) ⟨Same.updD (Same.refl I11) hD, upd_same⟩ (fun n H'' _ hP => SqL.of (hP.1 _ _ hMM)) (fun n z H'' hz hP => ?_) (fun J2 hP => ?_)
        · obtain ⟨sn, hD'⟩ := hP
          have hn : n < zs.length := (List.getElem?_eq_some_iff.mp hz).1
          obtain ⟨az, hzn, hzt, hz0⟩ := (tz6 z (List.mem_of_getElem? hz)).kt (Kt.of sn)
          walk_at "go"
          refine ⟨rfl, ?_⟩
          walk_at "go"
          refine ⟨g, .ref px, z, ax, az, 84, 1100, rfl, hgr, ⟨px, rfl, sn _ _ hpxM⟩, hzn, tx, hzt, zx, hz0, by decide, by decide, by decide, by decide, fun K1 k1 => ?_⟩
          walk_at "go"
          refine ⟨g, .ref py, z, yy, az, 470, 1100, rfl, hgr, ⟨py, rfl, k1 _ _ (sn _ _ hpyM)⟩, NumV.kt hzn (Kt.of k1), tyy, hzt, zyy, hz0, by decide, by decide, by decide, by decide, fun K2 k2 => ?_⟩
          have hD2 := k2 _ _ (k1 _ _ hD')
          refine ⟨_, hD2, ?_, Same.updD (sn.trans (k1.trans k2)) hD, ?_⟩
          · rw [List.length_map, List.length_replicate]
            exact small1000 (by omega)
          · rw [upd_same, List.replicate_succ', List.map_append]
            rfl
        · obtain ⟨k2, hD'⟩ := hP
          walk_at "go"
          refine ⟨D, _, rfl, SqL.of hD', ?_⟩
          rw [all_true]
          walk_at "go"
          refine iteF ?_
          walk_at "go"
          have hpx2 := k2 _ _ hpxM
          have hps2 := k2 _ _ hpsM
          have m2J : Mv b H2 J2 := mM.trans (Mv.same k2)
          have hbJ := hbM.same k2
          refine ⟨g, .ref px, .ref ps, ax, _, rfl, hg0, hg, ⟨px, rfl, hpx2⟩, ⟨ps, rfl, hps2⟩, tx.bd (by decide), tsq.bd (by decide), fun pt K3 hpt k3 i3 => ?_⟩
          walk_at "go"
          have tpa' := tpa.mono (show 84 + (470 + 470) ≤ 1300 by decide)
          have tx' := tx.mono (show 84 ≤ 1300 by decide)
          have tsq' := tsq.mono (show 470 + 470 ≤ 1300 by decide)
          have t11' := (tn_oneA g2).mono (show 4 ≤ 1300 by decide)
          have vx3 : NumV K3 (.ref px) ax := ⟨px, rfl, k3 _ _ hpx2⟩
          have vt3 : NumV K3 (.ref pt) _ := ⟨pt, rfl, i3⟩
          refine ⟨g, .ref px, .ref pt, rfl, g2, thn_num vx3 tx'.2.1 tx'.2.2, thn_num vt3 tpa'.2.1 tpa'.2.2, fun a' c' hx' hy' _ _ _ _ K4 k4 => ?_, fun z => absurd ⟨⟨_, vx3, tx.num, zx⟩, ⟨_, vt3, tpa.num, zpa⟩⟩ z⟩
          have ea := numV_uniq vx3 hx'
          have ec := numV_uniq vt3 hy'
          subst ea ec
          rw [alike_sq g2 (tx.mono (show 84 ≤ 470 by decide)) tyy (by decide)]
          walk_at "go"
          refine iteF ?_
          walk_at "go"
          refine w_new (by simp) fun p5 K5 hp5 k5 i5 => ?_
          walk_at "go"
          have vs5 : NumV K5 (.ref ps) _ := ⟨ps, rfl, k5 _ _ (k4 _ _ (k3 _ _ hps2))⟩
          have v15 : NumV K5 (.ref p5) (1, 1) := ⟨p5, rfl, i5⟩
          refine ⟨g, .ref ps, .ref p5, rfl, g2, thn_num vs5 tsq'.2.1 tsq'.2.2, thn_num v15 t11'.2.1 t11'.2.2, fun a' c' hx' hy' _ _ _ _ K6 k6 => ?_, fun z => absurd ⟨⟨_, vs5, tsq.num, zsq⟩, ⟨_, v15, t11'.num, by decide⟩⟩ z⟩
          have ea := numV_uniq vs5 hx'
          have ec := numV_uniq v15 hy'
          subst ea ec
          rw [times_one g2 tsq, sq_some g2 tyy (by decide)]
          walk_at "go"
          refine iteF ?_
          walk_at "go"
          have k26 := k3.trans (k4.trans (k5.trans k6))
          have m26' : Mv b H2 K6 := m2J.trans (Mv.same k26)
          have hb6' := hbJ.same k26
          have hpx6 := k26 _ _ hpx2
          refine w_new (by simp) fun q1 N1 hq1 n1 o1 => ?_
          have ta1 : TA N1 (.ref q1) := ⟨Th.tup o1 rfl, sm_tup o1 (by decide)⟩
          walk_at "go"
          refine ⟨b, rfl, hb6'.same n1, fun N2 u2 th2 sm2 w2 hbb2 => ?_⟩
          have kd2 := Kd.mv w2 (hb6'.same n1) hbb2
          have ta2 : TA N2 u2 := ⟨th2, sm2⟩
          walk_at "go"
          refine ⟨b, rfl, hbb2, fun N3 u3 th3 sm3 w3 hbb3 => ?_⟩
          have kd3 := Kd.mv w3 hbb2 hbb3
          have ta3 : TA N3 u3 := ⟨th3, sm3⟩
          walk_at "go"
          refine w_new (by simp) fun q4 N4 hq4 n4 o4 => ?_
          have ta4 : TA N4 (.ref q4) := ⟨Th.lst o4, sm_lst o4⟩
          walk_at "go"
          refine w_new (by simp) fun q5 N5 hq5 n5 o5 => ?_
          have ta5 : TA N5 (.ref q5) := ⟨Th.tup o5 rfl, sm_tup o5 (by show (decide _ && decide _) = true; rw [decide_eq_true (show (g + 1).natAbs < 2 ^ 4 by omega)]; rfl)⟩
          walk_at "go"
          refine w_new (by simp) fun q6 N6 hq6 n6 o6 => ?_
          have ta6 : TA N6 (.ref q6) := ⟨Th.tup o6 rfl, sm_tup o6 (by decide)⟩
          walk_at "go"
          refine w_new (by simp) fun LL N7 hLL n7 o7 => ?_
          have taA : ∀ v ∈ [V.ref q1, u2, u3, V.ref q4, V.ref q5, V.ref q6], TA N7 v := fun v hv => by
            simp only [List.mem_cons, List.not_mem_nil, or_false] at hv
            rcases hv with rfl | rfl | rfl | rfl | rfl | rfl
            · exact ta1.kd (kd2.trans (kd3.trans (Kd.of (n4.trans (n5.trans (n6.trans n7))))))
            · exact ta2.kd (kd3.trans (Kd.of (n4.trans (n5.trans (n6.trans n7)))))
            · exact ta3.kd (Kd.of (n4.trans (n5.trans (n6.trans n7))))
            · exact ta4.kd (Kd.of (n5.trans (n6.trans n7)))
            · exact ta5.kd (Kd.of (n6.trans n7))
            · exact ta6.kd (Kd.of n7)
          have mQ : Mv b H2 N7 := m26'.trans ((Mv.same n1).trans (w2.trans (w3.trans (Mv.same (n4.trans (n5.trans (n6.trans n7)))))))
          have xQ : Sx T H' N7 := x2.mv hb0 hb2 mQ
          have hpxQ : N7 px = some (.tup [.int ax.1, .int ax.2]) := (Kd.of n1).1.trans (kd2.1.trans (kd3.1.trans (Kt.of (n4.trans (n5.trans (n6.trans n7)))))) _ _ hpx6
          clear o1 o4 o5 o6 ta1 ta2 ta3 ta4 ta5 ta6
          refine ⟨LL, rfl, ⟨_, SqL.of o7⟩, ?_⟩
          refine for_list (xs := [V.ref q1, u2, u3, V.ref q4, V.ref q5, V.ref q6]) (fun m σ H'' => (∃ y1 y3 y4 y5 y6 y7 y8 y10 y12 y13 y14, σ = [some (.ref a), y1, some (.ref b), y3, y4, y5, y6, y7, y8, some (.int g), y10, some (.ref px), y12, y13, y14]) ∧ Sx T N7 H'') ⟨⟨_, _, _, _, _, _, _, _, _, _, _, rfl⟩, Sx.refl xQ.2⟩ (fun m σ H'' _ hP => SqL.of (hP.2.lst o7)) (fun m v σ H3' hv hP => ?_) (fun σ H3' hP => ?_)
          · obtain ⟨⟨y1, y3, y4, y5, y6, y7, y8, y10, y12, y13, y14, rfl⟩, sm7⟩ := hP
            have tav : TA H3' v := (taA v (List.mem_of_getElem? hv)).kd (Kd.sx sm7)
            have vx3' : NumV H3' (.ref px) ax := ⟨px, rfl, sm7.tup hpxQ⟩
            walk_at "go"
            refine ⟨g, v, rfl, hg0, tav.1, fun R1 r1 => ?_⟩
            have tav1 := tav.kd (Kd.of r1)
            have x1 : Sx T H3' R1 := Sx.same sm7.2 r1
            cases e : numOf H3' g v with
            | false =>
              have hno : ¬ NZV R1 g v := fun z => by
                have z1 := z.num
                rw [numOf_kd tav.1 (Kd.of r1), e] at z1
                cases z1
              walk_at "go"
              refine ⟨x1.2, fun R2 f2 t2 => ?_⟩
              have x2' : Sx T R1 R2 := ⟨f2, t2⟩
              have hno2 : ¬ NZV R2 g v := fun z => hno (nzv_back tav1 x2' z)
              refine ⟨.int g, rfl, .ref px, rfl, v, rfl, g, .ref px, v, rfl, g2, thn_num (NumV.kt vx3' (x1.trans x2').kt) tx'.2.1 tx'.2.2, (tav1.kd (Kd.sx x2')).thn, fun a' c' hx' hy' ta' tc' za' zc' => absurd ⟨c', hy', tc'.num, zc'⟩ hno2, fun _ R3 r3 => .inl ⟨_, "NoNumber", rfl, rfl, MC_NoNumber, fun R4 r4 => ?_⟩⟩
              walk_at "go"
              refine w_neSame rfl ?_
              walk_at "go"
              have x4 : Sx T R2 R4 := Sx.same t2 (r3.trans r4)
              have hno4 : ¬ NZV R4 g v := fun z => hno2 (nzv_back (tav1.kd (Kd.sx x2')) x4 z)
              refine ⟨x4.2, fun R5 f5 t5 => ?_⟩
              have x5 : Sx T R4 R5 := ⟨f5, t5⟩
              have ta4' := (tav1.kd (Kd.sx x2')).kd (Kd.sx x4)
              have hno5 : ¬ NZV R5 g v := fun z => hno4 (nzv_back ta4' x5 z)
              have x15 : Sx T H3' R5 := x1.trans (x2'.trans (x4.trans x5))
              refine ⟨.int g, rfl, v, rfl, .ref px, rfl, g, v, .ref px, rfl, g2, (ta4'.kd (Kd.sx x5)).thn, thn_num (NumV.kt vx3' x15.kt) tx'.2.1 tx'.2.2, fun a' c' hx' hy' ta' tc' za' zc' => absurd ⟨a', hx', ta'.num, za'⟩ hno5, fun _ R6 r6 => .inl ⟨_, "NoNumber", rfl, rfl, MC_NoNumber, fun R7 r7 => ?_⟩⟩
              walk_at "go"
              refine w_neSame rfl ?_
              walk_at "go"
              exact ⟨⟨_, _, _, _, _, _, _, _, _, _, _, rfl⟩, sm7.trans (x15.trans (Sx.same t5 (r6.trans r7)))⟩
            | true =>
              obtain ⟨pv', av, rfl, hpv, hok⟩ := num_true e
              have tav' : TN g 4 av := tn_num g2 hok (tav.2 av ⟨pv', rfl, hpv⟩).1 (tav.2 av ⟨pv', rfl, hpv⟩).2
              walk_at "go"
              refine w_new (by simp) fun p8 R2 hp8 r2 i8 => ?_
              have x12 : Sx T H3' R2 := x1.trans (Sx.same x1.2 r2)
              refine w_neNum ⟨pv', rfl, x12.tup hpv⟩ (b := (0, 1)) ⟨p8, rfl, i8⟩ ?_
              walk_at "go"
              have t4 : TN g 1300 av := tav'.mono (by decide)
              refine w_iteN (fun hz => ?_) (fun hz => ?_)
              · have nz : av.1 ≠ 0 := fun z => hz (tav'.zero.mp z)
                walk_at "go"
                refine ⟨x12.2, fun R3 f3 t3 => ?_⟩
                have x13 : Sx T H3' R3 := x12.trans ⟨f3, t3⟩
                have vv3 : NumV R3 (.ref pv') av := ⟨pv', rfl, x13.tup hpv⟩
                have vx33 := NumV.kt vx3' x13.kt
                refine ⟨.int g, rfl, .ref px, rfl, .ref pv', rfl, g, .ref px, .ref pv', rfl, g2, thn_num vx33 tx'.2.1 tx'.2.2, thn_num vv3 t4.2.1 t4.2.2, fun a' c' hx' hy' ta' tc' za' zc' R4 r4 => ?_, fun z => absurd ⟨⟨_, vx33, tx.num, zx⟩, ⟨_, vv3, t4.num, nz⟩⟩ z⟩
                walk_at "go"
                refine w_neSame rfl ?_
                walk_at "go"
                have x4 : Sx T H3' R4 := x13.trans (Sx.same t3 r4)
                refine ⟨x4.2, fun R5 f5 t5 => ?_⟩
                have x15 : Sx T H3' R5 := x4.trans ⟨f5, t5⟩
                have vv5 : NumV R5 (.ref pv') av := ⟨pv', rfl, x15.tup hpv⟩
                have vx55 := NumV.kt vx3' x15.kt
                refine ⟨.int g, rfl, .ref pv', rfl, .ref px, rfl, g, .ref pv', .ref px, rfl, g2, thn_num vv5 t4.2.1 t4.2.2, thn_num vx55 tx'.2.1 tx'.2.2, fun a' c' hx' hy' ta' tc' za' zc' R6 r6 => ?_, fun z => absurd ⟨⟨_, vv5, t4.num, nz⟩, ⟨_, vx55, tx.num, zx⟩⟩ z⟩
                walk_at "go"
                refine w_neSame rfl ?_
                walk_at "go"
                exact ⟨⟨_, _, _, _, _, _, _, _, _, _, _, rfl⟩, sm7.trans (x15.trans (Sx.same t5 r6))⟩
              · have nz : av.1 = 0 := tav'.zero.mpr hz
                have hno : ∀ {R : Hp}, Sx T H3' R → ¬ NZV R g (.ref pv') := fun {R} x z => (nzv_num z ⟨pv', rfl, x.tup hpv⟩).2 nz
                walk_at "go"
                refine ⟨x12.2, fun R3 f3 t3 => ?_⟩
                have x13 : Sx T H3' R3 := x12.trans ⟨f3, t3⟩
                have vv3 : NumV R3 (.ref pv') av := ⟨pv', rfl, x13.tup hpv⟩
                have vx33 := NumV.kt vx3' x13.kt
                refine ⟨.int g, rfl, .ref px, rfl, .ref pv', rfl, g, .ref px, .ref pv', rfl, g2, thn_num vx33 tx'.2.1 tx'.2.2, thn_num vv3 t4.2.1 t4.2.2, fun a' c' hx' hy' ta' tc' za' zc' => absurd ⟨c', hy', tc'.num, zc'⟩ (hno x13), fun _ R4 r4 => .inl ⟨_, "NoNumber", rfl, rfl, MC_NoNumber, fun R4' r4' => ?_⟩⟩
                walk_at "go"
                refine w_neSame rfl ?_
                walk_at "go"
                have x4 : Sx T H3' R4' := x13.trans (Sx.same t3 (r4.trans r4'))
                refine ⟨x4.2, fun R5 f5 t5 => ?_⟩
                have x15 : Sx T H3' R5 := x4.trans ⟨f5, t5⟩
                have vv5 : NumV R5 (.ref pv') av := ⟨pv', rfl, x15.tup hpv⟩
                have vx55 := NumV.kt vx3' x15.kt
                refine ⟨.int g, rfl, .ref pv', rfl, .ref px, rfl, g, .ref pv', .ref px, rfl, g2, thn_num vv5 t4.2.1 t4.2.2, thn_num vx55 tx'.2.1 tx'.2.2, fun a' c' hx' hy' ta' tc' za' zc' => absurd ⟨a', hx', ta'.num, za'⟩ (hno x15), fun _ R6 r6 => .inl ⟨_, "NoNumber", rfl, rfl, MC_NoNumber, fun R7 r7 => ?_⟩⟩
                walk_at "go"
                refine w_neSame rfl ?_
                walk_at "go"
                exact ⟨⟨_, _, _, _, _, _, _, _, _, _, _, rfl⟩, sm7.trans (x15.trans (Sx.same t5 (r6.trans r7)))⟩
          · obtain ⟨⟨y1, y3, y4, y5, y6, y7, y8, y10, y12, y13, y14, rfl⟩, sm7⟩ := hP
            walk_at "go"
            exact ⟨⟨_, _, _, _, _, _, _, _, _, _, _, _, _, _, rfl⟩, sm.trans (xQ.trans sm7)⟩
    · obtain ⟨⟨y1, y2, y3, y4, y5, y6, y7, y8, y9, y10, y11, y12, y13, y14, rfl⟩, sm⟩ := hP
      walk_at "go"
      refine w_new (by simp) fun G1 H2 hG1 s2 hG => ?_
      have x2 : Sx T H' H2 := Sx.same sm.2 s2
      refine ⟨G1, rfl, ⟨_, SqL.of hG⟩, ?_⟩
      refine for_list (xs := [V.int 0, V.int 3, V.int 5, V.int 7, V.int 11, V.int 13, V.int 7, V.int 5, V.int 0, V.int 3]) (fun m σ H'' => (∃ y1 y2 y3 y4 y5 y6 y7 y8 y9 y10 y11 y12 y13 y14, σ = [some (.ref a), y1, y2, y3, y4, y5, y6, y7, y8, y9, y10, y11, y12, y13, y14]) ∧ Same H2 H'') ⟨⟨_, _, _, _, _, _, _, _, _, _, _, _, _, _, rfl⟩, Same.refl H2⟩ (fun m σ H'' _ hP => SqL.of (hP.2 _ _ hG)) (fun m v σ H3 hv hP => ?_) (fun σ H3 hP => ?_)
      · obtain ⟨⟨y1, y2, y3, y4, y5, y6, y7, y8, y9, y10, y11, y12, y13, y14, rfl⟩, sm3⟩ := hP
        obtain ⟨g, rfl, hgr⟩ : ∃ g : Int, v = .int g ∧ Gr g := by
          have := List.mem_of_getElem? hv
          simp only [List.mem_cons, List.not_mem_nil, or_false] at this
          rcases this with rfl | rfl | rfl | rfl | rfl | rfl | rfl | rfl | rfl | rfl <;> exact ⟨_, rfl, by unfold Gr; decide⟩
        have tn2 : ∀ z : Int, z = 1 ∨ z = 2 → TN g 4 (z, 1) := fun z hz => by
          refine ⟨?_, by show z.natAbs < 2 ^ 4; omega, by show (1 : Int).natAbs < 2 ^ 4; decide⟩
          rcases hgr.two with rfl | hg5
          · refine .inl ⟨rfl, by show (0 : Int) < 1; decide, ?_⟩
            show Int.gcd z 1 = 1
            rw [Int.gcd_one_right]
          · refine .inr ?_
            unfold Gr5 at hg5
            refine ⟨by omega, ?_, ?_, rfl⟩
            · show 0 ≤ z
              omega
            · show z < g
              omega
        walk_at "go"
        refine w_new (by simp) fun r1 J1 hr1 j1 i1 => ?_
        walk_at "go"
        refine w_new (by simp) fun r2 J2 hr2 j2 i2 => ?_
        walk_at "go"
        refine w_new (by simp) fun r3 J3 hr3 j3 i3 => ?_
        walk_at "go"
        refine w_new (by simp) fun r4 J4 hr4 j4 i4 => ?_
        walk_at "go"
        refine w_new (by simp) fun r5 J5 hr5 j5 i5 => ?_
        have hpr : ∀ z ∈ [V.ref r1, V.ref r2, V.ref r3, V.ref r4], ∃ (p : Addr) (u w : Int), z = .ref p ∧ J5 p = some (.tup [.int u, .int w]) ∧ (u = 1 ∨ u = 2) ∧ (w = 1 ∨ w = 2) := fun z hz => by
          simp only [List.mem_cons, List.not_mem_nil, or_false] at hz
          rcases hz with rfl | rfl | rfl | rfl
          · exact ⟨r1, 1, 2, rfl, j5 _ _ (j4 _ _ (j3 _ _ (j2 _ _ i1))), .inl rfl, .inr rfl⟩
          · exact ⟨r2, 2, 1, rfl, j5 _ _ (j4 _ _ (j3 _ _ i2)), .inr rfl, .inl rfl⟩
          · exact ⟨r3, 2, 2, rfl, j5 _ _ (j4 _ _ i3), .inr rfl, .inr rfl⟩
          · exact ⟨r4, 1, 1, rfl, j5 _ _ i4, .inl rfl, .inl rfl⟩
        refine ⟨r5, rfl, ⟨_, SqL.of i5⟩, fun D hD => ?_⟩
        refine lc_list (xs := [V.ref r1, V.ref r2, V.ref r3, V.ref r4]) (fun n H'' => Same J5 H'' ∧ H'' D = some (.lst ((List.replicate n true).map V.bl))) ⟨Same.updD (Same.refl J5) hD, upd_same⟩ (fun n H'' _ hP => SqL.of (hP.1 _ _ i5)) (fun n z H'' hz hP => ?_) (fun J9 hP => ?_)
        · obtain ⟨sn, hD'⟩ := hP
          have hn : n < 4 := (List.getElem?_eq_some_iff.mp hz).1
          obtain ⟨p, u, w', rfl, hp, hu, hw⟩ := hpr z (List.mem_of_getElem? hz)
          have hp' := sn _ _ hp
          walk_at "go"
          refine ⟨rfl, ?_⟩
          walk_at "go"
          refine w_new (by simp) fun q1 M1 hq1 m1 l1 => ?_
          walk_at "go"
          refine w_new (by simp) fun q2 M2 hq2 m2 l2 => ?_
          walk_at "go"
          refine ⟨g, .ref q1, .ref q2, (u, 1), (w', 1), 4, 4, rfl, hgr, ⟨q1, rfl, m2 _ _ l1⟩, ⟨q2, rfl, l2⟩, tn2 u hu, tn2 w' hw, by show u ≠ 0; omega, by show w' ≠ 0; omega, by decide, by decide, by decide, by decide, fun M3 m3 => ?_⟩
          have hD3 := m3 _ _ (m2 _ _ (m1 _ _ hD'))
          refine ⟨_, hD3, ?_, Same.updD (sn.trans (m1.trans (m2.trans m3))) hD, ?_⟩
          · rw [List.length_map, List.length_replicate]
            exact small1000 (by omega)
          · rw [upd_same, List.replicate_succ', List.map_append]
            rfl
        · obtain ⟨k2, hD'⟩ := hP
          walk_at "go"
          refine ⟨D, _, rfl, SqL.of hD', ?_⟩
          rw [all_true]
          walk_at "go"
          refine iteF ?_
          walk_at "go"
          exact ⟨⟨_, _, _, _, _, _, _, _, _, _, _, _, _, _, rfl⟩, sm3.trans (j1.trans (j2.trans (j3.trans (j4.trans (j5.trans k2)))))⟩
      · obtain ⟨⟨y1, y2, y3, y4, y5, y6, y7, y8, y9, y10, y11, y12, y13, y14, rfl⟩, sm3⟩ := hP
        walk_at "go"
        exact q _

def d_is_whole : He.DefD := ⟨("is_whole", none), "is_whole", "is_whole", defArgs (topS 21), defBody (topS 21), defScope (topS 21), [], []⟩
def d_common_divisor : He.DefD := ⟨("common_divisor", none), "common_divisor", "common_divisor", defArgs (topS 22), defBody (topS 22), defScope (topS 22), [], []⟩
def d_whole_root : He.DefD := ⟨("whole_root", none), "whole_root", "whole_root", defArgs (topS 23), defBody (topS 23), defScope (topS 23), [], []⟩
def d_is_number : He.DefD := ⟨("is_number", none), "is_number", "is_number", defArgs (topS 25), defBody (topS 25), defScope (topS 25), [], []⟩
def d_lowest : He.DefD := ⟨("lowest", none), "lowest", "lowest", defArgs (topS 26), defBody (topS 26), defScope (topS 26), [], []⟩
def d_wheel_back : He.DefD := ⟨("wheel_back", none), "wheel_back", "wheel_back", defArgs (topS 27), defBody (topS 27), defScope (topS 27), [], []⟩
def d_times : He.DefD := ⟨("times", none), "times", "times", defArgs (topS 28), defBody (topS 28), defScope (topS 28), [], []⟩
def d_is_square : He.DefD := ⟨("is_square", none), "is_square", "is_square", defArgs (topS 29), defBody (topS 29), defScope (topS 29), [], []⟩
def d_root_or_none : He.DefD := ⟨("root_or_none", none), "root_or_none", "root_or_none", defArgs (topS 30), defBody (topS 30), defScope (topS 30), [], []⟩
def d_fraction_root : He.DefD := ⟨("fraction_root", none), "fraction_root", "fraction_root", defArgs (topS 31), defBody (topS 31), defScope (topS 31), [], []⟩
def d_wheel_root : He.DefD := ⟨("wheel_root", none), "wheel_root", "wheel_root", defArgs (topS 32), defBody (topS 32), defScope (topS 32), [], []⟩
def d_are_alike : He.DefD := ⟨("are_alike", none), "are_alike", "are_alike", defArgs (topS 34), defBody (topS 34), defScope (topS 34), [], []⟩
def d__law_bag : He.DefD := ⟨("_law_bag", none), "_law_bag", "_law_bag", defArgs (topS 36), defBody (topS 36), defScope (topS 36), [], []⟩
def d__law_take : He.DefD := ⟨("_law_take", none), "_law_take", "_law_take", defArgs (topS 37), defBody (topS 37), defScope (topS 37), [], []⟩
def d__law_is_whole : He.DefD := ⟨("_law_is_whole", none), "_law_is_whole", "_law_is_whole", defArgs (topS 38), defBody (topS 38), defScope (topS 38), [], []⟩
def d__law_shared : He.DefD := ⟨("_law_shared", none), "_law_shared", "_law_shared", defArgs (topS 39), defBody (topS 39), defScope (topS 39), [], []⟩
def d__law_low : He.DefD := ⟨("_law_low", none), "_law_low", "_law_low", defArgs (topS 40), defBody (topS 40), defScope (topS 40), [], []⟩
def d__law_is_number : He.DefD := ⟨("_law_is_number", none), "_law_is_number", "_law_is_number", defArgs (topS 41), defBody (topS 41), defScope (topS 41), [], []⟩
def d__law_plus : He.DefD := ⟨("_law_plus", none), "_law_plus", "_law_plus", defArgs (topS 42), defBody (topS 42), defScope (topS 42), [], []⟩
def d__law_times : He.DefD := ⟨("_law_times", none), "_law_times", "_law_times", defArgs (topS 43), defBody (topS 43), defScope (topS 43), [], []⟩
def d__law_minus : He.DefD := ⟨("_law_minus", none), "_law_minus", "_law_minus", defArgs (topS 44), defBody (topS 44), defScope (topS 44), [], []⟩
def d__law_ground : He.DefD := ⟨("_law_ground", none), "_law_ground", "_law_ground", defArgs (topS 45), defBody (topS 45), defScope (topS 45), [], []⟩
def d__law_number : He.DefD := ⟨("_law_number", none), "_law_number", "_law_number", defArgs (topS 46), defBody (topS 46), defScope (topS 46), [], []⟩
def d__law_other_than_nought : He.DefD := ⟨("_law_other_than_nought", none), "_law_other_than_nought", "_law_other_than_nought", defArgs (topS 47), defBody (topS 47), defScope (topS 47), [], []⟩
def d__law_odd : He.DefD := ⟨("_law_odd", none), "_law_odd", "_law_odd", defArgs (topS 48), defBody (topS 48), defScope (topS 48), [], []⟩
def d__law_refusal : He.DefD := ⟨("_law_refusal", none), "_law_refusal", "_law_refusal", defArgs (topS 49), defBody (topS 49), defScope (topS 49), [], []⟩
def d__law_root_beneath : He.DefD := ⟨("_law_root_beneath", none), "_law_root_beneath", "_law_root_beneath", defArgs (topS 50), defBody (topS 50), defScope (topS 50), [], []⟩
def d__law_is_square : He.DefD := ⟨("_law_is_square", none), "_law_is_square", "_law_is_square", defArgs (topS 51), defBody (topS 51), defScope (topS 51), [], []⟩
def d__law_great : He.DefD := ⟨("_law_great", none), "_law_great", "_law_great", defArgs (topS 52), defBody (topS 52), defScope (topS 52), [], []⟩
def d__law_is_told : He.DefD := ⟨("_law_is_told", none), "_law_is_told", "_law_is_told", defArgs (topS 53), defBody (topS 53), defScope (topS 53), [], []⟩
def d_law : He.DefD := ⟨("law", none), "law", "law", defArgs (topS 54), defBody (topS 54), defScope (topS 54), [], []⟩
def fn : List He.DefD := [d_is_whole, d_common_divisor, d_whole_root, d_is_number, d_lowest, d_wheel_back, d_times, d_is_square, d_root_or_none, d_fraction_root, d_wheel_root, d_are_alike, d__law_bag, d__law_take, d__law_is_whole, d__law_shared, d__law_low, d__law_is_number, d__law_plus, d__law_times, d__law_minus, d__law_ground, d__law_number, d__law_other_than_nought, d__law_odd, d__law_refusal, d__law_root_beneath, d__law_is_square, d__law_great, d__law_is_told, d_law]
def fa : List He.Fa := [.glo "is_whole", .glo "common_divisor", .glo "whole_root", .glo "is_number", .glo "lowest", .glo "wheel_back", .glo "times", .glo "is_square", .glo "root_or_none", .glo "fraction_root", .glo "wheel_root", .glo "are_alike", .glo "_law_bag", .glo "_law_take", .glo "_law_is_whole", .glo "_law_shared", .glo "_law_low", .glo "_law_is_number", .glo "_law_plus", .glo "_law_times", .glo "_law_minus", .glo "_law_ground", .glo "_law_number", .glo "_law_other_than_nought", .glo "_law_odd", .glo "_law_refusal", .glo "_law_root_beneath", .glo "_law_is_square", .glo "_law_great", .glo "_law_is_told", .glo "law", .free "isinstance", .free "int", .free "bool", .free "abs", .free "tuple", .free "len", .free "range", .free "all", .free "ValueError", .free "any", .free "max", .free "min", .glo "MirrorError", .glo "NoGround", .glo "NoNumber", .glo "NoRow", .glo "NoTable", .glo "NoForm", .glo "NoKeeper", .glo "NoWorth", .glo "NoSeat", .glo "NoFour", .glo "NoPlace", .glo "NoClaim", .glo "NoText", .glo "NoSaying", .glo "TooMany", .glo "NotKept", .glo "OverNought", .glo "Flat", .glo "NoName", .exc "NoNumber"]
def tf : List He.Defn := [("law", none)]
def exB (M : PySem.W.Frag) : Bool := mirB M "NoNumber"
def lamTabs (K : PySem.W.Frag) : List (Addr × Str) := [((He.cT K ("law", none)).2, ((envOfC "law" (defScope s_law) 0 0 .none).qual ++ "<lambda>"))]
abbrev R : PySem.W.OpenRow := PySem.W.OpenLaw.row PySem.Challenge.rw_fewmirrors_k33_classes_alike
def hk : PySem.W.Hook := He.hookX 4 fa fn [] tf exB
def ob (s : PySem.W.SharedT) : He.AlX := He.obsX 4 fa fn [] tf exB (HandSHeadRun.getT s)
theorem ob_eq (s : PySem.W.SharedT) : ob s = hk.obs s.abs := He.obsX_eq (HandSHeadRun.getT_eq s)
def loose : List PySem.Str := (["MirrorError", "NoGround", "NoNumber", "NoRow", "NoTable", "NoForm", "NoKeeper", "NoWorth", "NoSeat", "NoFour", "NoPlace", "NoClaim", "NoText", "NoSaying", "TooMany", "NotKept", "OverNought", "Flat", "NoName", "is_whole"] : List PySem.Str) ++ (["common_divisor", "whole_root", "is_number", "lowest", "wheel_back", "times", "is_square", "root_or_none", "fraction_root", "wheel_root", "are_alike", "_law_bag", "_law_take", "_law_is_whole", "_law_shared", "_law_low", "_law_is_number", "_law_plus", "_law_times", "_law_minus"] : List PySem.Str) ++ (["_law_ground", "_law_number", "_law_other_than_nought", "_law_odd", "_law_refusal", "_law_root_beneath", "_law_is_square", "_law_great", "_law_is_told"] : List PySem.Str)
theorem run (w : World) : HandSHeadRun.RunEq R (PySem.W.view R.prog [54]) hk ob 6000 loose w := by
  intro os
  kernel_rfl
theorem facts {P : Program} {w : World} {K : PySem.W.Frag} {h : Heap} {mg : Str → Option Value} {f : Addr} (X : K.In h) (G : h.Ns mainGlobals mg) (hfa : mg ("law" : Str) = some (.ref f)) (c2 : He.SaysX fa fn [] tf exB w h K) :
    ∃ fd : FuncData, (∀ (s : Shared) (v : Value), BindsTo s fd ⟨[v], []⟩ [("_law_script", v)]) ∧ ∀ base : Heap, K.In base → base.Ns mainGlobals mg → (∀ p ∈ tf.map (He.cT K), LamX.TabB base mg p.1 p.2) → FnOk P w K mg base CX0 8 f fd ["_law_script"] (sp_law K (lamTabs K)) := by
  have c : He.SaysD fa fn K := c2.t.d
  have cm : exB K = true := c2.more
  obtain ⟨fd_is_whole, F_is_whole⟩ := c.def_ 0 (d := d_is_whole) rfl
  have g_is_whole := He.glo_ok X G (c.fact 0 (f := .glo "is_whole") rfl)
  have b_is_whole : Binds K fd_is_whole ["thing"] [] := FunD.bindsN (ps := ["thing"]) F_is_whole fun _ _ _ _ _ _ us hl => match us, hl with | [_], _ => rfl
  obtain ⟨fd_common_divisor, F_common_divisor⟩ := c.def_ 1 (d := d_common_divisor) rfl
  have g_common_divisor := He.glo_ok X G (c.fact 1 (f := .glo "common_divisor") rfl)
  have b_common_divisor : Binds K fd_common_divisor ["a", "b"] [] := FunD.bindsN (ps := ["a", "b"]) F_common_divisor fun _ _ _ _ _ _ us hl => match us, hl with | [_, _], _ => rfl
  obtain ⟨fd_whole_root, F_whole_root⟩ := c.def_ 2 (d := d_whole_root) rfl
  have g_whole_root := He.glo_ok X G (c.fact 2 (f := .glo "whole_root") rfl)
  have b_whole_root : Binds K fd_whole_root ["square"] [] := FunD.bindsN (ps := ["square"]) F_whole_root fun _ _ _ _ _ _ us hl => match us, hl with | [_], _ => rfl
  obtain ⟨fd_is_number, F_is_number⟩ := c.def_ 3 (d := d_is_number) rfl
  have g_is_number := He.glo_ok X G (c.fact 3 (f := .glo "is_number") rfl)
  have b_is_number : Binds K fd_is_number ["ground", "thing"] [] := FunD.bindsN (ps := ["ground", "thing"]) F_is_number fun _ _ _ _ _ _ us hl => match us, hl with | [_, _], _ => rfl
  obtain ⟨fd_lowest, F_lowest⟩ := c.def_ 4 (d := d_lowest) rfl
  have g_lowest := He.glo_ok X G (c.fact 4 (f := .glo "lowest") rfl)
  have b_lowest : Binds K fd_lowest ["ground", "top", "bottom"] [] := FunD.bindsN (ps := ["ground", "top", "bottom"]) F_lowest fun _ _ _ _ _ _ us hl => match us, hl with | [_, _, _], _ => rfl
  obtain ⟨fd_wheel_back, F_wheel_back⟩ := c.def_ 5 (d := d_wheel_back) rfl
  have g_wheel_back := He.glo_ok X G (c.fact 5 (f := .glo "wheel_back") rfl)
  have b_wheel_back : Binds K fd_wheel_back ["wheel", "whole"] [] := FunD.bindsN (ps := ["wheel", "whole"]) F_wheel_back fun _ _ _ _ _ _ us hl => match us, hl with | [_, _], _ => rfl
  obtain ⟨fd_times, F_times⟩ := c.def_ 6 (d := d_times) rfl
  have g_times := He.glo_ok X G (c.fact 6 (f := .glo "times") rfl)
  have b_times : Binds K fd_times ["ground", "x", "y"] [] := FunD.bindsN (ps := ["ground", "x", "y"]) F_times fun _ _ _ _ _ _ us hl => match us, hl with | [_, _, _], _ => rfl
  obtain ⟨fd_is_square, F_is_square⟩ := c.def_ 7 (d := d_is_square) rfl
  have g_is_square := He.glo_ok X G (c.fact 7 (f := .glo "is_square") rfl)
  have b_is_square : Binds K fd_is_square ["ground", "x"] [] := FunD.bindsN (ps := ["ground", "x"]) F_is_square fun _ _ _ _ _ _ us hl => match us, hl with | [_, _], _ => rfl
  obtain ⟨fd_root_or_none, F_root_or_none⟩ := c.def_ 8 (d := d_root_or_none) rfl
  have g_root_or_none := He.glo_ok X G (c.fact 8 (f := .glo "root_or_none") rfl)
  have b_root_or_none : Binds K fd_root_or_none ["ground", "x"] [] := FunD.bindsN (ps := ["ground", "x"]) F_root_or_none fun _ _ _ _ _ _ us hl => match us, hl with | [_, _], _ => rfl
  obtain ⟨fd_fraction_root, F_fraction_root⟩ := c.def_ 9 (d := d_fraction_root) rfl
  have g_fraction_root := He.glo_ok X G (c.fact 9 (f := .glo "fraction_root") rfl)
  have b_fraction_root : Binds K fd_fraction_root ["x"] [] := FunD.bindsN (ps := ["x"]) F_fraction_root fun _ _ _ _ _ _ us hl => match us, hl with | [_], _ => rfl
  obtain ⟨fd_wheel_root, F_wheel_root⟩ := c.def_ 10 (d := d_wheel_root) rfl
  have g_wheel_root := He.glo_ok X G (c.fact 10 (f := .glo "wheel_root") rfl)
  have b_wheel_root : Binds K fd_wheel_root ["wheel", "x"] [] := FunD.bindsN (ps := ["wheel", "x"]) F_wheel_root fun _ _ _ _ _ _ us hl => match us, hl with | [_, _], _ => rfl
  obtain ⟨fd_are_alike, F_are_alike⟩ := c.def_ 11 (d := d_are_alike) rfl
  have g_are_alike := He.glo_ok X G (c.fact 11 (f := .glo "are_alike") rfl)
  have b_are_alike : Binds K fd_are_alike ["ground", "x", "y"] [] := FunD.bindsN (ps := ["ground", "x", "y"]) F_are_alike fun _ _ _ _ _ _ us hl => match us, hl with | [_, _, _], _ => rfl
  obtain ⟨fd__law_bag, F__law_bag⟩ := c.def_ 12 (d := d__law_bag) rfl
  have g__law_bag := He.glo_ok X G (c.fact 12 (f := .glo "_law_bag") rfl)
  have b__law_bag : Binds K fd__law_bag ["_law_script", "_law_at"] [] := FunD.bindsN (ps := ["_law_script", "_law_at"]) F__law_bag fun _ _ _ _ _ _ us hl => match us, hl with | [_, _], _ => rfl
  obtain ⟨fd__law_take, F__law_take⟩ := c.def_ 13 (d := d__law_take) rfl
  have g__law_take := He.glo_ok X G (c.fact 13 (f := .glo "_law_take") rfl)
  have b__law_take : Binds K fd__law_take ["_law_bag_here", "_law_many"] [] := FunD.bindsN (ps := ["_law_bag_here", "_law_many"]) F__law_take fun _ _ _ _ _ _ us hl => match us, hl with | [_, _], _ => rfl
  obtain ⟨fd__law_is_whole, F__law_is_whole⟩ := c.def_ 14 (d := d__law_is_whole) rfl
  have g__law_is_whole := He.glo_ok X G (c.fact 14 (f := .glo "_law_is_whole") rfl)
  have b__law_is_whole : Binds K fd__law_is_whole ["_law_thing"] [] := FunD.bindsN (ps := ["_law_thing"]) F__law_is_whole fun _ _ _ _ _ _ us hl => match us, hl with | [_], _ => rfl
  obtain ⟨fd__law_shared, F__law_shared⟩ := c.def_ 15 (d := d__law_shared) rfl
  have g__law_shared := He.glo_ok X G (c.fact 15 (f := .glo "_law_shared") rfl)
  have b__law_shared : Binds K fd__law_shared ["_law_one", "_law_other"] [] := FunD.bindsN (ps := ["_law_one", "_law_other"]) F__law_shared fun _ _ _ _ _ _ us hl => match us, hl with | [_, _], _ => rfl
  obtain ⟨fd__law_low, F__law_low⟩ := c.def_ 16 (d := d__law_low) rfl
  have g__law_low := He.glo_ok X G (c.fact 16 (f := .glo "_law_low") rfl)
  have b__law_low : Binds K fd__law_low ["_law_g", "_law_up", "_law_down"] [] := FunD.bindsN (ps := ["_law_g", "_law_up", "_law_down"]) F__law_low fun _ _ _ _ _ _ us hl => match us, hl with | [_, _, _], _ => rfl
  obtain ⟨fd__law_is_number, F__law_is_number⟩ := c.def_ 17 (d := d__law_is_number) rfl
  have g__law_is_number := He.glo_ok X G (c.fact 17 (f := .glo "_law_is_number") rfl)
  have b__law_is_number : Binds K fd__law_is_number ["_law_g", "_law_thing"] [] := FunD.bindsN (ps := ["_law_g", "_law_thing"]) F__law_is_number fun _ _ _ _ _ _ us hl => match us, hl with | [_, _], _ => rfl
  obtain ⟨fd__law_plus, F__law_plus⟩ := c.def_ 18 (d := d__law_plus) rfl
  have g__law_plus := He.glo_ok X G (c.fact 18 (f := .glo "_law_plus") rfl)
  have b__law_plus : Binds K fd__law_plus ["_law_g", "_law_x", "_law_y"] [] := FunD.bindsN (ps := ["_law_g", "_law_x", "_law_y"]) F__law_plus fun _ _ _ _ _ _ us hl => match us, hl with | [_, _, _], _ => rfl
  obtain ⟨fd__law_times, F__law_times⟩ := c.def_ 19 (d := d__law_times) rfl
  have g__law_times := He.glo_ok X G (c.fact 19 (f := .glo "_law_times") rfl)
  have b__law_times : Binds K fd__law_times ["_law_g", "_law_x", "_law_y"] [] := FunD.bindsN (ps := ["_law_g", "_law_x", "_law_y"]) F__law_times fun _ _ _ _ _ _ us hl => match us, hl with | [_, _, _], _ => rfl
  obtain ⟨fd__law_minus, F__law_minus⟩ := c.def_ 20 (d := d__law_minus) rfl
  have g__law_minus := He.glo_ok X G (c.fact 20 (f := .glo "_law_minus") rfl)
  have b__law_minus : Binds K fd__law_minus ["_law_g", "_law_x"] [] := FunD.bindsN (ps := ["_law_g", "_law_x"]) F__law_minus fun _ _ _ _ _ _ us hl => match us, hl with | [_, _], _ => rfl
  obtain ⟨fd__law_ground, F__law_ground⟩ := c.def_ 21 (d := d__law_ground) rfl
  have g__law_ground := He.glo_ok X G (c.fact 21 (f := .glo "_law_ground") rfl)
  have b__law_ground : Binds K fd__law_ground ["_law_bag_here"] [] := FunD.bindsN (ps := ["_law_bag_here"]) F__law_ground fun _ _ _ _ _ _ us hl => match us, hl with | [_], _ => rfl
  obtain ⟨fd__law_number, F__law_number⟩ := c.def_ 22 (d := d__law_number) rfl
  have g__law_number := He.glo_ok X G (c.fact 22 (f := .glo "_law_number") rfl)
  have b__law_number : Binds K fd__law_number ["_law_bag_here", "_law_g"] [] := FunD.bindsN (ps := ["_law_bag_here", "_law_g"]) F__law_number fun _ _ _ _ _ _ us hl => match us, hl with | [_, _], _ => rfl
  obtain ⟨fd__law_other_than_nought, F__law_other_than_nought⟩ := c.def_ 23 (d := d__law_other_than_nought) rfl
  have g__law_other_than_nought := He.glo_ok X G (c.fact 23 (f := .glo "_law_other_than_nought") rfl)
  have b__law_other_than_nought : Binds K fd__law_other_than_nought ["_law_bag_here", "_law_g"] [] := FunD.bindsN (ps := ["_law_bag_here", "_law_g"]) F__law_other_than_nought fun _ _ _ _ _ _ us hl => match us, hl with | [_, _], _ => rfl
  obtain ⟨fd__law_odd, F__law_odd⟩ := c.def_ 24 (d := d__law_odd) rfl
  have g__law_odd := He.glo_ok X G (c.fact 24 (f := .glo "_law_odd") rfl)
  have b__law_odd : Binds K fd__law_odd ["_law_bag_here"] [] := FunD.bindsN (ps := ["_law_bag_here"]) F__law_odd fun _ _ _ _ _ _ us hl => match us, hl with | [_], _ => rfl
  obtain ⟨fd__law_refusal, F__law_refusal⟩ := c.def_ 25 (d := d__law_refusal) rfl
  have g__law_refusal := He.glo_ok X G (c.fact 25 (f := .glo "_law_refusal") rfl)
  have b__law_refusal : Binds K fd__law_refusal ["_law_deed"] [] := FunD.bindsN (ps := ["_law_deed"]) F__law_refusal fun _ _ _ _ _ _ us hl => match us, hl with | [_], _ => rfl
  obtain ⟨fd__law_root_beneath, F__law_root_beneath⟩ := c.def_ 26 (d := d__law_root_beneath) rfl
  have g__law_root_beneath := He.glo_ok X G (c.fact 26 (f := .glo "_law_root_beneath") rfl)
  have b__law_root_beneath : Binds K fd__law_root_beneath ["_law_whole"] [] := FunD.bindsN (ps := ["_law_whole"]) F__law_root_beneath fun _ _ _ _ _ _ us hl => match us, hl with | [_], _ => rfl
  obtain ⟨fd__law_is_square, F__law_is_square⟩ := c.def_ 27 (d := d__law_is_square) rfl
  have g__law_is_square := He.glo_ok X G (c.fact 27 (f := .glo "_law_is_square") rfl)
  have b__law_is_square : Binds K fd__law_is_square ["_law_g", "_law_x"] [] := FunD.bindsN (ps := ["_law_g", "_law_x"]) F__law_is_square fun _ _ _ _ _ _ us hl => match us, hl with | [_, _], _ => rfl
  obtain ⟨fd__law_great, F__law_great⟩ := c.def_ 28 (d := d__law_great) rfl
  have g__law_great := He.glo_ok X G (c.fact 28 (f := .glo "_law_great") rfl)
  have b__law_great : Binds K fd__law_great ["_law_bag_here", "_law_g"] [] := FunD.bindsN (ps := ["_law_bag_here", "_law_g"]) F__law_great fun _ _ _ _ _ _ us hl => match us, hl with | [_, _], _ => rfl
  obtain ⟨fd__law_is_told, F__law_is_told⟩ := c.def_ 29 (d := d__law_is_told) rfl
  have g__law_is_told := He.glo_ok X G (c.fact 29 (f := .glo "_law_is_told") rfl)
  have b__law_is_told : Binds K fd__law_is_told ["_law_g", "_law_x", "_law_y"] [] := FunD.bindsN (ps := ["_law_g", "_law_x", "_law_y"]) F__law_is_told fun _ _ _ _ _ _ us hl => match us, hl with | [_, _, _], _ => rfl
  obtain ⟨fd_law, F_law⟩ := c.def_ 30 (d := d_law) rfl
  have g_law := He.glo_ok X G (c.fact 30 (f := .glo "law") rfl)
  have m_isinstance := He.free_ok X G (c.fact 31 (f := .free "isinstance") rfl)
  have m_int := He.free_ok X G (c.fact 32 (f := .free "int") rfl)
  have m_bool := He.free_ok X G (c.fact 33 (f := .free "bool") rfl)
  have m_abs := He.free_ok X G (c.fact 34 (f := .free "abs") rfl)
  have m_tuple := He.free_ok X G (c.fact 35 (f := .free "tuple") rfl)
  have m_len := He.free_ok X G (c.fact 36 (f := .free "len") rfl)
  have m_range := He.free_ok X G (c.fact 37 (f := .free "range") rfl)
  have m_all := He.free_ok X G (c.fact 38 (f := .free "all") rfl)
  have m_ValueError := He.free_ok X G (c.fact 39 (f := .free "ValueError") rfl)
  have m_any := He.free_ok X G (c.fact 40 (f := .free "any") rfl)
  have m_max := He.free_ok X G (c.fact 41 (f := .free "max") rfl)
  have m_min := He.free_ok X G (c.fact 42 (f := .free "min") rfl)
  have gc_MirrorError := He.glo_ok X G (c.fact 43 (f := .glo "MirrorError") rfl)
  have gc_NoGround := He.glo_ok X G (c.fact 44 (f := .glo "NoGround") rfl)
  have gc_NoNumber := He.glo_ok X G (c.fact 45 (f := .glo "NoNumber") rfl)
  have gc_NoRow := He.glo_ok X G (c.fact 46 (f := .glo "NoRow") rfl)
  have gc_NoTable := He.glo_ok X G (c.fact 47 (f := .glo "NoTable") rfl)
  have gc_NoForm := He.glo_ok X G (c.fact 48 (f := .glo "NoForm") rfl)
  have gc_NoKeeper := He.glo_ok X G (c.fact 49 (f := .glo "NoKeeper") rfl)
  have gc_NoWorth := He.glo_ok X G (c.fact 50 (f := .glo "NoWorth") rfl)
  have gc_NoSeat := He.glo_ok X G (c.fact 51 (f := .glo "NoSeat") rfl)
  have gc_NoFour := He.glo_ok X G (c.fact 52 (f := .glo "NoFour") rfl)
  have gc_NoPlace := He.glo_ok X G (c.fact 53 (f := .glo "NoPlace") rfl)
  have gc_NoClaim := He.glo_ok X G (c.fact 54 (f := .glo "NoClaim") rfl)
  have gc_NoText := He.glo_ok X G (c.fact 55 (f := .glo "NoText") rfl)
  have gc_NoSaying := He.glo_ok X G (c.fact 56 (f := .glo "NoSaying") rfl)
  have gc_TooMany := He.glo_ok X G (c.fact 57 (f := .glo "TooMany") rfl)
  have gc_NotKept := He.glo_ok X G (c.fact 58 (f := .glo "NotKept") rfl)
  have gc_OverNought := He.glo_ok X G (c.fact 59 (f := .glo "OverNought") rfl)
  have gc_Flat := He.glo_ok X G (c.fact 60 (f := .glo "Flat") rfl)
  have gc_NoName := He.glo_ok X G (c.fact 61 (f := .glo "NoName") rfl)
  have R_NoNumber := raiseC_of gc_NoNumber (c.fact 62 (f := .exc "NoNumber") rfl)
  have MG : MirG K mg := ⟨gc_MirrorError, gc_NoGround, gc_NoNumber, gc_NoRow, gc_NoTable, gc_NoForm, gc_NoKeeper, gc_NoWorth, gc_NoSeat, gc_NoFour, gc_NoPlace, gc_NoClaim, gc_NoText, gc_NoSaying, gc_TooMany, gc_NotKept, gc_OverNought, gc_Flat, gc_NoName, m_isinstance, m_len, m_ValueError⟩
  have MC_NoNumber := mirB_ok (nm := "NoNumber") cm (by decide +kernel)
  have e := hfa.symm.trans g_law
  cases e
  have b := FunD.bindsA (ps := ["_law_script"]) F_law fun _ _ _ _ _ _ us hl => match us, hl with | [_], _ => rfl
  refine ⟨fd_law, fun s v => b s [v] rfl, fun base _ _ hTB => ?_⟩
  have FC_law := codeAt_of (p := ("law", none)) F_law
  have TB_law : LamX.TabB base mg (He.codeOf K ("law", none)) (He.cT K ("law", none)).2 := hTB (He.cT K ("law", none)) (List.mem_map.mpr ⟨_, List.mem_cons_self, rfl⟩)
  have hm_law : ((He.cT K ("law", none)).2, ((envOfC "law" (defScope s_law) 0 0 .none).qual ++ "<lambda>")) ∈ lamTabs K := by
    unfold lamTabs
    simp
  have hu_law : ∀ p ∈ lamTabs K, p.1 = (He.cT K ("law", none)).2 → p.2 = ((envOfC "law" (defScope s_law) 0 0 .none).qual ++ "<lambda>") := by
    intro p hp e
    unfold lamTabs at hp
    simp only [List.mem_cons, List.not_mem_nil, or_false] at hp
    rw [hp]
  have G_is_whole : FnOk P w K mg base CX0 1 _ fd_is_whole ["thing"] (sp_is_whole K) := ok_is_whole F_is_whole m_isinstance m_int m_bool
  have G_common_divisor : FnOk P w K mg base CX0 1 _ fd_common_divisor ["a", "b"] (sp_common_divisor K) := ok_common_divisor F_common_divisor m_abs
  have G_whole_root : FnOk P w K mg base CX0 1 _ fd_whole_root ["square"] (sp_whole_root K) := ok_whole_root F_whole_root
  have G_wheel_back : FnOk P w K mg base CX0 1 _ fd_wheel_back ["wheel", "whole"] (sp_wheel_back K) := ok_wheel_back F_wheel_back
  have G_wheel_root : FnOk P w K mg base CX0 1 _ fd_wheel_root ["wheel", "x"] (sp_wheel_root K) := ok_wheel_root F_wheel_root m_range
  have G__law_bag : FnOk P w K mg base CX0 1 _ fd__law_bag ["_law_script", "_law_at"] (sp__law_bag K) := ok__law_bag F__law_bag m_len m_abs
  have G__law_take : FnOk P w K mg base CX0 1 _ fd__law_take ["_law_bag_here", "_law_many"] (sp__law_take K) := ok__law_take F__law_take
  have G__law_is_whole : FnOk P w K mg base CX0 1 _ fd__law_is_whole ["_law_thing"] (sp__law_is_whole K) := ok__law_is_whole F__law_is_whole m_isinstance m_int m_bool
  have G__law_shared : FnOk P w K mg base CX0 1 _ fd__law_shared ["_law_one", "_law_other"] (sp__law_shared K) := ok__law_shared F__law_shared m_abs
  have G__law_root_beneath : FnOk P w K mg base CX0 1 _ fd__law_root_beneath ["_law_whole"] (sp__law_root_beneath K) := ok__law_root_beneath F__law_root_beneath
  have G_is_number : FnOk P w K mg base CX0 2 _ fd_is_number ["ground", "thing"] (sp_is_number K) := ok_is_number F_is_number F_is_whole b_is_whole g_is_whole G_is_whole F_common_divisor b_common_divisor g_common_divisor G_common_divisor m_isinstance m_tuple m_len
  have G_lowest : FnOk P w K mg base CX0 2 _ fd_lowest ["ground", "top", "bottom"] (sp_lowest K) := ok_lowest F_lowest F_common_divisor b_common_divisor g_common_divisor G_common_divisor F_wheel_back b_wheel_back g_wheel_back G_wheel_back
  have G_fraction_root : FnOk P w K mg base CX0 2 _ fd_fraction_root ["x"] (sp_fraction_root K) := ok_fraction_root F_fraction_root F_whole_root b_whole_root g_whole_root G_whole_root
  have G__law_low : FnOk P w K mg base CX0 2 _ fd__law_low ["_law_g", "_law_up", "_law_down"] (sp__law_low K) := ok__law_low F__law_low F__law_shared b__law_shared g__law_shared G__law_shared m_range m_int
  have G__law_is_number : FnOk P w K mg base CX0 2 _ fd__law_is_number ["_law_g", "_law_thing"] (sp__law_is_number K) := ok__law_is_number F__law_is_number F__law_shared b__law_shared g__law_shared G__law_shared F__law_is_whole b__law_is_whole g__law_is_whole G__law_is_whole m_isinstance m_tuple m_len m_all
  have G__law_ground : FnOk P w K mg base CX0 2 _ fd__law_ground ["_law_bag_here"] (sp__law_ground K) := ok__law_ground F__law_ground F__law_take b__law_take g__law_take G__law_take
  have G__law_odd : FnOk P w K mg base CX0 2 _ fd__law_odd ["_law_bag_here"] (sp__law_odd K) := ok__law_odd F__law_odd F__law_take b__law_take g__law_take G__law_take
  have G__law_is_square : FnOk P w K mg base CX0 2 _ fd__law_is_square ["_law_g", "_law_x"] (sp__law_is_square K) := ok__law_is_square F__law_is_square F__law_root_beneath b__law_root_beneath g__law_root_beneath G__law_root_beneath m_any m_all m_range
  have G_times : FnOk P w K mg base CX0 3 _ fd_times ["ground", "x", "y"] (sp_times K) := ok_times F_times F_lowest b_lowest g_lowest G_lowest
  have G_root_or_none : FnOk P w K mg base CX0 3 _ fd_root_or_none ["ground", "x"] (sp_root_or_none K) := ok_root_or_none F_root_or_none F_wheel_root b_wheel_root g_wheel_root G_wheel_root F_fraction_root b_fraction_root g_fraction_root G_fraction_root
  have G__law_plus : FnOk P w K mg base CX0 3 _ fd__law_plus ["_law_g", "_law_x", "_law_y"] (sp__law_plus K) := ok__law_plus F__law_plus F__law_low b__law_low g__law_low G__law_low
  have G__law_times : FnOk P w K mg base CX0 3 _ fd__law_times ["_law_g", "_law_x", "_law_y"] (sp__law_times K) := ok__law_times F__law_times F__law_low b__law_low g__law_low G__law_low
  have G__law_minus : FnOk P w K mg base CX0 3 _ fd__law_minus ["_law_g", "_law_x"] (sp__law_minus K) := ok__law_minus F__law_minus F__law_low b__law_low g__law_low G__law_low
  have G__law_number : FnOk P w K mg base CX0 3 _ fd__law_number ["_law_bag_here", "_law_g"] (sp__law_number K) := ok__law_number F__law_number F__law_low b__law_low g__law_low G__law_low F__law_take b__law_take g__law_take G__law_take
  have G_is_square : FnOk P w K mg base CX0 4 _ fd_is_square ["ground", "x"] (sp_is_square K) := ok_is_square F_is_square F_root_or_none b_root_or_none g_root_or_none G_root_or_none
  have G__law_other_than_nought : FnOk P w K mg base CX0 4 _ fd__law_other_than_nought ["_law_bag_here", "_law_g"] (sp__law_other_than_nought K) := ok__law_other_than_nought F__law_other_than_nought F__law_number b__law_number g__law_number G__law_number m_int
  have G_are_alike : FnOk P w K mg base (L2N.CX P w) 5 _ fd_are_alike ["ground", "x", "y"] (sp_are_alike K) := ok_are_alike F_are_alike F_is_square b_is_square g_is_square G_is_square F_times b_times g_times G_times F_is_number b_is_number g_is_number G_is_number R_NoNumber
  have G__law_great : FnOk P w K mg base CX0 5 _ fd__law_great ["_law_bag_here", "_law_g"] (sp__law_great K) := ok__law_great F__law_great F__law_other_than_nought b__law_other_than_nought g__law_other_than_nought G__law_other_than_nought F__law_take b__law_take g__law_take G__law_take F__law_times b__law_times g__law_times G__law_times m_range
  have G__law_is_told : FnOk P w K mg base CX0 6 _ fd__law_is_told ["_law_g", "_law_x", "_law_y"] (sp__law_is_told K) := ok__law_is_told F__law_is_told F__law_is_square b__law_is_square g__law_is_square G__law_is_square F__law_times b__law_times g__law_times G__law_times F_are_alike b_are_alike g_are_alike G_are_alike m_all m_isinstance m_bool
  exact ok_law (T := lamTabs K) F_law F__law_bag b__law_bag g__law_bag G__law_bag F__law_ground b__law_ground g__law_ground G__law_ground F__law_times b__law_times g__law_times G__law_times F__law_plus b__law_plus g__law_plus G__law_plus F__law_great b__law_great g__law_great G__law_great F__law_take b__law_take g__law_take G__law_take F__law_low b__law_low g__law_low G__law_low F__law_minus b__law_minus g__law_minus G__law_minus F__law_odd b__law_odd g__law_odd G__law_odd F_are_alike b_are_alike g_are_alike G_are_alike F__law_refusal b__law_refusal g__law_refusal F__law_is_number b__law_is_number g__law_is_number G__law_is_number F__law_is_told b__law_is_told g__law_is_told G__law_is_told FC_law TB_law hm_law hu_law MG MC_NoNumber m_range m_max m_min m_int m_all m_len

end Fm
open PySem PySem.W PySem.Calls PyProof.Rows
set_option maxHeartbeats 0 in
theorem PySem.Challenge.cw_fewmirrors_k33_classes_alike_holds : PySem.Challenge.rw_fewmirrors_k33_classes_alike.Holds := by
  w_on; o_law
  refine HandSHeadRun.head_any (r := OpenLaw.row PySem.Challenge.rw_fewmirrors_k33_classes_alike) (q := view (OpenLaw.row PySem.Challenge.rw_fewmirrors_k33_classes_alike).prog [54]) (H := Fm.hk) (ob := Fm.ob) (M := 6000) (loose := Fm.loose) (d := HandSHeadRun.topDef (OpenLaw.row PySem.Challenge.rw_fewmirrors_k33_classes_alike).prog 54) (kwd := []) Fm.ob_eq
    (by kernel_rfl) (fun s => by kernel_rfl) Fm.run (by kernel_rfl) (by kernel_rfl) (by kernel_rfl) (by rfl) (by first | assumption | decide +kernel) (by decide +kernel) ⟨rfl, rfl, rfl, rfl, rfl, by decide +kernel⟩ ?hw ?hc
  case hw => w_witness2
  case hc =>
    refine LamX.walk_ofTsE (l := PySem.Challenge.rw_fewmirrors_k33_classes_alike) (n := 63) (k := 8) (x := "_law_script") (CX := fun _ => L2.CX0) rfl (by decide) (by kernel_rfl) ⟨rfl, by decide, by decide⟩ ?F (fun _ _ _ _ _ z => z)
    intro w mg fa h Y G hmg0
    obtain ⟨K, KX, c⟩ := Y
    have hmg : mg ("law" : PySem.Str) = some (.ref fa) := by
      have e : (HandSHeadRun.topDef (OpenLaw.row PySem.Challenge.rw_fewmirrors_k33_classes_alike).prog 54).name = ("law" : PySem.Str) := by kernel_rfl
      rw [← e]
      exact hmg0
    obtain ⟨fd, hb, hF⟩ := Fm.facts (P := (PySem.Challenge.rw_fewmirrors_k33_classes_alike).prog) (w := w) KX G hmg c
    refine ⟨K, KX, fd, Fm.tf.map (He.cT K), Fm.sp_law K (Fm.lamTabs K), fun p hp => ?_, fun p hp => ?_, fun p hp => ?_, hb, fun H a ns hl _ hH hS => ?_, fun base h1 h2 h3 => hF base h1 h2 h3⟩
    · obtain ⟨q, hq, rfl⟩ := List.mem_map.mp hp
      exact c.empty q hq
    · obtain ⟨q, hq, rfl⟩ := List.mem_map.mp hp
      exact c.out q hq
    · obtain ⟨q, hq, rfl⟩ := List.mem_map.mp hp
      exact codeHd_of_K KX (c.hd q hq)
    · refine ⟨a, ns, rfl, hS, fun p hp => ?_, fun _ => rfl⟩
      unfold Fm.lamTabs at hp
      simp only [List.mem_cons, List.not_mem_nil, or_false] at hp
      have key : ∀ q ∈ Fm.tf, H (He.cT K q).2 = some (.tbl #[]) := fun q hq => hH _ (List.mem_map.mpr ⟨q, hq, rfl⟩)
      rcases hp with rfl <;> exact LamX.TabS.nil (key _ (by unfold Fm.tf; simp))
