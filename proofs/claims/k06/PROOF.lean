import PyProof.Rows.All
import Wide.All
import OpenK.AllK
import Wide.FinOn
import KE.KStateDown
import Lean
import HandS.ForMost
import HandS.Wide
import HandS.FStr
import HandS.IsInst
import HandS.Flow
import HandS.Style
import HandS.Zip
import HandS.Conv
import HandS.Defaults
import HandS.Walk
import HandS.More
import HandS.WordsExc
import HandS.Head0
import HandS.Head1
import HandS.Head2
import HandS.HeadEnd
import HandS.HeadHook1
import HandS.HeadHook2
import HandS.TupAny
import HandS.Hot
import HandS.Comp
import HandS.ExcCtx
import HandS.HotCalls
import HandS.TryMany
import HandS.ExcIs
import HandS.Lambda
import HandS.EndTab
import HandS.HeadHook3
import HandS.HeadHook4
import HandS.HeadWalk
import HandS.WideBits
import HandS.TryOnly
import HandS.ExcSuper
import HandS.ExcInit
import KE.KSuper
import HandS.ExcOwn
import HandS.Strs
import HandS.SetFor
import HandS.SortInts
import PyProof.Rows.SetFrom
import PySem.Challenge.RW_fewmirrors_k06_least_rows
set_option Elab.async false
set_option linter.all false
set_option maxRecDepth 100000
set_option maxHeartbeats 4000000
namespace Fm
open PySem PySem.Spec PyProof.Rows L2
def CDivZ (_ j : Int) : Prop := j ≠ 0 ∧ j.natAbs.log2 < 9000
theorem op_fdivZ {X : Cx} : OpR X (binaryOp .FloorDiv) (rI CDivZ fun i j => .int (i.fdiv j)) := opI fun _ _ _ _ _ _ _ hc q => floordiv_int hc.1 q (.inl (PyProof.noPylong_of_log2 hc.2))
theorem divZ_small {i j : Int} (h : 0 < j) (h2 : j < 4294967296) : CDivZ i j := ⟨by omega, Nat.lt_of_lt_of_le (PySem.Flt.log2_lt_of (n := j.natAbs) (k := 32) (by decide) (by omega)) (by decide)⟩
theorem divZ_of {i j : Int} {b : Nat} (h : j ≠ 0) (hb : j.natAbs < 2 ^ b) (h0 : 0 < b) (h9 : b ≤ 9000) : CDivZ i j := ⟨h, Nat.lt_of_lt_of_le (PySem.Flt.log2_lt_of h0 hb) h9⟩
theorem fmod_pos (a : Int) {b : Int} (h : 0 < b) : a.fmod b = a % b := Int.fmod_eq_emod_of_nonneg a (by omega)
theorem fdiv_pos (a : Int) {b : Int} (h : 0 < b) : a.fdiv b = a / b := Int.fdiv_eq_ediv_of_nonneg a (by omega)
abbrev FnP (K : PySem.W.Frag) (x : Str) (st : Stmt) (f : Addr) (fd : FuncData) : Prop := FunD K x x (defArgs st) (defBody st) (defScope st) [] [] f fd
/-! ### steps of a reading -/
section
variable {K : PySem.W.Frag} {σ : L2.St} {H : Hp} {Q : VK} {ta tb tc te : TE} {t u : TS} {D : Ends} {g : TG} {i : Nat} {v x y : V} {c : TT} {r : R2} {cA cB : TT} {as : TA}
theorem w_var (h : σ[i]? = some (some v)) (q : Q v H) : tVar i σ H Q := ⟨v, h, q⟩
theorem w_c (q : Q v H) : tC v σ H Q := q
theorem w_seq (h : t { D with nx := u D } σ H) : tSeq t u D σ H := h
theorem w_next (h : D.nx σ H) : tNext D σ H := h
theorem w_asg (h : te σ H fun x H1 => g x σ H1 D.nx) : tAsg te g D σ H := h
theorem w_ret (h : te σ H D.rt) : tRet te D σ H := h
theorem w_drop (h : te σ H fun _ H1 => D.nx σ H1) : tDrop te D σ H := h
theorem w_ifs (h : c σ H fun b H1 => if b = true then t D σ H1 else u D σ H1) : tIfS c t u D σ H := h
theorem w_op (h : ta σ H fun x H1 => tb σ H1 fun y H2 => r x y H2 Q) : tOp r ta tb σ H Q := h
theorem w_un {r : V → Hp → VK → Prop} (h : ta σ H fun x H1 => r x H1 Q) : tUn r ta σ H Q := h
theorem w_name {R : L2.St → Hp → Prop} (h : R (σ.set i (some v)) H) : gName i v σ H R := h
theorem w_sub {to ti : TE} {ts : TSet} {R : L2.St → Hp → Prop} (h : to σ H fun o H1 => ti σ H1 fun i H2 => ts o i v H2 fun H3 => R σ H3) : gSub to ti ts v σ H R := h
theorem w_test {R : Bool → Hp → Prop} (h : te σ H fun x H' => ∃ k, x = .bl k ∧ R k H') : tTest te σ H R := h
theorem w_B {R : Bool → Hp → Prop} (h : te σ H fun x H' => ∃ k, x = .bl k ∧ R k H') : tB te σ H R := h
theorem w_exb {b : Bool} {R : Bool → Prop} (h : R b) : ∃ k, V.bl b = .bl k ∧ R k := ⟨b, rfl, h⟩
theorem w_and {R : Bool → Hp → Prop} (h : cA σ H fun c H1 => if c = true then cB σ H1 R else R false H1) : tAnd cA cB σ H R := h
theorem w_or {R : Bool → Hp → Prop} (h : cA σ H fun c H1 => if c = true then R true H1 else cB σ H1 R) : tOr cA cB σ H R := h
theorem w_not {R : Bool → Hp → Prop} (h : cA σ H fun c H1 => R (!c) H1) : tNot cA σ H R := h
theorem w_andV (h : ta σ H fun x H1 => ∃ c, x = .bl c ∧ if c = true then tb σ H1 Q else Q (.bl false) H1) : tAndV ta tb σ H Q := h
theorem w_orV (h : ta σ H fun x H1 => ∃ c, x = .bl c ∧ if c = true then Q (.bl true) H1 else tb σ H1 Q) : tOrV ta tb σ H Q := h
theorem w_notV (h : ta σ H fun x H1 => ∃ c, x = .bl c ∧ Q (.bl (!c)) H1) : tNotV ta σ H Q := h
theorem w_if (h : c σ H fun b H1 => if b = true then ta σ H1 Q else tb σ H1 Q) : tIf c ta tb σ H Q := h
theorem w_I0 {g : Int → Int → V} {a b : Int} (q : Q (g a b) H) : rI0 g (.int a) (.int b) H Q := ⟨a, b, rfl, rfl, q⟩
theorem w_I {C : Int → Int → Prop} {g : Int → Int → V} {a b : Int} (hc : C a b) (q : Q (g a b) H) : rI C g (.int a) (.int b) H Q := ⟨a, b, rfl, rfl, hc, q⟩
theorem w_U {g : Int → V} {a : Int} (q : Q (g a) H) : rU g (.int a) H Q := ⟨a, rfl, q⟩
theorem w_eqI {a b : Int} (q : Q (.bl (decide (a = b))) H) : rEq (.int a) (.int b) H Q := ⟨rfl, by
  have e : decide (V.int a = V.int b) = decide (a = b) := by
    by_cases h : a = b
    · rw [decide_eq_true h, decide_eq_true (by rw [h])]
    · rw [decide_eq_false h, decide_eq_false (fun z => h (V.int.inj z))]
  rw [e]
  exact q⟩
theorem w_neI {a b : Int} (q : Q (.bl (!decide (a = b))) H) : rNe (.int a) (.int b) H Q := ⟨rfl, by
  have e : decide (V.int a = V.int b) = decide (a = b) := by
    by_cases h : a = b
    · rw [decide_eq_true h, decide_eq_true (by rw [h])]
    · rw [decide_eq_false h, decide_eq_false (fun z => h (V.int.inj z))]
  rw [e]
  exact q⟩
theorem w_nil {R : List V → Hp → Prop} (h : R [] H) : tNil σ H R := h
theorem w_cons {R : List V → Hp → Prop} (h : ta σ H fun x H1 => as σ H1 fun xs H2 => R (x :: xs) H2) : tCons ta as σ H R := h
def NewO (o : HO) (H : Hp) (Q : VK) : Prop := ∀ p, H p = none → Q (.ref p) (upd H p o)
def NewS (mk : List V → HO) (xs : List V) (H : Hp) (Q : VK) : Prop := xs.length ≤ sizeLine ∧ NewO (mk xs) H Q
theorem w_tup (h : as σ H fun xs H1 => NewS .tup xs H1 Q) : tTup as σ H Q := h
theorem w_lst (h : as σ H fun xs H1 => NewS .lst xs H1 Q) : tLst as σ H Q := h
theorem w_for {wi : TI} {tb : TS} (hh : wi σ H fun it h1 => ∃ Inv : Nat → Nat → L2.St → Hp → Prop, (∃ left, Inv 0 left σ h1) ∧ ∀ turn left slots hp, Inv turn left slots hp →
    (it.stop turn hp ∧ D.nx slots hp) ∨ (it.go turn hp ∧ ∃ Nxt : L2.St → Hp → Prop, (∀ slots' hp', Nxt slots' hp' → ∃ left', left' < left ∧ Inv (turn + 1) left' slots' hp') ∧
      ∀ item hp', it.yld turn hp item hp' → g item slots hp' fun slots2 h2 => tb { D with nx := Nxt, ct := Nxt, bk := D.nx } slots2 h2)) : tFor wi g tb D σ H := hh
theorem w_rng1 {ta : TA} {R : It → Hp → Prop} (h : ta σ H fun vs H1 => ∃ j : Int, vs = [.int j] ∧ -(2 ^ 62) ≤ j ∧ j < 2 ^ 62 ∧ R (Itr 0 j.toNat) H1) : iRng1 ta σ H R := h
theorem same_upd {p : Addr} {o : HO} (h : H p = none) : Same H (upd H p o) := fun b x e => by
  rw [upd_ne (ne_of_none e h)]
  exact e
theorem w_new {mk : List V → HO} {xs : List V} (hz : xs.length ≤ 1000) (h : ∀ p H', H p = none → Same H H' → H' p = some (mk xs) → Q (.ref p) H') : NewS mk xs H Q := ⟨Nat.le_of_lt (small1000 hz), fun p hp => h p _ hp (same_upd hp) upd_same⟩
theorem w_newO {o : HO} (h : ∀ p H', H p = none → Same H H' → H' p = some o → Q (.ref p) H') : NewO o H Q := fun p hp => h p _ hp (same_upd hp) upd_same
theorem w_cb {r : List V → Hp → VK → Prop} (h : as σ H fun vs H1 => r vs H1 Q) : tCB r as σ H Q := h
theorem w_call {sp : Sp} {dvs : List V} {E : XK} (h : as σ H fun vs H1 => sp (vs ++ dvs) H1 Q E) : tCall sp dvs E as σ H Q := h
theorem w_ixL {p : Addr} {xs : List V} {i : Int} (h : H p = some (.lst xs)) (e : atI xs i = some v) (q : Q v H) : rIxL K (.ref p) (.int i) H Q := ⟨p, xs, i, v, rfl, rfl, SqL.of h, e, q⟩
theorem w_ixLs {p : Addr} {xs : List V} {i : Int} (h : SqL K H p xs) (e : atI xs i = some v) (q : Q v H) : rIxL K (.ref p) (.int i) H Q := ⟨p, xs, i, v, rfl, rfl, h, e, q⟩
theorem w_ixT {p : Addr} {xs : List V} {i : Int} (h : H p = some (.tup xs)) (e : atI xs i = some v) (q : Q v H) : rIxT K (.ref p) (.int i) H Q := ⟨p, xs, i, v, rfl, rfl, SqT.of h, e, q⟩
theorem w_setL {p : Addr} {xs : List V} {k : Int} {j : Nat} {R : Hp → Prop} (h : H p = some (.lst xs)) (e : ixN xs.length k = some j) (q : R (upd H p (.lst (xs.set j v)))) : rSetL (.ref p) (.int k) v H R := ⟨p, xs, k, j, rfl, rfl, h, e, q⟩
theorem w_par {i j : Nat} (h : as σ H fun vs H1 => ∃ v w, vs = [v, w] ∧ D.nx ((σ.set i (some v)).set j (some w)) H1) : tPar i j as D σ H := h
theorem w_ex2 {a b : V} {R : V → V → Prop} (h : R a b) : ∃ v w, [a, b] = [v, w] ∧ R v w := ⟨a, b, rfl, h⟩
theorem w_ite {p : Prop} [Decidable p] {A B : Prop} (h1 : p → A) (h2 : ¬ p → B) : if decide p = true then A else B := by
  by_cases h : p
  · rw [decide_eq_true h]; exact h1 h
  · rw [decide_eq_false h]; exact h2 h
theorem w_iteN {p : Prop} [Decidable p] {A B : Prop} (h1 : ¬ p → A) (h2 : p → B) : if (!decide p) = true then A else B := by
  by_cases h : p
  · rw [decide_eq_true h]; exact h2 h
  · rw [decide_eq_false h]; exact h1 h
theorem w_t {A B : Prop} (h : A) : if true = true then A else B := h
theorem w_f {A B : Prop} (h : B) : if false = true then A else B := h
end
section
variable {K : PySem.W.Frag} {σ : L2.St} {H : Hp} {Q : VK} {te : TE} {g : TG} {tt : TT} {vs : List Nat}
theorem w_lc {wi : TI} (hh : wi σ H fun it h1 => ∀ new, h1 new = none → ∃ Inv : Nat → Nat → Hp → Prop, (∃ left, Inv 0 left (upd h1 new (.lst []))) ∧ ∀ turn left hp, Inv turn left hp →
    (it.stop turn hp ∧ Q (.ref new) hp) ∨ (it.go turn hp ∧ ∃ Nxt : Hp → Prop, (∀ hp', Nxt hp' → ∃ left', left' < left ∧ Inv (turn + 1) left' hp') ∧
      ∀ item hp', it.yld turn hp item hp' → g item (wipe σ vs) hp' fun slots h2 => wipe slots vs = wipe σ vs ∧ tt slots h2 fun kept h3 =>
        if kept = true then te slots h3 fun made h4 => ∃ sofar, h4 new = some (.lst sofar) ∧ sofar.length < sizeLine ∧ Nxt (upd h4 new (.lst (sofar ++ [made]))) else Nxt h3)) : tLc wi g tt te vs σ H Q := hh
theorem w_yes {R : Bool → Hp → Prop} (h : R true H) : tYes σ H R := h
theorem w_zipA {ta : TA} {R : It → Hp → Prop} (h : ta σ H fun vs H1 => ∃ a b xs ys, vs = [.ref a, .ref b] ∧ ((SqL K H1 a xs ∧ SqL K H1 b ys ∧ R (Itz K a b) H1) ∨ (SqT K H1 a xs ∧ SqT K H1 b ys ∧ R (RZ.ItzT K a b) H1))) : RZ.iZipA K ta σ H R := h
theorem w_itup {tl : TE} {R : It → Hp → Prop} (h : tl σ H fun x H1 => ∃ a, x = .ref a ∧ (∃ xs, SqT K H1 a xs) ∧ R (Itt K a) H1) : iTup K tl σ H R := h
theorem w_ilist {tl : TE} {R : It → Hp → Prop} (h : tl σ H fun x H1 => ∃ a, x = .ref a ∧ (∃ xs, SqL K H1 a xs) ∧ R (Itl K a) H1) : iList K tl σ H R := h
theorem w_gtup {n : Nat} {t : TGs} {a : Addr} {xs : List V} {R : L2.St → Hp → Prop} (h : H a = some (.tup xs)) (hn : xs.length = n) (q : t xs σ H R) : gTup K n t (.ref a) σ H R := ⟨a, xs, rfl, SqT.of h, hn, q⟩
theorem w_gcons {t : TG} {u : TGs} {v : V} {r : List V} {R : L2.St → Hp → Prop} (h : t v σ H fun σ' H' => u r σ' H' R) : gCons t u (v :: r) σ H R := ⟨v, r, rfl, h⟩
theorem w_gnil {R : L2.St → Hp → Prop} (h : R σ H) : gNil [] σ H R := ⟨rfl, h⟩
end
theorem walk_zipT {K : PySem.W.Frag} {a b : Addr} {xs ys : List V} {n : Nat} (hn : n = min xs.length ys.length) : Walk (RZ.ItzT K a b) n (fun H => SqT K H a xs ∧ SqT K H b ys) (YPair (fun i => xs[i]?) (fun i => ys[i]?)) where
  goes := fun turn hp ht both => by
    have lx : turn < xs.length := by omega
    have ly : turn < ys.length := by omega
    exact ⟨xs, ys, _, _, both.1, both.2, List.getElem?_eq_getElem lx, List.getElem?_eq_getElem ly⟩
  stops := fun hp both => ⟨xs, ys, both.1, both.2, by omega⟩
  yields := fun turn hp v hp' ht both got => by
    obtain ⟨pair, one, two, e1, e2, e3, f1, f2⟩ := got
    exact ⟨pair, one, two, e1, e2, e3, f1 _ both.1, f2 _ both.2⟩
section
variable {H : Hp} {Q : VK}
theorem w_e1 {a : Int} {R : Int → Prop} (h : R a) : ∃ i, [V.int a] = [V.int i] ∧ R i := ⟨a, rfl, h⟩
theorem w_e2 {a b : Int} {R : Int → Int → Prop} (h : R a b) : ∃ i j, [V.int a, V.int b] = [V.int i, V.int j] ∧ R i j := ⟨a, b, rfl, h⟩
theorem w_Iv {C : Int → Int → Prop} {g : Int → Int → V} {a b : Int} {z : V} (hc : C a b) (e : g a b = z) (q : Q z H) : rI C g (.int a) (.int b) H Q := ⟨a, b, rfl, rfl, hc, by
  rw [e]
  exact q⟩
end
/-! ### heaps -/
def Mv (b : Addr) (H H' : Hp) : Prop := ∀ p o, p ≠ b → H p = some o → H' p = some o
def Kt (H H' : Hp) : Prop := ∀ p xs, H p = some (.tup xs) → H' p = some (.tup xs)
theorem Kt.refl (H : Hp) : Kt H H := fun _ _ h => h
theorem Kt.trans {H H1 H2 : Hp} (a : Kt H H1) (b : Kt H1 H2) : Kt H H2 := fun p xs h => b p xs (a p xs h)
theorem Kt.of {H H' : Hp} (s : Same H H') : Kt H H' := fun p xs h => s p _ h
theorem Mv.refl (b : Addr) (H : Hp) : Mv b H H := fun _ _ _ h => h
theorem Mv.trans {b : Addr} {H H1 H2 : Hp} (m1 : Mv b H H1) (m2 : Mv b H1 H2) : Mv b H H2 := fun p o n h => m2 p o n (m1 p o n h)
theorem Mv.same {b : Addr} {H H1 : Hp} (s : Same H H1) : Mv b H H1 := fun p o _ h => s p o h
theorem Mv.upd {b : Addr} {H : Hp} {o : HO} : Mv b H (upd H b o) := fun p u n h => by
  rw [upd_ne n]
  exact h
def Bag (H : Hp) (b : Addr) : Prop := ∃ A B : Int, H b = some (.lst [.int A, .int B]) ∧ 0 ≤ A ∧ 0 ≤ B ∧ B < 2147483647
theorem Mv.kt {b : Addr} {H H' : Hp} (m : Mv b H H') (hb : Bag H b) : Kt H H' := fun p xs h => m p _ (fun e => by
  subst e
  obtain ⟨A, B, h2, _⟩ := hb
  rw [h] at h2
  cases h2) h
theorem Bag.same {b : Addr} {H H' : Hp} (hb : Bag H b) (s : Same H H') : Bag H' b := by
  obtain ⟨A, B, h, r⟩ := hb
  exact ⟨A, B, s _ _ h, r⟩
/-- a number: a tuple of two whole numbers, of less than k bits, the second not 0 -/
def NumB (H : Hp) (v : V) (k : Nat) : Prop := ∃ (p : Addr) (x y : Int), v = .ref p ∧ H p = some (.tup [.int x, .int y]) ∧ x.natAbs < 2 ^ k ∧ y.natAbs < 2 ^ k ∧ y ≠ 0
theorem NumB.kt {H H' : Hp} {v : V} {k : Nat} (h : NumB H v k) (s : Kt H H') : NumB H' v k := by
  obtain ⟨p, x, y, e, hp, r⟩ := h
  exact ⟨p, x, y, e, s _ _ hp, r⟩
theorem NumB.mono {H : Hp} {v : V} {k l : Nat} (h : NumB H v k) (hl : k ≤ l) : NumB H v l := by
  obtain ⟨p, x, y, e, hp, h1, h2, h3⟩ := h
  exact ⟨p, x, y, e, hp, Nat.lt_of_lt_of_le h1 (Nat.pow_le_pow_right (by decide) hl), Nat.lt_of_lt_of_le h2 (Nat.pow_le_pow_right (by decide) hl), h3⟩
theorem Kt.updL {H : Hp} {D : Addr} {xs : List V} {o : HO} (h : H D = some (.lst xs)) : Kt H (upd H D o) := fun p ys hp => by
  have n : p ≠ D := fun e => by
    subst e
    rw [h] at hp
    cases hp
  rw [upd_ne n]
  exact hp
theorem bag_ne {H : Hp} {b p : Addr} (hb : Bag H b) (hp : H p = none) : p ≠ b := fun e => by
  subst e
  obtain ⟨A, B, h2, _⟩ := hb
  rw [hp] at h2
  cases h2
theorem Bag.upd {H : Hp} {b D : Addr} {o : HO} (hb : Bag H b) (n : D ≠ b) : Bag (upd H D o) b := by
  obtain ⟨A, B, h, r⟩ := hb
  exact ⟨A, B, (upd_ne n.symm).trans h, r⟩
theorem Mv.updD {b D : Addr} {H H' : Hp} {o : HO} (m : Mv b H H') (hD : H D = none) : Mv b H (L2.upd H' D o) := fun p u n h => by
  rw [upd_ne (ne_of_none h hD)]
  exact m p u n h
theorem Same.updD {D : Addr} {H H' : Hp} {o : HO} (m : Same H H') (hD : H D = none) : Same H (L2.upd H' D o) := fun p u h => by
  rw [upd_ne (ne_of_none h hD)]
  exact m p u h
/-- a row of n numbers -/
def RowB (H : Hp) (v : V) (n k : Nat) : Prop := ∃ (p : Addr) (xs : List V), v = .ref p ∧ H p = some (.tup xs) ∧ xs.length = n ∧ ∀ x ∈ xs, NumB H x k
theorem RowB.kt {H H' : Hp} {v : V} {n k : Nat} (h : RowB H v n k) (s : Kt H H') : RowB H' v n k := by
  obtain ⟨p, xs, e, hp, hl, r⟩ := h
  exact ⟨p, xs, e, s _ _ hp, hl, fun x hx => (r x hx).kt s⟩
theorem RowB.mono {H : Hp} {v : V} {n k l : Nat} (h : RowB H v n k) (hl : k ≤ l) : RowB H v n l := by
  obtain ⟨p, xs, e, hp, hn, r⟩ := h
  exact ⟨p, xs, e, hp, hn, fun x hx => (r x hx).mono hl⟩
/-- a table -/
def TabB (H : Hp) (v : V) (m n k : Nat) : Prop := ∃ (p : Addr) (xs : List V), v = .ref p ∧ H p = some (.tup xs) ∧ xs.length = m ∧ ∀ x ∈ xs, RowB H x n k
theorem TabB.kt {H H' : Hp} {v : V} {m n k : Nat} (h : TabB H v m n k) (s : Kt H H') : TabB H' v m n k := by
  obtain ⟨p, xs, e, hp, hl, r⟩ := h
  exact ⟨p, xs, e, s _ _ hp, hl, fun x hx => (r x hx).kt s⟩
/-! ### the number of two whole numbers -/
def lowI (g u d : Int) : Option Nat := if 0 < g then (List.range g.toNat).find? (fun i => decide (((i : Int) * d).fmod g = u.fmod g)) else none
def lowC (u d : Int) : Int := (Int.gcd u d : Int) * (if d < 0 then -1 else 1)
def lowF (g u d : Int) : Int × Int := match lowI g u d with
  | some i => ((i : Int), 1)
  | none => (u.fdiv (lowC u d), d.fdiv (lowC u d))
theorem lowC_ne {u d : Int} (h : d ≠ 0) : lowC u d ≠ 0 := by
  have h1 : Int.gcd u d ≠ 0 := fun z => h (Int.gcd_eq_zero_iff.mp z).2
  unfold lowC
  split <;> omega
theorem lowC_dvd {u d : Int} : (∃ q, u = lowC u d * q) ∧ ∃ q, d = lowC u d * q := by
  obtain ⟨q1, e1⟩ := Int.gcd_dvd_left u d
  obtain ⟨q2, e2⟩ := Int.gcd_dvd_right u d
  unfold lowC
  split
  · refine ⟨⟨-q1, ?_⟩, ⟨-q2, ?_⟩⟩
    · rw [Int.mul_assoc, Int.neg_mul_neg, Int.one_mul]; exact e1
    · rw [Int.mul_assoc, Int.neg_mul_neg, Int.one_mul]; exact e2
  · refine ⟨⟨q1, ?_⟩, ⟨q2, ?_⟩⟩
    · rw [Int.mul_one]; exact e1
    · rw [Int.mul_one]; exact e2
theorem natAbs_fac {c q : Int} (h : c ≠ 0) : q.natAbs ≤ (c * q).natAbs := by
  rw [Int.natAbs_mul]
  have : 1 ≤ c.natAbs := by omega
  exact Nat.le_mul_of_pos_left _ this
theorem lowC_le {u d : Int} (h : d ≠ 0) : (lowC u d).natAbs ≤ d.natAbs := by
  obtain ⟨_, q, e⟩ := lowC_dvd (u := u) (d := d)
  have hq : q ≠ 0 := fun z => h (by rw [e, z, Int.mul_zero])
  have : (lowC u d).natAbs ≤ (lowC u d * q).natAbs := by
    rw [Int.mul_comm]; exact natAbs_fac hq
  rw [← e] at this
  exact this
theorem low_bd {g u d : Int} {k : Nat} (hg : g ≤ 13) (hd : d ≠ 0) (hk : 4 ≤ k) (h1 : u.natAbs < 2 ^ k) (h2 : d.natAbs < 2 ^ k) : (lowF g u d).1.natAbs < 2 ^ k ∧ (lowF g u d).2.natAbs < 2 ^ k ∧ (lowF g u d).2 ≠ 0 := by
  have hk16 : 16 ≤ 2 ^ k := Nat.le_trans (by decide : 16 ≤ 2 ^ 4) (Nat.pow_le_pow_right (by decide) hk)
  unfold lowF
  cases e : lowI g u d with
  | some i =>
    have hi : i < 13 := by
      unfold lowI at e
      split at e
      · have := List.mem_of_find?_eq_some e
        have := List.mem_range.mp this
        omega
      · cases e
    refine ⟨?_, ?_, fun z => absurd (show (1 : Int) = 0 from z) (by decide)⟩
    · show ((i : Int)).natAbs < 2 ^ k
      omega
    · show (1 : Int).natAbs < 2 ^ k
      omega
  | none =>
    have hc := lowC_ne (u := u) hd
    obtain ⟨⟨q1, e1⟩, q2, e2⟩ := lowC_dvd (u := u) (d := d)
    have f1 : u.fdiv (lowC u d) = q1 := by
      conv => lhs; lhs; rw [e1]
      exact Int.mul_fdiv_cancel_left _ hc
    have f2 : d.fdiv (lowC u d) = q2 := by
      conv => lhs; lhs; rw [e2]
      exact Int.mul_fdiv_cancel_left _ hc
    show (u.fdiv (lowC u d)).natAbs < 2 ^ k ∧ (d.fdiv (lowC u d)).natAbs < 2 ^ k ∧ d.fdiv (lowC u d) ≠ 0
    rw [f1, f2]
    refine ⟨Nat.lt_of_le_of_lt ?_ h1, Nat.lt_of_le_of_lt ?_ h2, fun z => hd ?_⟩
    · have := natAbs_fac (q := q1) hc
      rw [← e1] at this
      exact this
    · have := natAbs_fac (q := q2) hc
      rw [← e2] at this
      exact this
    · rw [e2, z, Int.mul_zero]
end Fm

namespace Fm
open PySem PySem.Spec PyProof.Rows L2
theorem w_js {t : TE} {ts : List TE} {acc : Str} {σ : L2.St} {H : Hp} {R : Str → Hp → Prop} (h : t σ H fun x H1 => ∃ y : Str, x = .str y ∧ (acc ++ y).length ≤ sizeLine ∧ tJs ts (acc ++ y) σ H1 R) : tJs (t :: ts) acc σ H R := h
theorem w_js0 {acc : Str} {σ : L2.St} {H : Hp} {R : Str → Hp → Prop} (h : R acc H) : tJs [] acc σ H R := h
theorem w_fmt {te : TE} {σ : L2.St} {H : Hp} {Q : VK} (h : te σ H fun x H1 => (∃ y : Str, x = .str y ∧ y.length ≤ sizeLine ∧ Q (.str y) H1) ∨ ∃ i : Int, x = .int i ∧ i.natAbs.log2 < 1920 ∧ Q (.str (toString i)) H1) : tFmt te σ H Q := h
theorem w_rep {H : Hp} {Q : VK} {l : Addr} {k : Int} {xs : List V} (h : H l = some (.lst xs)) (h0 : 0 ≤ k) (h1 : k ≤ 100) (hx : xs.length ≤ 100) (q : NewO (.lst (List.replicate k.toNat xs).flatten) H Q) : rRep (.ref l) (.int k) H Q := by
  refine ⟨l, k, xs, rfl, rfl, h, by omega, by omega, ?_, q⟩
  have e : xs.length * k.toNat ≤ 100 * 100 := Nat.mul_le_mul hx (by omega)
  exact Nat.le_trans e (by decide)
theorem w_iteN' {p : Prop} [Decidable p] {A B : Prop} (h : B) (hn : ¬ p) : if decide p = true then A else B := by
  rw [decide_eq_false hn]
  exact h
theorem w_bm {K : PySem.W.Frag} {T : String} {r : V → List V → Hp → VK → Prop} {to : TE} {t : TA} {σ : L2.St} {H : Hp} {Q : VK} (h : to σ H fun x H1 => tyV K T x H1 ∧ t σ H1 fun xs H2 => r x xs H2 Q) : tBM K T r to t σ H Q := h
theorem w_append {H : Hp} {Q : VK} {l : Addr} {xs : List V} {y : V} (h : H l = some (.lst xs)) (hz : xs.length ≤ 1000) (q : Q .non (upd H l (.lst (xs ++ [y])))) : rAppend (.ref l) [y] H Q := ⟨l, xs, y, rfl, rfl, h, small1000 hz, q⟩
theorem w_cat {H : Hp} {Q : VK} {l b : Addr} {xs zs : List V} (h : H l = some (.lst xs)) (h2 : H b = some (.lst zs)) (hz : xs.length + zs.length ≤ 1000) (q : NewO (.lst (xs ++ zs)) H Q) : rCat (.ref l) (.ref b) H Q := ⟨l, b, xs, zs, rfl, rfl, h, h2, Nat.le_of_lt (small1000 hz), q⟩
theorem w_revL {K : PySem.W.Frag} {te : TE} {σ : L2.St} {H : Hp} {Q : VK} (h : te σ H fun x H1 => ∃ a xs, x = .ref a ∧ SqL K H1 a xs ∧ NewO (.lst xs.reverse) H1 Q) : tRevL K te σ H Q := h
theorem w_tupOf {K : PySem.W.Frag} {H : Hp} {Q : VK} {p : Addr} {ys : List V} (h : H p = some (.lst ys)) (q : NewO (.tup ys) H Q) : ∃ p' ys', [V.ref p] = [V.ref p'] ∧ ((SqL K H p' ys' ∧ ∀ l, H l = none → Q (.ref l) (upd H l (.tup ys'))) ∨ (SqT K H p' ys' ∧ Q (.ref p') H)) := ⟨p, ys, rfl, .inl ⟨SqL.of h, q⟩⟩
theorem Same.mv {b : Addr} {H0 H H' : Hp} (s : Same H0 H) (hb : H0 b = none) (m : Mv b H H') : Same H0 H' := fun p o h => m p o (ne_of_none h hb) (s p o h)
theorem Same.upd {b : Addr} {H0 H : Hp} {o : HO} (s : Same H0 H) (hb : H0 b = none) : Same H0 (upd H b o) := fun p u h => by
  rw [upd_ne (ne_of_none h hb)]
  exact s p u h
/-! ### data of any depth -/
def Dat (K : PySem.W.Frag) (H : Hp) (v : V) (n : Nat) : Prop := ∃ d, Dp K H v d ∧ d.canLay0 = true ∧ d.depth ≤ n
theorem dat_all {K : PySem.W.Frag} {H : Hp} {n : Nat} : ∀ {xs : List V}, (∀ x ∈ xs, Dat K H x n) → ∃ ds, DpAll K H xs ds ∧ PyData.canLayAll0 ds = true ∧ PyData.depthAll ds ≤ n ∧ ds.length = xs.length
  | [], _ => ⟨[], .nil, by simp [PyData.canLayAll0], by simp [PyData.depthAll], rfl⟩
  | x :: xs, h => by
    obtain ⟨d, h1, h2, h3⟩ := h x (List.mem_cons_self ..)
    obtain ⟨ds, g1, g2, g3, g4⟩ := dat_all (xs := xs) fun y hy => h y (List.mem_cons_of_mem _ hy)
    refine ⟨d :: ds, .cons h1 g1, ?_, ?_, by rw [List.length_cons, List.length_cons, g4]⟩
    · rw [PyData.canLayAll0, h2, g2]; rfl
    · rw [PyData.depthAll]; omega
theorem dat_int {K : PySem.W.Frag} {H : Hp} {i : Int} : Dat K H (.int i) 0 := ⟨.int i, .int i, by simp [PyData.canLay0], by simp [PyData.depth]⟩
theorem dat_tup {K : PySem.W.Frag} {H : Hp} {p : Addr} {xs : List V} {n : Nat} (h : H p = some (.tup xs)) (hx : ∀ x ∈ xs, Dat K H x n) : Dat K H (.ref p) (n + 1) := by
  obtain ⟨ds, g1, g2, g3, g4⟩ := dat_all hx
  exact ⟨.tuple ds, .tup (SqT.of h) g1, by rw [PyData.canLay0]; exact g2, by rw [PyData.depth]; omega⟩
theorem dat_lst {K : PySem.W.Frag} {H : Hp} {p : Addr} {xs : List V} {n : Nat} (h : H p = some (.lst xs)) (hx : ∀ x ∈ xs, Dat K H x n) : Dat K H (.ref p) (n + 1) := by
  obtain ⟨ds, g1, g2, g3, g4⟩ := dat_all hx
  exact ⟨.list ds, .lst (SqL.of h) g1, by rw [PyData.canLay0]; exact g2, by rw [PyData.depth]; omega⟩
theorem NumB.dat {K : PySem.W.Frag} {H : Hp} {v : V} {k : Nat} (h : NumB H v k) : Dat K H v 1 := by
  obtain ⟨p, x, y, rfl, hp, _⟩ := h
  refine dat_tup hp fun z hz => ?_
  rcases List.mem_cons.mp hz with rfl | hz
  · exact dat_int
  · rw [List.mem_singleton.mp hz]; exact dat_int
theorem RowB.dat {K : PySem.W.Frag} {H : Hp} {v : V} {n k : Nat} (h : RowB H v n k) : Dat K H v 2 := by
  obtain ⟨p, xs, rfl, hp, _, hx⟩ := h
  exact dat_tup hp fun z hz => (hx z hz).dat
theorem shaped_of {d : PyData} (h : d.canLay0 = true) (h2 : d.depth ≤ 64) : SeqAt.shaped d = true := by
  show (d.canLay0 && decide (d.depth ≤ 64)) = true
  rw [h, decide_eq_true h2]
  rfl
theorem w_neNil {K : PySem.W.Frag} {H : Hp} {Q : VK} {p r : Addr} {xs : List V} {n : Nat} (h : H p = some (.lst xs)) (h2 : H r = some (.lst [])) (hx : ∀ x ∈ xs, Dat K H x n) (hn : n ≤ 60) (q : Q (.bl (!decide (xs = []))) H) : rNeD K (.ref p) (.ref r) H Q := by
  obtain ⟨ds, g1, g2, g3, g4⟩ := dat_all hx
  refine ⟨.list ds, .list [], .lst (SqL.of h) g1, .lst (SqL.of h2) .nil, shaped_of (by rw [PyData.canLay0]; exact g2) (by rw [PyData.depth]; omega), shaped_of (by simp [PyData.canLay0, PyData.canLayAll0]) (by simp [PyData.depth, PyData.depthAll]), ?_⟩
  have e : PyData.eqv (.list ds) (.list []) = decide (xs = []) := by
    rw [PyData.eqv]
    cases xs with
    | nil =>
      have : ds = [] := List.length_eq_zero_iff.mp g4
      rw [this, decide_eq_true rfl]; rw [PyData.eqvAll]
    | cons x r =>
      cases ds with
      | nil => cases g4
      | cons d ds => rw [decide_eq_false (by simp)]; rw [PyData.eqvAll]
  rw [e]
  exact q
/-! ### texts -/
def TxtOk (z : Str) (n : Nat) : Prop := z.length ≤ n ∧ PyData.strOk z = true
theorem ok_str (s : String) : PyData.strOk (Str.ofString s) = true := by
  rw [Str.ofString_eq_toList]
  unfold PyData.strOk
  rw [Array.all_eq_true]
  intro i hi
  simp only [List.getElem_toArray, List.getElem_map, decide_eq_true_eq]
  have h := (s.toList[i]'(by simpa using hi)).valid
  simp only [Char.toNat]
  generalize (s.toList[i]'(by simpa using hi)).val = c at h
  rcases h with h | h
  · have : c.toNat < 55296 := h
    omega
  · exact h.2
theorem ok_int {i : Int} (h : i.natAbs.log2 < 1920) : TxtOk (Str.ofString (toString i)) 1921 := ⟨int_text_len_1921 h, ok_str _⟩
theorem ok_app {a b : Str} {n m : Nat} (h1 : TxtOk a n) (h2 : TxtOk b m) : TxtOk (a ++ b) (n + m) := by
  refine ⟨?_, ?_⟩
  · rw [Str.length_append]; exact Nat.add_le_add h1.1 h2.1
  · have e1 := h1.2
    have e2 := h2.2
    unfold PyData.strOk at e1 e2 ⊢
    rw [Str.cps_append, Array.all_append, e1, e2]
    rfl
theorem TxtOk.mono {a : Str} {n m : Nat} (h : TxtOk a n) (hl : n ≤ m) : TxtOk a m := ⟨Nat.le_trans h.1 hl, h.2⟩
theorem ok_empty : TxtOk Str.empty 0 := ⟨Nat.le_refl _, by decide +kernel⟩
theorem ok_join {sep : Str} {n m : Nat} (hs : TxtOk sep m) : ∀ {ys : List Str}, (∀ y ∈ ys, TxtOk y n) → TxtOk (Str.join sep ys) (ys.length * (n + m))
  | [], _ => ok_empty.mono (Nat.zero_le _)
  | [x], h => by
    refine (h x (List.mem_singleton_self x)).mono ?_
    show n ≤ 1 * (n + m)
    omega
  | x :: y :: r, h => by
    have h1 := h x (List.mem_cons_self ..)
    have h2 := ok_join hs (ys := y :: r) fun z hz => h z (List.mem_cons_of_mem _ hz)
    have h3 := ok_app (ok_app h1 hs) h2
    refine TxtOk.mono h3 ?_
    have e : (x :: y :: r).length * (n + m) = (y :: r).length * (n + m) + (n + m) := by rw [List.length_cons, Nat.succ_mul]
    omega
theorem sum_le {n : Nat} : ∀ {ys : List Str}, (∀ y ∈ ys, TxtOk y n) → (ys.map (·.length)).sum ≤ ys.length * n
  | [], _ => Nat.zero_le _
  | y :: r, h => by
    have h1 := (h y (List.mem_cons_self ..)).1
    have h2 := sum_le (ys := r) fun z hz => h z (List.mem_cons_of_mem _ hz)
    rw [List.map_cons, List.sum_cons, List.length_cons, Nat.succ_mul]
    omega
/-- a number's text -/
def numT (a : Int × Int) : Str := if a.2 = 1 then Str.ofString (toString a.1) else Str.ofString (toString a.1) ++ ("/" : Str) ++ Str.ofString (toString a.2)
def Sm (a : Int × Int) : Prop := a.1.natAbs.log2 < 1920 ∧ a.2.natAbs.log2 < 1920
theorem numT_ok {a : Int × Int} (h : Sm a) : TxtOk (numT a) 3900 := by
  unfold numT
  split
  · exact (ok_int h.1).mono (by decide)
  · exact (ok_app (ok_app (ok_int h.1) ⟨(by decide : ("/" : Str).length ≤ 1), by decide +kernel⟩) (ok_int h.2)).mono (by decide)
def rowT (r : List (Int × Int)) : Str := Txt.join (" " : Str) (r.map numT)
theorem rowT_ok {r : List (Int × Int)} (h : ∀ a ∈ r, Sm a) (hl : r.length ≤ 10) : TxtOk (rowT r) 40000 := by
  unfold rowT
  rw [TL.join_eq]
  refine (ok_join (n := 3900) (m := 1) ⟨by decide, by decide +kernel⟩ fun y hy => ?_).mono ?_
  · obtain ⟨a, ha, rfl⟩ := List.mem_map.mp hy
    exact numT_ok (h a ha)
  · rw [List.length_map]
    omega
def tabT (t : List (List (Int × Int))) : Str := Txt.join (" / " : Str) (t.map rowT)
theorem tabT_ok {t : List (List (Int × Int))} (h : ∀ r ∈ t, (∀ a ∈ r, Sm a) ∧ r.length ≤ 10) (hl : t.length ≤ 10) : TxtOk (tabT t) 500000 := by
  unfold tabT
  rw [TL.join_eq]
  refine (ok_join (n := 40000) (m := 3) ⟨by decide, by decide +kernel⟩ fun y hy => ?_).mono ?_
  · obtain ⟨a, ha, rfl⟩ := List.mem_map.mp hy
    exact rowT_ok (h a ha).1 (h a ha).2
  · rw [List.length_map]
    omega
/-! ### numbers, rows, tables by their values -/
def NumV (H : Hp) (v : V) (a : Int × Int) : Prop := ∃ p, v = .ref p ∧ H p = some (.tup [.int a.1, .int a.2])
def SqV {α : Type} (P : Hp → V → α → Prop) (H : Hp) (v : V) (as : List α) : Prop := ∃ p xs, v = .ref p ∧ H p = some (.tup xs) ∧ xs.length = as.length ∧ ∀ (i : Nat) (x : V) (a : α), xs[i]? = some x → as[i]? = some a → P H x a
abbrev RowV := SqV NumV
abbrev TabV := SqV RowV
theorem NumV.kt {H H' : Hp} {v : V} {a : Int × Int} (h : NumV H v a) (s : Kt H H') : NumV H' v a := by
  obtain ⟨p, e, hp⟩ := h
  exact ⟨p, e, s _ _ hp⟩
theorem RowV.kt {H H' : Hp} {v : V} {a : List (Int × Int)} (h : RowV H v a) (s : Kt H H') : RowV H' v a := by
  obtain ⟨p, xs, e, hp, hl, hx⟩ := h
  exact ⟨p, xs, e, s _ _ hp, hl, fun i x b h1 h2 => (hx i x b h1 h2).kt s⟩
theorem TabV.kt {H H' : Hp} {v : V} {a : List (List (Int × Int))} (h : TabV H v a) (s : Kt H H') : TabV H' v a := by
  obtain ⟨p, xs, e, hp, hl, hx⟩ := h
  exact ⟨p, xs, e, s _ _ hp, hl, fun i x b h1 h2 => RowV.kt (hx i x b h1 h2) s⟩
theorem sm_of {x : Int} {k : Nat} (h : x.natAbs < 2 ^ k) (hk : 0 < k) (hk2 : k ≤ 1000) : x.natAbs.log2 < 1920 := Nat.lt_of_lt_of_le (PySem.Flt.log2_lt_of hk h) (by omega)
theorem NumB.val {H : Hp} {v : V} {k : Nat} (h : NumB H v k) (hk : 0 < k) (hk2 : k ≤ 1000) : ∃ a, NumV H v a ∧ Sm a := by
  obtain ⟨p, x, y, e, hp, h1, h2, _⟩ := h
  exact ⟨(x, y), ⟨p, e, hp⟩, sm_of h1 hk hk2, sm_of h2 hk hk2⟩
theorem sq_val {α : Type} {P : Hp → V → α → Prop} {S : α → Prop} {H : Hp} : ∀ {xs : List V}, (∀ x ∈ xs, ∃ a, P H x a ∧ S a) → ∃ as : List α, xs.length = as.length ∧ (∀ a ∈ as, S a) ∧ ∀ (i : Nat) (x : V) (a : α), xs[i]? = some x → as[i]? = some a → P H x a
  | [], _ => ⟨[], rfl, (fun a ha => by cases ha), fun i x a h _ => by simp at h⟩
  | x :: xs, h => by
    obtain ⟨a, h1, h2⟩ := h x (List.mem_cons_self ..)
    obtain ⟨as, g1, g2, g3⟩ := sq_val (xs := xs) fun y hy => h y (List.mem_cons_of_mem _ hy)
    refine ⟨a :: as, by rw [List.length_cons, List.length_cons, g1], fun b hb => ?_, fun i y b e1 e2 => ?_⟩
    · rcases List.mem_cons.mp hb with rfl | hb
      · exact h2
      · exact g2 b hb
    · cases i with
      | zero =>
        cases Option.some.inj e1
        cases Option.some.inj e2
        exact h1
      | succ i => exact g3 i y b e1 e2
theorem RowB.val {H : Hp} {v : V} {n k : Nat} (h : RowB H v n k) (hk : 0 < k) (hk2 : k ≤ 1000) : ∃ r, RowV H v r ∧ r.length = n ∧ ∀ a ∈ r, Sm a := by
  obtain ⟨p, xs, e, hp, hl, hx⟩ := h
  obtain ⟨as, g1, g2, g3⟩ := sq_val (P := NumV) (S := Sm) (H := H) (xs := xs) fun x hx' => (hx x hx').val hk hk2
  exact ⟨as, ⟨p, xs, e, hp, g1, g3⟩, by omega, g2⟩
theorem TabB.val {H : Hp} {v : V} {m n k : Nat} (h : TabB H v m n k) (hk : 0 < k) (hk2 : k ≤ 1000) : ∃ t, TabV H v t ∧ t.length = m ∧ ∀ r ∈ t, (∀ a ∈ r, Sm a) ∧ r.length = n := by
  obtain ⟨p, xs, e, hp, hl, hx⟩ := h
  obtain ⟨as, g1, g2, g3⟩ := sq_val (P := RowV) (S := fun r => (∀ a ∈ r, Sm a) ∧ r.length = n) (H := H) (xs := xs) fun x hx' => by
    obtain ⟨r, h1, h2, h3⟩ := (hx x hx').val hk hk2
    exact ⟨r, h1, h3, h2⟩
  exact ⟨as, ⟨p, xs, e, hp, g1, g3⟩, by omega, g2⟩
/-! ### rows grown -/
def kk (i : Nat) : Nat := 2 ^ (i + 3) - 1
theorem kk_pos (i : Nat) : 7 ≤ kk i := by
  have : 2 ^ 3 ≤ 2 ^ (i + 3) := Nat.pow_le_pow_right (by decide) (by omega)
  unfold kk
  omega
theorem kk_succ (i : Nat) : 2 * kk i + 1 = kk (i + 1) := by
  have h : 2 ^ 3 ≤ 2 ^ (i + 3) := Nat.pow_le_pow_right (by decide) (by omega)
  have e : 2 ^ (i + 1 + 3) = 2 ^ (i + 3) * 2 := by rw [show i + 1 + 3 = (i + 3) + 1 by omega, Nat.pow_succ]
  unfold kk
  rw [e]
  generalize 2 ^ (i + 3) = z at h ⊢
  omega
theorem kk_le {i : Nat} (h : i ≤ 5) : kk i ≤ 255 := by
  have : 2 ^ (i + 3) ≤ 2 ^ 8 := Nat.pow_le_pow_right (by decide) (by omega)
  unfold kk
  omega
theorem rows_end {H Hn : Hp} {b F : Addr} {xs : List V} {row : V} {n i : Nat} (mv : Mv b H Hn) (hb : Bag Hn b) (hF0 : H F = none) (nF : F ≠ b) (hF : Hn F = some (.lst xs)) (hl : xs.length = i) (hx : ∀ x ∈ xs, RowB Hn x n (kk i)) (hr : RowB Hn row n (kk (i + 1))) :
    Mv b H (upd Hn F (.lst (xs ++ [row]))) ∧ Bag (upd Hn F (.lst (xs ++ [row]))) b ∧ ∃ ys : List V, (upd Hn F (.lst (xs ++ [row]))) F = some (.lst ys) ∧ ys.length = i + 1 ∧ ∀ x ∈ ys, RowB (upd Hn F (.lst (xs ++ [row]))) x n (kk (i + 1)) := by
  have kt : Kt Hn (upd Hn F (.lst (xs ++ [row]))) := Kt.updL hF
  refine ⟨mv.updD hF0, hb.upd nF, xs ++ [row], upd_same, by rw [List.length_append, hl]; rfl, fun x h => ?_⟩
  rcases List.mem_append.mp h with h | h
  · refine ((hx x h).kt kt).mono ?_
    have := kk_succ i
    omega
  · rw [List.mem_singleton.mp h]
    exact hr.kt kt
theorem RowB.zeros {H : Hp} {u : Addr} {l : Addr} {n : Nat} (hu : H u = some (.tup [.int 0, .int 1])) (hl : H l = some (.tup (List.replicate n [V.ref u]).flatten)) : RowB H (.ref l) n 7 := by
  rw [List.flatten_replicate_singleton] at hl
  refine ⟨l, _, rfl, hl, List.length_replicate, fun x hx => ?_⟩
  rw [(List.mem_replicate.mp hx).2]
  exact ⟨u, 0, 1, rfl, hu, by decide, by decide, by decide⟩
/-! ### what is looked at together -/
def Tri (H : Hp) (v : V) : Prop := ∃ (p : Addr) (x r t : V), v = .ref p ∧ H p = some (.tup [x, r, t]) ∧ (∃ a, NumV H x a ∧ Sm a) ∧ (∃ rs, RowV H r rs ∧ (∀ a ∈ rs, Sm a) ∧ rs.length ≤ 10) ∧ ∃ ts, TabV H t ts ∧ (∀ r ∈ ts, (∀ a ∈ r, Sm a) ∧ r.length ≤ 10) ∧ ts.length ≤ 10
theorem Tri.kt {H H' : Hp} {v : V} (h : Tri H v) (s : Kt H H') : Tri H' v := by
  obtain ⟨p, x, r, t, e, hp, ⟨a, h1, h2⟩, ⟨rs, h3, h4⟩, ts, h5, h6⟩ := h
  exact ⟨p, x, r, t, e, s _ _ hp, ⟨a, h1.kt s, h2⟩, ⟨rs, RowV.kt h3 s, h4⟩, ts, TabV.kt h5 s, h6⟩
theorem TabB.mono {H : Hp} {v : V} {m n k l : Nat} (h : TabB H v m n k) (hl : k ≤ l) : TabB H v m n l := by
  obtain ⟨p, xs, e, hp, hn, r⟩ := h
  exact ⟨p, xs, e, hp, hn, fun x hx => (r x hx).mono hl⟩
theorem tri_mk {H : Hp} {p : Addr} {x r t : V} {n n' m k : Nat} (hp : H p = some (.tup [x, r, t])) (hx : NumB H x k) (hr : RowB H r n k) (ht : TabB H t m n' k) (hk : 0 < k) (hk2 : k ≤ 1000) (hn : n ≤ 10) (hn' : n' ≤ 10) (hm : m ≤ 10) : Tri H (.ref p) := by
  obtain ⟨rs, h1, h2, h3⟩ := hr.val hk hk2
  obtain ⟨ts, g1, g2, g3⟩ := ht.val hk hk2
  exact ⟨p, x, r, t, rfl, hp, hx.val hk hk2, ⟨rs, h1, h3, by omega⟩, ts, g1, fun r hr => ⟨(g3 r hr).1, by have := (g3 r hr).2; omega⟩, by omega⟩
theorem sqv1 {α : Type} {P : Hp → V → α → Prop} {H : Hp} {p : Addr} {x : V} {a : α} (hp : H p = some (.tup [x])) (h1 : P H x a) : SqV P H (.ref p) [a] := ⟨p, [x], rfl, hp, rfl, fun i y b e1 e2 => by
  cases i with
  | zero => cases Option.some.inj e1; cases Option.some.inj e2; exact h1
  | succ i => simp at e1⟩
theorem sqv2 {α : Type} {P : Hp → V → α → Prop} {H : Hp} {p : Addr} {x y : V} {a b : α} (hp : H p = some (.tup [x, y])) (h1 : P H x a) (h2 : P H y b) : SqV P H (.ref p) [a, b] := ⟨p, [x, y], rfl, hp, rfl, fun i z c e1 e2 => by
  match i with
  | 0 => cases Option.some.inj e1; cases Option.some.inj e2; exact h1
  | 1 => cases Option.some.inj e1; cases Option.some.inj e2; exact h2
  | i + 2 => simp at e1⟩
theorem all_true (n : Nat) : (List.replicate n true).all id = true := by
  rw [List.all_eq_true]
  intro x hx
  rw [(List.mem_replicate.mp hx).2]
  rfl
theorem fresh_of {H : Hp} {p q : Addr} {o : HO} (h : H p = some o) (hq : H q = none) : p ≠ q := fun e => by
  subst e
  rw [h] at hq
  cases hq
end Fm

namespace Fm
open PySem PySem.Spec PyProof.Rows L2
theorem w_chain {r r' : R2} {ta tb tc : TE} {σ : L2.St} {H : Hp} {Q : VK} (h : ta σ H fun x H1 => tb σ H1 fun y H2 => r x y H2 fun z H3 => ∃ k, z = .bl k ∧ (if k = true then tc σ H3 fun w' H4 => r' y w' H4 Q else Q (.bl false) H3)) : tChain r r' ta tb tc σ H Q := h
theorem w_rng2 {ta : TA} {σ : L2.St} {H : Hp} {R : It → Hp → Prop} (h : ta σ H fun vs H1 => ∃ i j : Int, vs = [.int i, .int j] ∧ (-(2 ^ 62) ≤ i ∧ i < 2 ^ 62 ∧ -(2 ^ 62) ≤ j ∧ j < 2 ^ 62) ∧ R (Itr i (j - i).toNat) H1) : iRng2 ta σ H R := h
theorem w_extend {H : Hp} {Q : VK} {l b : Addr} {xs zs : List V} (h : H l = some (.lst xs)) (h2 : H b = some (.lst zs)) (hz : xs.length + zs.length ≤ 1000) (q : Q .non (upd H l (.lst (xs ++ zs)))) : rExtend (.ref l) [.ref b] H Q := ⟨l, b, xs, zs, rfl, rfl, h, h2, Nat.le_of_lt (small1000 hz), q⟩
theorem w_iteB {b : Bool} {A B : Prop} (h1 : b = true → A) (h2 : b = false → B) : if b = true then A else B := by
  cases b with
  | true => exact h1 rfl
  | false => exact h2 rfl
theorem w_iteBN {b : Bool} {A B : Prop} (h1 : b = false → A) (h2 : b = true → B) : if (!b) = true then A else B := by
  cases b with
  | true => exact h2 rfl
  | false => exact h1 rfl
theorem w_notB {H : Hp} {Q : VK} {a b : Bool} (q : Q (.bl (!decide (a = b))) H) : rNotB (.bl a) (.bl b) H Q := ⟨a, b, rfl, rfl, q⟩
/-! ### any things -/
def Kl (H H' : Hp) : Prop := ∀ p xs, H p = some (.lst xs) → ∃ ys, H' p = some (.lst ys)
def Kd (H H' : Hp) : Prop := Kt H H' ∧ Kl H H'
theorem Kd.refl (H : Hp) : Kd H H := ⟨Kt.refl H, fun _ xs h => ⟨xs, h⟩⟩
theorem Kd.trans {H H1 H2 : Hp} (a : Kd H H1) (b : Kd H1 H2) : Kd H H2 := ⟨a.1.trans b.1, fun p xs h => by
  obtain ⟨ys, h1⟩ := a.2 p xs h
  exact b.2 p ys h1⟩
theorem Kd.of {H H' : Hp} (s : Same H H') : Kd H H' := ⟨Kt.of s, fun p xs h => ⟨xs, s _ _ h⟩⟩
theorem Kd.mv {b : Addr} {H H' : Hp} (m : Mv b H H') (hb : Bag H b) (hb' : Bag H' b) : Kd H H' := ⟨m.kt hb, fun p xs h => by
  by_cases e : p = b
  · subst e
    obtain ⟨A, B, h2, _⟩ := hb'
    exact ⟨_, h2⟩
  · exact ⟨xs, m _ _ e h⟩⟩
theorem Kd.updL {H : Hp} {D : Addr} {xs ys : List V} (h : H D = some (.lst xs)) : Kd H (upd H D (.lst ys)) := ⟨Kt.updL h, fun p zs hp => by
  by_cases e : p = D
  · subst e
    exact ⟨ys, upd_same⟩
  · exact ⟨zs, by rw [upd_ne e]; exact hp⟩⟩
def atomB : V → Bool
  | .non => true
  | .bl _ => true
  | .int _ => true
  | .str _ => true
  | _ => false
/-- any thing: of no parts, a list, a tuple of things of no parts -/
def Th (H : Hp) (v : V) : Prop := atomB v = true ∨ (∃ p xs, v = .ref p ∧ H p = some (.lst xs)) ∨ ∃ p xs, v = .ref p ∧ H p = some (.tup xs) ∧ ∀ x ∈ xs, atomB x = true
theorem Th.kd {H H' : Hp} {v : V} (h : Th H v) (k : Kd H H') : Th H' v := by
  rcases h with h | ⟨p, xs, e, h⟩ | ⟨p, xs, e, h, hx⟩
  · exact .inl h
  · obtain ⟨ys, h2⟩ := k.2 p xs h
    exact .inr (.inl ⟨p, ys, e, h2⟩)
  · exact .inr (.inr ⟨p, xs, e, k.1 _ _ h, hx⟩)
theorem Th.sm {H H' : Hp} {v : V} (h : Th H v) (s : Same H H') : Th H' v := h.kd (Kd.of s)
theorem Th.tup {H : Hp} {p : Addr} {xs : List V} (h : H p = some (.tup xs)) (hx : xs.all atomB = true) : Th H (.ref p) := .inr (.inr ⟨p, xs, rfl, h, fun x m => List.all_eq_true.mp hx x m⟩)
theorem Th.lst {H : Hp} {p : Addr} {xs : List V} (h : H p = some (.lst xs)) : Th H (.ref p) := .inr (.inl ⟨p, xs, rfl, h⟩)
theorem NumB.th {H : Hp} {v : V} {k : Nat} (h : NumB H v k) : Th H v := by
  obtain ⟨p, x, y, rfl, hp, _⟩ := h
  exact Th.tup hp rfl
/-! ### what is told of them -/
def intB : V → Bool
  | .int _ => true
  | .bl _ => true
  | _ => false
def blB : V → Bool
  | .bl _ => true
  | _ => false
def wholeB : V → Bool
  | .int _ => true
  | _ => false
def grdB : V → Bool
  | .int i => decide (i ∈ [0, 3, 5, 7, 11, 13])
  | _ => false
def numOk (g : Int) : List V → Bool
  | [.int t, .int b] => if g = 0 then decide (1 ≤ b) && decide (Int.gcd t b = 1) else (decide (0 ≤ t) && decide (t < g)) && decide (b = 1)
  | _ => false
def numAt (g : Int) : Option HO → Bool
  | some (.tup xs) => numOk g xs
  | _ => false
def numOf (H : Hp) (g : Int) : V → Bool
  | .ref p => numAt g (H p)
  | _ => false
theorem numOf_tup {H : Hp} {g : Int} {p : Addr} {xs : List V} (h : H p = some (.tup xs)) : numOf H g (.ref p) = numOk g xs := by
  show numAt g (H p) = _
  rw [h]
  rfl
theorem numOf_lst {H : Hp} {g : Int} {p : Addr} {xs : List V} (h : H p = some (.lst xs)) : numOf H g (.ref p) = false := by
  show numAt g (H p) = _
  rw [h]
  rfl
theorem numOf_kd {H H' : Hp} {g : Int} {v : V} (h : Th H v) (k : Kd H H') : numOf H' g v = numOf H g v := by
  rcases h with h | ⟨p, xs, rfl, h⟩ | ⟨p, xs, rfl, h, _⟩
  · cases v <;> first | rfl | cases h
  · obtain ⟨ys, h2⟩ := k.2 p xs h
    rw [numOf_lst h, numOf_lst h2]
  · rw [numOf_tup h, numOf_tup (k.1 _ _ h)]
theorem whole_eq (v : V) : wholeB v = (intB v && !blB v) := by
  cases v <;> rfl
theorem whole_int {v : V} (h : wholeB v = true) : ∃ i, v = .int i := by
  cases v with
  | int i => exact ⟨i, rfl⟩
  | _ => cases h
theorem grd_whole {v : V} (h : wholeB v = false) : grdB v = false := by
  cases v with
  | int i => cases h
  | _ => rfl
theorem beq_comm_int (a b : Int) : (a == b) = decide (b = a) := by
  by_cases h : a = b
  · subst h; simp
  · rw [beq_eq_false_iff_ne.mpr h, decide_eq_false (fun e => h e.symm)]
theorem in_grd (i : Int) : inV (.int i) [.int 0, .int 3, .int 5, .int 7, .int 11, .int 13] = grdB (.int i) := by
  show (((0 : Int) == i) || (((3 : Int) == i) || (((5 : Int) == i) || (((7 : Int) == i) || (((11 : Int) == i) || (((13 : Int) == i) || false)))))) = decide (i ∈ [0, 3, 5, 7, 11, 13])
  rw [beq_comm_int, beq_comm_int, beq_comm_int, beq_comm_int, beq_comm_int, beq_comm_int, Bool.eq_iff_iff]
  simp
theorem numOk_len {g : Int} {xs : List V} (h : xs.length ≠ 2) : numOk g xs = false := by
  match xs, h with
  | [], _ => rfl
  | [x], _ => cases x <;> rfl
  | [x, y], h => exact absurd rfl h
  | x :: y :: z :: r, _ => cases x <;> cases y <;> rfl
theorem numOk_l {g : Int} {x y : V} (h : wholeB x = false) : numOk g [x, y] = false := by
  cases x with
  | int i => cases h
  | _ => cases y <;> rfl
theorem numOk_r {g : Int} {x y : V} (h : wholeB y = false) : numOk g [x, y] = false := by
  cases y with
  | int i => cases h
  | _ => cases x <;> rfl
theorem numOk_0 {t b : Int} : numOk 0 [.int t, .int b] = (decide (1 ≤ b) && decide ((Int.gcd t b : Int) = 1)) := by
  have e : numOk 0 [.int t, .int b] = (decide (1 ≤ b) && decide (Int.gcd t b = 1)) := by simp [numOk]
  rw [e]
  congr 1
  rw [decide_eq_decide]
  omega
theorem numOk_g {g t b : Int} (h : g ≠ 0) : numOk g [.int t, .int b] = ((decide (0 ≤ t) && decide (t < g)) && decide (b = 1)) := by
  simp [numOk, h]
/-! ### isinstance -/
def tyAt : Option HO → String
  | some (.tup _) => "tuple"
  | _ => "list"
def tyN (H : Hp) : V → String
  | .non => "NoneType"
  | .bl _ => "bool"
  | .int _ => "int"
  | .str _ => "str"
  | .ref p => tyAt (H p)
  | _ => ""
theorem Th.ty {K : PySem.W.Frag} {H : Hp} {v : V} (h : Th H v) : TyX K H v (.type (tyN H v)) := by
  rcases h with h | ⟨p, xs, rfl, h⟩ | ⟨p, xs, rfl, h, _⟩
  · cases v with
    | non => exact .base .non
    | bl b => exact .base (.bl b)
    | int i => exact .base (.int i)
    | str z => exact .base (.str z)
    | _ => cases h
  · have e : tyN H (.ref p) = "list" := by show tyAt (H p) = _; rw [h]; rfl
    rw [e]
    exact .base (.lst h)
  · have e : tyN H (.ref p) = "tuple" := by show tyAt (H p) = _; rw [h]; rfl
    rw [e]
    exact .base (.tup h)
theorem isi_is {K : PySem.W.Frag} {H : Hp} {Q : VK} {v : V} {a T : String} {b : Bool} (h : TyX K H v (.type a)) (e : kitB a T = some b) (q : Q (.bl b) H) : rIsi K [v, .ty T] H Q := ⟨v, .ty T, .type a, .type T, b, rfl, .ty T, h, kit_ty e, q⟩
theorem isi_int {K : PySem.W.Frag} {H : Hp} {Q : VK} {v : V} (h : Th H v) (q : Q (.bl (intB v)) H) : rIsi K [v, .ty "int"] H Q := by
  refine isi_is h.ty ?_ q
  rcases h with h | ⟨p, xs, rfl, h⟩ | ⟨p, xs, rfl, h, _⟩
  · cases v with
    | non => show kitB "NoneType" "int" = some false; decide +kernel
    | bl b => show kitB "bool" "int" = some true; decide +kernel
    | int i => show kitB "int" "int" = some true; decide +kernel
    | str z => show kitB "str" "int" = some false; decide +kernel
    | _ => cases h
  · show kitB (tyAt (H p)) _ = _; rw [h]; show kitB "list" "int" = some false; decide +kernel
  · show kitB (tyAt (H p)) _ = _; rw [h]; show kitB "tuple" "int" = some false; decide +kernel
theorem isi_bool {K : PySem.W.Frag} {H : Hp} {Q : VK} {v : V} (h : Th H v) (q : Q (.bl (blB v)) H) : rIsi K [v, .ty "bool"] H Q := by
  refine isi_is h.ty ?_ q
  rcases h with h | ⟨p, xs, rfl, h⟩ | ⟨p, xs, rfl, h, _⟩
  · cases v with
    | non => show kitB "NoneType" "bool" = some false; decide +kernel
    | bl b => show kitB "bool" "bool" = some true; decide +kernel
    | int i => show kitB "int" "bool" = some false; decide +kernel
    | str z => show kitB "str" "bool" = some false; decide +kernel
    | _ => cases h
  · show kitB (tyAt (H p)) _ = _; rw [h]; show kitB "list" "bool" = some false; decide +kernel
  · show kitB (tyAt (H p)) _ = _; rw [h]; show kitB "tuple" "bool" = some false; decide +kernel
theorem isi_tup {K : PySem.W.Frag} {H : Hp} {Q : VK} {v : V} (h : Th H v) (q1 : ∀ p xs, v = .ref p → H p = some (.tup xs) → (∀ x ∈ xs, atomB x = true) → Q (.bl true) H) (q2 : (∀ g, numOf H g v = false) → Q (.bl false) H) : rIsi K [v, .ty "tuple"] H Q := by
  have h' := h
  rcases h with h | ⟨p, xs, rfl, h⟩ | ⟨p, xs, rfl, h, hx⟩
  · refine isi_is h'.ty (b := false) ?_ (q2 fun g => ?_)
    · cases v with
      | non => show kitB "NoneType" "tuple" = some false; decide +kernel
      | bl b => show kitB "bool" "tuple" = some false; decide +kernel
      | int i => show kitB "int" "tuple" = some false; decide +kernel
      | str z => show kitB "str" "tuple" = some false; decide +kernel
      | _ => cases h
    · cases v <;> first | rfl | cases h
  · refine isi_is h'.ty (b := false) ?_ (q2 fun g => numOf_lst h)
    show kitB (tyAt (H p)) _ = _; rw [h]; show kitB "list" "tuple" = some false; decide +kernel
  · refine isi_is h'.ty (b := true) ?_ (q1 p xs rfl h hx)
    show kitB (tyAt (H p)) _ = _; rw [h]; show kitB "tuple" "tuple" = some true; decide +kernel
theorem dat_bl {K : PySem.W.Frag} {H : Hp} {b : Bool} : Dp K H (.bl b) (.bool b) := .bl b
/-- two lists of two truths -/
theorem w_neBB {K : PySem.W.Frag} {H : Hp} {Q : VK} {p r : Addr} {a b c d : Bool} (h : H p = some (.lst [.bl a, .bl b])) (h2 : H r = some (.lst [.bl c, .bl d])) (e1 : a = c) (e2 : b = d) (q : Q (.bl false) H) : rNeD K (.ref p) (.ref r) H Q := by
  subst e1 e2
  refine ⟨.list [.bool a, .bool b], .list [.bool a, .bool b], .lst (SqL.of h) (.cons (.bl a) (.cons (.bl b) .nil)), .lst (SqL.of h2) (.cons (.bl a) (.cons (.bl b) .nil)), shaped_of ?_ ?_, shaped_of ?_ ?_, ?_⟩
  · simp [PyData.canLay0, PyData.canLayAll0]
  · simp [PyData.depth, PyData.depthAll]
  · simp [PyData.canLay0, PyData.canLayAll0]
  · simp [PyData.depth, PyData.depthAll]
  · rw [SeqAt.eqv_refl _ (by simp [PyData.canLay0, PyData.canLayAll0])]
    exact q
/-! ### common divisors -/
theorem gcd_fmod (x y : Int) : Int.gcd y (x.fmod y) = Int.gcd x y := by
  have e : x.fmod y = x - y * x.fdiv y := Int.fmod_def x y
  rw [e]
  refine Nat.dvd_antisymm ?_ ?_
  · have h1 := Int.gcd_dvd_left y (x - y * x.fdiv y)
    have h2 := Int.gcd_dvd_right y (x - y * x.fdiv y)
    refine Int.dvd_gcd ?_ h1
    have h3 := Int.dvd_add h2 (Int.dvd_mul_of_dvd_left (c := x.fdiv y) h1)
    rw [Int.sub_add_cancel] at h3
    exact h3
  · have h1 := Int.gcd_dvd_left x y
    have h2 := Int.gcd_dvd_right x y
    refine Int.dvd_gcd h2 ?_
    exact Int.dvd_sub h1 (Int.dvd_mul_of_dvd_left h2)
theorem fmod_small (x : Int) {y : Int} (h : y ≠ 0) : (x.fmod y).natAbs < y.natAbs := by
  rcases Int.lt_or_gt_of_ne h with h | h
  · have e : x.fmod y = -((-x).fmod (-y)) := by
      have := Int.neg_fmod_neg x y
      omega
    have h1 := Int.fmod_nonneg_of_pos (-x) (show 0 < -y by omega)
    have h2 := Int.fmod_lt_of_pos (-x) (show 0 < -y by omega)
    omega
  · have h1 := Int.fmod_nonneg_of_pos x h
    have h2 := Int.fmod_lt_of_pos x h
    omega
theorem atI_some {xs : List V} {d : Int} (h0 : 0 ≤ d) (h1 : d < (xs.length : Int)) : ∃ v, atI xs d = some v ∧ v ∈ xs := by
  obtain ⟨v, hv⟩ : ∃ v, xs[d.toNat]? = some v := ⟨_, List.getElem?_eq_getElem (by omega)⟩
  have e := atI_nat hv
  rw [show ((d.toNat : Nat) : Int) = d by omega] at e
  exact ⟨v, e, List.mem_of_getElem? hv⟩
theorem gcd_fib {u d : Int} (h : Int.gcd u d = 1) : Int.gcd d (u + d) = 1 := by
  have h1 := Int.gcd_dvd_left d (u + d)
  have h2 := Int.gcd_dvd_right d (u + d)
  have h3 := Int.dvd_sub h2 h1
  rw [Int.add_sub_cancel] at h3
  have h4 := Int.dvd_gcd h3 h1
  rw [h] at h4
  exact Nat.dvd_one.mp h4
theorem lp_div {u d : Int} (hu : 1 ≤ u) (hd : 1 ≤ d) : Int.gcd (u.fdiv (Int.gcd u d : Int)) (d.fdiv (Int.gcd u d : Int)) = 1 ∧ 1 ≤ d.fdiv (Int.gcd u d : Int) ∧ (Int.gcd u d : Int) ≤ d ∧ 0 < (Int.gcd u d : Int) := by
  have hp : 0 < Int.gcd u d := Nat.pos_of_ne_zero fun z => by
    have := (Int.gcd_eq_zero_iff.mp z).2
    omega
  have hp' : 0 < (Int.gcd u d : Int) := by omega
  rw [fdiv_pos _ hp', fdiv_pos _ hp']
  have hle : (Int.gcd u d : Int) ≤ d := Int.le_of_dvd (by omega) (Int.gcd_dvd_right u d)
  refine ⟨Int.gcd_ediv_gcd_ediv_gcd hp, ?_, hle, hp'⟩
  exact Int.le_ediv_of_mul_le hp' (by omega)
theorem lp_next {u t : Int} {i : Nat} (h1 : 1 ≤ u) (h2 : u + 1 ≤ 2 * 1000000 ^ i) (t0 : 0 ≤ t) (t1 : t < 1000000) : 1 ≤ u * 1000000 + t ∧ u * 1000000 + t + 1 ≤ 2 * 1000000 ^ (i + 1) := by
  have e : (1000000 : Int) ^ (i + 1) = 1000000 ^ i * 1000000 := Int.pow_succ _ _
  rw [e]
  generalize (1000000 : Int) ^ i = z at h2 ⊢
  omega
theorem lp_small {d : Int} {i : Nat} (h1 : 1 ≤ d) (h2 : d + 1 ≤ 2 * 1000000 ^ i) (hi : i ≤ 100) : d.natAbs < 2 ^ 4000 := by
  have h3 : ((d.natAbs : Nat) : Int) < ((2 * 1000000 ^ i : Nat) : Int) := by
    rw [Int.natAbs_of_nonneg (by omega), Int.natCast_mul, Int.natCast_pow]
    have : ((2 : Nat) : Int) * ((1000000 : Nat) : Int) ^ i = 2 * 1000000 ^ i := rfl
    rw [this]
    omega
  have h4 := Int.ofNat_lt.mp h3
  refine Nat.lt_of_lt_of_le h4 (Nat.le_trans (Nat.mul_le_mul_left 2 (Nat.pow_le_pow_right (by decide) hi)) (by decide +kernel))
def grds (i : Nat) : List Int := ((List.range i).map fun (j : Nat) => ((-20 : Int) + (j : Int))).filter fun z => grdB (.int z)
theorem grds_t {i : Nat} (h : grdB (.int ((-20 : Int) + (i : Int))) = true) : grds (i + 1) = grds i ++ [(-20 : Int) + (i : Int)] := by
  unfold grds
  rw [List.range_succ, List.map_append, List.filter_append]
  simp [h]
theorem grds_f {i : Nat} (h : grdB (.int ((-20 : Int) + (i : Int))) = false) : grds (i + 1) = grds i := by
  unfold grds
  rw [List.range_succ, List.map_append, List.filter_append]
  simp [h]
theorem grds_all : grds 60 = [0, 3, 5, 7, 11, 13] := by decide +kernel
theorem grds_len (i : Nat) : (grds i).length ≤ i := by
  unfold grds
  refine Nat.le_trans (List.length_filter_le _ _) ?_
  rw [List.length_map, List.length_range]
  exact Nat.le_refl _
end Fm

namespace Fm
open PySem PySem.Spec PyProof.Rows L2
/-! ### fractions in lowest terms -/
def Red (p : Int × Int) : Prop := 0 < p.2 ∧ Int.gcd p.1 p.2 = 1
theorem dvd_cop {c a d : Int} (h : Int.gcd a c = 1) (hd : c ∣ a * d) : c ∣ d := by
  have h1 : c.natAbs ∣ a.natAbs * d.natAbs := by
    rw [← Int.natAbs_mul]
    exact Int.natAbs_dvd_natAbs.mpr hd
  have h2 : Nat.Coprime c.natAbs a.natAbs := by
    rw [Nat.Coprime, Nat.gcd_comm]
    exact h
  exact Int.natAbs_dvd_natAbs.mp (h2.dvd_of_dvd_mul_left h1)
theorem red_uniq {p q : Int × Int} (hp : Red p) (hq : Red q) (h : p.1 * q.2 = q.1 * p.2) : p = q := by
  obtain ⟨a, c⟩ := p
  obtain ⟨b, d⟩ := q
  obtain ⟨hc, h1⟩ := hp
  obtain ⟨hd, h2⟩ := hq
  simp only at hc h1 hd h2 h
  have d1 : c ∣ d := by
    have : c ∣ a * d := ⟨b, by rw [h, Int.mul_comm]⟩
    exact dvd_cop h1 this
  have d2 : d ∣ c := by
    have : d ∣ b * c := ⟨a, by rw [← h, Int.mul_comm]⟩
    exact dvd_cop h2 this
  have e : c = d := Int.le_antisymm (Int.le_of_dvd hd d1) (Int.le_of_dvd hc d2)
  subst e
  have e2 : a = b := Int.eq_of_mul_eq_mul_right (by omega) h
  rw [e2]
theorem low0_eq {u d : Int} (hd : d ≠ 0) : ∃ q1 q2, lowF 0 u d = (q1, q2) ∧ u = lowC u d * q1 ∧ d = lowC u d * q2 := by
  have hI : lowI 0 u d = none := by
    unfold lowI
    rw [if_neg (by decide)]
  have hc := lowC_ne (u := u) hd
  obtain ⟨⟨q1, e1⟩, q2, e2⟩ := lowC_dvd (u := u) (d := d)
  refine ⟨q1, q2, ?_, e1, e2⟩
  have f1 : u.fdiv (lowC u d) = q1 := by
    conv => lhs; lhs; rw [e1]
    exact Int.mul_fdiv_cancel_left _ hc
  have f2 : d.fdiv (lowC u d) = q2 := by
    conv => lhs; lhs; rw [e2]
    exact Int.mul_fdiv_cancel_left _ hc
  unfold lowF
  rw [hI]
  show (u.fdiv (lowC u d), d.fdiv (lowC u d)) = _
  rw [f1, f2]
theorem lowC_abs {u d : Int} : (lowC u d).natAbs = Int.gcd u d := by
  unfold lowC
  split
  · rw [Int.mul_neg, Int.mul_one, Int.natAbs_neg, Int.natAbs_natCast]
  · rw [Int.mul_one, Int.natAbs_natCast]
theorem low0_red {u d : Int} (hd : d ≠ 0) : Red (lowF 0 u d) ∧ (lowF 0 u d).1 * d = u * (lowF 0 u d).2 := by
  obtain ⟨q1, q2, e, e1, e2⟩ := low0_eq (u := u) hd
  have hc := lowC_ne (u := u) hd
  have ha := lowC_abs (u := u) (d := d)
  rw [e]
  refine ⟨⟨?_, ?_⟩, ?_⟩
  · show 0 < q2
    have hg : 0 < Int.gcd u d := by omega
    unfold lowC at e2
    by_cases h : d < 0
    · rw [if_pos h, Int.mul_neg, Int.mul_one] at e2
      rcases Int.lt_trichotomy q2 0 with z | z | z
      · have := Int.mul_nonneg_of_nonpos_of_nonpos (a := -(Int.gcd u d : Int)) (b := q2) (by omega) (by omega)
        omega
      · rw [z, Int.mul_zero] at e2; omega
      · exact z
    · rw [if_neg h, Int.mul_one] at e2
      rcases Int.lt_trichotomy q2 0 with z | z | z
      · have := Int.mul_nonpos_of_nonneg_of_nonpos (a := (Int.gcd u d : Int)) (b := q2) (by omega) (by omega)
        omega
      · rw [z, Int.mul_zero] at e2; omega
      · exact z
  · show Int.gcd q1 q2 = 1
    have h1 : Int.gcd (lowC u d * q1) (lowC u d * q2) = (lowC u d).natAbs * Int.gcd q1 q2 := Int.gcd_mul_left ..
    rw [← e1, ← e2, ha] at h1
    have hg : 0 < Int.gcd u d := by omega
    have h2 : Int.gcd u d * 1 = Int.gcd u d * Int.gcd q1 q2 := by rw [Nat.mul_one]; exact h1
    exact (Nat.eq_of_mul_eq_mul_left hg h2).symm
  · show q1 * d = u * q2
    conv => lhs; rw [e2]
    conv => rhs; rw [e1]
    rw [← Int.mul_assoc, Int.mul_comm q1]
theorem low0_uniq {p : Int × Int} {u d : Int} (hp : Red p) (hd : d ≠ 0) (h : p.1 * d = u * p.2) : lowF 0 u d = p := by
  obtain ⟨hr, he⟩ := low0_red (u := u) hd
  refine red_uniq hr hp ?_
  have : ((lowF 0 u d).1 * p.2) * d = (p.1 * (lowF 0 u d).2) * d := by
    calc ((lowF 0 u d).1 * p.2) * d = ((lowF 0 u d).1 * d) * p.2 := by rw [Int.mul_right_comm]
      _ = (u * (lowF 0 u d).2) * p.2 := by rw [he]
      _ = (u * p.2) * (lowF 0 u d).2 := by rw [Int.mul_right_comm]
      _ = (p.1 * d) * (lowF 0 u d).2 := by rw [h]
      _ = (p.1 * (lowF 0 u d).2) * d := by rw [Int.mul_right_comm]
  exact Int.eq_of_mul_eq_mul_right hd this
/-! ### wheels, over 1 -/
theorem low_one {g u : Int} (hg : 0 < g) : lowF g u 1 = (u.fmod g, 1) := by
  have h0 : 0 ≤ u.fmod g := Int.fmod_nonneg_of_pos u hg
  have h1 : u.fmod g < g := Int.fmod_lt_of_pos u hg
  have e : lowI g u 1 = some (u.fmod g).toNat := by
    unfold lowI
    rw [if_pos hg]
    refine List.find?_range_eq_some.mpr ⟨decide_eq_true ?_, List.mem_range.mpr (by omega), fun j hj => ?_⟩
    · rw [Int.mul_one, show (((u.fmod g).toNat : Nat) : Int) = u.fmod g by omega]
      rw [fmod_pos _ hg, fmod_pos _ hg]
      exact Int.emod_emod_of_dvd _ (Int.dvd_refl g)
    · have : ¬ ((j : Int) * 1).fmod g = u.fmod g := by
        rw [Int.mul_one, fmod_pos _ hg, Int.emod_eq_of_lt (by omega) (by omega)]
        omega
      rw [decide_eq_false this]
      rfl
  unfold lowF
  rw [e]
  show (((u.fmod g).toNat : Int), (1 : Int)) = _
  rw [show (((u.fmod g).toNat : Nat) : Int) = u.fmod g by omega]
/-! ### sums of products -/
def timesF (g : Int) (x y : Int × Int) : Int × Int := lowF g (x.1 * y.1) (x.2 * y.2)
def plusF (g : Int) (x y : Int × Int) : Int × Int := lowF g (x.1 * y.2 + y.1 * x.2) (x.2 * y.2)
theorem times_rel {x z : Int × Int} {t s B U : Int} (hx : x.2 ≠ 0) (hz : z.2 ≠ 0) (ht : t * x.2 = x.1 * B) (hs : s * z.2 = z.1 * U) : (timesF 0 x z).1 * (B * U) = t * s * (timesF 0 x z).2 := by
  have hn : x.2 * z.2 ≠ 0 := Int.mul_ne_zero hx hz
  have h := (low0_red (u := x.1 * z.1) hn).2
  have e : (timesF 0 x z).1 * (x.2 * z.2) = x.1 * z.1 * (timesF 0 x z).2 := h
  generalize timesF 0 x z = y at e
  have : (y.1 * (B * U)) * (x.2 * z.2) = (t * s * y.2) * (x.2 * z.2) := by
    calc (y.1 * (B * U)) * (x.2 * z.2) = (y.1 * (x.2 * z.2)) * (B * U) := by rw [Int.mul_right_comm]
      _ = (x.1 * z.1 * y.2) * (B * U) := by rw [e]
      _ = (x.1 * B) * (z.1 * U) * y.2 := by
        ac_rfl
      _ = (t * x.2) * (s * z.2) * y.2 := by rw [ht, hs]
      _ = (t * s * y.2) * (x.2 * z.2) := by
        ac_rfl
  exact Int.eq_of_mul_eq_mul_right hn this
theorem plus_rel {p y : Int × Int} {S T M : Int} (hp : p.2 ≠ 0) (hy : y.2 ≠ 0) (h1 : p.1 * M = S * p.2) (h2 : y.1 * M = T * y.2) : (plusF 0 p y).1 * M = (S + T) * (plusF 0 p y).2 := by
  have hn : p.2 * y.2 ≠ 0 := Int.mul_ne_zero hp hy
  have e : (plusF 0 p y).1 * (p.2 * y.2) = (p.1 * y.2 + y.1 * p.2) * (plusF 0 p y).2 := (low0_red (u := p.1 * y.2 + y.1 * p.2) hn).2
  generalize plusF 0 p y = z at e
  have : (z.1 * M) * (p.2 * y.2) = ((S + T) * z.2) * (p.2 * y.2) := by
    calc (z.1 * M) * (p.2 * y.2) = (z.1 * (p.2 * y.2)) * M := by rw [Int.mul_right_comm]
      _ = ((p.1 * y.2 + y.1 * p.2) * z.2) * M := by rw [e]
      _ = ((p.1 * M) * y.2 + (y.1 * M) * p.2) * z.2 := by
        rw [Int.mul_right_comm, Int.add_mul, Int.mul_right_comm p.1, Int.mul_right_comm y.1]
      _ = ((S * p.2) * y.2 + (T * y.2) * p.2) * z.2 := by rw [h1, h2]
      _ = ((S + T) * z.2) * (p.2 * y.2) := by
        rw [Int.mul_assoc S, Int.mul_assoc T, Int.mul_comm y.2 p.2, ← Int.add_mul, Int.mul_right_comm]
  exact Int.eq_of_mul_eq_mul_right hn this
/-! ### rows as whole numbers over one bottom -/
def dotF (ts ss : List Int) : Int := (List.zipWith (fun a b => a * b) ts ss).sum
def wrB (r : List (Int × Int)) : Int := r.foldl (fun b x => b.fdiv (Int.gcd b x.2 : Int) * x.2) 1
def wrT (r : List (Int × Int)) : List Int := r.map fun x => x.1 * (wrB r).fdiv x.2
theorem lcm_step {b c : Int} (hb : 0 < b) (hc : 0 < c) : 0 < b.fdiv (Int.gcd b c : Int) * c ∧ b ∣ b.fdiv (Int.gcd b c : Int) * c ∧ c ∣ b.fdiv (Int.gcd b c : Int) * c ∧ ∀ L, b ∣ L → c ∣ L → b.fdiv (Int.gcd b c : Int) * c ∣ L := by
  have hg : 0 < Int.gcd b c := Nat.pos_of_ne_zero fun z => by
    have := (Int.gcd_eq_zero_iff.mp z).2
    omega
  have hg' : (0 : Int) < (Int.gcd b c : Int) := by omega
  obtain ⟨q1, e1⟩ := Int.gcd_dvd_left b c
  obtain ⟨q2, e2⟩ := Int.gcd_dvd_right b c
  have f1 : b.fdiv (Int.gcd b c : Int) = q1 := by
    conv => lhs; lhs; rw [e1]
    exact Int.mul_fdiv_cancel_left _ (by omega)
  rw [f1]
  have hq1 : 0 < q1 := Int.pos_of_mul_pos_right (by rw [← e1]; exact hb) hg'
  have hcop : Int.gcd q1 q2 = 1 := by
    have h1 : Int.gcd ((Int.gcd b c : Int) * q1) ((Int.gcd b c : Int) * q2) = ((Int.gcd b c : Int)).natAbs * Int.gcd q1 q2 := Int.gcd_mul_left ..
    rw [← e1, ← e2, Int.natAbs_natCast] at h1
    have h2 : Int.gcd b c * 1 = Int.gcd b c * Int.gcd q1 q2 := by rw [Nat.mul_one]; exact h1
    exact (Nat.eq_of_mul_eq_mul_left hg h2).symm
  refine ⟨Int.mul_pos hq1 hc, ⟨q2, ?_⟩, ⟨q1, Int.mul_comm _ _⟩, fun L h1 h2 => ?_⟩
  · conv => lhs; rw [e2]
    conv => rhs; rw [e1]
    ac_rfl
  · obtain ⟨k1, hk1⟩ := h1
    obtain ⟨k2, hk2⟩ := h2
    have h3 : q1 * k1 = q2 * k2 := by
      have : (Int.gcd b c : Int) * (q1 * k1) = (Int.gcd b c : Int) * (q2 * k2) := by
        rw [← Int.mul_assoc, ← Int.mul_assoc, ← e1, ← e2, ← hk1, ← hk2]
      exact Int.eq_of_mul_eq_mul_left (by omega) this
    have h4 : q1 ∣ k2 := dvd_cop (a := q2) (by rw [Int.gcd_comm]; exact hcop) ⟨k1, by rw [← h3]⟩
    obtain ⟨k3, hk3⟩ := h4
    exact ⟨k3, by rw [hk2, hk3]; ac_rfl⟩
theorem wr_fold : ∀ (r : List (Int × Int)) (b : Int), 0 < b → (∀ x ∈ r, 0 < x.2) → 0 < r.foldl (fun b x => b.fdiv (Int.gcd b x.2 : Int) * x.2) b ∧ b ∣ r.foldl (fun b x => b.fdiv (Int.gcd b x.2 : Int) * x.2) b ∧ (∀ x ∈ r, x.2 ∣ r.foldl (fun b x => b.fdiv (Int.gcd b x.2 : Int) * x.2) b) ∧ ∀ L, b ∣ L → (∀ x ∈ r, x.2 ∣ L) → r.foldl (fun b x => b.fdiv (Int.gcd b x.2 : Int) * x.2) b ∣ L
  | [], b, hb, _ => ⟨hb, Int.dvd_refl b, fun x hx => (by cases hx), fun L h _ => h⟩
  | x :: r, b, hb, h => by
    obtain ⟨s1, s2, s3, s4⟩ := lcm_step hb (h x (List.mem_cons_self ..))
    obtain ⟨t1, t2, t3, t4⟩ := wr_fold r _ s1 fun y hy => h y (List.mem_cons_of_mem _ hy)
    rw [List.foldl_cons]
    refine ⟨t1, Int.dvd_trans s2 t2, fun y hy => ?_, fun L h1 h2 => ?_⟩
    · rcases List.mem_cons.mp hy with rfl | hy
      · exact Int.dvd_trans s3 t2
      · exact t3 y hy
    · exact t4 L (s4 L h1 (h2 x (List.mem_cons_self ..))) fun y hy => h2 y (List.mem_cons_of_mem _ hy)
theorem wrB_spec {r : List (Int × Int)} (h : ∀ x ∈ r, 0 < x.2) : 0 < wrB r ∧ (∀ x ∈ r, x.2 ∣ wrB r) ∧ ∀ L, (∀ x ∈ r, x.2 ∣ L) → wrB r ∣ L := by
  obtain ⟨h1, _, h3, h4⟩ := wr_fold r 1 (by decide) h
  exact ⟨h1, h3, fun L h => h4 L (Int.one_dvd L) h⟩
def RelL (B : Int) : List (Int × Int) → List Int → Prop
  | [], [] => True
  | x :: xs, t :: ts => (0 < x.2 ∧ t * x.2 = x.1 * B) ∧ RelL B xs ts
  | _, _ => False
theorem rel_of {B : Int} : ∀ {r : List (Int × Int)}, (∀ x ∈ r, 0 < x.2 ∧ x.2 ∣ B) → RelL B r (r.map fun x => x.1 * B.fdiv x.2)
  | [], _ => True.intro
  | x :: r, h => by
    obtain ⟨h1, k, hk⟩ := h x (List.mem_cons_self ..)
    refine ⟨⟨h1, ?_⟩, rel_of fun y hy => h y (List.mem_cons_of_mem _ hy)⟩
    have e : B.fdiv x.2 = k := by
      rw [hk]
      exact Int.mul_fdiv_cancel_left _ (by omega)
    show x.1 * B.fdiv x.2 * x.2 = x.1 * B
    rw [e, hk]
    ac_rfl
theorem wr_rel {r : List (Int × Int)} (h : ∀ x ∈ r, 0 < x.2) : RelL (wrB r) r (wrT r) := rel_of fun x hx => ⟨h x hx, (wrB_spec h).2.1 x hx⟩
def cellF (g : Int) (r s : List (Int × Int)) : Int × Int := (List.zipWith (timesF g) r s).foldl (plusF g) (0, 1)
theorem cell_fold {B U : Int} : ∀ (xs zs : List (Int × Int)) (ts ss : List Int) (p : Int × Int) (S : Int), Red p → p.1 * (B * U) = S * p.2 → RelL B xs ts → RelL U zs ss → Red ((List.zipWith (timesF 0) xs zs).foldl (plusF 0) p) ∧ ((List.zipWith (timesF 0) xs zs).foldl (plusF 0) p).1 * (B * U) = (S + dotF ts ss) * ((List.zipWith (timesF 0) xs zs).foldl (plusF 0) p).2
  | [], zs, ts, ss, p, S, hp, h, h1, _ => by
    cases ts with
    | nil => exact ⟨hp, by simp only [List.zipWith_nil_left, List.foldl_nil, dotF, List.sum_nil, Int.add_zero]; exact h⟩
    | cons t ts => exact h1.elim
  | x :: xs, [], ts, ss, p, S, hp, h, _, h2 => by
    cases ss with
    | nil => exact ⟨hp, by simp only [List.zipWith_nil_right, List.foldl_nil, dotF, List.sum_nil, Int.add_zero]; exact h⟩
    | cons t ts => exact h2.elim
  | x :: xs, z :: zs, [], ss, p, S, hp, h, h1, _ => h1.elim
  | x :: xs, z :: zs, t :: ts, [], p, S, hp, h, _, h2 => h2.elim
  | x :: xs, z :: zs, t :: ts, s :: ss, p, S, hp, h, h1, h2 => by
    obtain ⟨⟨hx, ht⟩, h1⟩ := h1
    obtain ⟨⟨hz, hs⟩, h2⟩ := h2
    have hxz : x.2 * z.2 ≠ 0 := Int.mul_ne_zero (by omega) (by omega)
    have hT := (low0_red (u := x.1 * z.1) hxz).1
    have e1 := times_rel (x := x) (z := z) (t := t) (s := s) (B := B) (U := U) (by omega) (by omega) ht hs
    have hy : 0 < (timesF 0 x z).2 := hT.1
    have e2 := plus_rel (p := p) (y := timesF 0 x z) (M := B * U) (by have := hp.1; omega) (by omega) h e1
    have hR : Red (plusF 0 p (timesF 0 x z)) := (low0_red (Int.mul_ne_zero (by have := hp.1; omega) (by omega))).1
    have ih := cell_fold xs zs ts ss _ _ hR e2 h1 h2
    rw [List.zipWith_cons_cons, List.foldl_cons]
    refine ⟨ih.1, ?_⟩
    rw [ih.2]
    simp only [dotF, List.zipWith_cons_cons, List.sum_cons]
    rw [Int.add_assoc]
theorem cell_zero {r s : List (Int × Int)} (hr : ∀ x ∈ r, 0 < x.2) (hs : ∀ x ∈ s, 0 < x.2) : cellF 0 r s = lowF 0 (dotF (wrT r) (wrT s)) (wrB r * wrB s) := by
  have hB := (wrB_spec hr).1
  have hU := (wrB_spec hs).1
  have h := cell_fold r s (wrT r) (wrT s) (0, 1) 0 ⟨by decide, by decide⟩ (by simp) (wr_rel hr) (wr_rel hs)
  rw [Int.zero_add] at h
  exact (low0_uniq h.1 (Int.mul_ne_zero (by omega) (by omega)) h.2).symm
/-! ### the same on wheels -/
theorem fmod_add {g a b : Int} (hg : 0 < g) : (a.fmod g + b).fmod g = (a + b).fmod g := by
  rw [fmod_pos _ hg, fmod_pos _ hg, fmod_pos _ hg, Int.emod_add_emod]
theorem fmod_add2 {g a b : Int} (hg : 0 < g) : (a + b.fmod g).fmod g = (a + b).fmod g := by
  rw [fmod_pos _ hg, fmod_pos _ hg, fmod_pos _ hg, Int.add_emod_emod]
theorem cell_wheel_fold {g : Int} (hg : 0 < g) : ∀ (xs zs : List (Int × Int)) (S : Int), (∀ x ∈ xs, x.2 = 1) → (∀ x ∈ zs, x.2 = 1) → (List.zipWith (timesF g) xs zs).foldl (plusF g) (S.fmod g, 1) = ((S + dotF (xs.map (·.1)) (zs.map (·.1))).fmod g, 1)
  | [], zs, S, _, _ => by simp [dotF]
  | x :: xs, [], S, _, _ => by simp [dotF]
  | x :: xs, z :: zs, S, h1, h2 => by
    have e1 := h1 x (List.mem_cons_self ..)
    have e2 := h2 z (List.mem_cons_self ..)
    have et : timesF g x z = ((x.1 * z.1).fmod g, 1) := by
      unfold timesF
      rw [e1, e2, Int.mul_one, low_one hg]
    have ep : plusF g (S.fmod g, 1) (timesF g x z) = ((S + x.1 * z.1).fmod g, 1) := by
      unfold plusF
      rw [et]
      show lowF g (S.fmod g * 1 + (x.1 * z.1).fmod g * 1) (1 * 1) = _
      rw [Int.mul_one, Int.mul_one, Int.mul_one, low_one hg, fmod_add hg, fmod_add2 hg]
    rw [List.zipWith_cons_cons, List.foldl_cons, ep, cell_wheel_fold hg xs zs _ (fun y hy => h1 y (List.mem_cons_of_mem _ hy)) (fun y hy => h2 y (List.mem_cons_of_mem _ hy))]
    simp only [dotF, List.map_cons, List.zipWith_cons_cons, List.sum_cons]
    rw [Int.add_assoc]
theorem wrB_one : ∀ {r : List (Int × Int)}, (∀ x ∈ r, x.2 = 1) → wrB r = 1 := by
  intro r
  unfold wrB
  induction r with
  | nil => intro _; rfl
  | cons x r ih =>
    intro h
    rw [List.foldl_cons, h x (List.mem_cons_self ..)]
    show r.foldl _ ((1 : Int).fdiv (Int.gcd 1 1 : Int) * 1) = 1
    have e : (1 : Int).fdiv (Int.gcd 1 1 : Int) * 1 = 1 := by decide
    rw [e]
    exact ih fun y hy => h y (List.mem_cons_of_mem _ hy)
theorem wrT_one {r : List (Int × Int)} (h : ∀ x ∈ r, x.2 = 1) : wrT r = r.map (·.1) := by
  unfold wrT
  rw [wrB_one h]
  refine List.map_congr_left fun x hx => ?_
  rw [h x hx]
  show x.1 * (1 : Int).fdiv 1 = x.1
  rw [show (1 : Int).fdiv 1 = 1 from by decide, Int.mul_one]
theorem cell_eq {g : Int} {r s : List (Int × Int)} (h : (g = 0 ∧ (∀ x ∈ r, 0 < x.2) ∧ ∀ x ∈ s, 0 < x.2) ∨ (0 < g ∧ (∀ x ∈ r, x.2 = 1) ∧ ∀ x ∈ s, x.2 = 1)) : cellF g r s = lowF g (dotF (wrT r) (wrT s)) (wrB r * wrB s) := by
  rcases h with ⟨rfl, h1, h2⟩ | ⟨hg, h1, h2⟩
  · exact cell_zero h1 h2
  · rw [wrB_one h1, wrB_one h2, wrT_one h1, wrT_one h2, Int.mul_one, low_one hg]
    have h := cell_wheel_fold hg r s 0 h1 h2
    have e0 : (0 : Int).fmod g = 0 := by rw [fmod_pos _ hg]; exact Int.zero_emod g
    rw [e0, Int.zero_add] at h
    exact h
end Fm

namespace Fm
open PySem PySem.Spec PyProof.Rows L2
def rTupOf (K : PySem.W.Frag) : List V → Hp → VK → Prop := fun xs H Q => ∃ p ys, xs = [.ref p] ∧ ((SqL K H p ys ∧ ∀ l, H l = none → Q (.ref l) (upd H l (.tup ys))) ∨ (SqT K H p ys ∧ Q (.ref p) H))
theorem call_tupOf {X : Cx} : CallR X (.type "tuple") (rTupOf X.K) := call_tuple_of
theorem w_tupOf2 {K : PySem.W.Frag} {H : Hp} {Q : VK} {p : Addr} {ys : List V} (h : H p = some (.lst ys)) (q : NewO (.tup ys) H Q) : rTupOf K [.ref p] H Q := ⟨p, ys, rfl, .inl ⟨SqL.of h, q⟩⟩
theorem fmod_mul {g a b : Int} (hg : 0 < g) : (a.fmod g * b).fmod g = (a * b).fmod g := by
  rw [fmod_pos _ hg, fmod_pos _ hg, fmod_pos _ hg, Int.mul_emod, Int.emod_emod_of_dvd _ (Int.dvd_refl g), ← Int.mul_emod]
theorem fmod_mul2 {g a b : Int} (hg : 0 < g) : (a * b.fmod g).fmod g = (a * b).fmod g := by
  rw [Int.mul_comm, fmod_mul hg, Int.mul_comm]
theorem fmod_of_lt {g a : Int} (h0 : 0 ≤ a) (h1 : a < g) : a.fmod g = a := by
  rw [fmod_pos _ (by omega), Int.emod_eq_of_lt h0 h1]
/-- over what has a back on the wheel -/
theorem low_inv {g u d f : Int} (hg : 0 < g) (hf : (f * d).fmod g = 1) : lowF g u d = ((u * f).fmod g, 1) := by
  have h0 : 0 ≤ (u * f).fmod g := Int.fmod_nonneg_of_pos _ hg
  have h1 : (u * f).fmod g < g := Int.fmod_lt_of_pos _ hg
  have ee : ∀ z : Int, (z * (f * d)).fmod g = z.fmod g := fun z => by
    rw [← fmod_mul2 hg, hf, Int.mul_one]
  have e : lowI g u d = some ((u * f).fmod g).toNat := by
    unfold lowI
    rw [if_pos hg]
    refine List.find?_range_eq_some.mpr ⟨decide_eq_true ?_, List.mem_range.mpr (by omega), fun j hj => ?_⟩
    · rw [show ((((u * f).fmod g).toNat : Nat) : Int) = (u * f).fmod g by omega, fmod_mul hg, Int.mul_assoc]
      exact ee u
    · have : ¬ ((j : Int) * d).fmod g = u.fmod g := fun z => by
        have h2 : ((j : Int) * d * f).fmod g = (u * f).fmod g := by
          rw [← fmod_mul hg, z, fmod_mul hg]
        have h3 : ((j : Int) * d * f).fmod g = (j : Int) := by
          rw [Int.mul_assoc, Int.mul_comm d f, ee, fmod_of_lt (by omega) (by omega)]
        omega
      rw [decide_eq_false this]
      rfl
  unfold lowF
  rw [e]
  show ((((u * f).fmod g).toNat : Int), (1 : Int)) = _
  rw [show ((((u * f).fmod g).toNat : Nat) : Int) = (u * f).fmod g by omega]
theorem log_small {a : Int} {k : Nat} (h : a.natAbs < 2 ^ k) (hk : 0 < k) : a.natAbs.log2 < k := PySem.Flt.log2_lt_of hk h
/-- a number of a ground, of less than k bits -/
def OkN (g : Int) (k : Nat) (a : Int × Int) : Prop := a.1.natAbs < 2 ^ k ∧ a.2.natAbs < 2 ^ k ∧ ((g = 0 ∧ 0 < a.2) ∨ (3 ≤ g ∧ g ≤ 13 ∧ a.2 = 1))
theorem OkN.pos {g : Int} {k : Nat} {a : Int × Int} (h : OkN g k a) : 0 < a.2 := by
  rcases h.2.2 with h | h
  · exact h.2
  · omega
theorem step_le {b c : Int} {k m : Nat} (hb : 0 < b) (hc : 0 < c) (h1 : b.natAbs ≤ 2 ^ m) (h2 : c.natAbs < 2 ^ k) : (b.fdiv (Int.gcd b c : Int) * c).natAbs ≤ 2 ^ (m + k) ∧ (b.fdiv (Int.gcd b c : Int)).natAbs ≤ 2 ^ m ∧ (Int.gcd b c : Int) ≠ 0 ∧ ((Int.gcd b c : Int)).natAbs < 2 ^ k := by
  have hg : 0 < Int.gcd b c := Nat.pos_of_ne_zero fun z => by
    have := (Int.gcd_eq_zero_iff.mp z).2
    omega
  have hle : (b.fdiv (Int.gcd b c : Int)).natAbs ≤ b.natAbs := by
    obtain ⟨q, e⟩ := Int.gcd_dvd_left b c
    have f1 : b.fdiv (Int.gcd b c : Int) = q := by
      conv => lhs; lhs; rw [e]
      exact Int.mul_fdiv_cancel_left _ (by omega)
    rw [f1]
    have := natAbs_fac (c := (Int.gcd b c : Int)) (q := q) (by omega)
    rw [← e] at this
    exact this
  have hgc : (Int.gcd b c : Int) ≤ c := Int.le_of_dvd hc (Int.gcd_dvd_right b c)
  refine ⟨?_, Nat.le_trans hle h1, by omega, by omega⟩
  rw [Int.natAbs_mul, Nat.pow_add]
  exact Nat.mul_le_mul (Nat.le_trans hle h1) (Nat.le_of_lt h2)
theorem wrB_take {r : List (Int × Int)} {i : Nat} {x : Int × Int} (h : r[i]? = some x) : wrB (r.take (i + 1)) = (wrB (r.take i)).fdiv (Int.gcd (wrB (r.take i)) x.2 : Int) * x.2 := by
  unfold wrB
  rw [List.take_add_one, h]
  simp [List.foldl_append]
theorem wrB_le {k : Nat} : ∀ (r : List (Int × Int)) (b : Int) (m : Nat), 0 < b → b.natAbs ≤ 2 ^ m → (∀ x ∈ r, 0 < x.2 ∧ x.2.natAbs < 2 ^ k) → (r.foldl (fun b x => b.fdiv (Int.gcd b x.2 : Int) * x.2) b).natAbs ≤ 2 ^ (m + k * r.length)
  | [], b, m, _, h, _ => by simpa using h
  | x :: r, b, m, hb, h, hr => by
    have hx := hr x (List.mem_cons_self ..)
    have s := step_le hb hx.1 h hx.2
    rw [List.foldl_cons]
    have := wrB_le r _ (m + k) (lcm_step hb hx.1).1 s.1 fun y hy => hr y (List.mem_cons_of_mem _ hy)
    rw [show m + k * (x :: r).length = m + k + k * r.length by rw [List.length_cons, Nat.mul_succ]; omega]
    exact this
theorem wrB_bd {k : Nat} {r : List (Int × Int)} (h : ∀ x ∈ r, 0 < x.2 ∧ x.2.natAbs < 2 ^ k) : (wrB r).natAbs ≤ 2 ^ (k * r.length) := by
  have := wrB_le r 1 0 (by decide) (by decide) h
  rw [Nat.zero_add] at this
  exact this
theorem w_aug {i : Nat} {te : TE} {ti : TIp} {D : Ends} {σ : L2.St} {H : Hp} {x : V} (h : σ[i]? = some (some x)) (q : te σ H fun y H1 => ti x y H1 fun z H2 => D.nx (σ.set i (some z)) H2) : tAug i te ti D σ H := ⟨x, h, q⟩
/-- a row as whole numbers over one bottom, as an object -/
def WR (H : Hp) (v : V) (ts : List Int) (B : Int) : Prop := ∃ p L, v = .ref p ∧ H p = some (.tup [.ref L, .int B]) ∧ H L = some (.lst (ts.map V.int))
theorem WR.sm {H H' : Hp} {v : V} {ts : List Int} {B : Int} (h : WR H v ts B) (s : Same H H') : WR H' v ts B := by
  obtain ⟨p, L, e, h1, h2⟩ := h
  exact ⟨p, L, e, s _ _ h1, s _ _ h2⟩
theorem wrT_bd {g : Int} {k : Nat} {r : List (Int × Int)} (h : ∀ x ∈ r, OkN g k x) : ∀ t ∈ wrT r, t.natAbs ≤ 2 ^ (k + k * r.length) := by
  intro t ht
  obtain ⟨x, hx, rfl⟩ := List.mem_map.mp ht
  have hp : ∀ x ∈ r, 0 < x.2 := fun x hx => (h x hx).pos
  have hB := wrB_bd (k := k) (r := r) fun x hx => ⟨hp x hx, (h x hx).2.1⟩
  obtain ⟨q, e⟩ := (wrB_spec hp).2.1 x hx
  have f1 : (wrB r).fdiv x.2 = q := by
    rw [e]
    exact Int.mul_fdiv_cancel_left _ (by have := hp x hx; omega)
  rw [f1, Int.natAbs_mul, Nat.pow_add]
  have h2 := natAbs_fac (c := x.2) (q := q) (by have := hp x hx; omega)
  rw [← e] at h2
  exact Nat.mul_le_mul (Nat.le_of_lt (h x hx).1) (Nat.le_trans h2 hB)
theorem le_lt {a : Int} {k m : Nat} (h : a.natAbs ≤ 2 ^ k) (hk : k < m) : a.natAbs < 2 ^ m := Nat.lt_of_le_of_lt h (Nat.pow_lt_pow_right (by decide) hk)
theorem mulW_le {a b : Int} {k m : Nat} (h1 : a.natAbs ≤ 2 ^ k) (h2 : b.natAbs ≤ 2 ^ m) (hk : k + m ≤ 100000) : CMulW a b := wide_mul (a := k + 1) (b := m + 1) (le_lt h1 (by omega)) (le_lt h2 (by omega)) (by omega) (by omega) (by omega)
/-! ### what is gathered, item by item -/
def Acc {α : Type} (P : Hp → V → α → Prop) (H : Hp) (ys : List V) (as : List α) (i : Nat) : Prop := ys.length = i ∧ ∀ (j : Nat) (x : V) (a : α), ys[j]? = some x → as[j]? = some a → P H x a
theorem Acc.nil {α : Type} {P : Hp → V → α → Prop} {H : Hp} {as : List α} : Acc P H [] as 0 := ⟨rfl, fun j x a h _ => by simp at h⟩
theorem Acc.mono {α : Type} {P : Hp → V → α → Prop} {H H' : Hp} {ys : List V} {as : List α} {i : Nat} (h : Acc P H ys as i) (f : ∀ x a, P H x a → P H' x a) : Acc P H' ys as i := ⟨h.1, fun j x a h1 h2 => f x a (h.2 j x a h1 h2)⟩
theorem Acc.snoc {α : Type} {P : Hp → V → α → Prop} {H : Hp} {ys : List V} {as : List α} {i : Nat} {v : V} {a : α} (h : Acc P H ys as i) (ha : as[i]? = some a) (hv : P H v a) : Acc P H (ys ++ [v]) as (i + 1) := by
  refine ⟨by rw [List.length_append, h.1]; rfl, fun j x b h1 h2 => ?_⟩
  by_cases hj : j < ys.length
  · rw [List.getElem?_append_left hj] at h1
    exact h.2 j x b h1 h2
  · rw [List.getElem?_append_right (by omega)] at h1
    have e : j - ys.length = 0 := by
      have := (List.getElem?_eq_some_iff.mp h1).1
      rw [List.length_singleton] at this
      omega
    rw [e] at h1
    cases Option.some.inj h1
    have e2 : j = i := by have := h.1; omega
    rw [e2, ha] at h2
    cases Option.some.inj h2
    exact hv
theorem Acc.sq {α : Type} {P : Hp → V → α → Prop} {H : Hp} {ys : List V} {as : List α} {i : Nat} {p : Addr} (h : Acc P H ys as i) (hi : i = as.length) (hp : H p = some (.tup ys)) : SqV P H (.ref p) as := ⟨p, ys, rfl, hp, by rw [h.1, hi], h.2⟩
/-- such a row whose list is another one than the one at D -/
def WRn (D : Addr) (H : Hp) (v : V) (s : List (Int × Int)) : Prop := ∃ p L, v = .ref p ∧ L ≠ D ∧ H p = some (.tup [.ref L, .int (wrB s)]) ∧ H L = some (.lst ((wrT s).map V.int))
theorem WRn.sm {D : Addr} {H H' : Hp} {v : V} {s : List (Int × Int)} (h : WRn D H v s) (e : Same H H') : WRn D H' v s := by
  obtain ⟨p, L, e1, n, h1, h2⟩ := h
  exact ⟨p, L, e1, n, e _ _ h1, e _ _ h2⟩
theorem WRn.upd {D : Addr} {H : Hp} {v : V} {s : List (Int × Int)} {xs : List V} {o : HO} (h : WRn D H v s) (hD : H D = some (.lst xs)) : WRn D (upd H D o) v s := by
  obtain ⟨p, L, e1, n, h1, h2⟩ := h
  exact ⟨p, L, e1, n, Kt.updL hD _ _ h1, by rw [upd_ne n]; exact h2⟩
theorem dot_bd {m : Nat} : ∀ {ts ss : List Int}, (∀ t ∈ ts, t.natAbs ≤ 2 ^ m) → (∀ t ∈ ss, t.natAbs ≤ 2 ^ m) → (dotF ts ss).natAbs ≤ ts.length * 2 ^ (m + m)
  | [], ss, _, _ => by simp [dotF]
  | t :: ts, [], _, _ => by simp [dotF]
  | t :: ts, s :: ss, h1, h2 => by
    have ih := dot_bd (ts := ts) (ss := ss) (fun y hy => h1 y (List.mem_cons_of_mem _ hy)) (fun y hy => h2 y (List.mem_cons_of_mem _ hy))
    have e : dotF (t :: ts) (s :: ss) = t * s + dotF ts ss := by simp [dotF]
    have h3 : (t * s).natAbs ≤ 2 ^ (m + m) := by
      rw [Int.natAbs_mul, Nat.pow_add]
      exact Nat.mul_le_mul (h1 t (List.mem_cons_self ..)) (h2 s (List.mem_cons_self ..))
    rw [e, List.length_cons, Nat.succ_mul]
    omega
def turnF (l : Nat) (t : List (List (Int × Int))) : List (List (Int × Int)) := (List.range l).map fun j => t.map fun row => row.getD j (0, 1)
theorem turn_at {l j : Nat} {t : List (List (Int × Int))} (h : j < l) : (turnF l t)[j]? = some (t.map fun row => row.getD j (0, 1)) := by
  unfold turnF
  rw [List.getElem?_map, List.getElem?_range h]
  rfl
theorem wrT_len (r : List (Int × Int)) : (wrT r).length = r.length := by
  unfold wrT
  rw [List.length_map]
/-- what lowest wants of a sum of products -/
theorem cell_ok {g : Int} {k : Nat} {r s : List (Int × Int)} (hg : g = 0 ∨ (3 ≤ g ∧ g ≤ 13)) (hr : ∀ x ∈ r, OkN g k x) (hs : ∀ x ∈ s, OkN g k x) (hk : k ≤ 400) (hl : r.length ≤ 10) (hl2 : s.length ≤ 10) :
    (g = 0 ∧ wrB r * wrB s ≠ 0 ∧ (wrB r * wrB s).natAbs < 2 ^ 8500) ∨ (3 ≤ g ∧ (dotF (wrT r) (wrT s)).natAbs < 2 ^ 50000 ∧ ∃ k : Int, 1 ≤ k ∧ k ≤ 13 ∧ (k * (wrB r * wrB s)).fmod g = 1) := by
  have p1 : ∀ x ∈ r, 0 < x.2 := fun x h => (hr x h).pos
  have p2 : ∀ x ∈ s, 0 < x.2 := fun x h => (hs x h).pos
  have e1 : k * r.length ≤ 4000 := Nat.mul_le_mul hk hl
  have e2 : k * s.length ≤ 4000 := Nat.mul_le_mul hk hl2
  rcases hg with rfl | ⟨h3, h13⟩
  · refine .inl ⟨rfl, Int.mul_ne_zero (by have := (wrB_spec p1).1; omega) (by have := (wrB_spec p2).1; omega), ?_⟩
    have b1 := wrB_bd (k := k) (r := r) fun x h => ⟨p1 x h, (hr x h).2.1⟩
    have b2 := wrB_bd (k := k) (r := s) fun x h => ⟨p2 x h, (hs x h).2.1⟩
    rw [Int.natAbs_mul]
    refine Nat.lt_of_le_of_lt (Nat.mul_le_mul b1 b2) ?_
    rw [← Nat.pow_add]
    exact Nat.pow_lt_pow_right (by decide) (by omega)
  · have o1 : ∀ x ∈ r, x.2 = 1 := fun x h => by
      rcases (hr x h).2.2 with z | z
      · omega
      · exact z.2.2
    have o2 : ∀ x ∈ s, x.2 = 1 := fun x h => by
      rcases (hs x h).2.2 with z | z
      · omega
      · exact z.2.2
    refine .inr ⟨h3, ?_, 1, by decide, by decide, ?_⟩
    · have b1 := wrT_bd hr
      have b2 := wrT_bd hs
      have c1 : ∀ t ∈ wrT r, t.natAbs ≤ 2 ^ 4400 := fun t h => Nat.le_trans (b1 t h) (Nat.pow_le_pow_right (by decide) (by omega))
      have c2 : ∀ t ∈ wrT s, t.natAbs ≤ 2 ^ 4400 := fun t h => Nat.le_trans (b2 t h) (Nat.pow_le_pow_right (by decide) (by omega))
      have d := dot_bd c1 c2
      rw [wrT_len] at d
      refine Nat.lt_of_le_of_lt (Nat.le_trans d (Nat.mul_le_mul_right _ (show r.length ≤ 2 ^ 4 by omega))) ?_
      rw [← Nat.pow_add]
      exact Nat.pow_lt_pow_right (by decide) (by decide)
    · rw [wrB_one o1, wrB_one o2]
      show (1 : Int).fmod g = 1
      exact fmod_of_lt (by decide) (by omega)
theorem cell_is {g : Int} {k : Nat} {r s : List (Int × Int)} (hg : g = 0 ∨ (3 ≤ g ∧ g ≤ 13)) (hr : ∀ x ∈ r, OkN g k x) (hs : ∀ x ∈ s, OkN g k x) : cellF g r s = lowF g (dotF (wrT r) (wrT s)) (wrB r * wrB s) := by
  refine cell_eq ?_
  rcases hg with rfl | ⟨h3, h13⟩
  · exact .inl ⟨rfl, fun x h => (hr x h).pos, fun x h => (hs x h).pos⟩
  · refine .inr ⟨by omega, fun x h => ?_, fun x h => ?_⟩
    · rcases (hr x h).2.2 with z | z
      · omega
      · exact z.2.2
    · rcases (hs x h).2.2 with z | z
      · omega
      · exact z.2.2
end Fm

namespace Fm
open PySem PySem.Spec PyProof.Rows L2
/-! ### things of some depth, their whole numbers of less than k bits -/
def AtB (k : Nat) : V → Prop
  | .int i => i.natAbs < 2 ^ k
  | .non => True
  | .bl _ => True
  | .str _ => True
  | _ => False
theorem AtB.atom {k : Nat} {v : V} (h : AtB k v) : atomB v = true := by
  cases v <;> first | rfl | cases h
def IsL (H : Hp) (v : V) : Prop := ∃ p xs, v = .ref p ∧ H p = some (.lst xs)
def TB (k : Nat) : Nat → Hp → V → Prop
  | 0, H, v => AtB k v ∨ IsL H v
  | n + 1, H, v => AtB k v ∨ IsL H v ∨ ∃ p xs, v = .ref p ∧ H p = some (.tup xs) ∧ xs.length ≤ 100 ∧ ∀ x ∈ xs, TB k n H x
theorem IsL.kd {H H' : Hp} {v : V} (h : IsL H v) (e : Kd H H') : IsL H' v := by
  obtain ⟨p, xs, e1, h1⟩ := h
  obtain ⟨ys, h2⟩ := e.2 p xs h1
  exact ⟨p, ys, e1, h2⟩
theorem TB.kd {k : Nat} {H H' : Hp} (e : Kd H H') : ∀ {n : Nat} {v : V}, TB k n H v → TB k n H' v
  | 0, v, h => by
    rcases h with h | h
    · exact .inl h
    · exact .inr (h.kd e)
  | n + 1, v, h => by
    rcases h with h | h | ⟨p, xs, e1, h1, hz, hx⟩
    · exact .inl h
    · exact .inr (.inl (h.kd e))
    · exact .inr (.inr ⟨p, xs, e1, e.1 _ _ h1, hz, fun x m => TB.kd e (hx x m)⟩)
theorem TB.up {k : Nat} {H : Hp} : ∀ {n : Nat} {v : V}, TB k n H v → TB k (n + 1) H v
  | 0, v, h => by
    rcases h with h | h
    · exact .inl h
    · exact .inr (.inl h)
  | n + 1, v, h => by
    rcases h with h | h | ⟨p, xs, e1, h1, hz, hx⟩
    · exact .inl h
    · exact .inr (.inl h)
    · exact .inr (.inr ⟨p, xs, e1, h1, hz, fun x m => TB.up (hx x m)⟩)
theorem TB.wide {k l : Nat} {H : Hp} (hl : k ≤ l) : ∀ {n : Nat} {v : V}, TB k n H v → TB l n H v
  | 0, v, h => by
    rcases h with h | h
    · left; cases v <;> first | exact Nat.lt_of_lt_of_le h (Nat.pow_le_pow_right (by decide) hl) | exact h
    · exact .inr h
  | n + 1, v, h => by
    rcases h with h | h | ⟨p, xs, e1, h1, hz, hx⟩
    · left; cases v <;> first | exact Nat.lt_of_lt_of_le h (Nat.pow_le_pow_right (by decide) hl) | exact h
    · exact .inr (.inl h)
    · exact .inr (.inr ⟨p, xs, e1, h1, hz, fun x m => TB.wide hl (hx x m)⟩)
theorem TB.tup {k n : Nat} {H : Hp} {p : Addr} {xs : List V} (h : H p = some (.tup xs)) (hz : xs.length ≤ 100) (hx : ∀ x ∈ xs, TB k n H x) : TB k (n + 1) H (.ref p) := .inr (.inr ⟨p, xs, rfl, h, hz, hx⟩)
theorem TB.lst {k n : Nat} {H : Hp} {p : Addr} {xs : List V} (h : H p = some (.lst xs)) : TB k n H (.ref p) := by
  cases n with
  | zero => exact .inr ⟨p, xs, rfl, h⟩
  | succ n => exact .inr (.inl ⟨p, xs, rfl, h⟩)
theorem TB.at {k n : Nat} {H : Hp} {v : V} (h : AtB k v) : TB k n H v := by
  cases n with
  | zero => exact .inl h
  | succ n => exact .inl h
/-- its kind is known -/
def Tv (H : Hp) (v : V) : Prop := atomB v = true ∨ IsL H v ∨ ∃ p xs, v = .ref p ∧ H p = some (.tup xs)
theorem TB.tv {k n : Nat} {H : Hp} {v : V} (h : TB k n H v) : Tv H v := by
  cases n with
  | zero =>
    rcases h with h | h
    · exact .inl h.atom
    · exact .inr (.inl h)
  | succ n =>
    rcases h with h | h | ⟨p, xs, e1, h1, _⟩
    · exact .inl h.atom
    · exact .inr (.inl h)
    · exact .inr (.inr ⟨p, xs, e1, h1⟩)
theorem Tv.ty {K : PySem.W.Frag} {H : Hp} {v : V} (h : Tv H v) : TyX K H v (.type (tyN H v)) := by
  rcases h with h | ⟨p, xs, rfl, h⟩ | ⟨p, xs, rfl, h⟩
  · cases v with
    | non => exact .base .non
    | bl b => exact .base (.bl b)
    | int i => exact .base (.int i)
    | str z => exact .base (.str z)
    | _ => cases h
  · have e : tyN H (.ref p) = "list" := by show tyAt (H p) = _; rw [h]; rfl
    rw [e]
    exact .base (.lst h)
  · have e : tyN H (.ref p) = "tuple" := by show tyAt (H p) = _; rw [h]; rfl
    rw [e]
    exact .base (.tup h)
theorem tv_int {K : PySem.W.Frag} {H : Hp} {Q : VK} {v : V} (h : Tv H v) (q : Q (.bl (intB v)) H) : rIsi K [v, .ty "int"] H Q := by
  refine isi_is h.ty ?_ q
  rcases h with h | ⟨p, xs, rfl, h⟩ | ⟨p, xs, rfl, h⟩
  · cases v with
    | non => show kitB "NoneType" "int" = some false; decide +kernel
    | bl b => show kitB "bool" "int" = some true; decide +kernel
    | int i => show kitB "int" "int" = some true; decide +kernel
    | str z => show kitB "str" "int" = some false; decide +kernel
    | _ => cases h
  · show kitB (tyAt (H p)) _ = _; rw [h]; show kitB "list" "int" = some false; decide +kernel
  · show kitB (tyAt (H p)) _ = _; rw [h]; show kitB "tuple" "int" = some false; decide +kernel
theorem tv_bool {K : PySem.W.Frag} {H : Hp} {Q : VK} {v : V} (h : Tv H v) (q : Q (.bl (blB v)) H) : rIsi K [v, .ty "bool"] H Q := by
  refine isi_is h.ty ?_ q
  rcases h with h | ⟨p, xs, rfl, h⟩ | ⟨p, xs, rfl, h⟩
  · cases v with
    | non => show kitB "NoneType" "bool" = some false; decide +kernel
    | bl b => show kitB "bool" "bool" = some true; decide +kernel
    | int i => show kitB "int" "bool" = some false; decide +kernel
    | str z => show kitB "str" "bool" = some false; decide +kernel
    | _ => cases h
  · show kitB (tyAt (H p)) _ = _; rw [h]; show kitB "list" "bool" = some false; decide +kernel
  · show kitB (tyAt (H p)) _ = _; rw [h]; show kitB "tuple" "bool" = some false; decide +kernel
/-- what is no tuple -/
def NoTup (H : Hp) (v : V) : Prop := ∀ p xs, v = .ref p → H p ≠ some (.tup xs)
theorem tb_tup {K : PySem.W.Frag} {k n : Nat} {H : Hp} {Q : VK} {v : V} (h : TB k (n + 1) H v) (q1 : ∀ p xs, v = .ref p → H p = some (.tup xs) → xs.length ≤ 100 → (∀ x ∈ xs, TB k n H x) → Q (.bl true) H) (q2 : NoTup H v → Q (.bl false) H) : rIsi K [v, .ty "tuple"] H Q := by
  have h' := h.tv
  rcases h with h | ⟨p, xs, rfl, h⟩ | ⟨p, xs, rfl, h, hz, hx⟩
  · have ha := h.atom
    refine isi_is h'.ty (b := false) ?_ (q2 fun p xs e => ?_)
    · cases v with
      | non => show kitB "NoneType" "tuple" = some false; decide +kernel
      | bl b => show kitB "bool" "tuple" = some false; decide +kernel
      | int i => show kitB "int" "tuple" = some false; decide +kernel
      | str z => show kitB "str" "tuple" = some false; decide +kernel
      | _ => cases ha
    · rw [e] at ha
      cases ha
  · refine isi_is h'.ty (b := false) ?_ (q2 fun p' xs' e => ?_)
    · show kitB (tyAt (H p)) _ = _; rw [h]; show kitB "list" "tuple" = some false; decide +kernel
    · cases e
      rw [h]
      intro z
      cases z
  · refine isi_is h'.ty (b := true) ?_ (q1 p xs rfl h hz hx)
    show kitB (tyAt (H p)) _ = _; rw [h]; show kitB "tuple" "tuple" = some true; decide +kernel
theorem numOf_no {H : Hp} {g : Int} {v : V} (h : NoTup H v) : numOf H g v = false := by
  cases v with
  | ref p =>
    show numAt g (H p) = false
    cases e : H p with
    | none => rfl
    | some o =>
      cases o with
      | tup xs => exact absurd e (h p xs rfl)
      | _ => rfl
  | _ => rfl
theorem numOf_tb {k n : Nat} {H H' : Hp} {g : Int} {v : V} (h0 : TB k n H v) (e : Kd H H') : numOf H' g v = numOf H g v := by
  rcases h0.tv with h | ⟨p, xs, rfl, h⟩ | ⟨p, xs, rfl, h⟩
  · cases v <;> first | rfl | cases h
  · obtain ⟨ys, h2⟩ := e.2 p xs h
    rw [numOf_lst h, numOf_lst h2]
  · rw [numOf_tup h, numOf_tup (e.1 _ _ h)]
/-! ### rows and tables among things -/
def rowAt (H : Hp) (g m : Int) : Option HO → Bool
  | some (.tup xs) => decide ((xs.length : Int) = m) && xs.all (numOf H g)
  | _ => false
def rowOf (H : Hp) (g m : Int) : V → Bool
  | .ref p => rowAt H g m (H p)
  | _ => false
theorem rowOf_tup {H : Hp} {g m : Int} {p : Addr} {xs : List V} (h : H p = some (.tup xs)) : rowOf H g m (.ref p) = (decide ((xs.length : Int) = m) && xs.all (numOf H g)) := by
  show rowAt H g m (H p) = _
  rw [h]
  rfl
theorem rowOf_no {H : Hp} {g m : Int} {v : V} (h : NoTup H v) : rowOf H g m v = false := by
  cases v with
  | ref p =>
    show rowAt H g m (H p) = false
    cases e : H p with
    | none => rfl
    | some o =>
      cases o with
      | tup xs => exact absurd e (h p xs rfl)
      | _ => rfl
  | _ => rfl
theorem all_congr {f f' : V → Bool} : ∀ {xs : List V}, (∀ x ∈ xs, f' x = f x) → xs.all f' = xs.all f
  | [], _ => rfl
  | x :: xs, h => by
    rw [List.all_cons, List.all_cons, h x (List.mem_cons_self ..), all_congr fun y hy => h y (List.mem_cons_of_mem _ hy)]
theorem notup_kd {k n : Nat} {H H' : Hp} {v : V} (h0 : TB k n H v) (no : NoTup H v) (e : Kd H H') : NoTup H' v := by
  rcases h0.tv with h | ⟨p, xs, rfl, h⟩ | ⟨p, xs, rfl, h⟩
  · intro p xs z
    rw [z] at h
    cases h
  · obtain ⟨ys, h2⟩ := e.2 p xs h
    intro p' xs' z
    cases z
    rw [h2]
    intro z
    cases z
  · exact absurd h (no p xs rfl)
theorem tb_cases {k n : Nat} {H : Hp} {v : V} (h : TB k (n + 1) H v) : NoTup H v ∨ ∃ p xs, v = .ref p ∧ H p = some (.tup xs) ∧ xs.length ≤ 100 ∧ ∀ x ∈ xs, TB k n H x := by
  rcases h with h | ⟨p, xs, rfl, h⟩ | h
  · left
    intro p xs e
    have ha := h.atom
    rw [e] at ha
    cases ha
  · left
    intro p' xs' e
    cases e
    rw [h]
    intro z
    cases z
  · exact .inr h
theorem rowOf_tb {k n : Nat} {H H' : Hp} {g m : Int} {v : V} (h : TB k (n + 1) H v) (e : Kd H H') : rowOf H' g m v = rowOf H g m v := by
  rcases tb_cases h with no | ⟨p, xs, rfl, hp, hz, hx⟩
  · rw [rowOf_no no, rowOf_no (notup_kd h no e)]
  · rw [rowOf_tup hp, rowOf_tup (e.1 _ _ hp), all_congr fun x m => numOf_tb (hx x m) e]
def tabAt (H : Hp) (g m w : Int) : Option HO → Bool
  | some (.tup xs) => decide ((xs.length : Int) = m) && xs.all (rowOf H g w)
  | _ => false
def tabOf (H : Hp) (g m w : Int) : V → Bool
  | .ref p => tabAt H g m w (H p)
  | _ => false
theorem tabOf_tup {H : Hp} {g m w : Int} {p : Addr} {xs : List V} (h : H p = some (.tup xs)) : tabOf H g m w (.ref p) = (decide ((xs.length : Int) = m) && xs.all (rowOf H g w)) := by
  show tabAt H g m w (H p) = _
  rw [h]
  rfl
theorem tabOf_no {H : Hp} {g m w : Int} {v : V} (h : NoTup H v) : tabOf H g m w v = false := by
  cases v with
  | ref p =>
    show tabAt H g m w (H p) = false
    cases e : H p with
    | none => rfl
    | some o =>
      cases o with
      | tup xs => exact absurd e (h p xs rfl)
      | _ => rfl
  | _ => rfl
theorem tabOf_tb {k n : Nat} {H H' : Hp} {g m w : Int} {v : V} (h : TB k (n + 2) H v) (e : Kd H H') : tabOf H' g m w v = tabOf H g m w v := by
  rcases tb_cases h with no | ⟨p, xs, rfl, hp, hz, hx⟩
  · rw [tabOf_no no, tabOf_no (notup_kd h no e)]
  · rw [tabOf_tup hp, tabOf_tup (e.1 _ _ hp), all_congr fun x m => rowOf_tb (hx x m) e]
theorem all_map {f : V → Bool} {xs : List V} : (xs.map f).all id = xs.all f := by
  rw [List.all_map]
  rfl
end Fm

namespace Fm
open PySem PySem.Spec PyProof.Rows L2
/-! ### drawn numbers and their sums -/
def NG (g : Int) (i : Nat) (a : Int × Int) : Prop := 0 < a.2 ∧ a.2 ∣ 2520 ∧ a.1.natAbs ≤ 64 * 2 ^ i * a.2.natAbs ∧ (g = 0 ∨ (3 ≤ g ∧ g ≤ 13 ∧ a.2 = 1))
theorem NG.mono {g : Int} {i j : Nat} {a : Int × Int} (h : NG g i a) (hj : i ≤ j) : NG g j a :=
  ⟨h.1, h.2.1, Nat.le_trans h.2.2.1 (Nat.mul_le_mul_right _ (Nat.mul_le_mul_left _ (Nat.pow_le_pow_right (by decide) hj))), h.2.2.2⟩
theorem NG.ok {g : Int} {i : Nat} {a : Int × Int} (h : NG g i a) (hi : i ≤ 10) : OkN g 40 a := by
  have h2 : a.2 ≤ 2520 := Int.le_of_dvd (by decide) h.2.1
  have h0 := h.1
  have h3 : a.1.natAbs ≤ 64 * 2 ^ 10 * 2520 := Nat.le_trans h.2.2.1 (Nat.mul_le_mul (Nat.mul_le_mul_left _ (Nat.pow_le_pow_right (by decide) hi)) (by omega))
  refine ⟨Nat.lt_of_le_of_lt h3 (by decide), Nat.lt_of_le_of_lt (show a.2.natAbs ≤ 2520 by omega) (by decide), ?_⟩
  rcases h.2.2.2 with z | z
  · exact .inl ⟨z, h.1⟩
  · exact .inr z
theorem ng_low {u d : Int} (hu : u.natAbs ≤ 64) (hd1 : 1 ≤ d) (hd : d ≤ 9) : NG 0 0 (lowF 0 u d) := by
  have hn : d ≠ 0 := by omega
  obtain ⟨hr, he⟩ := low0_red (u := u) hn
  obtain ⟨q1, q2, e, e1, e2⟩ := low0_eq (u := u) hn
  refine ⟨hr.1, ?_, ?_, .inl rfl⟩
  · have h1 : (lowF 0 u d).2 ∣ d := by
      rw [e]
      exact ⟨lowC u d, by rw [Int.mul_comm]; exact e2⟩
    refine Int.dvd_trans h1 ?_
    rcases (by omega : d = 1 ∨ d = 2 ∨ d = 3 ∨ d = 4 ∨ d = 5 ∨ d = 6 ∨ d = 7 ∨ d = 8 ∨ d = 9) with rfl | rfl | rfl | rfl | rfl | rfl | rfl | rfl | rfl <;> decide
  · have h2 := congrArg Int.natAbs he
    rw [Int.natAbs_mul, Int.natAbs_mul] at h2
    have h3 : (lowF 0 u d).1.natAbs * 1 ≤ (lowF 0 u d).1.natAbs * d.natAbs := Nat.mul_le_mul_left _ (by omega)
    rw [Nat.mul_one, h2] at h3
    refine Nat.le_trans h3 ?_
    rw [Nat.pow_zero, Nat.mul_one]
    exact Nat.mul_le_mul_right _ hu
theorem ng_plus {g : Int} {i : Nat} {x y : Int × Int} (hx : NG g i x) (hy : NG g i y) : NG g (i + 1) (plusF g x y) := by
  rcases hx.2.2.2 with h0 | ⟨h3, h13, hx1⟩
  · subst h0
    have hn : x.2 * y.2 ≠ 0 := Int.mul_ne_zero (by have := hx.1; omega) (by have := hy.1; omega)
    obtain ⟨hr, he⟩ := low0_red (u := x.1 * y.2 + y.1 * x.2) hn
    have ep : plusF 0 x y = lowF 0 (x.1 * y.2 + y.1 * x.2) (x.2 * y.2) := rfl
    rw [← ep] at hr he
    generalize plusF 0 x y = p at hr he
    refine ⟨hr.1, ?_, ?_, .inl rfl⟩
    · obtain ⟨qx, ex⟩ := hx.2.1
      obtain ⟨qy, ey⟩ := hy.2.1
      have h1 : p.1 * 2520 = (x.1 * qx + y.1 * qy) * p.2 := by
        have : (p.1 * 2520) * (x.2 * y.2) = ((x.1 * qx + y.1 * qy) * p.2) * (x.2 * y.2) := by
          calc (p.1 * 2520) * (x.2 * y.2) = (p.1 * (x.2 * y.2)) * 2520 := by rw [Int.mul_right_comm]
            _ = ((x.1 * y.2 + y.1 * x.2) * p.2) * 2520 := by rw [he]
            _ = (x.1 * y.2 * 2520 + y.1 * x.2 * 2520) * p.2 := by rw [Int.mul_right_comm, Int.add_mul]
            _ = (x.1 * y.2 * (x.2 * qx) + y.1 * x.2 * (y.2 * qy)) * p.2 := by rw [← ex, ← ey]
            _ = ((x.1 * qx + y.1 * qy) * (x.2 * y.2)) * p.2 := by
              congr 1
              rw [Int.add_mul]
              congr 1 <;> ac_rfl
            _ = ((x.1 * qx + y.1 * qy) * p.2) * (x.2 * y.2) := by rw [Int.mul_right_comm]
        exact Int.eq_of_mul_eq_mul_right hn this
      exact dvd_cop hr.2 ⟨x.1 * qx + y.1 * qy, by rw [h1, Int.mul_comm]⟩
    · have h2 := congrArg Int.natAbs he
      rw [Int.natAbs_mul, Int.natAbs_mul, Int.natAbs_mul] at h2
      have hN : (x.1 * y.2 + y.1 * x.2).natAbs ≤ 2 * (64 * 2 ^ i) * (x.2.natAbs * y.2.natAbs) := by
        refine Nat.le_trans (Int.natAbs_add_le _ _) ?_
        rw [Int.natAbs_mul, Int.natAbs_mul]
        have a1 := Nat.mul_le_mul_right y.2.natAbs hx.2.2.1
        have a2 := Nat.mul_le_mul_right x.2.natAbs hy.2.2.1
        have e1 : 64 * 2 ^ i * x.2.natAbs * y.2.natAbs = 64 * 2 ^ i * (x.2.natAbs * y.2.natAbs) := Nat.mul_assoc ..
        have e2 : 64 * 2 ^ i * y.2.natAbs * x.2.natAbs = 64 * 2 ^ i * (x.2.natAbs * y.2.natAbs) := by rw [Nat.mul_assoc, Nat.mul_comm y.2.natAbs]
        rw [Nat.mul_assoc 2]
        omega
      have hD : 0 < x.2.natAbs * y.2.natAbs := Nat.mul_pos (by have := hx.1; omega) (by have := hy.1; omega)
      have h3 : p.1.natAbs * (x.2.natAbs * y.2.natAbs) ≤ (2 * (64 * 2 ^ i) * p.2.natAbs) * (x.2.natAbs * y.2.natAbs) := by
        rw [h2]
        refine Nat.le_trans (Nat.mul_le_mul_right _ hN) (Nat.le_of_eq ?_)
        ac_rfl
      have h4 := Nat.le_of_mul_le_mul_right h3 hD
      rw [Nat.pow_succ]
      refine Nat.le_trans h4 (Nat.le_of_eq ?_)
      ac_rfl
  · have hy1 : y.2 = 1 := by
      rcases hy.2.2.2 with z | z
      · omega
      · exact z.2.2
    have e : plusF g x y = ((x.1 * 1 + y.1 * 1).fmod g, 1) := by
      unfold plusF
      rw [hx1, hy1]
      exact low_one (by omega)
    rw [e]
    have b0 := Int.fmod_nonneg_of_pos (x.1 * 1 + y.1 * 1) (show 0 < g by omega)
    have b1 := Int.fmod_lt_of_pos (x.1 * 1 + y.1 * 1) (show 0 < g by omega)
    refine ⟨show (0 : Int) < 1 by decide, show (1 : Int) ∣ 2520 by decide, ?_, .inr ⟨h3, h13, rfl⟩⟩
    show ((x.1 * 1 + y.1 * 1).fmod g).natAbs ≤ 64 * 2 ^ (i + 1) * (1 : Int).natAbs
    have : 1 ≤ 2 ^ (i + 1) := Nat.one_le_two_pow
    have e1 : (1 : Int).natAbs = 1 := rfl
    rw [e1, Nat.mul_one]
    generalize 2 ^ (i + 1) = z at this ⊢
    generalize (x.1 * 1 + y.1 * 1).fmod g = w at b0 b1 ⊢
    omega
/-- bounds for the operations -/
def PBd (a : Int × Int) : Prop := a.1.natAbs < 2 ^ 3000 ∧ a.2.natAbs < 2 ^ 3000 ∧ a.2 ≠ 0
theorem OkN.pb {g : Int} {k : Nat} {a : Int × Int} (h : OkN g k a) (hk : k ≤ 3000) : PBd a := ⟨Nat.lt_of_lt_of_le h.1 (Nat.pow_le_pow_right (by decide) hk), Nat.lt_of_lt_of_le h.2.1 (Nat.pow_le_pow_right (by decide) hk), by have := h.pos; omega⟩
def NumG (g : Int) (H : Hp) (v : V) (i : Nat) : Prop := ∃ a, NumV H v a ∧ NG g i a
def RowG (g : Int) (H : Hp) (v : V) (n i : Nat) : Prop := ∃ r, RowV H v r ∧ r.length = n ∧ ∀ a ∈ r, NG g i a
def TabG (g : Int) (H : Hp) (v : V) (m n i : Nat) : Prop := ∃ t, TabV H v t ∧ t.length = m ∧ ∀ r ∈ t, r.length = n ∧ ∀ a ∈ r, NG g i a
theorem NumG.kt {g : Int} {H H' : Hp} {v : V} {i : Nat} (h : NumG g H v i) (s : Kt H H') : NumG g H' v i := by
  obtain ⟨a, h1, h2⟩ := h
  exact ⟨a, h1.kt s, h2⟩
theorem RowG.kt {g : Int} {H H' : Hp} {v : V} {n i : Nat} (h : RowG g H v n i) (s : Kt H H') : RowG g H' v n i := by
  obtain ⟨a, h1, h2⟩ := h
  exact ⟨a, RowV.kt h1 s, h2⟩
theorem RowG.mono {g : Int} {H : Hp} {v : V} {n i j : Nat} (h : RowG g H v n i) (hj : i ≤ j) : RowG g H v n j := by
  obtain ⟨a, h1, h2, h3⟩ := h
  exact ⟨a, h1, h2, fun x hx => (h3 x hx).mono hj⟩
theorem TabG.kt {g : Int} {H H' : Hp} {v : V} {m n i : Nat} (h : TabG g H v m n i) (s : Kt H H') : TabG g H' v m n i := by
  obtain ⟨a, h1, h2⟩ := h
  exact ⟨a, TabV.kt h1 s, h2⟩
theorem rowG_mk {g : Int} {H : Hp} {p : Addr} {xs : List V} {n i : Nat} (hp : H p = some (.tup xs)) (hl : xs.length = n) (hx : ∀ x ∈ xs, NumG g H x i) : RowG g H (.ref p) n i := by
  obtain ⟨as, g1, g2, g3⟩ := sq_val (P := NumV) (S := NG g i) (H := H) (xs := xs) hx
  exact ⟨as, ⟨p, xs, rfl, hp, g1, g3⟩, by omega, g2⟩
theorem tabG_mk {g : Int} {H : Hp} {p : Addr} {xs : List V} {m n i : Nat} (hp : H p = some (.tup xs)) (hl : xs.length = m) (hx : ∀ x ∈ xs, RowG g H x n i) : TabG g H (.ref p) m n i := by
  obtain ⟨as, g1, g2, g3⟩ := sq_val (P := RowV) (S := fun r => r.length = n ∧ ∀ a ∈ r, NG g i a) (H := H) (xs := xs) hx
  exact ⟨as, ⟨p, xs, rfl, hp, g1, g3⟩, by omega, g2⟩
theorem RowV.dat {K : PySem.W.Frag} {H : Hp} {v : V} {r : List (Int × Int)} (h : RowV H v r) : Dat K H v 2 := by
  obtain ⟨p, xs, rfl, hp, hl, hx⟩ := h
  refine dat_tup hp fun z hz => ?_
  obtain ⟨i, hi, e⟩ := List.mem_iff_getElem.mp hz
  have e1 : xs[i]? = some z := by rw [List.getElem?_eq_getElem hi, e]
  obtain ⟨q, rfl, hq⟩ := hx i z _ e1 (List.getElem?_eq_getElem (by omega))
  refine dat_tup hq fun w hw => ?_
  rcases List.mem_cons.mp hw with rfl | hw
  · exact dat_int
  · rw [List.mem_singleton.mp hw]; exact dat_int
theorem rowsG_end {g : Int} {H Hn : Hp} {b F : Addr} {xs : List V} {row : V} {n i : Nat} (mv : Mv b H Hn) (hb : Bag Hn b) (hF0 : H F = none) (nF : F ≠ b) (hF : Hn F = some (.lst xs)) (hl : xs.length = i) (hx : ∀ x ∈ xs, RowG g Hn x n i) (hr : RowG g Hn row n (i + 1)) :
    Mv b H (upd Hn F (.lst (xs ++ [row]))) ∧ Bag (upd Hn F (.lst (xs ++ [row]))) b ∧ ∃ ys : List V, (upd Hn F (.lst (xs ++ [row]))) F = some (.lst ys) ∧ ys.length = i + 1 ∧ ∀ x ∈ ys, RowG g (upd Hn F (.lst (xs ++ [row]))) x n (i + 1) := by
  have kt : Kt Hn (upd Hn F (.lst (xs ++ [row]))) := Kt.updL hF
  refine ⟨mv.updD hF0, hb.upd nF, xs ++ [row], upd_same, by rw [List.length_append, hl]; rfl, fun x h => ?_⟩
  rcases List.mem_append.mp h with h | h
  · exact ((hx x h).kt kt).mono (Nat.le_succ i)
  · rw [List.mem_singleton.mp h]
    exact hr.kt kt
theorem RowG.zeros {g : Int} {H : Hp} {u : Addr} {l : Addr} {n : Nat} (hg : g = 0 ∨ (3 ≤ g ∧ g ≤ 13)) (hu : H u = some (.tup [.int 0, .int 1])) (hl : H l = some (.tup (List.replicate n [V.ref u]).flatten)) : RowG g H (.ref l) n 0 := by
  rw [List.flatten_replicate_singleton] at hl
  refine rowG_mk hl List.length_replicate fun x hx => ?_
  rw [(List.mem_replicate.mp hx).2]
  refine ⟨(0, 1), ⟨u, rfl, hu⟩, by decide, by decide, by decide, ?_⟩
  rcases hg with z | z
  · exact .inl z
  · exact .inr ⟨z.1, z.2, rfl⟩
end Fm

namespace Fm
open PySem PySem.Spec PyProof.Rows L2
theorem part_ok {g : Int} {r s : List (Int × Int)} (hg : g = 0 ∨ (3 ≤ g ∧ g ≤ 13)) (hr : ∀ x ∈ r, OkN g 40 x) (hs : ∀ x ∈ s, OkN g 40 x) (hl : r.length ≤ 10) (hl2 : s.length ≤ 10) : PBd (cellF g r s) := by
  have p1 : ∀ x ∈ r, 0 < x.2 := fun x h => (hr x h).pos
  have p2 : ∀ x ∈ s, 0 < x.2 := fun x h => (hs x h).pos
  have e1 : 40 * r.length ≤ 400 := Nat.mul_le_mul_left 40 hl
  have e2 : 40 * s.length ≤ 400 := Nat.mul_le_mul_left 40 hl2
  have b1 := wrB_bd (k := 40) (r := r) fun x h => ⟨p1 x h, (hr x h).2.1⟩
  have b2 := wrB_bd (k := 40) (r := s) fun x h => ⟨p2 x h, (hs x h).2.1⟩
  have c1 : ∀ t ∈ wrT r, t.natAbs ≤ 2 ^ 440 := fun t h => Nat.le_trans (wrT_bd hr t h) (Nat.pow_le_pow_right (by decide) (by omega))
  have c2 : ∀ t ∈ wrT s, t.natAbs ≤ 2 ^ 440 := fun t h => Nat.le_trans (wrT_bd hs t h) (Nat.pow_le_pow_right (by decide) (by omega))
  have d := dot_bd c1 c2
  rw [wrT_len] at d
  have dN : (dotF (wrT r) (wrT s)).natAbs < 2 ^ 3000 := by
    refine Nat.lt_of_le_of_lt (Nat.le_trans d (Nat.mul_le_mul_right _ (show r.length ≤ 2 ^ 4 by omega))) ?_
    rw [← Nat.pow_add]
    exact Nat.pow_lt_pow_right (by decide) (by decide)
  have dD : (wrB r * wrB s).natAbs < 2 ^ 3000 := by
    rw [Int.natAbs_mul]
    refine Nat.lt_of_le_of_lt (Nat.mul_le_mul b1 b2) ?_
    rw [← Nat.pow_add]
    exact Nat.pow_lt_pow_right (by decide) (by omega)
  rw [cell_is hg hr hs]
  exact low_bd (by omega) (Int.mul_ne_zero (by have := (wrB_spec p1).1; omega) (by have := (wrB_spec p2).1; omega)) (by decide) dN dD
theorem times_ok {g : Int} {x z : Int × Int} (hg : g ≤ 13) (hx : OkN g 40 x) (hz : OkN g 40 z) : PBd (timesF g x z) := by
  have b1 := wide_lt hx.1 hz.1
  have b2 := wide_lt hx.2.1 hz.2.1
  have up : ∀ {n : Nat}, n < 2 ^ (40 + 40) → n < 2 ^ 3000 := fun h => Nat.lt_of_lt_of_le h (Nat.pow_le_pow_right (by decide) (by decide))
  exact low_bd hg (Int.mul_ne_zero (by have := hx.pos; omega) (by have := hz.pos; omega)) (by decide) (up b1) (up b2)
theorem ok_take {g : Int} {k i : Nat} {r : List (Int × Int)} (h : ∀ x ∈ r, OkN g k x) : ∀ x ∈ r.take i, OkN g k x := fun x hx => h x (List.mem_of_mem_take hx)
/-! ### bent things -/
def NK (kb : Nat) (H : Hp) (v : V) : Prop := ∃ a : Int × Int, NumV H v a ∧ a.1.natAbs < 2 ^ kb ∧ a.2.natAbs < 2 ^ kb
def RK (kb : Nat) (H : Hp) (v : V) : Prop := ∃ p xs, v = .ref p ∧ H p = some (.tup xs) ∧ 0 < xs.length ∧ xs.length ≤ 10 ∧ ∀ x ∈ xs, NK kb H x
def TK (kb : Nat) (H : Hp) (v : V) : Prop := ∃ p xs, v = .ref p ∧ H p = some (.tup xs) ∧ 0 < xs.length ∧ xs.length ≤ 10 ∧ ∀ x ∈ xs, RK kb H x
theorem NK.kt {kb : Nat} {H H' : Hp} {v : V} (h : NK kb H v) (s : Kt H H') : NK kb H' v := by
  obtain ⟨a, h1, h2⟩ := h
  exact ⟨a, h1.kt s, h2⟩
theorem RK.kt {kb : Nat} {H H' : Hp} {v : V} (h : RK kb H v) (s : Kt H H') : RK kb H' v := by
  obtain ⟨p, xs, e, hp, h1, h2, hx⟩ := h
  exact ⟨p, xs, e, s _ _ hp, h1, h2, fun x m => (hx x m).kt s⟩
theorem TK.kt {kb : Nat} {H H' : Hp} {v : V} (h : TK kb H v) (s : Kt H H') : TK kb H' v := by
  obtain ⟨p, xs, e, hp, h1, h2, hx⟩ := h
  exact ⟨p, xs, e, s _ _ hp, h1, h2, fun x m => (hx x m).kt s⟩
theorem lt_up {a : Int} {k l : Nat} (h : a.natAbs < 2 ^ k) (hl : k ≤ l) : a.natAbs < 2 ^ l := Nat.lt_of_lt_of_le h (Nat.pow_le_pow_right (by decide) hl)
theorem NK.tb {kb l : Nat} {H : Hp} {v : V} (h : NK kb H v) (hl : kb ≤ l) : TB l 1 H v := by
  obtain ⟨a, ⟨p, rfl, hp⟩, h1, h2⟩ := h
  refine TB.tup hp (by simp) fun x hx => ?_
  simp only [List.mem_cons, List.not_mem_nil, or_false] at hx
  rcases hx with rfl | rfl
  · exact .inl (lt_up h1 hl)
  · exact .inl (lt_up h2 hl)
theorem RK.tb {kb l : Nat} {H : Hp} {v : V} (h : RK kb H v) (hl : kb ≤ l) : TB l 2 H v := by
  obtain ⟨p, xs, rfl, hp, _, h2, hx⟩ := h
  exact TB.tup hp (by omega) fun x m => (hx x m).tb hl
theorem TK.tb {kb l : Nat} {H : Hp} {v : V} (h : TK kb H v) (hl : kb ≤ l) : TB l 3 H v := by
  obtain ⟨p, xs, rfl, hp, _, h2, hx⟩ := h
  exact TB.tup hp (by omega) fun x m => (hx x m).tb hl
theorem TB.a {k n : Nat} {H : Hp} {i : Int} (h : i.natAbs < 2 ^ k) : TB k n H (.int i) := TB.at h
theorem TB.tupA {k : Nat} {H : Hp} {p : Addr} {xs : List V} (h : H p = some (.tup xs)) (hz : xs.length ≤ 100) (hx : ∀ x ∈ xs, AtB k x) : TB k 1 H (.ref p) := TB.tup h hz fun x m => TB.at (hx x m)
/-- what the looks say of a table, back to its numbers -/
theorem nk_of {k n : Nat} {H : Hp} {g : Int} {v : V} (h : TB k (n + 1) H v) (e : numOf H g v = true) : NK k H v := by
  rcases tb_cases h with no | ⟨p, xs, rfl, hp, hz, hx⟩
  · rw [numOf_no no] at e
    cases e
  · rw [numOf_tup hp] at e
    match xs, e, hx, hp with
    | [.int t, .int b], e, hx, hp =>
      have a1 : (TB k n H (.int t)) := hx _ (by simp)
      have a2 : (TB k n H (.int b)) := hx _ (by simp)
      have f : ∀ {i : Int}, TB k n H (.int i) → i.natAbs < 2 ^ k := fun {i} z => by
        cases n with
        | zero =>
          rcases z with z | ⟨p, xs, z, _⟩
          · exact z
          · cases z
        | succ n =>
          rcases z with z | ⟨p, xs, z, _⟩ | ⟨p, xs, z, _⟩
          · exact z
          · cases z
          · cases z
      exact ⟨(t, b), ⟨p, rfl, hp⟩, f a1, f a2⟩
theorem rk_of {k n : Nat} {H : Hp} {g m : Int} {v : V} (h : TB k (n + 2) H v) (e : rowOf H g m v = true) (h1 : 1 ≤ m) (h2 : m ≤ 10) : RK k H v := by
  rcases tb_cases h with no | ⟨p, xs, rfl, hp, hz, hx⟩
  · rw [rowOf_no no] at e
    cases e
  · rw [rowOf_tup hp, Bool.and_eq_true] at e
    have el := of_decide_eq_true e.1
    exact ⟨p, xs, rfl, hp, by omega, by omega, fun x m => nk_of (hx x m) (List.all_eq_true.mp e.2 x m)⟩
theorem tk_of {k n : Nat} {H : Hp} {g m w : Int} {v : V} (h : TB k (n + 3) H v) (e : tabOf H g m w v = true) (h1 : 1 ≤ m) (h2 : m ≤ 10) (h3 : 1 ≤ w) (h4 : w ≤ 10) : TK k H v := by
  rcases tb_cases h with no | ⟨p, xs, rfl, hp, hz, hx⟩
  · rw [tabOf_no no] at e
    cases e
  · rw [tabOf_tup hp, Bool.and_eq_true] at e
    have el := of_decide_eq_true e.1
    exact ⟨p, xs, rfl, hp, by omega, by omega, fun x m => rk_of (hx x m) (List.all_eq_true.mp e.2 x m) h3 h4⟩
theorem RowG.rk {g : Int} {H : Hp} {v : V} {n i kb : Nat} (h : RowG g H v n i) (hi : i ≤ 10) (hk : 40 ≤ kb) (hn : 0 < n) (hn2 : n ≤ 10) : RK kb H v := by
  obtain ⟨r, ⟨p, xs, e, hp, hl, hx⟩, hr, hg⟩ := h
  refine ⟨p, xs, e, hp, by omega, by omega, fun x m => ?_⟩
  obtain ⟨j, hj, ej⟩ := List.mem_iff_getElem.mp m
  have e1 : xs[j]? = some x := by rw [List.getElem?_eq_getElem hj, ej]
  have e2 : r[j]? = some (r[j]'(by omega)) := List.getElem?_eq_getElem (by omega)
  have ok := (hg _ (List.getElem_mem (show j < r.length by omega))).ok hi
  exact ⟨_, hx j x _ e1 e2, lt_up ok.1 hk, lt_up ok.2.1 hk⟩
theorem TabG.tk {g : Int} {H : Hp} {v : V} {m n i kb : Nat} (h : TabG g H v m n i) (hi : i ≤ 10) (hk : 40 ≤ kb) (hm : 0 < m) (hm2 : m ≤ 10) (hn : 0 < n) (hn2 : n ≤ 10) : TK kb H v := by
  obtain ⟨t, ⟨p, xs, e, hp, hl, hx⟩, ht, hg⟩ := h
  refine ⟨p, xs, e, hp, by omega, by omega, fun x mm => ?_⟩
  obtain ⟨j, hj, ej⟩ := List.mem_iff_getElem.mp mm
  have e1 : xs[j]? = some x := by rw [List.getElem?_eq_getElem hj, ej]
  have e2 : t[j]? = some (t[j]'(by omega)) := List.getElem?_eq_getElem (by omega)
  have hh := hg _ (List.getElem_mem (show j < t.length by omega))
  exact RowG.rk ⟨_, hx j x _ e1 e2, hh.1, hh.2⟩ hi hk hn hn2
theorem w_sl {r : V → Option Int → Option Int → Hp → VK → Prop} {te : TE} {tl th : TO} {σ : L2.St} {H : Hp} {Q : VK} (h : te σ H fun x H1 => tl σ H1 fun l H2 => th σ H2 fun u H3 => r x l u H3 Q) : tSl r te tl th σ H Q := h
theorem w_part {te : TE} {σ : L2.St} {H : Hp} {R : Option Int → Hp → Prop} (h : te σ H fun x H1 => ∃ i, x = .int i ∧ R (some i) H1) : tPart te σ H R := h
theorem w_nopart {σ : L2.St} {H : Hp} {R : Option Int → Hp → Prop} (h : R none H) : tNoPart σ H R := h
theorem w_exi {a : Int} {R : Int → Prop} (h : R a) : ∃ i, V.int a = .int i ∧ R i := ⟨a, rfl, h⟩
theorem cut_mem {xs : List V} {lo hi : Option Int} : (∀ y ∈ cutV xs lo hi, y ∈ xs) ∧ (cutV xs lo hi).length ≤ xs.length := by
  unfold cutV
  refine ⟨fun y hy => List.mem_of_mem_drop (List.mem_of_mem_take hy), ?_⟩
  rw [List.length_take, List.length_drop]
  omega
theorem w_slA {K : PySem.W.Frag} {H : Hp} {Q : VK} {p : Addr} {xs : List V} {lo hi : Option Int} (hp : H p = some (.tup xs)) (q : ∀ q' H' ys, Same H H' → H' q' = some (.tup ys) → ys.length ≤ xs.length → (∀ y ∈ ys, y ∈ xs) → Q (.ref q') H') : rSlA K (.ref p) lo hi H Q :=
  ⟨p, xs, rfl, SqT.of hp, fun _ => q p H xs (Same.refl H) hp (Nat.le_refl _) (fun y h => h), fun _ l hl => q l _ _ (same_upd hl) upd_same cut_mem.2 cut_mem.1⟩
theorem w_catA {K : PySem.W.Frag} {H : Hp} {Q : VK} {p r : Addr} {xs ys : List V} (hp : H p = some (.tup xs)) (hr : H r = some (.tup ys)) (hz : xs.length + ys.length ≤ 1000) (q : ∀ q' H' zs, Same H H' → H' q' = some (.tup zs) → zs.length ≤ xs.length + ys.length → (∀ y ∈ zs, y ∈ xs ∨ y ∈ ys) → Q (.ref q') H') : rCatA K (.ref p) (.ref r) H Q :=
  ⟨p, r, xs, ys, rfl, rfl, SqT.of hp, SqT.of hr, Nat.le_of_lt (small1000 hz), fun _ => q r H ys (Same.refl H) hr (Nat.le_add_left _ _) (fun y h => .inr h), fun _ _ => q p H xs (Same.refl H) hp (Nat.le_add_right _ _) (fun y h => .inl h), fun _ _ l hl => q l _ _ (same_upd hl) upd_same (by rw [List.length_append]; exact Nat.le_refl _) (fun y h => List.mem_append.mp h)⟩
theorem TB.kd' {k n : Nat} {H H' : Hp} {v : V} (h : TB k n H v) (e : Kd H H') : TB k n H' v := TB.kd e h
end Fm

namespace Fm
open PySem PySem.Spec PyProof.Rows L2
/-! ### tables as data -/
def numD (a : Int × Int) : PyData := .tuple [.int a.1, .int a.2]
def rowD (r : List (Int × Int)) : PyData := .tuple (r.map numD)
theorem dpAll_of {α : Type} {K : PySem.W.Frag} {H : Hp} {f : α → PyData} : ∀ {xs : List V} {as : List α}, xs.length = as.length → (∀ (i : Nat) (x : V) (a : α), xs[i]? = some x → as[i]? = some a → Dp K H x (f a)) → DpAll K H xs (as.map f)
  | [], [], _, _ => .nil
  | [], _ :: _, h, _ => by cases h
  | _ :: _, [], h, _ => by cases h
  | x :: xs, a :: as, h, hx => .cons (hx 0 x a rfl rfl) (dpAll_of (by simpa using h) fun i y b h1 h2 => hx (i + 1) y b h1 h2)
theorem NumV.dp {K : PySem.W.Frag} {H : Hp} {v : V} {a : Int × Int} (h : NumV H v a) : Dp K H v (numD a) := by
  obtain ⟨p, rfl, hp⟩ := h
  exact .tup (SqT.of hp) (.cons (.int _) (.cons (.int _) .nil))
theorem RowV.dp {K : PySem.W.Frag} {H : Hp} {v : V} {r : List (Int × Int)} (h : RowV H v r) : Dp K H v (rowD r) := by
  obtain ⟨p, xs, rfl, hp, hl, hx⟩ := h
  exact .tup (SqT.of hp) (dpAll_of hl fun i x a h1 h2 => (hx i x a h1 h2).dp)
theorem TabV.dp {K : PySem.W.Frag} {H : Hp} {v : V} {t : List (List (Int × Int))} (h : TabV H v t) : Dp K H v (.tuple (t.map rowD)) := by
  obtain ⟨p, xs, rfl, hp, hl, hx⟩ := h
  exact .tup (SqT.of hp) (dpAll_of hl fun i x a h1 h2 => RowV.dp (hx i x a h1 h2))
theorem lay_num : ∀ (r : List (Int × Int)), PyData.canLayAll0 (r.map numD) = true ∧ PyData.depthAll (r.map numD) ≤ 1
  | [] => ⟨by simp [PyData.canLayAll0], by simp [PyData.depthAll]⟩
  | a :: r => by
    have ih := lay_num r
    refine ⟨?_, ?_⟩
    · rw [List.map_cons, PyData.canLayAll0, ih.1]
      simp [numD, PyData.canLay0, PyData.canLayAll0]
    · rw [List.map_cons, PyData.depthAll]
      have : (numD a).depth ≤ 1 := by simp [numD, PyData.depth, PyData.depthAll]
      have := ih.2
      omega
theorem lay_row : ∀ (t : List (List (Int × Int))), PyData.canLayAll0 (t.map rowD) = true ∧ PyData.depthAll (t.map rowD) ≤ 2
  | [] => ⟨by simp [PyData.canLayAll0], by simp [PyData.depthAll]⟩
  | r :: t => by
    have ih := lay_row t
    have h := lay_num r
    refine ⟨?_, ?_⟩
    · rw [List.map_cons, PyData.canLayAll0, ih.1]
      simp [rowD, PyData.canLay0, h.1]
    · rw [List.map_cons, PyData.depthAll]
      have : (rowD r).depth ≤ 2 := by rw [rowD, PyData.depth]; have := h.2; omega
      have := ih.2
      omega
theorem w_neTab {K : PySem.W.Frag} {H : Hp} {Q : VK} {v v' : V} {t t' : List (List (Int × Int))} (h1 : TabV H v t) (h2 : TabV H v' t') (e : t = t') (q : Q (.bl false) H) : rNeD K v v' H Q := by
  subst e
  have l := lay_row t
  have c : PyData.canLay0 (.tuple (t.map rowD)) = true := by rw [PyData.canLay0]; exact l.1
  have d : PyData.depth (.tuple (t.map rowD)) ≤ 64 := by rw [PyData.depth]; have := l.2; omega
  refine ⟨_, _, TabV.dp h1, TabV.dp h2, shaped_of c d, shaped_of c d, ?_⟩
  rw [SeqAt.eqv_refl _ c]
  exact q
theorem w_neRows {K : PySem.W.Frag} {H : Hp} {Q : VK} {p r : Addr} {xs ys : List V} {t : List (List (Int × Int))} (hp : H p = some (.lst xs)) (hr : H r = some (.lst ys)) (h1 : Acc RowV H xs t t.length) (h2 : Acc RowV H ys t t.length) (q : Q (.bl false) H) : rNeD K (.ref p) (.ref r) H Q := by
  have l := lay_row t
  have c : PyData.canLay0 (.list (t.map rowD)) = true := by rw [PyData.canLay0]; exact l.1
  have d : PyData.depth (.list (t.map rowD)) ≤ 64 := by rw [PyData.depth]; have := l.2; omega
  refine ⟨.list (t.map rowD), .list (t.map rowD), .lst (SqL.of hp) (dpAll_of h1.1 fun i x a e1 e2 => RowV.dp (h1.2 i x a e1 e2)), .lst (SqL.of hr) (dpAll_of h2.1 fun i x a e1 e2 => RowV.dp (h2.2 i x a e1 e2)), shaped_of c d, shaped_of c d, ?_⟩
  rw [SeqAt.eqv_refl _ c]
  exact q
theorem w_eqRow {K : PySem.W.Frag} {H : Hp} {Q : VK} {v v' : V} {r : List (Int × Int)} (h1 : RowV H v r) (h2 : RowV H v' r) (q : Q (.bl true) H) : rEqD K v v' H Q := by
  have l := lay_num r
  have c : PyData.canLay0 (rowD r) = true := by rw [rowD, PyData.canLay0]; exact l.1
  have d : PyData.depth (rowD r) ≤ 64 := by rw [rowD, PyData.depth]; have := l.2; omega
  refine ⟨_, _, RowV.dp h1, RowV.dp h2, shaped_of c d, shaped_of c d, ?_⟩
  rw [SeqAt.eqv_refl _ c]
  exact q
theorem turn_len {l : Nat} {t : List (List (Int × Int))} : (turnF l t).length = l := by
  unfold turnF
  rw [List.length_map, List.length_range]
theorem turn_rows {n l : Nat} {t : List (List (Int × Int))} (ht : t.length = n) : ∀ r ∈ turnF l t, r.length = n := fun r hr => by
  obtain ⟨j, _, rfl⟩ := List.mem_map.mp hr
  rw [List.length_map, ht]
theorem turn_turn {n l : Nat} {t : List (List (Int × Int))} (ht : t.length = n) (h : ∀ r ∈ t, r.length = l) : turnF n (turnF l t) = t := by
  refine List.ext_getElem (by rw [turn_len, ht]) fun i h1 h2 => ?_
  rw [turn_len] at h1
  have e := turn_at (l := n) (j := i) (t := turnF l t) h1
  have e1 : (turnF n (turnF l t))[i]'(by rw [turn_len]; exact h1) = (turnF l t).map fun row => row.getD i (0, 1) := by
    rw [List.getElem?_eq_getElem (by rw [turn_len]; exact h1)] at e
    exact Option.some.inj e
  rw [e1]
  have hl := h _ (List.getElem_mem h2)
  refine List.ext_getElem (by rw [List.length_map, turn_len, hl]) fun j h3 h4 => ?_
  rw [List.length_map, turn_len] at h3
  rw [List.getElem_map]
  have e2 := turn_at (l := l) (j := j) (t := t) h3
  have e3 : (turnF l t)[j]'(by rw [turn_len]; exact h3) = t.map fun row => row.getD j (0, 1) := by
    rw [List.getElem?_eq_getElem (by rw [turn_len]; exact h3)] at e2
    exact Option.some.inj e2
  rw [e3, List.getD_eq_getElem?_getD, List.getElem?_map, List.getElem?_eq_getElem h2]
  show t[i].getD j (0, 1) = t[i][j]
  rw [List.getD_eq_getElem?_getD, List.getElem?_eq_getElem h4]
  rfl
theorem cell_num {g : Int} {r s : List (Int × Int)} (hg : g = 0 ∨ (3 ≤ g ∧ g ≤ 13)) (hr : ∀ x ∈ r, OkN g 40 x) (hs : ∀ x ∈ s, OkN g 40 x) : numOk g [.int (cellF g r s).1, .int (cellF g r s).2] = true := by
  rw [cell_is hg hr hs]
  have p1 : ∀ x ∈ r, 0 < x.2 := fun x h => (hr x h).pos
  have p2 : ∀ x ∈ s, 0 < x.2 := fun x h => (hs x h).pos
  rcases hg with rfl | ⟨h3, h13⟩
  · have hn : wrB r * wrB s ≠ 0 := Int.mul_ne_zero (by have := (wrB_spec p1).1; omega) (by have := (wrB_spec p2).1; omega)
    obtain ⟨⟨a, b⟩, _⟩ := low0_red (u := dotF (wrT r) (wrT s)) hn
    rw [numOk_0, b, decide_eq_true (by omega)]
    rfl
  · have o1 : ∀ x ∈ r, x.2 = 1 := fun x h => by
      rcases (hr x h).2.2 with z | z
      · omega
      · exact z.2.2
    have o2 : ∀ x ∈ s, x.2 = 1 := fun x h => by
      rcases (hs x h).2.2 with z | z
      · omega
      · exact z.2.2
    rw [wrB_one o1, wrB_one o2, Int.mul_one, low_one (by omega), numOk_g (by omega)]
    have b0 := Int.fmod_nonneg_of_pos (dotF (wrT r) (wrT s)) (show 0 < g by omega)
    have b1 := Int.fmod_lt_of_pos (dotF (wrT r) (wrT s)) (show 0 < g by omega)
    rw [decide_eq_true b0, decide_eq_true b1, decide_eq_true rfl]
    rfl
theorem NumV.nk {H : Hp} {v : V} {a : Int × Int} {k : Nat} (h : NumV H v a) (h1 : a.1.natAbs < 2 ^ k) (h2 : a.2.natAbs < 2 ^ k) : TB k 1 H v := NK.tb ⟨a, h, h1, h2⟩ (Nat.le_refl _)
theorem RowV.tb {H : Hp} {v : V} {r : List (Int × Int)} {k : Nat} (h : RowV H v r) (hl : r.length ≤ 100) (hb : ∀ a ∈ r, a.1.natAbs < 2 ^ k ∧ a.2.natAbs < 2 ^ k) : TB k 2 H v := by
  obtain ⟨p, xs, rfl, hp, hlx, hx⟩ := h
  refine TB.tup hp (by omega) fun x m => ?_
  obtain ⟨j, hj, ej⟩ := List.mem_iff_getElem.mp m
  have e1 : xs[j]? = some x := by rw [List.getElem?_eq_getElem hj, ej]
  have e2 : r[j]? = some (r[j]'(by omega)) := List.getElem?_eq_getElem (by omega)
  have b := hb _ (List.getElem_mem (show j < r.length by omega))
  exact (hx j x _ e1 e2).nk b.1 b.2
theorem TabV.tb {H : Hp} {v : V} {t : List (List (Int × Int))} {k : Nat} (h : TabV H v t) (hl : t.length ≤ 100) (hb : ∀ r ∈ t, r.length ≤ 100 ∧ ∀ a ∈ r, a.1.natAbs < 2 ^ k ∧ a.2.natAbs < 2 ^ k) : TB k 3 H v := by
  obtain ⟨p, xs, rfl, hp, hlx, hx⟩ := h
  refine TB.tup hp (by omega) fun x m => ?_
  obtain ⟨j, hj, ej⟩ := List.mem_iff_getElem.mp m
  have e1 : xs[j]? = some x := by rw [List.getElem?_eq_getElem hj, ej]
  have e2 : t[j]? = some (t[j]'(by omega)) := List.getElem?_eq_getElem (by omega)
  have b := hb _ (List.getElem_mem (show j < t.length by omega))
  exact RowV.tb (hx j x _ e1 e2) b.1 b.2
theorem row_true {H : Hp} {v : V} {r : List (Int × Int)} {g m : Int} (h : RowV H v r) (hl : (r.length : Int) = m) (hn : ∀ a ∈ r, numOk g [.int a.1, .int a.2] = true) : rowOf H g m v = true := by
  obtain ⟨p, xs, rfl, hp, hlx, hx⟩ := h
  rw [rowOf_tup hp, decide_eq_true (by omega), Bool.true_and, List.all_eq_true]
  intro x mm
  obtain ⟨j, hj, ej⟩ := List.mem_iff_getElem.mp mm
  have e1 : xs[j]? = some x := by rw [List.getElem?_eq_getElem hj, ej]
  have e2 : r[j]? = some (r[j]'(by omega)) := List.getElem?_eq_getElem (by omega)
  obtain ⟨q, rfl, hq⟩ := hx j x _ e1 e2
  rw [numOf_tup hq]
  exact hn _ (List.getElem_mem (show j < r.length by omega))
theorem tab_true {H : Hp} {v : V} {t : List (List (Int × Int))} {g m w : Int} (h : TabV H v t) (hl : (t.length : Int) = m) (hn : ∀ r ∈ t, (r.length : Int) = w ∧ ∀ a ∈ r, numOk g [.int a.1, .int a.2] = true) : tabOf H g m w v = true := by
  obtain ⟨p, xs, rfl, hp, hlx, hx⟩ := h
  rw [tabOf_tup hp, decide_eq_true (by omega), Bool.true_and, List.all_eq_true]
  intro x mm
  obtain ⟨j, hj, ej⟩ := List.mem_iff_getElem.mp mm
  have e1 : xs[j]? = some x := by rw [List.getElem?_eq_getElem hj, ej]
  have e2 : t[j]? = some (t[j]'(by omega)) := List.getElem?_eq_getElem (by omega)
  have b := hn _ (List.getElem_mem (show j < t.length by omega))
  exact row_true (hx j x _ e1 e2) b.1 b.2
end Fm

namespace Fm
open PySem PySem.Spec PyProof.Rows L2
/-! ### whole roots -/
def RootOf (n r : Nat) : Prop := r * r ≤ n ∧ n < (r + 1) * (r + 1)
theorem root_uniq {n r s : Nat} (h1 : RootOf n r) (h2 : RootOf n s) : r = s := by
  rcases Nat.lt_trichotomy r s with h | h | h
  · have : (r + 1) * (r + 1) ≤ s * s := Nat.mul_le_mul h h
    have := h1.2
    have := h2.1
    omega
  · exact h
  · have : (s + 1) * (s + 1) ≤ r * r := Nat.mul_le_mul h h
    have := h2.2
    have := h1.1
    omega
theorem four_mul (a b : Nat) : 4 * (a * b) ≤ (a + b) * (a + b) := by
  rcases Nat.le_total a b with h | h
  · obtain ⟨d, rfl⟩ := Nat.exists_eq_add_of_le h
    have e : (a + (a + d)) * (a + (a + d)) = 4 * (a * (a + d)) + d * d := by grind
    omega
  · obtain ⟨d, rfl⟩ := Nat.exists_eq_add_of_le h
    have e : (b + d + b) * (b + d + b) = 4 * ((b + d) * b) + d * d := by grind
    omega
/-- a step of Newton's stays above the root -/
theorem newton_ge {n g : Nat} (hg : 0 < g) : n < ((g + n / g) / 2 + 1) * ((g + n / g) / 2 + 1) := by
  have h1 : n < g * (n / g + 1) := Nat.lt_mul_div_succ n hg
  have h2 := four_mul g (n / g + 1)
  generalize n / g = q at h1 h2 ⊢
  have h3 : g + (q + 1) ≤ 2 * ((g + q) / 2 + 1) := by omega
  have h4 : (g + (q + 1)) * (g + (q + 1)) ≤ (2 * ((g + q) / 2 + 1)) * (2 * ((g + q) / 2 + 1)) := Nat.mul_le_mul h3 h3
  generalize (g + q) / 2 + 1 = s at h4 ⊢
  have e : (2 * s) * (2 * s) = 4 * (s * s) := by grind
  omega
/-- where a step does not go down, the root is reached -/
theorem newton_end {n g : Nat} (hg : 0 < g) (h : ¬ (g + n / g) / 2 < g) : g * g ≤ n := by
  have h1 : g ≤ n / g := by omega
  exact (Nat.le_div_iff_mul_le hg).mp h1
/-- a step of the digits' root -/
theorem digit_step {n f s : Nat} (h1 : f * f ≤ n) (h2 : n < (f + 2 * s) * (f + 2 * s)) : ((f + s) * (f + s) ≤ n → (f + s) * (f + s) ≤ n ∧ n < (f + s + s) * (f + s + s)) ∧ (¬ (f + s) * (f + s) ≤ n → f * f ≤ n ∧ n < (f + s) * (f + s)) := by
  refine ⟨fun h => ⟨h, ?_⟩, fun h => ⟨h1, by omega⟩⟩
  rw [show f + s + s = f + 2 * s by omega]
  exact h2
/-- a square in lowest terms has squares above and below -/
theorem red_square {p q : Int × Int} (hp : Red p) (hq : Red q) (h : timesF 0 q q = p) : p = (q.1 * q.1, q.2 * q.2) := by
  have hn : q.2 * q.2 ≠ 0 := Int.mul_ne_zero (by have := hq.1; omega) (by have := hq.1; omega)
  have hr : Red (q.1 * q.1, q.2 * q.2) := by
    refine ⟨Int.mul_pos hq.1 hq.1, ?_⟩
    have h1 : Nat.Coprime q.1.natAbs q.2.natAbs := hq.2
    show Nat.gcd (q.1 * q.1).natAbs (q.2 * q.2).natAbs = 1
    rw [Int.natAbs_mul, Int.natAbs_mul]
    have h2 : Nat.Coprime (q.1.natAbs * q.1.natAbs) q.2.natAbs := Nat.Coprime.mul_left h1 h1
    exact Nat.Coprime.mul_right h2 h2
  rw [← h]
  exact low0_uniq hr hn (by simp only)
end Fm

namespace Fm
open PySem PySem.Spec PyProof.Rows L2
section
variable {prog : Program} {w : World} {A : Around} {E : Value → Shared → Prop} {s : Shared}
/-- no item is left while another exception is handled: StopIteration gets that one as its context -/
theorem stops_hot {α : Type} {x1 : Addr} {Q : α → Shared → Prop} (hot : HotX.HotAt A x1 s.heap)
    (hf : ∀ (e : Addr) (h' : Heap) (o : Obj), h'.get? e = some o → o.cls = .type "StopIteration" → (∀ b u, s.heap.get? b = some u → h'.get? b = some u) → E (.ref e) { s with heap := h' }) :
    wpAny (model prog w) A (newExc (.type "StopIteration") [] >>= fun v => (raiseNew v : Sem α)) Q E s := by
  obtain ⟨hh, o1, v1, g1, d1, c1⟩ := hot
  refine wpAny_bind ?_
  simp only [newExc, newTuple]
  refine wpAny_bind (wpAny_newObj_type ?q1 (by size_fits))
  refine wpAny_bind (m := firstArgMember _ _) (wpAny_of_eq (a := Value.none) (by first | rfl | (simp only [firstArgMember]; rfl)) ?q2)
  refine wpAny_newObj_type ?q3 (by size_fits)
  have up : ∀ (u : Obj) (v : Obj) b z, s.heap.get? b = some z → ((s.heap.push u).push v).get? b = some z := fun u v b z e => Heap.get?_push_of_some v (Heap.get?_push_of_some u e)
  refine HotX.raiseNew_hot ⟨hh, o1, v1, up _ _ _ _ g1, d1, c1⟩ ?ne (Heap.get?_push_size _ rfl) rfl ?sz ?fin
  case ne => exact Nat.ne_of_lt (Heap.lt_size (Heap.get?_push_of_some _ g1))
  case sz => first | (simp; done) | (simp; omega) | (simp only [Array.size_append]; simp; omega)
  case fin =>
    refine hf _ _ _ (Heap.get?_update_self _ (Heap.get?_push_size _ rfl) rfl) rfl fun b u e => ?_
    rw [Heap.get?_update_other _ _ (Nat.ne_of_gt (Heap.lt_size (Heap.get?_push_of_some _ e)))]
    exact up _ _ _ _ e
/-- the list's iterator is at its end, an exception being handled -/
theorem list_end_hot {it l x1 : Addr} {i : Nat} {items : Array Value} {Q : Option Value → Shared → Prop} (hot : HotX.HotAt A x1 s.heap) (ne : x1 ≠ it) (st : s.heap.IsListIter it l i) (hl : s.heap.IsList l items) (out : items[i]? = none)
    (k : ∀ h', Heap.ExtBut it s.heap h' → Q none { s with heap := h' }) : wpAny (model prog w) A (pyNext (.ref it)) Q E s := by
  obtain ⟨oi, gi, ci, di⟩ := id st
  obtain ⟨ol, gl, _, nl, dl⟩ := hl
  obtain ⟨hh, o1, v1, g1, d1, c1⟩ := hot
  have nn : ¬ ((Value.ref l == Value.none) = true) := Bool.false_ne_true
  unfold pyNext
  refine wpAny_bind (wpAny_attempt (wpAny_callSpecial?_slot (name := Str.ofString "__next__") st.typeIs slot_listiter_next (wpAny_call_entry slot_listiter_next st.typeIs entry_listiter_next ?go (args_listiter_next _))))
  show wpAny _ _ (field (.ref it) 0 >>= _) _ _ s
  refine wpAny_bind (wpAny_field gi di (x := .ref l) rfl ?_)
  show wpAny _ _ (if (Value.ref l == Value.none) = true then _ else _) _ _ s
  rw [if_neg nn]
  show wpAny _ _ (field (.ref it) 1 >>= _) _ _ s
  refine wpAny_bind (wpAny_field gi di (x := .int i 0) rfl ?_)
  show wpAny _ _ (seqItems? (.ref l) >>= _) _ _ s
  refine wpAny_bind (wpAny_seqItems gl dl ?_)
  simp only [Int.toNat_natCast, out]
  refine wpAny_bind (wpAny_rule (wpAny_bind (wpAny_setField gi di (by simp) ?_)))
  refine stops_hot (x1 := x1) ⟨hh, o1, v1, (Heap.get?_update_other _ _ (Ne.symm ne)).trans g1, d1, c1⟩ fun e h' o ge ce kp => ?_
  refine wpAny_bind (wpAny_isInstance (T := "StopIteration") (b := true) ⟨o, ge, ce⟩ isSubtype_stop ?_)
  refine wpAny_pure (k h' fun b u hb eb => kp b u ?_)
  exact (Heap.get?_update_other _ _ (Ne.symm hb)).trans eb
/-- the same of a tuple -/
theorem tup_end_hot {it t x1 : Addr} {i : Nat} {items : Array Value} {Q : Option Value → Shared → Prop} (hot : HotX.HotAt A x1 s.heap) (ne : x1 ≠ it) (st : IsTupIter s.heap it t i) (hl : IsTup s.heap t items) (out : items[i]? = none)
    (k : ∀ h', Heap.ExtBut it s.heap h' → Q none { s with heap := h' }) : wpAny (model prog w) A (pyNext (.ref it)) Q E s := by
  obtain ⟨oi, gi, ci, di⟩ := id st
  obtain ⟨ol, gl, _, nl, dl⟩ := hl
  obtain ⟨hh, o1, v1, g1, d1, c1⟩ := hot
  have nn : ¬ ((Value.ref t == Value.none) = true) := Bool.false_ne_true
  unfold pyNext
  refine wpAny_bind (wpAny_attempt (wpAny_callSpecial?_slot (name := Str.ofString "__next__") st.typeIs slot_tupleiter_next (wpAny_call_entry slot_tupleiter_next st.typeIs entry_tupleiter_next ?go (args_tupleiter_next _))))
  show wpAny _ _ (field (.ref it) 0 >>= _) _ _ s
  refine wpAny_bind (wpAny_field gi di (x := .ref t) rfl ?_)
  show wpAny _ _ (if (Value.ref t == Value.none) = true then _ else _) _ _ s
  rw [if_neg nn]
  show wpAny _ _ (field (.ref it) 1 >>= _) _ _ s
  refine wpAny_bind (wpAny_field gi di (x := .int i 0) rfl ?_)
  show wpAny _ _ (seqItems? (.ref t) >>= _) _ _ s
  refine wpAny_bind (wpAny_seqItems gl dl ?_)
  simp only [Int.toNat_natCast, out]
  refine wpAny_bind (wpAny_rule (wpAny_bind (wpAny_setField gi di (by simp) ?_)))
  refine stops_hot (x1 := x1) ⟨hh, o1, v1, (Heap.get?_update_other _ _ (Ne.symm ne)).trans g1, d1, c1⟩ fun e h' o ge ce kp => ?_
  refine wpAny_bind (wpAny_isInstance (T := "StopIteration") (b := true) ⟨o, ge, ce⟩ isSubtype_stop ?_)
  refine wpAny_pure (k h' fun b u hb eb => kp b u ?_)
  exact (Heap.get?_update_other _ _ (Ne.symm hb)).trans eb
/-- a tuple's items come to names, an exception being handled -/
theorem unpack_hot {t x1 : Addr} {items : Array Value} {env : Env} {elts : List Expr} {kk} {pos : Pos} {Q : Unit → Shared → Prop} (hot : HotX.HotAt A x1 s.heap) (hl : IsTup s.heap t items)
    (hn : (assignEach elts env).length = items.size) (hst : (assignEach elts env).findIdx? (·.1) = none)
    (k : ∀ h', Heap.ExtBut s.heap.objs.size s.heap h' → wpAny (model prog w) A (assignInOrder ((assignEach elts env).map (·.2)) items.toList) Q E { s with heap := h' }) :
    wpAny (model prog w) A (assign (.Tuple elts kk pos) env (.ref t)) Q E s := by
  have lt : t ≠ s.heap.objs.size := by
    obtain ⟨o, ho, _⟩ := hl
    exact Nat.ne_of_lt (Heap.lt_size ho)
  obtain ⟨hh, o1, v1, g1, d1, c1⟩ := hot
  have n1 : x1 ≠ s.heap.objs.size := Nat.ne_of_lt (Heap.lt_size g1)
  rw [assign_Tuple]
  refine wpAny_bind (wpAny_standAt ?_)
  unfold unpack
  rw [hn, hst]
  refine wpAny_bind (wpAny_holding ?_)
  unfold unpackItems
  refine wpAny_bind ?_
  unfold notIterableAtAll
  refine wpAny_bind (wpAny_specialOf hl.typeIs slot_tuple_iter.lookup (wpAny_pure ?_))
  simp only [Bool.false_eq_true, if_false]
  refine wpAny_bind (wpAny_holding (iter_tuple hl (wpAny_bind (wpAny_holding (draw_tuple lt items.size 0 _ _ ⟨_, Heap.get?_push_size _ rfl, rfl, rfl⟩ (hl.push _) (by omega) fun h2 st2 sb2 => ?_)))))
  rw [List.drop_zero, List.take_of_length_le (by simp), if_neg (by simp)]
  have ht2 : IsTup h2 t items := (hl.push _).extBut sb2.extBut lt
  have g2 : h2.get? x1 = some o1 := (sb2.2 x1 n1).trans (Heap.get?_push_of_some _ g1)
  refine wpAny_bind (wpAny_holding (tup_end_hot (x1 := x1) ⟨hh, o1, v1, g2, d1, c1⟩ n1 st2 ht2 (by simp) fun h3 e3 => ?_))
  simp only [Option.isSome_none, Bool.false_eq_true, if_false]
  refine wpAny_pure (k h3 fun b o hb e => e3 b o hb (sb2.extBut b o hb (Heap.get?_push_of_some _ e)))
end
end Fm

namespace Fm
open PySem PySem.Spec PyProof.Rows L2
/-- a, b = a pair, while an exception is handled -/
theorem pg_tupH {X : Cx} {es : List Expr} {kk : Nat} {t : TGs} {n : Nat} {pos : Pos} (hc : L2H.HotC X) (h : PGs X es t) (hn : (assignEach es X.env).length = n := by rfl) (hst : (assignEach es X.env).findIdx? (·.1) = none := by rfl) :
    PG X (.Tuple es kk pos) (gTup X.K n t) := by
  refine ⟨fun pins s σ H v u Q I r hw => ?_⟩
  obtain ⟨a, xs, rfl, hq, hl, hw⟩ := hw
  cases r
  obtain ⟨its, rv, ht, _⟩ := I.tuple hq
  obtain ⟨x1, hot⟩ := hc.at I
  refine unpack_hot hot ht (by simp [hn, ← hl, rv.length]) hst fun h' hx => ?_
  exact h.run pins _ σ H xs _ Q (I.kept (t' := s.toks) fun b o e => hx b o (Nat.ne_of_lt (Heap.lt_size e)) e) (by simpa using rv) hw
/-- [elt for target in a list if ..] while an exception is handled: D the new list, W by the turn -/
def tLcH (K : PySem.W.Frag) (ti : TE) (g : TG) (tt : TT) (te : TE) (vs : List Nat) : TE := fun σ H Q => ti σ H fun v H1 => ∃ (a : Addr) (xs : List V), v = .ref a ∧ SqL K H1 a xs ∧ ∀ D, H1 D = none → ∃ W : Nat → Hp → Prop,
  W 0 (upd H1 D (.lst [])) ∧ (∀ i H', W i H' → SqL K H' a xs) ∧ (∀ H', W xs.length H' → Q (.ref D) H') ∧ ∀ i x H', xs[i]? = some x → W i H' → g x (wipe σ vs) H' fun σ2 H2 => wipe σ2 vs = wipe σ vs ∧ tt σ2 H2 fun b H3 =>
    if b = true then te σ2 H3 fun y H4 => ∃ acc, H4 D = some (.lst acc) ∧ acc.length < sizeLine ∧ W (i + 1) (upd H4 D (.lst (acc ++ [y]))) else W (i + 1) H3
/-- the block's context: the handled exception is pinned in it -/
abbrev blkH (X : Cx) (p : Addr × Obj) (s : Shared) (H : Hp) (scope : Scope) (cenv : Env) (fp : List Addr) : Cx := (X.blk s H scope cenv fp).tr [p] (fun _ _ => False)
section
variable {X : Cx}
theorem hot_blk {p : Addr × Obj} {s : Shared} {H : Hp} {scope : Scope} {cenv : Env} {fp : List Addr} (h : L2H.Hot1 X.A p) : L2H.HotC (blkH X p s H scope cenv fp) := ⟨p, h, List.mem_cons_self⟩
theorem lc_hot {pins : List (Addr × Obj)} {s : Shared} {σ : L2.St} {H : Hp} {Q : VK} {elt tg iter : Expr} {ifs : List Expr} {scope : Scope} {own : List (Str × Nat)} {pos pos' : Pos} {ti : TE} {g : TG} {tt : TT} {te : TE} {use : Option (Value → Sem Unit)} {Qf : Value → Shared → Prop} {p : Addr × Obj}
    (hp : L2H.Hot1 X.A p) (hpn : p ∈ X.pn) (hN : X.N.Nodup) (I : Inv X pins σ H s) (hi : PE X iter ti) (ok : BlkOk X.N X.env.scope scope own)
    (hg : ∀ (s : Shared) (H : Hp) (C : Addr) (cl : List (Str × Addr)) (fp : List Addr), PG (blkH X p s H scope (compEnvC scope cl C X.env) fp) tg g)
    (ht : ∀ (s : Shared) (H : Hp) (C : Addr) (cl : List (Str × Addr)) (fp : List Addr), PTs (blkH X p s H scope (compEnvC scope cl C X.env) fp) ifs tt)
    (he : ∀ (s : Shared) (H : Hp) (C : Addr) (cl : List (Str × Addr)) (fp : List Addr), PE (blkH X p s H scope (compEnvC scope cl C X.env) fp) elt te)
    (hs : ∀ x, foldedSetIterable iter X.env x = pure x) (h : tLcH X.K ti g tt te (own.map (·.2)) σ H Q)
    (hRR : ∀ D C s' m H', Inv X pins σ H' s' → Q (.ref D) H' → s'.heap.Ns C m → FpOk X pins H' C → compPost (model X.prog X.w) X.A X.xe use Qf (.ref D) C (.ok .next) s') :
    wpAny (model X.prog X.w) X.A (comprehension (.ListComp elt [⟨tg, iter, ifs, 0⟩] scope pos) scope X.env pos' (newList []) false (eval iter X.env) use) Qf X.xe s := by
  have hfr : ∀ y ∈ scope.names, y.2 = .free → ∃ c, X.env.cells.lookup y.1 = some c := fun y hy e => (ok.free y hy e).elim (fun z => I.ok.has _ (.inl z)) fun z => I.ok.has _ (.inr z)
  refine wpAny_comprehension_free (use := use) rfl hs (closure_ok hfr) ok.kind (fun y hy e => by rw [ok.uniq y hy, e]) (thn (hi.run pins s σ H _ I h) fun xv s1 hx => ?_)
  obtain ⟨v, H1, I1, rv1, a, xs, rfl, hq, hD⟩ := hx
  cases rv1
  obtain ⟨its, rvs, pl, _⟩ := I1.list hq
  have hln := rvs.length
  refine wpAny_pyIter_list pl.isList ?_
  generalize hit : s1.heap.objs.size = it
  generalize hs2 : ({ s1 with heap := s1.heap.push { cls := .type "list_iterator", data := .fields #[.ref a, .int 0 0] } } : Shared) = s2
  have h2 : s2.heap = s1.heap.push { cls := .type "list_iterator", data := .fields #[.ref a, .int 0 0] } := by rw [← hs2]
  have I2 : Inv X pins σ H1 s2 := by
    rw [← hs2]
    exact I1.kept (t' := s1.toks) fun b o e => Heap.get?_push_of_some _ e
  have st2 : s2.heap.IsListIter it a 0 := by
    rw [h2, ← hit]
    exact ⟨_, Heap.get?_push_size _ rfl, rfl, rfl⟩
  have f2 : FpOk X pins H1 it := I1.fpOk (Nat.le_of_eq hit) (I1.hok.fresh (Nat.le_of_eq hit))
  refine wpAny_newObj_type (newEnv_comp ?_) (by show 0 ≤ sizeLine; decide)
  generalize hDD : s2.heap.objs.size = D
  obtain ⟨W, w0, wl, wd, ws⟩ := hD D (I2.hok.fresh (Nat.le_of_eq hDD))
  have ltit : it < s2.heap.objs.size := by rw [h2, Heap.size_push, hit]; exact Nat.lt_succ_self _
  generalize hs3 : ({ s2 with heap := s2.heap.push { cls := .type "list", data := .seq ([] : List Value).toArray } } : Shared) = s3
  have h3 : s3.heap = s2.heap.push { cls := .type "list", data := .seq ([] : List Value).toArray } := by rw [← hs3]
  have I3 : Inv X pins σ (upd H1 D (.lst [])) s3 := by
    rw [← hs3]
    refine I2.laid (t' := s2.toks) (fun b o e => Heap.get?_push_of_some _ e) (Nat.le_of_eq hDD) ⟨Nat.zero_le _, [], 0, .nil, ?_⟩
    rw [← hDD]
    exact Heap.get?_push_size _ rfl
  have nD : it ≠ D := by rw [← hDD]; exact Nat.ne_of_lt ltit
  have f3 : ∀ b ∈ [it], FpOk X pins (upd H1 D (.lst [])) b ∧ b < s3.heap.objs.size := fun b hb => by
    obtain rfl : b = it := by simpa using hb
    refine ⟨⟨?_, f2.2⟩, by rw [h3, Heap.size_push]; exact Nat.lt_succ_of_lt ltit⟩
    rw [upd_ne nD]
    exact f2.1
  have st3 : s3.heap.IsListIter it a 0 := st2.at fun o e => by rw [h3]; exact Heap.get?_push_of_some _ e
  have I4 := block_start I3 ok hN f3
  generalize hcl : cellsFrom (s3.heap.objs.size + 1) scope.names (cloFrom X.env.cells scope.names []) = cl at I4
  show codeAny _ _ (.compStart (.ListComp elt [⟨tg, iter, ifs, 0⟩] scope pos) 0 (.ref it) (.ref D) (compEnvC scope cl s3.heap.objs.size X.env)) (compPost (model X.prog X.w) X.A X.xe use Qf (.ref D) s3.heap.objs.size) { s3 with heap := pushCells (s3.heap.push { cls := .type "dict", data := .dict #[] }) scope.names }
  have pg := hg s3 (upd H1 D (.lst [])) s3.heap.objs.size cl [it]
  have pt := ht s3 (upd H1 D (.lst [])) s3.heap.objs.size cl [it]
  have pe := he s3 (upd H1 D (.lst [])) s3.heap.objs.size cl [it]
  generalize hce : compEnvC scope cl s3.heap.objs.size X.env = ce at I4 pg pt pe ⊢
  have cL : ce.locals = s3.heap.objs.size := by subst hce; rfl
  generalize hs4 : ({ s3 with heap := pushCells (s3.heap.push { cls := .type "dict", data := .dict #[] }) scope.names } : Shared) = s4 at I4 ⊢
  have kp4 : ∀ b o, s3.heap.get? b = some o → s4.heap.get? b = some o := fun b o e => by rw [← hs4]; exact pushCells_keeps _ _ _ _ (Heap.get?_push_of_some _ e)
  have st4 : s4.heap.IsListIter it a 0 := st3.at fun o e => kp4 _ _ e
  obtain ⟨pg3, pn3, pl3, pf3, pc3⟩ := I3.pin p (List.mem_append_left _ hpn)
  have ps3 : p.1 ∉ frs X.stack := fun z => by
    rcases I3.ok.stk with e | ⟨e, ef⟩
    · rw [e] at z
      exact pf3 z
    · rw [e] at z
      obtain ⟨en, hen, q⟩ := List.mem_filterMap.mp z
      rcases List.mem_cons.mp hen with e1 | e1
      · rw [e1, ef] at q
        exact pl3 (Option.some.inj q).symm
      · exact pf3 (List.mem_filterMap.mpr ⟨en, e1, q⟩)
  have hlt3 := Heap.lt_size pg3
  generalize hH3 : upd H1 D (.lst []) = H3 at I3 I4 pg pt pe w0 f3 pn3
  have J4 : Inv (blkH X p s3 H3 scope ce [it]) [] (wipe σ (own.map (·.2))) H3 s4 :=
    ⟨I4.ok.toTry _ _, I4.os, I4.bare, I4.base, I4.loc, I4.cell, I4.free, I4.freeC, fun q hq => by
      obtain rfl : q = p := by simpa using hq
      exact ⟨kp4 _ _ pg3, pn3, by show q.1 ≠ ce.locals; rw [cL]; exact Nat.ne_of_lt hlt3, ps3, pc3⟩, I4.hok, I4.len⟩
  have npit : p.1 ≠ it := f2.2.2.2.2.2 p (List.mem_append_left _ hpn)
  have stat : ∀ {σ' : L2.St} {H' : Hp} {s' : Shared}, Inv (blkH X p s3 H3 scope ce [it]) [] σ' H' s' → H' it = none → ∀ b ∈ [it], FpOk (blkH X p s3 H3 scope ce [it]) [] H' b := fun {σ' H' s'} I' hn b hb => by
    obtain rfl : b = it := by simpa using hb
    refine ⟨hn, (I'.ok.exf b hb).1, I'.ok.exfs b hb, .inl hb, fun x c e => (I'.ok.exf b hb).2 x c e, fun q hq => ?_⟩
    obtain rfl : q = p := by simpa using hq
    exact npit
  have n3 : H3 it = none := (f3 it (by simp)).1.1
  have go : codeAny (model X.prog X.w) X.A (.compLoop (.ListComp elt [⟨tg, iter, ifs, 0⟩] scope pos) 0 (.ref it) (.ref D) ce) (compPost (model X.prog X.w) X.A X.xe use Qf (.ref D) s3.heap.objs.size) s4 := by
    refine compLoop_any (fun n s' => ∃ i H', n = xs.length - i ∧ i ≤ xs.length ∧ Inv (blkH X p s3 H3 scope ce [it]) [] (wipe σ (own.map (·.2))) H' s' ∧ s'.heap.IsListIter it a i ∧ H' it = none ∧ W i H') ?_ xs.length ⟨0, H3, rfl, Nat.zero_le _, J4, st4, n3, w0⟩
    rintro n s5 ⟨i, H5, rfl, hle, I5, st5, n5, w5⟩
    have hq5 := wl i H5 w5
    obtain ⟨its5, rv5, pl5, _⟩ := I5.list hq5
    have hl5 := rv5.length
    obtain ⟨f0, f1, f4, f6, f7, f8⟩ := stat I5 n5 it (by simp)
    by_cases hlt : i < xs.length
    · have hxi : xs[i]? = some xs[i] := List.getElem?_eq_getElem hlt
      obtain ⟨u, hu, ru⟩ := rv5.get hxi
      refine thnF (wpAny_pyNext_list_item (E := fun _ _ => False) st5 pl5.isList (x := u) (by simpa using hu) (Q := fun r s6 => r = some u ∧ ∃ h', s6 = { s5 with heap := h' } ∧ h'.IsListIter it a (i + 1) ∧ Heap.SameBut it s5.heap h') fun h' st' sb => ⟨rfl, h', rfl, st', sb⟩) fun r s6 hr => ?_
      obtain ⟨rfl, h6, rfl, st6, sb6⟩ := hr
      have I6 : Inv (blkH X p s3 H3 scope ce [it]) [] (wipe σ (own.map (·.2))) H5 { s5 with heap := h6 } := I5.turned (t' := s5.toks) (fun b o hb e => (sb6.2 b hb).trans e) f0 f1 f6 f7 f8
      obtain ⟨oi, ei, ci, di⟩ := id st6
      refine go_of (s := { s5 with heap := h6 }) ei ci di (by decide) ?_
      have I7 := I6.pinned (fp := [it]) (stat I6 n5) fun b hb => by
        obtain rfl : b = it := by simpa using hb
        exact ⟨oi, ei, fun v z => by rw [di] at z; cases z⟩
      refine thnF (pg.run _ _ _ H5 xs[i] u _ I7 ru (ws i _ H5 hxi w5)) fun _ s8 hr8 => ?_
      obtain ⟨σ8, H8, I8, hw8, q8⟩ := hr8
      refine thnF (pt.run _ s8 σ8 H8 _ I8 q8) fun b s9 hr9 => ?_
      obtain ⟨H9, I9, q9⟩ := hr9
      have fin : ∀ {s' : Shared} {H' : Hp}, Inv (blkH X p s3 H3 scope ce [it]) ([] ++ pinsAt [it] h6) σ8 H' s' → W (i + 1) H' → ∃ m, m < xs.length - i ∧ ∃ i H', m = xs.length - i ∧ i ≤ xs.length ∧ Inv (blkH X p s3 H3 scope ce [it]) [] (wipe σ (own.map (·.2))) H' s' ∧ s'.heap.IsListIter it a i ∧ H' it = none ∧ W i H' := fun {s' H'} I' w' => by
        have z := I'.pin (it, oi) (List.mem_append_right _ (List.mem_append_right _ (mem_pinsAt (by simp) ei)))
        refine ⟨xs.length - (i + 1), by omega, i + 1, H', rfl, hlt, (I'.unpinned (pins := [])).weak (by rw [← hw8, wipe_length]) (fun j v e => ?_), st6.at fun o e => ?_, z.2.1, w'⟩
        · rw [← hw8] at e
          exact (wipe_some e).1
        · have e' : h6.get? it = some o := e
          rw [ei] at e'
          cases e'
          exact z.1
      cases b with
      | false =>
        simp only [Bool.false_eq_true, if_false] at q9 ⊢
        exact fin I9 q9
      | true =>
        simp only [if_true] at q9 ⊢
        refine thnF (pe.run _ s9 σ8 H9 _ I9 q9) fun z s10 hr10 => ?_
        obtain ⟨yv, H10, I10, r10, acc, hD10, hz10, nx⟩ := hr10
        exact app_ok (X := blkH X p s3 H3 scope ce [it]) I10 hD10 hz10 r10 fun s11 I11 => fin I11 nx
    · have ei : i = xs.length := by omega
      obtain ⟨x1, hot⟩ := (hot_blk (X := X) (p := p) (s := s3) (H := H3) (scope := scope) (cenv := ce) (fp := [it]) hp).at I5
      have hx1 : x1 ≠ it := by
        have e : X.A.handled = some (.ref x1) := hot.1
        rw [hp.1] at e
        cases e
        exact npit
      refine thnF (list_end_hot (E := fun _ _ => False) hot hx1 st5 pl5.isList (by simp; omega) (Q := fun r s6 => r = none ∧ Inv (blkH X p s3 H3 scope ce [it]) [] (wipe σ (own.map (·.2))) H5 s6) fun h' eb => ⟨rfl, I5.turned (t' := s5.toks) (fun b o hb e => eb b o hb e) f0 f1 f6 f7 f8⟩) fun r s6 hr => ?_
      obtain ⟨rfl, I6⟩ := hr
      have I7 : Inv X pins σ H5 s6 := I3.call' (ch := [it]) I6.os I6.base I6.hok I6.bare fun b hb => ⟨(f3 b hb).1.2.2.2.1, (f3 b hb).1.2.1, (f3 b hb).1.2.2.2.2.1, (f3 b hb).1.2.2.2.2.2⟩
      obtain ⟨m, hn, _⟩ := I6.loc
      have hn : s6.heap.Ns ce.locals m := hn
      have nC : H5 ce.locals = none := I6.free
      rw [cL] at hn nC
      rw [ei] at w5
      exact hRR D s3.heap.objs.size s6 m H5 I7 (wd H5 w5) hn (I3.fpOk (Nat.le_refl _) nC)
  exact codeAny_compStart_list go (wpAny_pyIter_listiter st4 go)
end
end Fm

namespace Fm
open PySem PySem.Spec PyProof.Rows L2
section
variable {X : Cx}
/-- name = [..] while an exception is handled -/
theorem ps_setLcH {i : Nat} {y : Str} {py : Pos} {elt tg iter : Expr} {ifs : List Expr} {scope : Scope} {own : List (Str × Nat)} {pos spos : Pos} {ti : TE} {g : TG} {tt : TT} {te : TE} {p : Addr × Obj} (hp : L2H.Hot1 X.A p) (hpn : p ∈ X.pn) (hN : X.N.Nodup) (hy : X.N[i]? = some y) (hyl : X.env.scope.names.lookup y = some .local)
    (hsw : swapsWith (.ListComp elt [⟨tg, iter, ifs, 0⟩] scope pos) (some (.Name y py)) spos.line X.env = pure true) (hi : PE X iter ti) (ok : BlkOk X.N X.env.scope scope own)
    (hg : ∀ (s : Shared) (H : Hp) (C : Addr) (cl : List (Str × Addr)) (fp : List Addr), PG (blkH X p s H scope (compEnvC scope cl C X.env) fp) tg g)
    (ht : ∀ (s : Shared) (H : Hp) (C : Addr) (cl : List (Str × Addr)) (fp : List Addr), PTs (blkH X p s H scope (compEnvC scope cl C X.env) fp) ifs tt)
    (he : ∀ (s : Shared) (H : Hp) (C : Addr) (cl : List (Str × Addr)) (fp : List Addr), PE (blkH X p s H scope (compEnvC scope cl C X.env) fp) elt te)
    (hs : ∀ x, foldedSetIterable iter X.env x = pure x := by intro _; rfl) :
    PS X (.Assign [.Name y py] (.ListComp elt [⟨tg, iter, ifs, 0⟩] scope pos) spos) (tAsg (tLcH X.K ti g tt te (own.map (·.2))) (gName i)) := by
  refine ⟨fun pins s σ H D I h0 => ?_⟩
  have h : tLcH X.K ti g tt te (own.map (·.2)) σ H (fun x H1 => gName i x σ H1 D.nx) := h0
  rw [exec_Assign_Name_used _ _ _ _ hsw]
  refine wpAny_bind (wpAny_standAt (wpAny_bind ?_))
  show wpAny _ X.A (do let _ ← comprehension (.ListComp elt [⟨tg, iter, ifs, 0⟩] scope pos) scope X.env (firstIterPos [⟨tg, iter, ifs, 0⟩] pos) (newList []) false (eval iter X.env) (some (assign (.Name y py) X.env))) _ _ s
  refine wpAny_bind (thn (lc_hot (Qf := fun _ s' => SP X pins D .next s') hp hpn hN I hi ok hg ht he hs h fun L C s' m H' I' q hn f => ?fin) fun _ s' hq => wpAny_pure (wpAny_pure hq))
  obtain ⟨f0, f1, f2, f3, f4, f5⟩ := f
  show wpAny _ _ (assign (.Name y py) X.env (.ref L)) _ _ _
  refine wpAny_assign_Name (store_ok2 (v := V.ref L) I' hN hy (.inl hyl) rfl (fun s2 I2 hx => ?_) (.inr hyl))
  obtain ⟨a, sb, ha⟩ := hx
  have nCa : C ≠ a := ha.elim (fun z => by rw [z]; exact f1) fun z e => f4 y a z e.symm
  exact ⟨m, hn.sameBut sb nCa, fun h3 sb3 => ⟨_, H', I2.turned (t' := s2.toks) (fun b o hb e => (sb3.2 b hb).trans e) f0 f1 f3 f4 f5, q⟩⟩
/-- an exception that came out of a try's body, looked at by its clauses: sI is the state without it -/
structure Gd (X : Cx) (pins : List (Addr × Obj)) (σ : L2.St) (H : Hp) (B : Heap) (sI : Shared) (a : Addr) (cls : Value) (d : Option Addr) (s : Shared) : Prop where
  inv : Inv X pins σ H sI
  nb : ∀ b o, sI.heap.get? b = some o → b ∉ frs X.stack → B.get? b = some o
  up : sI.heap.UpToSlots s.heap
  fl : HandSPX.FlyingZ B (X.env :: X.outer) a (L2N.Zn cls d) s.heap
  na : H a = none
  os : s.os = sI.os
  ag : AllBare s.gens
theorem Gd.at {pins : List (Addr × Obj)} {σ : L2.St} {H : Hp} {B : Heap} {sI s : Shared} {a : Addr} {cls : Value} {d : Option Addr} (G : Gd X pins σ H B sI a cls d s) : Inv X pins σ H s := G.inv.landed G.nb G.fl.1 G.up G.os G.ag
theorem Gd.suite {pins : List (Addr × Obj)} {σ : L2.St} {H : Hp} {B : Heap} {sI s : Shared} {a : Addr} {cls : Value} {d : Option Addr} (hf : X.env.frame = some X.env.locals) (G : Gd X pins σ H B sI a cls d s) :
    ∃ (oe : Obj) (vs : Array Value), s.heap.get? a = some oe ∧ L2N.Zn cls d oe ∧ oe.data = .fields vs ∧ Inv (X.suite a ((a, oe) :: (X.pn ++ pins))) [] σ H s := by
  obtain ⟨oe, vs, ge, ze, de⟩ := G.fl.there
  have nf : a ∉ frs (X.env :: X.outer) := fun hm => by
    obtain ⟨_, o', e', hnf⟩ := G.fl.2.2.1.mem hm
    rw [ge] at e'
    cases e'
    exact hnf _ de
  refine ⟨oe, vs, ge, ze, de, G.at.suite ge de G.na (fun z => nf ?_) fun hm => nf ?_⟩
  · exact List.mem_filterMap.mpr ⟨X.env, List.mem_cons_self, by rw [hf, z]⟩
  · obtain ⟨e, he, q⟩ := List.mem_filterMap.mp hm
    exact List.mem_filterMap.mpr ⟨e, List.mem_cons_of_mem _ he, q⟩
/-- the clause's class, asked of it -/
theorem Gd.ask {pins : List (Addr × Obj)} {σ : L2.St} {H : Hp} {B : Heap} {sI s : Shared} {a : Addr} {cls c : Value} {d : Option Addr} {x : Str} {np : Pos} {b : Bool} {R : Bool → Shared → Prop} {E E' : Value → Shared → Prop} (hf : X.env.frame = some X.env.locals) (G : Gd X pins σ H B sI a cls d s) (hc : Names X x c) (hx : PySem.W.exmOne X.K cls c = some b) (q : R b s) :
    wpAny (model X.prog X.w) (X.A.mark (some (.ref a))) (eval (.Name x np) X.env) (fun v s1 => wpAny (model X.prog X.w) (X.A.mark (some (.ref a))) (excMatches (.ref a) v) R E' s1) E s := by
  obtain ⟨oe, vs, ge, ze, de, S⟩ := G.suite hf
  have LT : PySem.W.Looks (model X.prog X.w) s.heap (typeOf (.ref a)) cls := fun A Q E s k q => wpAny_typeOf_ref (k _ _ ge) (by rw [ze.1]; exact q)
  have LM := PySem.W.exm_one (M := model X.prog X.w) G.at.kIn LT hx
  obtain ⟨hg, hdb, hm | ⟨hm, hv, hnn⟩⟩ := hc
  · exact ld_glob (X := X.suite a ((a, oe) :: (X.pn ++ pins))) S hg hm (LM.here q) hdb
  · exact ld_blt (X := X.suite a ((a, oe) :: (X.pn ++ pins))) S hg hm hv (LM.here q) hnn hdb
theorem Gd.again {pins : List (Addr × Obj)} {σ : L2.St} {H : Hp} {B : Heap} {sI s : Shared} {a : Addr} {cls : Value} {d : Option Addr} {M : Model} {A : Around} {E : Value → Shared → Prop} {Q : Unit → Shared → Prop} (G : Gd X pins σ H B sI a cls d s)
    (k : ∀ h', Gd X pins σ H B sI a cls d { s with heap := h' } → Q () { s with heap := h' }) : wpAny M A (setFlight (.ref a) none) Q E s :=
  HandSPX.lands_againZ G.fl fun h' fl' up' => k h' ⟨G.inv, G.nb, G.up.trans up', fl', G.na, G.os, G.ag⟩
/-- the clauses without a name, one after another -/
theorem Gd.plain {pins : List (Addr × Obj)} {σ : L2.St} {H : Hp} {B : Heap} {sI : Shared} {a : Addr} {cls : Value} {d : Option Addr} {D : Ends} {Wout : WX} (hs : X.stack = X.env :: X.outer) (hf : X.env.frame = some X.env.locals) (tk : L2N.Takes X Wout) :
    ∀ {hds : List ExceptHandler} {l : List (Value × (Addr → Value → Option Addr → TS))}, L2N.HdsOk X hds l → ∀ {s : Shared}, Gd X pins σ H B sI a cls d s → wMany X.K Wout D l cls d σ H → wpAny (model X.prog X.w) X.A (handleBy (.ref a) X.env hds) (SP X pins D) X.xe s := by
  intro hds l hk
  induction hk with
  | nil =>
    intro s G wsh
    refine wpAny_handleBy_nil ?_
    obtain ⟨_, _, _, oe, vs, T, oT, ts', he, hz, hd, h1, _⟩ := id G.fl
    have nT : ¬ ((Value.ref T == Value.none) = true) := by simp
    unfold PySem.passOn
    refine wpAny_bind (wpAny_field he hd h1 ?_)
    rw [if_neg nT]
    have on : wpAny (model X.prog X.w) X.A (setFlight (.ref a) X.env.frame) (fun _ s4 => wpAny (model X.prog X.w) X.A (throw (.ref a) : Sem Flow) (SP X pins D) X.xe s4) X.xe s := by
      rw [hf]
      refine HandSPX.setFlight_upZ G.fl fun h4 hh4 up4 => wpAny_throw (tk _ _ ?_)
      exact ⟨a, B, sI, pins, σ, H, cls, d, rfl, G.inv, G.nb, G.up.trans up4, .inr (.inr (by rw [hs]; exact hh4)), G.na, G.os, G.ag, wsh⟩
    first
      | exact wpAny_bind (wpAny_pure (wpAny_bind on))
      | exact wpAny_bind on
  | cons hc hsu r ih =>
    intro s G wsh
    obtain ⟨b, hb1, hyes, hno⟩ := wsh
    refine wpAny_handleBy_cons (codeAny_handlers_test (G.ask hf hc hb1 ?_)) (by intro q; cases q)
    cases b with
    | true =>
      refine codeAny_handlers_suite (G.again fun h' G' => ?_)
      obtain ⟨oe, vs, ge, ze, de, S⟩ := G'.suite hf
      refine wpAny_mono ((hsu a oe cls d (X.pn ++ pins) ze ⟨_, de⟩).run [] _ _ H _ S (hyes rfl a G.na)) (fun f s6 hsp => ?_) fun _ _ z => z.elim
      have ok := G.inv.ok
      cases f with
      | next => exact (let ⟨σ6, H6, S6, q6⟩ := hsp; ⟨σ6, H6, S6.unsuite ok, q6⟩)
      | brk => exact (let ⟨σ6, H6, S6, q6⟩ := hsp; ⟨σ6, H6, S6.unsuite ok, q6⟩)
      | cont => exact (let ⟨σ6, H6, S6, q6⟩ := hsp; ⟨σ6, H6, S6.unsuite ok, q6⟩)
      | ret u => exact (let ⟨v6, σ6, H6, S6, r6, q6⟩ := hsp; ⟨v6, σ6, H6, S6.unsuite ok, r6, q6⟩)
    | false => exact ih G (hno rfl)
/-- try: body / except x as n: suite / further clauses without a name -/
theorem ps_tryM {x n : Str} {c : Value} {i : Nat} {body suite : List Stmt} {b₀ : Stmt} {hds : List ExceptHandler} {np pos pos' : Pos} {tb : WX → TS} {ts : Addr → Value → Option Addr → TS} {Wout : WX} {l : List (Value × (Addr → Value → Option Addr → TS))}
    (hs : X.stack = X.env :: X.outer) (hf : X.env.frame = some X.env.locals) (hN : X.N.Nodup) (hi : X.N[i]? = some n) (hln : X.env.kindOf n = some .local) (hc : Names X x c) (tk : L2N.Takes X Wout)
    (hb : ∀ (W : WX) (pn : List (Addr × Obj)) (xe : Value → Shared → Prop), L2N.Takes (X.tr pn xe) W → PassesOwn (model X.prog X.w) X.A X.env xe → PSs (X.tr pn xe) body (tb W))
    (hsu : ∀ (a : Addr) (oe : Obj) (cls : Value) (d : Option Addr) (pn : List (Addr × Obj)), L2N.Zn cls d oe → (∃ vs, oe.data = .fields vs) → PSs (X.suite a ((a, oe) :: pn)) (b₀ :: suite) (ts a cls d)) (hh : L2N.HdsOk X hds l) :
    PS X (.Try body (.ExceptHandler (some (.Name x np)) (some n) (b₀ :: suite) pos' :: hds) [] [] pos) (fun D σ H => tb (wAs X.K c i ts (wMany X.K Wout D l) D) D σ H) := by
  refine ⟨fun pins s σ H D I h => ?_⟩
  have ok := I.ok
  have hfr : X.A.frames = some (X.env :: X.outer) := by rw [ok.frames, hs]
  refine wpAny_Try_except (wpAny_mono ((hb (wAs X.K c i ts (wMany X.K Wout D l) D) (X.pn ++ pins) (fun e s1 => wpAny (model X.prog X.w) X.A (noteFrame e X.env) (fun _ s2 => wpAny (model X.prog X.w) X.A (setFlight e none) (fun _ s3 =>
    wpAny (model X.prog X.w) X.A (handleBy e X.env (.ExceptHandler (some (.Name x np)) (some n) (b₀ :: suite) pos' :: hds)) (SP X pins D) X.xe s3) X.xe s2) X.xe s1) (fun u s' xx => ?cat) PassesOwn.looking).run [] s σ H D (I.toTry _) h) (fun f s1 hsp => ?thru) fun e s1 he => he)
  case thru =>
    cases f with
    | next => exact (let ⟨σ', H', J', q⟩ := hsp; wpAny_execs_nil ⟨σ', H', J'.ofTry ok, q⟩)
    | brk => exact (let ⟨σ', H', J', q⟩ := hsp; ⟨σ', H', J'.ofTry ok, q⟩)
    | cont => exact (let ⟨σ', H', J', q⟩ := hsp; ⟨σ', H', J'.ofTry ok, q⟩)
    | ret u => exact (let ⟨v, σ', H', J', r, q⟩ := hsp; ⟨v, σ', H', J'.ofTry ok, r, q⟩)
  case cat =>
    obtain ⟨a, B, sI, pins', σ', H', cls, d, rfl, J', nb, up, sky, na, os, ag, b, hb1, hyes, hno⟩ := xx
    have sky' : Sky B (X.env :: X.outer) a (L2N.Zn cls d) X.env.locals s'.heap := by rw [← hs]; exact sky
    show wpAny (model X.prog X.w) X.A (noteFrame (.ref a) X.env) _ _ _
    refine L2N.Sky.land L2N.Zn.steady hfr hf sky' fun h3 fl3 up3 => ?_
    have G : Gd X pins σ' H' B sI a cls d { s' with heap := h3 } := ⟨J'.ofTry ok, nb, up.trans up3, fl3, na, os, ag⟩
    refine wpAny_handleBy_cons (codeAny_handlers_test (G.ask hf hc hb1 ?_)) (by intro q; cases q)
    cases b with
    | false => exact G.plain hs hf tk hh (hno rfl)
    | true =>
      refine codeAny_handlers_suite_as (G.again fun h4 G4 => ?_)
      obtain ⟨oe, vs, ge, ze, de, S⟩ := G4.suite hf
      refine store_ok (X := X.suite a ((a, oe) :: (X.pn ++ pins))) (v := .ref a) S hN hi (.inl hln) rfl (fun s5 S5 => ?_) (.inr hln)
      refine wpAny_mono ((hsu a oe cls d (X.pn ++ pins) ze ⟨_, de⟩).run [] s5 _ H' _ S5 (hyes rfl a na)) (fun f s6 hsp => ?_) fun _ _ z => z.elim
      have goes : ∀ {σ6 : L2.St} {H6 : Hp} {Q : Shared → Prop}, Inv (X.suite a ((a, oe) :: (X.pn ++ pins))) [] σ6 H6 s6 → (∀ s7, Inv X pins (σ6.set i none) H6 s7 → Q s7) →
          wpAny (model X.prog X.w) X.A (do bindName X.env n .none; unbindBehindTheSuite X.env n pos') (fun _ s7 => Q s7) X.xe s6 := fun S6 hq => gone_ok (S6.unsuite ok) hN hi hln hq
      cases f with
      | next => exact (let ⟨σ6, H6, S6, q6⟩ := hsp; goes S6 fun s7 J7 => ⟨_, _, J7, q6⟩)
      | brk => exact (let ⟨σ6, H6, S6, q6⟩ := hsp; goes S6 fun s7 J7 => ⟨_, _, J7, q6⟩)
      | cont => exact (let ⟨σ6, H6, S6, q6⟩ := hsp; goes S6 fun s7 J7 => ⟨_, _, J7, q6⟩)
      | ret u => exact (let ⟨v6, σ6, H6, S6, r6, q6⟩ := hsp; goes S6 fun s7 J7 => ⟨_, _, _, J7, r6, q6⟩)
end
end Fm

namespace Fm
open PySem PySem.Spec PyProof.Rows L2
/-- what is wanted of an exception that leaves a lambda's frame -/
abbrev lamX (X : Cx) (A : Around) (outer : List Env) (s : Shared) (H : Hp) (E : XK) (scope : Scope) (f c : Addr) : Value → Shared → Prop := fun e s' =>
  wpAny (model X.prog X.w) (A.deeper (LamX.lamEnv X scope s.heap.objs.size f c)) (leaving (LamX.lamEnv X scope s.heap.objs.size f c) e) (fun _ s2 => L2N.CX X.prog X.w outer H s E e s2) (fun e' s2 => L2N.CX X.prog X.w outer H s E e' s2) s'
/-- the context of a lambda's body -/
abbrev lamN (X : Cx) (A : Around) (outer : List Env) (s : Shared) (H : Hp) (E : XK) (scope : Scope) (f c : Addr) : Cx := (LamX.lamCx X A outer s H E scope f c).wish (lamX X A outer s H E scope f c)
/-- what a lambda's body may let out is taken -/
theorem lamN_takes {X : Cx} {A : Around} {outer : List Env} {s : Shared} {H : Hp} {E : XK} {scope : Scope} {f c : Addr} : L2N.Takes (lamN X A outer s H E scope f c) (fun cls d _ H' => E cls d H') :=
  L2N.takes_of (X := lamN X A outer s H E scope f c) (E₁ := fun e' s2 => L2N.CX X.prog X.w outer H s E e' s2) rfl rfl rfl rfl
section
variable {X : Cx}
/-- a(), in the def that got the lambda (made in X at s): what it raises has no context -/
theorem pe_actN {CXg : CXT} {Eg : XK} {Ng : List Str} {qg : Str} {sg : Scope} {g f c : Addr} {cdg pm ctv : Value} {params : Arguments} {body : Expr} {scope : Scope} {k i : Nat} {a : Str} {pn : List (Addr × Obj)} {xe : Value → Shared → Prop} {W : WX} {E : XK} {tb : TE} {p1 p2 : Pos} {pins : List (Addr × Obj)} {σ : L2.St} {H : Hp} {s : Shared}
    (I : Inv X pins σ H s) (L : LamX.LamS X.env.scope scope) (of0 : s.heap.get? f = some (PySem.W.kla_obj "<lambda>" (X.env.qual ++ "<lambda>") params body scope (cloFrom X.env.cells scope.names []) pm c ctv)) (nf : H f = none) (nfr : f ∉ frs X.stack)
    (bnd : bindArgs (PySem.W.kla_fn "<lambda>" (X.env.qual ++ "<lambda>") params body scope (cloFrom X.env.cells scope.names []) pm (.ref c) ctv) ⟨[], []⟩ = pure [])
    (tk : L2N.Takes ((cxOf CXg X.prog X.w X.K X.mg X.base Ng qg sg g cdg X.A X.stack s H Eg).tr pn xe) W) (hr : Room (k + 1) (X.A.deeper (envOfC qg sg s.heap.objs.size g cdg)))
    (hbody : ∀ (A : Around) (outer : List Env) (s : Shared) (H : Hp), Room k (A.deeper (LamX.lamEnv X scope s.heap.objs.size f c)) → PE (lamN X A outer s H E scope f c) body tb)
    (hN : Ng[i]? = some a) (hv : Vis sg a) (hd : (a == ("__debug__" : Str)) = false) (hcd : (a == ("__classdict__" : Str)) = false) :
    PE ((cxOf CXg X.prog X.w X.K X.mg X.base Ng qg sg g cdg X.A X.stack s H Eg).tr pn xe) (.Call (.Name a p1) [] [] p2) (fun σZ HZ Q => (∀ cls d H', E cls d H' → W cls d σZ H') ∧ σZ[i]? = some (some (.ref f)) ∧ HZ c = some (LamX.CodeO c (X.env.qual ++ "<lambda>")) ∧ tb σ HZ Q) := by
  refine ⟨fun pinsZ sZ σZ HZ Q IZ hh => ?_⟩
  obtain ⟨hW, hs, hc, ht⟩ := hh
  refine wpAny_Call_Name_kw (thn ((pe_var (pos := p1) (i := i) hN hv hd hcd).run pinsZ sZ σZ HZ (fun v H1 => v = .ref f ∧ H1 = HZ) IZ ⟨.ref f, hs, rfl, rfl⟩) fun u s1 hu => ?_)
  obtain ⟨v, H1, I1, r1, rfl, rfl⟩ := hu
  obtain rfl : u = Value.ref f := r1
  have of1 := I1.base.keep f _ of0 nf nfr (fun z => nomatch (show f ∈ ([] : List Addr) from z))
  refine PySem.W.callWith_F0 ⟨_, _, _, _, of1⟩ ?_
  obtain ⟨⟨oc, vs, t, hoc, hdc, hvc⟩, _, _⟩ := I1.hok c _ hc
  have rc : codeAny (model X.prog X.w) (X.A.deeper (envOfC qg sg s.heap.objs.size g cdg)) (.call (.ref f) ⟨[], []⟩) (CR (L2N.CX X.prog X.w) (envOfC qg sg s.heap.objs.size g cdg :: X.stack) X.prog X.w H1 s1 Q E) s1 := by
    refine PySem.W.kla_callFunE hr.depth of1 rfl L.co L.gen rfl ⟨c, oc, vs, t, rfl, hoc, hdc, hvc⟩ ?_
    rw [bnd]
    refine wpAny_pure (wpAny_newFunctionEnv (fun y hy => (L.own y hy).2) (fun y hy => absurd hy (by simp)) (fun h₁ hns hsb => ⟨I1.nolimit.fresh _ hsb, ?_⟩) L.kind)
    show codeAny _ _ (.expr body (LamX.lamEnv X scope s1.heap.objs.size f c)) _ _
    have J := LamX.lam_start2 (E := E) (f := f) (c' := c) (tk := s1.toks + ([] : List (Str × Value)).length) I L I1.env0 hr.hd I1.base hns fun b o e => hsb.extBut b o (Nat.ne_of_lt (Heap.lt_size e)) (Heap.get?_push_of_some _ e)
    refine PySem.W.kla_codeExpr (wpAny_mono ((hbody _ _ s1 H1 (hr.deeper _)).run [] _ _ H1 Q (J.wish _) ht) (fun v s' hq => ?_) fun e s' hq => hq)
    obtain ⟨w', H', J', rv, q⟩ := hq
    exact ⟨w', H', J'.os, J'.bare, J'.base, J'.hok, rv, q⟩
  refine wpAny_call (codeAny_mono rc fun r s' hq => ?_)
  cases r with
  | error e => exact tk e s' (L2N.XE.of_call I1 hW hq)
  | ok fl =>
    cases fl with
    | ret u => exact I1.after hq
    | next => exact hq.elim
    | brk => exact hq.elim
    | cont => exact hq.elim
/-- the def that calls what it got: TT is what it makes of the lambda's reading -/
def GivesN (X : Cx) (Ng : List Str) (x : Str) (sg : Scope) (g : Addr) (cdg : Value) (bg : List Stmt) (a : Str) (q : Str) (TT : (XK → Hp → VK → Prop) → Hp → VK → Prop) : Prop :=
  ∀ (f c : Addr) (s : Shared) (H : Hp) (Q : VK) (tl : XK → Hp → VK → Prop), Room 1 (X.A.deeper (envOfC x sg s.heap.objs.size g cdg)) →
    (∀ (W : WX) (pn : List (Addr × Obj)) (xe : Value → Shared → Prop) (E : XK) (p1 p2 : Pos), L2N.Takes ((cxOf C8.CX0 X.prog X.w X.K X.mg X.base Ng x sg g cdg X.A X.stack s H C8.E0).tr pn xe) W →
      PE ((cxOf C8.CX0 X.prog X.w X.K X.mg X.base Ng x sg g cdg X.A X.stack s H C8.E0).tr pn xe) (.Call (.Name a p1) [] [] p2) (fun σZ HZ Q => (∀ cls d H', E cls d H' → W cls d σZ H') ∧ σZ[0]? = some (some (.ref f)) ∧ HZ c = some (LamX.CodeO c q) ∧ tl E HZ Q)) →
    H c = some (LamX.CodeO c q) → TT tl H Q →
    ∃ t, PSs (cxOf C8.CX0 X.prog X.w X.K X.mg X.base Ng x sg g cdg X.A X.stack s H C8.E0).nox bg t ∧ t { nx := fun _ H' => Q .non H', rt := Q } (L2.start Ng [.ref f]) H
/-- x(lambda: body) -/
theorem pe_lamN {T : List (Addr × Str)} {TT : (XK → Hp → VK → Prop) → Hp → VK → Prop} {x a : Str} {g c P : Addr} {k : Nat} {pg : Arguments} {bg : List Stmt} {sg : Scope} {dV kV doc pm cdv ct oc : Value} {an od : Option Addr} {osl : Array (Option Value)} {Ng : List Str}
    {params : Arguments} {body : Expr} {scope : Scope} {t : XK → TE} {p lpos pos : Pos} (hg : Gl X x) (hm : X.mg x = some (.ref g)) (hk : PySem.W.keepIn X.K (.ref g) = true)
    (lk : X.K.lookup g = some ⟨oc, od, .func (PySem.W.fnOf x x pg bg sg dV kV doc pm an cdv ct), osl⟩) (hcg : PySem.W.codeIn X.K cdv x = true) (hb : L2.Binds X.K (PySem.W.fnOf x x pg bg sg dV kV doc pm an cdv ct) [a] []) (Sg : FnScope Ng [a] sg) (hNg : Ng[0]? = some a) (hva : Vis sg a)
    (hG : GivesN X Ng x sg g cdv bg a (X.env.qual ++ "<lambda>") TT)
    (TB : LamX.TabB X.base X.mg c P) (hcode : X.env.code = .ref c) (hmT : (P, X.env.qual ++ "<lambda>") ∈ T) (hu : ∀ p ∈ T, p.1 = P → p.2 = X.env.qual ++ "<lambda>") (hr : Room (k + 2) X.A) (L : LamX.LamS X.env.scope scope) (hdef : defaultsOf params X.env = ([], []))
    (hbind : ∀ (q : Str) (cl : List (Str × Addr)) (pm cv ctv : Value), bindArgs (PySem.W.kla_fn "<lambda>" q params body scope cl pm cv ctv) ⟨[], []⟩ = pure [])
    (hbody : ∀ (A : Around) (outer : List Env) (s : Shared) (H : Hp) (E : XK) (f c : Addr), Room k (A.deeper (LamX.lamEnv X scope s.heap.objs.size f c)) → PE (lamN X A outer s H E scope f c) body (t E))
    (hdb : (x == ("__debug__" : Str)) = false := by decide) (hd : (a == ("__debug__" : Str)) = false := by decide) (hcd : (a == ("__classdict__" : Str)) = false := by decide) :
    PE X (.Call (.Name x p) [.Lambda params body scope lpos] [] pos) (LamX.tLam T TT t) := by
  refine ⟨fun pins s σ H Q I hh => ?_⟩
  obtain ⟨hT, hh⟩ := hh
  refine wpAny_Call_Name_kw (ld_glob I hg hm (PySem.W.callWith_K (h₀ := X.base) I.ok.mod.kin hk ?_ (by rfl) (by rfl)) hdb)
  show wpAny _ _ (spliced ((false, eval (.Lambda params body scope lpos) X.env) :: backTo pos (starEach [] X.env))) _ _ s
  refine Calls.spliced_cons (LamX.lam_make2 I TB hcode hmT hu hT hdef (L.has I.ok) fun f c' pm' ctv H1 s' I1 eN T1 hf hfn hfr hco => Calls.spliced_nil ⟨I1.kIn, ?_⟩)
  have rc : codeAny (model X.prog X.w) X.A (.call (.ref g) ⟨[.ref f], []⟩) (CR C8.CX0 X.stack X.prog X.w H1 s' Q C8.E0) s' := by
    refine LamX.run_ofS (N := Ng) (ps := [a]) (us := [.ref f]) (vs := [.ref f]) lk hcg Sg hr I1.env0 (hb s' [.ref f] I1.kIn rfl) (.cons rfl .nil) rfl fun hr' => ?_
    obtain ⟨t', ht', hq'⟩ := hG f c' s' H1 Q (fun E H' Q' => t E σ H' Q') (hr'.mono (by omega)) (fun W pn xe E p1 p2 tk => pe_actN (i := 0) I1 L hf hfn hfr (hbind _ _ _ _ _) tk hr' (fun A outer s H hr2 => hbody A outer s H E f c' hr2) hNg hva hd hcd) hco (hh H1 eN T1)
    exact ⟨t', ht'.nox, hq'⟩
  refine wpAny_call (codeAny_mono rc fun r s2 hq => ?_)
  cases r with
  | error e => exact (show False from hq).elim
  | ok fl =>
    cases fl with
    | ret u => exact I1.after hq
    | next => exact hq.elim
    | brk => exact hq.elim
    | cont => exact hq.elim
end
section
variable {P : Program} {w : World} {K : PySem.W.Frag} {mg : Str → Option Value} {base : Heap}
end
end Fm

namespace Fm
open PySem PySem.Spec PyProof.Rows L2
theorem pss_by {X : Cx} {body : List Stmt} {t' : TS} (h : ∀ D σ H, t' D σ H → ∃ t, PSs X body t ∧ t D σ H) : PSs X body t' := ⟨fun pins s σ H D I hh => by
  obtain ⟨t, ht, q⟩ := h D σ H hh
  exact ht.run pins s σ H D I q⟩
theorem list6 {α : Type} {l : List α} (h : l.length = 6) : ∃ a b c d e f, l = [a, b, c, d, e, f] := match l, h with
  | [a, b, c, d, e, f], _ => ⟨a, b, c, d, e, f, rfl⟩
theorem takes0N {X : Cx} : L2N.Takes X (fun _ _ _ _ => False) := fun _ _ x => by
  obtain ⟨_, _, _, _, _, _, _, _, _, _, _, _, _, _, _, _, z⟩ := x
  exact z.elim
/-- the names of those that are so -/
theorem names_read {K : PySem.W.Frag} {σ : L2.St} {H : Hp} {Q : VK} {L : Addr} {ts : List V} {ps : List (Str × Bool)} {iS j1 j2 : Nat} (hσ : σ[iS]? = some (some (.ref L))) (hL : H L = some (.lst ts)) (hlen : ts.length = ps.length) (hsm : ps.length ≤ 1000)
    (hts : ∀ (i : Nat) (t : V) (p : Str × Bool), ts[i]? = some t → ps[i]? = some p → ∃ a, t = .ref a ∧ H a = some (.tup [.str p.1, .bl p.2])) (h12 : j1 ≠ j2) (hj1 : j1 < σ.length) (hj2 : j2 < σ.length)
    (hw : ∀ v w, wipe (((wipe σ [j1, j2]).set j1 (some v)).set j2 (some w)) [j1, j2] = wipe σ [j1, j2]) 
    (q : ∀ D H', H D = none → Same H H' → H' D = some (.lst ((ps.filter (·.2)).map fun p => V.str p.1)) → Q (.ref D) H') :
    tLcH K (tVar iS) (gTup K 2 (gCons (gName j1) (gCons (gName j2) gNil))) (tB (tVar j2)) (tVar j1) [j1, j2] σ H Q := by
  refine ⟨.ref L, hσ, L, ts, rfl, SqL.of hL, fun D hD => ⟨fun i H' => Same H H' ∧ H' D = some (.lst (((ps.take i).filter (·.2)).map fun p => V.str p.1)), ⟨Same.updD (Same.refl H) hD, upd_same⟩, fun i H' hP => SqL.of (hP.1 _ _ hL), fun H' hP => ?_, fun i x H' hx hP => ?_⟩⟩
  · rw [hlen, List.take_length] at hP
    exact q D H' hD hP.1 hP.2
  · obtain ⟨sm, hD'⟩ := hP
    have hi : i < ps.length := by
      have := (List.getElem?_eq_some_iff.mp hx).1
      omega
    have hpi : ps[i]? = some ps[i] := List.getElem?_eq_getElem hi
    obtain ⟨a, rfl, ha⟩ := hts i x _ hx hpi
    have l1 : j1 < (wipe σ [j1, j2]).length := by rw [wipe_length]; exact hj1
    have l2 : j2 < ((wipe σ [j1, j2]).set j1 (some (V.str ps[i].1))).length := by rw [List.length_set, wipe_length]; exact hj2
    refine ⟨a, _, rfl, SqT.of (sm _ _ ha), rfl, _, _, rfl, _, _, rfl, rfl, hw _ _, .bl ps[i].2, List.getElem?_set_self l2, ps[i].2, rfl, ?_⟩
    cases hb : ps[i].2 with
    | false =>
      rw [if_neg Bool.false_ne_true]
      refine ⟨sm, ?_⟩
      have ef : List.filter (fun x : Str × Bool => x.2) [ps[i]] = [] := by rw [List.filter_cons, if_neg (by rw [hb]; exact Bool.false_ne_true)]; rfl
      rw [List.take_add_one, hpi, hD', List.filter_append, List.map_append]
      show _ = some (HO.lst (_ ++ List.map _ (List.filter (fun x : Str × Bool => x.2) [ps[i]])))
      rw [ef, List.map_nil, List.append_nil]
    | true =>
      rw [if_pos rfl]
      refine ⟨.str ps[i].1, ?_, _, hD', ?_, Same.updD sm hD, ?_⟩
      · rw [List.getElem?_set_ne (Ne.symm h12), List.getElem?_set_self l1]
      · refine small1000 ?_
        rw [List.length_map]
        exact Nat.le_trans (List.length_filter_le _ _) (by rw [List.length_take]; omega)
      · have ef : List.filter (fun x : Str × Bool => x.2) [ps[i]] = [ps[i]] := by rw [List.filter_cons, if_pos hb]; rfl
        rw [upd_same, List.take_add_one, hpi, List.filter_append, List.map_append]
        show _ = some (HO.lst (_ ++ List.map _ (List.filter (fun x : Str × Bool => x.2) [ps[i]])))
        rw [ef]
        rfl
/-- all classes of refusals under MirrorError -/
def mirNames : List Str := ["NoGround", "NoNumber", "NoRow", "NoTable", "NoForm", "NoKeeper", "NoWorth", "NoSeat", "NoFour", "NoPlace", "NoClaim", "NoText", "NoSaying", "TooMany", "NotKept"]
/-- the class at C is the one named nm among them, of errors without a dict -/
structure MirC (K : PySem.W.Frag) (C : Addr) (nm : Str) : Prop where
  exc : ExcC K C
  kit : ∀ x ∈ mirNames, PySem.W.kitOne K (.ref C) (.ref (He.ga K x)) = some (decide (x = nm))
  ve : PySem.W.kitOne K (.ref C) (.type "ValueError") = some true
  exm : PySem.W.exmOne K (.ref C) (.ref (He.ga K "MirrorError")) = some true
  one : mirNames.filter (fun x => decide (x = nm)) = [nm]
theorem mir_told {l : List Str} {nm : Str} (h : l.filter (fun x => decide (x = nm)) = [nm]) : ((l.map fun x => (x, decide (x = nm))).filter (·.2)).map (fun p => V.str p.1) = [V.str nm] := by
  rw [List.filter_map]
  show List.map _ (List.map _ (l.filter fun x => decide (x = nm))) = _
  rw [h]
  rfl
def excCB (K : PySem.W.Frag) (D : Addr) : Bool :=
  He.eqO (PySem.W.findIn K (.ref D) "__getattribute__") (some (some (.builtin "BaseException.__getattribute__"))) && (He.eqO (PySem.W.findIn K (.ref D) "__getattr__") (some none) && (decide (PySem.W.subIn K (.ref D) (.type "BaseException") = some true) && (PySem.W.hasDictIn K D &&
  (He.eqO (PySem.W.findIn K (.ref D) "__class__") (some (some (.builtin "object.__class__"))) && (He.eqO (PySem.W.specialIn K (.builtin "object.__class__") "__get__") (some (some (.builtin "getset_descriptor.__get__"))) && (decide (PySem.W.takesIn K (.builtin "object.__class__") = some true) && decide (PySem.W.mroIn K D (.type "object") = some true)))))))
theorem excCB_ok {K : PySem.W.Frag} {D : Addr} (h : excCB K D = true) : ExcC K D := by
  unfold excCB at h
  obtain ⟨h1, h⟩ := He.ba h
  obtain ⟨h2, h⟩ := He.ba h
  obtain ⟨h3, h⟩ := He.ba h
  obtain ⟨h4, h⟩ := He.ba h
  obtain ⟨h5, h⟩ := He.ba h
  obtain ⟨h6, h⟩ := He.ba h
  obtain ⟨h7, h8⟩ := He.ba h
  exact ⟨He.eqO_ok h1, He.eqO_ok h2, of_decide_eq_true h3, h4, He.eqO_ok h5, He.eqO_ok h6, of_decide_eq_true h7, of_decide_eq_true h8⟩
/-- what the written part must say of the class named nm -/
def mirB (K : PySem.W.Frag) (nm : Str) : Bool :=
  excCB K (He.ga K nm) && ((mirNames.all fun x => decide (PySem.W.kitOne K (.ref (He.ga K nm)) (.ref (He.ga K x)) = some (decide (x = nm)))) && (decide (PySem.W.kitOne K (.ref (He.ga K nm)) (.type "ValueError") = some true) && decide (PySem.W.exmOne K (.ref (He.ga K nm)) (.ref (He.ga K "MirrorError")) = some true)))
theorem mirB_ok {K : PySem.W.Frag} {nm : Str} (h : mirB K nm = true) (h1 : mirNames.filter (fun x => decide (x = nm)) = [nm]) : MirC K (He.ga K nm) nm := by
  unfold mirB at h
  obtain ⟨a, h⟩ := He.ba h
  obtain ⟨b, h⟩ := He.ba h
  obtain ⟨c, d⟩ := He.ba h
  exact ⟨excCB_ok a, fun x hx => of_decide_eq_true (List.all_eq_true.mp b x hx), of_decide_eq_true c, of_decide_eq_true d, h1⟩
/-- the suite of the first clause, as read: the class's name is told -/
def tsMir (K : PySem.W.Frag) (iE : Nat) (n : Nat) : Addr → Value → Option Addr → TS := fun a cls d D σ H => ∃ C nm, cls = .ref C ∧ d = none ∧ MirC K C nm ∧ σ[iE]? = some (some (.ref a)) ∧ σ.length = n ∧ ∀ H', Same H H' → D.rt (.str nm) H'
/-- what _law_refusal makes of the lambda's reading: None, or the name of what is raised -/
def TTref (K : PySem.W.Frag) : (XK → Hp → VK → Prop) → Hp → VK → Prop := fun tl H Q => tl (fun cls d H' => (∃ C nm, cls = .ref C ∧ d = none ∧ MirC K C nm ∧ ∀ H'', Same H' H'' → Q (.str nm) H'') ∨
  (∃ C, cls = .ref C ∧ PySem.W.exmOne K cls (.ref (He.ga K "MirrorError")) = some false ∧ PySem.W.exmOne K cls (.ref (He.ga K "OverNought")) = some true ∧ Q (.str "OverNought") H') ∨
  (∃ C, cls = .ref C ∧ PySem.W.exmOne K cls (.ref (He.ga K "MirrorError")) = some false ∧ PySem.W.exmOne K cls (.ref (He.ga K "OverNought")) = some false ∧ PySem.W.exmOne K cls (.ref (He.ga K "Flat")) = some true ∧ Q (.str "Flat") H')) H (fun _ H' => Q .non H')
section
variable {P : Program} {w : World} {K : PySem.W.Frag} {mg : Str → Option Value} {base : Heap} {x qual : Str} {params : Arguments} {body : List Stmt} {scope : Scope} {dvs : List V} {kws : List (Str × V)} {f c : Addr} {fd : FuncData}
/-- as F.ok, where the def's code object is known -/
def CodeAt (K : PySem.W.Frag) (f c : Addr) : Prop := ∀ (oc : Value) (od : Option Addr) (fd : FuncData) (osl : Array (Option Value)), K.lookup f = some ⟨oc, od, .func fd, osl⟩ → fd.code = .ref c
theorem okC {CX : CXT} {N ps : List Str} {k : Nat} {sp : Sp} (F : FunD K x qual params body scope dvs kws f fd) (hC : CodeAt K f c) (S : FnScope N ps scope) (len : ∀ vs H Q E, sp vs H Q E → vs.length = ps.length)
    (hbody : ∀ (A : Around) (outer : List Env) (s : Shared) (H : Hp) (vs : List V) (Q : VK) (E : XK), Room k (A.deeper (envOfC qual scope s.heap.objs.size f (.ref c))) → sp vs H Q E →
      ∃ t, PSs (cxOf CX P w K mg base N qual scope f (.ref c) A outer s H E) body t ∧ t { nx := fun _ H' => Q .non H', rt := Q } (start N vs) H) : FnOk P w K mg base CX (k + 1) f fd ps sp := by
  obtain ⟨oc, od, dV, kV, doc, pm, an, cdv, ct, osl, rfl, lk, hcd, _, _⟩ := F.ex
  have e : cdv = .ref c := hC _ _ _ _ lk
  subst e
  exact fn_of lk hcd S len fun A outer s H vs Q E hr hsp => hbody A outer s H vs Q E hr hsp
theorem codeAt_of {p : He.Defn} (F : FunD K x qual params body scope dvs kws (He.fAd K p) fd) : CodeAt K (He.fAd K p) (He.codeOf K p) := by
  obtain ⟨oc, od, dV, kV, doc, pm, an, cdv, ct, osl, rfl, lk, hcd, _, _⟩ := F.ex
  obtain ⟨c, rfl⟩ := He.codeIn_ref hcd
  intro oc' od' fd' osl' lk'
  have e := lk.symm.trans lk'
  cases e
  rw [He.codeOf_eq lk rfl]
end
section
variable {X : Cx}
/-- x(lambda: body), x by its facts -/
theorem pe_lamF {T : List (Addr × Str)} {TT : (XK → Hp → VK → Prop) → Hp → VK → Prop} {x a : Str} {g c P : Addr} {k : Nat} {pg : Arguments} {bg : List Stmt} {sg : Scope} {fd : FuncData} {Ng : List Str} {params : Arguments} {body : Expr} {scope : Scope} {t : XK → TE} {p lpos pos : Pos}
    (F : FunD X.K x x pg bg sg [] [] g fd) (hb : L2.Binds X.K fd [a] []) (hg : Gl X x) (hm : X.mg x = some (.ref g)) (Sg : FnScope Ng [a] sg) (hNg : Ng[0]? = some a) (hva : Vis sg a) (hG : ∀ cdv, GivesN X Ng x sg g cdv bg a (X.env.qual ++ "<lambda>") TT)
    (TB : LamX.TabB X.base X.mg c P) (hcode : X.env.code = .ref c) (hmT : (P, X.env.qual ++ "<lambda>") ∈ T) (hu : ∀ p ∈ T, p.1 = P → p.2 = X.env.qual ++ "<lambda>") (hr : Room (k + 2) X.A) (L : LamX.LamS X.env.scope scope) (hdef : defaultsOf params X.env = ([], []))
    (hbind : ∀ (q : Str) (cl : List (Str × Addr)) (pm cv ctv : Value), bindArgs (PySem.W.kla_fn "<lambda>" q params body scope cl pm cv ctv) ⟨[], []⟩ = pure [])
    (hbody : ∀ (A : Around) (outer : List Env) (s : Shared) (H : Hp) (E : XK) (f c : Addr), Room k (A.deeper (LamX.lamEnv X scope s.heap.objs.size f c)) → PE (lamN X A outer s H E scope f c) body (t E))
    (hdb : (x == ("__debug__" : Str)) = false := by decide) (hd : (a == ("__debug__" : Str)) = false := by decide) (hcd : (a == ("__classdict__" : Str)) = false := by decide) :
    PE X (.Call (.Name x p) [.Lambda params body scope lpos] [] pos) (LamX.tLam T TT t) := by
  obtain ⟨oc, od, dV, kV, doc, pm, an, cdv, ct, osl, rfl, lk, hcd', _, _⟩ := F.ex
  exact pe_lamN hg hm F.kp lk hcd' hb Sg hNg hva (hG cdv) TB hcode hmT hu hr L hdef hbind hbody hdb hd hcd
end
end Fm

namespace Fm
open PySem PySem.Spec PyProof.Rows L2
/-! ### xs[::-2]: some of the items -/
theorem vals_pick {xs : List V} {its : List Value} (r : Vals xs its) : ∀ R : List Nat, Vals (R.filterMap (xs[·]?)) (R.filterMap (its[·]?))
  | [] => .nil
  | i :: R => by
    have ih := vals_pick r R
    rw [List.filterMap_cons, List.filterMap_cons]
    have hl := r.length
    cases e : xs[i]? with
    | none =>
      have e2 : its[i]? = none := by
        rw [List.getElem?_eq_none_iff] at e ⊢
        omega
      simp only [e2]
      exact ih
    | some x =>
      obtain ⟨u, hu, ru⟩ := r.get e
      simp only [hu]
      exact .cons ru ih
def tStep2 (K : PySem.W.Frag) (te : TE) : TE := fun σ H Q => te σ H fun x H1 => ∃ a xs, x = .ref a ∧ SqL K H1 a xs ∧ ∀ p ys, H1 p = none → ys.length ≤ xs.length → (∀ y ∈ ys, y ∈ xs) → Q (.ref p) (upd H1 p (.lst ys))
theorem pe_step2 {X : Cx} {e : Expr} {te : TE} {k : Nat} {p1 p2 p3 pos : Pos} (he : PE X e te) : PE X (.Subscript e (.Slice none none (some (.UnaryOp .USub (.Constant (.int 2) k p1) p2)) p3) pos) (tStep2 X.K te) := by
  refine ⟨fun pins s σ H Q I h => ?_⟩
  refine Subscript_ (thn (he.run pins s σ H _ I h) fun v s1 hr => ?_)
  obtain ⟨x, H1, I1, r1, a, xs, rfl, hx, q⟩ := hr
  cases r1
  have hst : PO X (some (.UnaryOp .USub (.Constant (.int 2) k p1) p2)) (tPart (tUn (rU fun i => .int (-i)) (tC (.int 2)))) := po_some (pe_un un_neg pe_int)
  refine wpAny_Slice (thn (po_none.run pins s1 σ H1 (fun o H2 => o = none ∧ H2 = H1) I1 ⟨rfl, rfl⟩) fun vl s2 hr2 => ?_)
  obtain ⟨l, H2, I2, pl, rfl, rfl⟩ := hr2
  refine thn (po_none.run pins s2 σ H2 (fun o H3 => o = none ∧ H3 = H2) I2 ⟨rfl, rfl⟩) fun vu s3 hr3 => ?_
  obtain ⟨u, H3, I3, pu, rfl, rfl⟩ := hr3
  refine thn (hst.run pins s3 σ H3 (fun o H4 => o = some (-2) ∧ H4 = H3) I3 ⟨2, rfl, -2, rfl, rfl, rfl⟩) fun vs s4 hr4 => ?_
  obtain ⟨o, H4, I4, ps, rfl, rfl⟩ := hr4
  have I5 : Inv X pins σ H4 { s4 with heap := s4.heap.push { cls := .type "slice", data := .fields #[vl, vu, vs] } } := I4.kept (t' := s4.toks) fun b ob e => Heap.get?_push_of_some _ e
  obtain ⟨its, r, ht, hz⟩ := I5.list hx
  have hlen := r.length
  show wpAny (model X.prog X.w) X.A (subscriptTail e (.Slice none none (some (.UnaryOp .USub (.Constant (.int 2) k p1) p2)) p3) (.ref a) (.ref s4.heap.objs.size)) (EP X pins σ Q) X.xe _
  refine tail_any (ops := [.ref a, .ref s4.heap.objs.size]) ht.isList.typeIs (PySem.slot_list_getitem.lookup) ?_ (by with_unfolding_all rfl)
  refine wpAny_getItem_list_slice ht.isList (Heap.IsSliceOf.new _ vl vu vs) pl pu ps (by decide) ?_ (by rw [List.size_toArray]; omega)
  have hsz := slicePick_size_le its.toArray none none (some (-2))
  have hp : slicePick its.toArray none none (some (-2)) = ((sliceRange (sliceBounds none none (some (-2)) its.length).1 (sliceBounds none none (some (-2)) its.length).2.1 (sliceBounds none none (some (-2)) its.length).2.2).filterMap (its[·]?)).toArray := by
    unfold slicePick
    simp
  rw [hp] at hsz ⊢
  generalize sliceRange _ _ _ = R at hsz ⊢
  have rv := vals_pick r R
  have hl2 := rv.length
  simp only [List.size_toArray] at hsz
  refine ⟨.ref _, _, I5.laid (t' := s4.toks) (o := .lst (R.filterMap (xs[·]?))) (fun b ob e => Heap.get?_push_of_some _ e) (Nat.le_refl _) ⟨by omega, _, 0, rv, Heap.get?_push_size _ rfl⟩, rfl, q _ _ (I5.hok.fresh (Nat.le_refl _)) (by omega) fun y hy => ?_⟩
  obtain ⟨i, _, e⟩ := List.mem_filterMap.mp hy
  exact List.mem_of_getElem? e
theorem w_step2 {K : PySem.W.Frag} {te : TE} {σ : L2.St} {H : Hp} {Q : VK} (h : te σ H fun x H1 => ∃ a xs, x = .ref a ∧ SqL K H1 a xs ∧ ∀ p ys, H1 p = none → ys.length ≤ xs.length → (∀ y ∈ ys, y ∈ xs) → Q (.ref p) (upd H1 p (.lst ys))) : tStep2 K te σ H Q := h
theorem w_par3 {i j l : Nat} {as : TA} {D : Ends} {σ : L2.St} {H : Hp} (h : as σ H fun vs H1 => ∃ u v w, vs = [u, v, w] ∧ D.nx (((σ.set i (some u)).set j (some v)).set l (some w)) H1) : tPar3 i j l as D σ H := h
theorem w_ex3 {a b c : V} {R : V → V → V → Prop} (h : R a b c) : ∃ u v w, [a, b, c] = [u, v, w] ∧ R u v w := ⟨a, b, c, rfl, h⟩
theorem w_bits {to : TE} {σ : L2.St} {H : Hp} {Q : VK} (h : to σ H fun x H1 => ∃ i, x = .int i ∧ Q (.int (Builtin.Int.intBits i : Nat)) H1) : tBits to σ H Q := h
/-! ### whole roots by value -/
def isqrt : Nat → Nat
  | 0 => 0
  | n + 1 => if (isqrt n + 1) * (isqrt n + 1) ≤ n + 1 then isqrt n + 1 else isqrt n
theorem isqrt_spec (n : Nat) : RootOf n (isqrt n) := by
  induction n with
  | zero => exact ⟨Nat.le_refl _, by decide⟩
  | succ n ih =>
    obtain ⟨h1, h2⟩ := ih
    unfold isqrt
    split
    · rename_i h
      refine ⟨h, ?_⟩
      have : (isqrt n + 1 + 1) * (isqrt n + 1 + 1) = (isqrt n + 1) * (isqrt n + 1) + 2 * isqrt n + 3 := by grind
      omega
    · rename_i h
      exact ⟨by omega, by omega⟩
theorem root_is {n r : Nat} (h : RootOf n r) : r = isqrt n := root_uniq h (isqrt_spec n)
/-- the root on a wheel: the first one -/
def wroot (g a : Int) : Option Int := ((List.range g.toNat).map fun (i : Nat) => (i : Int)).find? fun i => decide ((i * i).fmod g = a)
/-- the root of a number, as both sides reckon it -/
def rootV (g : Int) (a : Int × Int) : Option (Int × Int) :=
  if g = 0 then (if a.1 < 0 then none else if (isqrt a.1.toNat : Int) * (isqrt a.1.toNat : Int) = a.1 ∧ (isqrt a.2.toNat : Int) * (isqrt a.2.toNat : Int) = a.2 then some ((isqrt a.1.toNat : Int), (isqrt a.2.toNat : Int)) else none) else (wroot g a.1).map fun i => (i, 1)
/-- None, or a number -/
def OptV (H : Hp) (v : V) : Option (Int × Int) → Prop
  | none => v = .non
  | some r => NumV H v r
theorem OptV.kt {H H' : Hp} {v : V} {o : Option (Int × Int)} (h : OptV H v o) (k : Kt H H') : OptV H' v o := by
  cases o with
  | none => exact h
  | some r => exact NumV.kt h k
/-- a number of the ground g, below 2 ^ k -/
def TN (g : Int) (k : Nat) (a : Int × Int) : Prop := ((g = 0 ∧ Red a) ∨ (0 < g ∧ 0 ≤ a.1 ∧ a.1 < g ∧ a.2 = 1)) ∧ a.1.natAbs < 2 ^ k ∧ a.2.natAbs < 2 ^ k
theorem TN.mono {g : Int} {k l : Nat} {a : Int × Int} (h : TN g k a) (hl : k ≤ l) : TN g l a := ⟨h.1, Nat.lt_of_lt_of_le h.2.1 (Nat.pow_le_pow_right (by decide) hl), Nat.lt_of_lt_of_le h.2.2 (Nat.pow_le_pow_right (by decide) hl)⟩
theorem TN.pos {g : Int} {k : Nat} {a : Int × Int} (h : TN g k a) : 0 < a.2 := by
  rcases h.1 with ⟨_, h⟩ | ⟨_, _, _, h⟩
  · exact h.1
  · omega
theorem TN.num {g : Int} {k : Nat} {a : Int × Int} (h : TN g k a) : numOk g [.int a.1, .int a.2] = true := by
  rcases h.1 with ⟨rfl, hr⟩ | ⟨hg, h1, h2, h3⟩
  · rw [numOk_0, decide_eq_true (show 1 ≤ a.2 from hr.1), hr.2]
    rfl
  · rw [numOk_g (by omega), decide_eq_true h1, decide_eq_true h2, decide_eq_true h3]
    rfl
def Gr5 (g : Int) : Prop := g = 3 ∨ g = 5 ∨ g = 7 ∨ g = 11 ∨ g = 13
/-- on a wheel what is no multiple has a back -/
theorem inv_of {g d : Int} (hg : Gr5 g) (hd : d.fmod g ≠ 0) : ∃ f : Int, 1 ≤ f ∧ f ≤ 13 ∧ (f * d).fmod g = 1 := by
  have g0 : 0 < g := by unfold Gr5 at hg; omega
  have e : ∀ f : Int, (f * d).fmod g = (f * d.fmod g).fmod g := fun f => by
    rw [fmod_pos _ g0, fmod_pos _ g0, fmod_pos _ g0, Int.mul_emod f (d % g), Int.emod_emod_of_dvd d (Int.dvd_refl g), ← Int.mul_emod]
  have r0 : 0 ≤ d.fmod g := by rw [fmod_pos _ g0]; exact Int.emod_nonneg _ (by omega)
  have r1 : d.fmod g < g := by rw [fmod_pos _ g0]; exact Int.emod_lt_of_pos _ g0
  simp only [e]
  generalize d.fmod g = r at hd r0 r1 ⊢
  have key : ∀ g ∈ [3, 5, 7, 11, 13], ∀ r ∈ List.range g, r ≠ 0 → ∃ f ∈ List.range 14, 1 ≤ f ∧ ((f : Int) * (r : Int)).fmod (g : Int) = 1 := by decide +kernel
  obtain ⟨n, rfl⟩ := Int.eq_ofNat_of_zero_le r0
  have mk : ∀ m : Nat, m ∈ [3, 5, 7, 11, 13] → (n : Int) < m → ∃ f : Int, 1 ≤ f ∧ f ≤ 13 ∧ (f * (n : Int)).fmod (m : Int) = 1 := fun m hm hn => by
    obtain ⟨f, hf, h1, h2⟩ := key m hm n (List.mem_range.mpr (by omega)) (by omega)
    exact ⟨f, by omega, by have := List.mem_range.mp hf; omega, h2⟩
  unfold Gr5 at hg
  rcases hg with rfl | rfl | rfl | rfl | rfl
  · exact mk 3 (by decide) r1
  · exact mk 5 (by decide) r1
  · exact mk 7 (by decide) r1
  · exact mk 11 (by decide) r1
  · exact mk 13 (by decide) r1
/-- what comes of lowest terms is a number -/
theorem tn_low {g u d : Int} {k : Nat} (hg : g = 0 ∨ Gr5 g) (hd : d ≠ 0) (hg2 : g ≠ 0 → d.fmod g ≠ 0) (hk : 4 ≤ k) (h1 : u.natAbs < 2 ^ k) (h2 : d.natAbs < 2 ^ k) : TN g k (lowF g u d) := by
  have g13 : g ≤ 13 := by unfold Gr5 at hg; omega
  obtain ⟨b1, b2, b3⟩ := low_bd (g := g) (u := u) g13 hd hk h1 h2
  refine ⟨?_, b1, b2⟩
  rcases hg with rfl | hg
  · exact .inl ⟨rfl, (low0_red hd).1⟩
  · have g0 : 0 < g := by unfold Gr5 at hg; omega
    obtain ⟨f, f1, f2, f3⟩ := inv_of hg (hg2 (by omega))
    refine .inr ⟨g0, ?_⟩
    rw [low_inv g0 f3]
    refine ⟨?_, ?_, rfl⟩
    · show 0 ≤ (u * f).fmod g
      rw [fmod_pos _ g0]
      exact Int.emod_nonneg _ (by omega)
    · show (u * f).fmod g < g
      rw [fmod_pos _ g0]
      exact Int.emod_lt_of_pos _ g0
theorem one_fmod {g : Int} (hg : Gr5 g) : (1 : Int).fmod g ≠ 0 := by
  unfold Gr5 at hg
  rcases hg with rfl | rfl | rfl | rfl | rfl <;> decide
theorem TN.bd {g : Int} {k : Nat} {a : Int × Int} (h : TN g k a) (hk : k ≤ 3000) : PBd a := ⟨(h.mono hk).2.1, (h.mono hk).2.2, by have := h.pos; omega⟩
theorem tn_times {g : Int} {k l : Nat} {a c : Int × Int} (hg : g = 0 ∨ Gr5 g) (ha : TN g k a) (hc : TN g l c) (hk : 4 ≤ k) : TN g (k + l) (timesF g a c) := by
  have ha2 := ha.pos
  have hc2 := hc.pos
  refine tn_low hg (Int.mul_ne_zero (by omega) (by omega)) (fun z => ?_) (by omega) (wide_lt ha.2.1 hc.2.1) (wide_lt ha.2.2 hc.2.2)
  rcases ha.1 with ⟨e, _⟩ | ⟨_, _, _, e⟩
  · exact absurd e z
  · rcases hc.1 with ⟨e2, _⟩ | ⟨_, _, _, e2⟩
    · exact absurd e2 z
    · rw [e, e2]
      exact one_fmod (hg.resolve_left z)
theorem tn_plus {g : Int} {k l : Nat} {a c : Int × Int} (hg : g = 0 ∨ Gr5 g) (ha : TN g k a) (hc : TN g l c) (hk : 4 ≤ k) : TN g (k + l + 1) (plusF g a c) := by
  have ha2 := ha.pos
  have hc2 := hc.pos
  have b1 : (a.1 * c.2 + c.1 * a.2).natAbs < 2 ^ (k + l + 1) := by
    have h1 := wide_lt ha.2.1 hc.2.2
    have h2 := wide_lt hc.2.1 ha.2.2
    rw [Nat.add_comm l k] at h2
    rw [Nat.pow_succ]
    generalize 2 ^ (k + l) = z at h1 h2 ⊢
    omega
  refine tn_low hg (Int.mul_ne_zero (by omega) (by omega)) (fun z => ?_) (by omega) b1 (Nat.lt_of_lt_of_le (wide_lt ha.2.2 hc.2.2) (Nat.pow_le_pow_right (by decide) (by omega)))
  rcases ha.1 with ⟨e, _⟩ | ⟨_, _, _, e⟩
  · exact absurd e z
  · rcases hc.1 with ⟨e2, _⟩ | ⟨_, _, _, e2⟩
    · exact absurd e2 z
    · rw [e, e2]
      exact one_fmod (hg.resolve_left z)
def minusF (g : Int) (a : Int × Int) : Int × Int := lowF g (0 - a.1) a.2
theorem tn_minus {g : Int} {k : Nat} {a : Int × Int} (hg : g = 0 ∨ Gr5 g) (ha : TN g k a) (hk : 4 ≤ k) : TN g k (minusF g a) := by
  have ha2 := ha.pos
  refine tn_low hg (by omega) (fun z => ?_) hk (by have := ha.2.1; omega) ha.2.2
  rcases ha.1 with ⟨e, _⟩ | ⟨_, _, _, e⟩
  · exact absurd e z
  · rw [e]
    exact one_fmod (hg.resolve_left z)
/-- the root of a number is a number -/
theorem root_num {g : Int} {k : Nat} {a r : Int × Int} (ha : TN g k a) (h : rootV g a = some r) : numOk g [.int r.1, .int r.2] = true := by
  unfold rootV at h
  rcases ha.1 with ⟨rfl, h1, h2⟩ | ⟨hg, h1, h2, h3⟩
  · rw [if_pos rfl] at h
    split at h
    · cases h
    · split at h
      · rename_i h0 hh
        obtain ⟨e1, e2⟩ := hh
        cases h
        generalize (isqrt a.1.toNat : Int) = p at e1 ⊢
        generalize hq : (isqrt a.2.toNat : Int) = q at e2 ⊢
        have q0 : 0 ≤ q := by omega
        have qp : 0 < q := by
          rcases Int.lt_or_eq_of_le q0 with z | z
          · exact z
          · rw [← z] at e2
            omega
        rw [← e1, ← e2] at h2
        have hg2 : Int.gcd p q = 1 := by
          have d1 : (Int.gcd p q : Int) ∣ p * p := Int.dvd_trans (Int.gcd_dvd_left p q) (Int.dvd_mul_right p p)
          have d2 : (Int.gcd p q : Int) ∣ q * q := Int.dvd_trans (Int.gcd_dvd_right p q) (Int.dvd_mul_right q q)
          have d3 := Int.dvd_coe_gcd d1 d2
          rw [h2] at d3
          have d4 : Int.gcd p q ∣ 1 := Int.ofNat_dvd.mp d3
          exact Nat.dvd_one.mp d4
        rw [numOk_0, decide_eq_true (show 1 ≤ q from qp), hg2]
        rfl
      · cases h
  · rw [if_neg (by omega)] at h
    cases e : wroot g a.1 with
    | none =>
      rw [e] at h
      cases h
    | some i =>
      rw [e] at h
      cases h
      obtain ⟨n, hn, rfl⟩ := List.mem_map.mp (List.mem_of_find?_eq_some e)
      have := List.mem_range.mp hn
      rw [numOk_g (by omega), decide_eq_true (show 0 ≤ (n : Int) by omega), decide_eq_true (show (n : Int) < g by omega)]
      rfl
/-! ### numbers compared -/
theorem w_neBl {H : Hp} {Q : VK} {a b : Bool} (e : a = b) (q : Q (.bl false) H) : rNe (.bl a) (.bl b) H Q := by
  subst e
  refine ⟨rfl, ?_⟩
  show Q (.bl (!decide (V.bl a = V.bl a))) H
  rw [decide_eq_true rfl]
  exact q
theorem w_eqStr {H : Hp} {Q : VK} {a b : Str} (q : Q (.bl (decide (a = b))) H) : rEq (.str a) (.str b) H Q := by
  refine ⟨rfl, ?_⟩
  have e : decide (V.str a = V.str b) = decide (a = b) := by
    by_cases h : a = b
    · rw [decide_eq_true h, decide_eq_true (by rw [h])]
    · rw [decide_eq_false h, decide_eq_false (fun z => h (V.str.inj z))]
  show Q (.bl (decide (V.str a = V.str b))) H
  rw [e]
  exact q
theorem w_neStr {H : Hp} {Q : VK} {a b : Str} (q : Q (.bl (!decide (a = b))) H) : rNe (.str a) (.str b) H Q := by
  refine ⟨rfl, ?_⟩
  have e : decide (V.str a = V.str b) = decide (a = b) := by
    by_cases h : a = b
    · rw [decide_eq_true h, decide_eq_true (by rw [h])]
    · rw [decide_eq_false h, decide_eq_false (fun z => h (V.str.inj z))]
  show Q (.bl (!decide (V.str a = V.str b))) H
  rw [e]
  exact q
theorem num_eqv (a b : Int × Int) : PyData.eqv (numD a) (numD b) = decide (a = b) := by
  obtain ⟨a1, a2⟩ := a
  obtain ⟨b1, b2⟩ := b
  by_cases h1 : a1 = b1
  · by_cases h2 : a2 = b2
    · subst h1 h2
      rw [decide_eq_true rfl]
      exact SeqAt.eqv_refl _ (by simp [numD, PyData.canLay0, PyData.canLayAll0])
    · rw [decide_eq_false (by intro z; cases z; exact h2 rfl)]
      simp [numD, PyData.eqv, PyData.eqvAll, h1, h2]
  · rw [decide_eq_false (by intro z; cases z; exact h1 rfl)]
    simp [numD, PyData.eqv, PyData.eqvAll, h1]
theorem num_shaped (a : Int × Int) : SeqAt.shaped (numD a) = true := shaped_of (by simp [numD, PyData.canLay0, PyData.canLayAll0]) (by simp [numD, PyData.depth, PyData.depthAll])
theorem w_eqNum {K : PySem.W.Frag} {H : Hp} {Q : VK} {v v' : V} {a b : Int × Int} (h1 : NumV H v a) (h2 : NumV H v' b) (q : Q (.bl (decide (a = b))) H) : rEqD K v v' H Q := by
  refine ⟨_, _, NumV.dp h1, NumV.dp h2, num_shaped a, num_shaped b, ?_⟩
  rw [num_eqv]
  exact q
theorem w_neNum {K : PySem.W.Frag} {H : Hp} {Q : VK} {v v' : V} {a b : Int × Int} (h1 : NumV H v a) (h2 : NumV H v' b) (q : Q (.bl (!decide (a = b))) H) : rNeD K v v' H Q := by
  refine ⟨_, _, NumV.dp h1, NumV.dp h2, num_shaped a, num_shaped b, ?_⟩
  rw [num_eqv]
  exact q
theorem w_eqNil {K : PySem.W.Frag} {H : Hp} {Q : VK} {p r : Addr} {xs : List V} {n : Nat} (h : H p = some (.lst xs)) (h2 : H r = some (.lst [])) (hx : ∀ x ∈ xs, Dat K H x n) (hn : n ≤ 60) (q : Q (.bl (decide (xs = []))) H) : rEqD K (.ref p) (.ref r) H Q := by
  obtain ⟨d, e, h3, h4, h5, h6, h7⟩ := w_neNil (K := K) (Q := fun v H' => Q (match v with | .bl b => .bl (!b) | v => v) H') h h2 hx hn (by show Q (.bl (!(!decide (xs = [])))) H; rw [Bool.not_not]; exact q)
  refine ⟨d, e, h3, h4, h5, h6, ?_⟩
  have h8 : Q (.bl (!(!PyData.eqv d e))) H := h7
  rw [Bool.not_not] at h8
  exact h8
/-! ### calls of what might raise, where it doesn't -/
theorem passLN {X : Cx} : Passes (L2N.CX X.prog X.w) X E0 := fun _ _ _ _ _ _ _ h => by
  obtain ⟨_, _, _, _, _, _, _, _, _, _, _, _, z⟩ := h
  exact z.elim
/-- a class of refusals, to be raised with a text -/
structure RaiseC (K : PySem.W.Frag) (mg : Str → Option Value) (x : Str) : Prop where
  g : mg x = some (.ref (He.ga K x))
  e : PySem.W.excIn K (He.ga K x) He.veBase "ValueError.__new__" = true
  k : PySem.W.keepIn K (.ref (He.ga K x)) = true
  b : PySem.W.subIn K (.ref (He.ga K x)) (.type "BaseException") = some true
  t : PySem.W.typeIn K (.ref (He.ga K x)) = some (.type "type")
theorem raiseC_of {K : PySem.W.Frag} {mg : Str → Option Value} {x : Str} (g : mg x = some (.ref (He.ga K x))) (c : (He.Fa.exc x).ok K = true) : RaiseC K mg x := by
  obtain ⟨a, b, d, e⟩ := He.exc_ok c
  exact ⟨g, a, b, d, e⟩
/-! ### tables of code objects beside the bag -/
open LamX in
theorem tabs_mv {T : List (Addr × Str)} {H H' : Hp} {b : Addr} (t : Tabs T H) (hb : Bag H b) (m : Mv b H H') : Tabs T H' := fun p hp => by
  obtain ⟨A, B, eb, _⟩ := hb
  obtain ⟨ps, h1, h2, h3⟩ := t p hp
  refine ⟨ps, m _ _ (fun z => ?_) h1, h2, fun pos cv hc => ?_⟩
  · rw [z, eb] at h1
    cases h1
  · obtain ⟨c, e1, e2⟩ := h3 pos cv hc
    refine ⟨c, e1, m _ _ (fun z => ?_) e2⟩
    rw [z, eb] at e2
    exact absurd (Option.some.inj e2) (fun q => by unfold CodeO at q; cases q)
open LamX in
theorem tabs_updL {T : List (Addr × Str)} {H : Hp} {D : Addr} {xs ys : List V} (t : Tabs T H) (hD : H D = some (.lst xs)) : Tabs T (upd H D (.lst ys)) := fun p hp => by
  obtain ⟨ps, h1, h2, h3⟩ := t p hp
  refine ⟨ps, ?_, h2, fun pos cv hc => ?_⟩
  · rw [upd_ne (fun z => by rw [z, hD] at h1; cases h1)]
    exact h1
  · obtain ⟨c, e1, e2⟩ := h3 pos cv hc
    refine ⟨c, e1, ?_⟩
    rw [upd_ne (fun z => ?_)]
    · exact e2
    · rw [z, hD] at e2
      exact absurd (Option.some.inj e2) (fun q => by unfold CodeO at q; cases q)
open LamX in
theorem tabs_sm {T : List (Addr × Str)} {H H' : Hp} (t : Tabs T H) (s : Same H H') : Tabs T H' := t.ext s
/-- all but the tables stay, and these are tables still -/
def Sx (T : List (Addr × Str)) (H H' : Hp) : Prop := LamX.ExtN H H' ∧ LamX.Tabs T H'
theorem Sx.tup {T : List (Addr × Str)} {H H' : Hp} {p : Addr} {xs : List V} (s : Sx T H H') (h : H p = some (.tup xs)) : H' p = some (.tup xs) := s.1 _ _ h fun _ z => by cases z
theorem Sx.lst {T : List (Addr × Str)} {H H' : Hp} {p : Addr} {xs : List V} (s : Sx T H H') (h : H p = some (.lst xs)) : H' p = some (.lst xs) := s.1 _ _ h fun _ z => by cases z
theorem Sx.kt {T : List (Addr × Str)} {H H' : Hp} (s : Sx T H H') : Kt H H' := fun _ _ h => s.tup h
theorem Sx.trans {T : List (Addr × Str)} {H H1 H2 : Hp} (a : Sx T H H1) (b : Sx T H1 H2) : Sx T H H2 := ⟨a.1.trans b.1, b.2⟩
theorem Sx.same {T : List (Addr × Str)} {H H' : Hp} (t : LamX.Tabs T H) (s : Same H H') : Sx T H H' := ⟨LamX.ExtN.of s, tabs_sm t s⟩
theorem Sx.refl {T : List (Addr × Str)} {H : Hp} (t : LamX.Tabs T H) : Sx T H H := ⟨LamX.ExtN.refl H, t⟩
theorem Sx.bag {T : List (Addr × Str)} {H H' : Hp} {b : Addr} (s : Sx T H H') (hb : Bag H b) : Bag H' b := by
  obtain ⟨A, B, h, r⟩ := hb
  exact ⟨A, B, s.lst h, r⟩
/-- a new list, filled -/
theorem Sx.updD {T : List (Addr × Str)} {H H' : Hp} {D : Addr} {xs ys : List V} (s : Sx T H H') (hD : H D = none) (h : H' D = some (.lst xs)) : Sx T H (upd H' D (.lst ys)) :=
  ⟨fun b o e n => by rw [upd_ne (fresh_of e hD)]; exact s.1 b o e n, tabs_updL s.2 h⟩
/-- a bag that is new -/
theorem Sx.mv {T : List (Addr × Str)} {H H1 H2 : Hp} {b : Addr} (s : Sx T H H1) (hn : H b = none) (hb : Bag H1 b) (m : Mv b H1 H2) : Sx T H H2 := ⟨fun p o e n => m p o (fresh_of e hn) (s.1 p o e n), tabs_mv s.2 hb m⟩
end Fm

namespace Fm
open PySem PySem.Spec PyProof.Rows L2
def CPowW (i j : Int) : Prop := 0 ≤ j ∧ (Builtin.Int.intBits i : Int) * j ≤ 2 ^ 27
theorem op_powW {X : Cx} : OpR X (binaryOp .Pow) (rI CPowW fun i j => .int (i ^ j.toNat)) := opI fun _ _ _ _ _ _ _ hc q => pow_int hc.1 hc.2 q
/-! ### fractions as rational numbers -/
def qv (p : Int × Int) : Rat := (p.1 : Rat) / (p.2 : Rat)
theorem rat_ne {z : Int} (h : z ≠ 0) : (z : Rat) ≠ 0 := fun e => h (by exact_mod_cast e)
theorem qv_eq {p : Int × Int} {n d : Int} (hp : p.2 ≠ 0) (hd : d ≠ 0) (h : p.1 * d = n * p.2) : qv p = (n : Rat) / (d : Rat) := by
  unfold qv
  have h1 := rat_ne hp
  have h2 := rat_ne hd
  have e : (p.1 : Rat) * (d : Rat) = (n : Rat) * (p.2 : Rat) := by exact_mod_cast h
  grind
theorem qv_cross {p : Int × Int} {n d : Int} (hp : p.2 ≠ 0) (hd : d ≠ 0) (h : qv p = (n : Rat) / (d : Rat)) : p.1 * d = n * p.2 := by
  unfold qv at h
  have h1 := rat_ne hp
  have h2 := rat_ne hd
  have e : (p.1 : Rat) * (d : Rat) = (n : Rat) * (p.2 : Rat) := by grind
  exact_mod_cast e
theorem qv_low {u d : Int} (hd : d ≠ 0) : qv (lowF 0 u d) = (u : Rat) / (d : Rat) := by
  obtain ⟨h1, h2⟩ := low0_red (u := u) hd
  exact qv_eq (by have := h1.1; omega) hd h2
theorem qv_inj {p q : Int × Int} (hp : Red p) (hq : Red q) (h : qv p = qv q) : p = q := by
  refine red_uniq hp hq ?_
  have := qv_cross (p := p) (n := q.1) (d := q.2) (by have := hp.1; omega) (by have := hq.1; omega) h
  exact this
theorem qv_times {a c : Int × Int} (ha : a.2 ≠ 0) (hc : c.2 ≠ 0) : qv (timesF 0 a c) = qv a * qv c := by
  unfold timesF
  rw [qv_low (Int.mul_ne_zero ha hc)]
  unfold qv
  have h1 := rat_ne ha
  have h2 := rat_ne hc
  have e1 : ((a.1 * c.1 : Int) : Rat) = (a.1 : Rat) * (c.1 : Rat) := by exact_mod_cast rfl
  have e2 : ((a.2 * c.2 : Int) : Rat) = (a.2 : Rat) * (c.2 : Rat) := by exact_mod_cast rfl
  rw [e1, e2]
  grind
theorem fmod_mul_r {a b g : Int} (hg : 0 < g) : (a * b.fmod g).fmod g = (a * b).fmod g := by
  rw [fmod_pos _ hg, fmod_pos _ hg, fmod_pos _ hg, Int.mul_emod a (b % g), Int.emod_emod_of_dvd b (Int.dvd_refl g), ← Int.mul_emod]
theorem fmod_mul_l {a b g : Int} (hg : 0 < g) : (a.fmod g * b).fmod g = (a * b).fmod g := by
  rw [Int.mul_comm, fmod_mul_r hg, Int.mul_comm]
theorem times_wheel {g : Int} {a c : Int × Int} (hg : 0 < g) (ha : a.2 = 1) (hc : c.2 = 1) : timesF g a c = ((a.1 * c.1).fmod g, 1) := by
  unfold timesF
  rw [ha, hc, Int.mul_one]
  exact low_one hg
/-- a square has a root -/
theorem isqrt_sq (n : Nat) : isqrt (n * n) = n := (root_is ⟨Nat.le_refl _, Nat.mul_lt_mul'' (Nat.lt_succ_self n) (Nat.lt_succ_self n)⟩).symm
theorem sq_some {g : Int} {k : Nat} {q : Int × Int} (hg : g = 0 ∨ Gr5 g) (hq : TN g k q) (hk : 4 ≤ k) : (rootV g (timesF g q q)).isSome = true := by
  have tq := tn_times hg hq hq hk
  rcases hq.1 with ⟨rfl, hr⟩ | ⟨g0, q0, q1, q2⟩
  · have hp : Red (timesF 0 q q) := by
      rcases tq.1 with ⟨_, h⟩ | ⟨h, _⟩
      · exact h
      · exact absurd h (by decide)
    rw [red_square hp hr rfl]
    have hq2 := hr.1
    have e1 : (q.1 * q.1).toNat = q.1.natAbs * q.1.natAbs := by rw [← Int.natAbs_mul_self (a := q.1)]; exact Int.toNat_natCast _
    have e2 : (q.2 * q.2).toNat = q.2.natAbs * q.2.natAbs := by rw [← Int.natAbs_mul_self (a := q.2)]; exact Int.toNat_natCast _
    have n0 : ¬ q.1 * q.1 < 0 := by rw [← Int.natAbs_mul_self (a := q.1)]; omega
    have y1 : (isqrt (q.1 * q.1).toNat : Int) * (isqrt (q.1 * q.1).toNat : Int) = q.1 * q.1 := by rw [e1, isqrt_sq, ← Int.natCast_mul]; exact Int.natAbs_mul_self
    have y2 : (isqrt (q.2 * q.2).toNat : Int) * (isqrt (q.2 * q.2).toNat : Int) = q.2 * q.2 := by rw [e2, isqrt_sq, ← Int.natCast_mul]; exact Int.natAbs_mul_self
    unfold rootV
    rw [if_pos rfl, if_neg n0, if_pos ⟨y1, y2⟩]
    rfl
  · rw [times_wheel g0 q2 q2]
    unfold rootV
    rw [if_neg (by omega), Option.isSome_map]
    unfold wroot
    rw [List.find?_isSome]
    refine ⟨q.1, List.mem_map.mpr ⟨q.1.toNat, List.mem_range.mpr (by omega), by omega⟩, decide_eq_true rfl⟩
theorem TN.red {k : Nat} {a : Int × Int} (h : TN 0 k a) : Red a := by
  rcases h.1 with ⟨_, h⟩ | ⟨h, _⟩
  · exact h
  · exact absurd h (by decide)
theorem TN.one {g : Int} {k : Nat} {a : Int × Int} (h : TN g k a) (hg : 0 < g) : a.2 = 1 := by
  rcases h.1 with ⟨e, _⟩ | ⟨_, _, _, e⟩
  · omega
  · exact e
theorem TN.gpos {g : Int} {k : Nat} {a : Int × Int} (h : TN g k a) (hz : g ≠ 0) : 0 < g := by rcases h.1 with ⟨e, _⟩ | ⟨e, _⟩ <;> omega
theorem alike_sq {g : Int} {k : Nat} {x y : Int × Int} (hg : g = 0 ∨ Gr5 g) (hx : TN g k x) (hy : TN g k y) (hk : 4 ≤ k) : (rootV g (timesF g x (timesF g x (timesF g y y)))).isSome = true := by
  have tq := tn_times hg hx hy hk
  have e : timesF g x (timesF g x (timesF g y y)) = timesF g (timesF g x y) (timesF g x y) := by
    have t1 := tn_times hg hy hy hk
    have t2 := tn_times hg hx t1 hk
    have t3 := tn_times hg hx t2 hk
    have t4 := tn_times hg tq tq (by omega)
    rcases hg with rfl | hg5
    · refine qv_inj t3.red t4.red ?_
      have nx : x.2 ≠ 0 := by have := hx.pos; omega
      have ny : y.2 ≠ 0 := by have := hy.pos; omega
      rw [qv_times nx (by have := t2.pos; omega), qv_times nx (by have := t1.pos; omega), qv_times ny ny, qv_times (by have := tq.pos; omega) (by have := tq.pos; omega), qv_times nx ny]
      grind
    · have g0 : 0 < g := by unfold Gr5 at hg5; omega
      rw [times_wheel g0 (hx.one g0) (t2.one g0), times_wheel g0 (hx.one g0) (t1.one g0), times_wheel g0 (hy.one g0) (hy.one g0), times_wheel g0 (tq.one g0) (tq.one g0), times_wheel g0 (hx.one g0) (hy.one g0)]
      simp only [fmod_mul_r g0, fmod_mul_l g0]
      rw [show x.1 * (x.1 * (y.1 * y.1)) = x.1 * y.1 * (x.1 * y.1) by grind]
  rw [e]
  exact sq_some hg tq (by omega)
theorem times_one {g : Int} {k : Nat} {x : Int × Int} (hg : g = 0 ∨ Gr5 g) (hx : TN g k x) : timesF g x (1, 1) = x := by
  rcases hg with rfl | hg5
  · unfold timesF
    have := hx.pos
    refine low0_uniq hx.red (by omega) ?_
    show x.1 * (x.2 * 1) = x.1 * 1 * x.2
    rw [Int.mul_one, Int.mul_one]
  · have g0 : 0 < g := by unfold Gr5 at hg5; omega
    rw [times_wheel g0 (hx.one g0) rfl]
    rcases hx.1 with ⟨e, _⟩ | ⟨_, h1, h2, h3⟩
    · omega
    · have e : (x.1 * 1).fmod g = x.1 := by
        rw [Int.mul_one, fmod_pos _ g0]
        exact Int.emod_eq_of_lt h1 h2
      show ((x.1 * 1).fmod g, (1 : Int)) = x
      rw [e, ← h3]
/-! ### numbers other than nought -/
theorem nz_times {g : Int} {k l : Nat} {a c : Int × Int} (hg : g = 0 ∨ Gr5 g) (ha : TN g k a) (hc : TN g l c) (h1 : a.1 ≠ 0) (h2 : c.1 ≠ 0) : (timesF g a c).1 ≠ 0 := by
  rcases hg with rfl | hg5
  · intro z
    have hd : a.2 * c.2 ≠ 0 := Int.mul_ne_zero (by have := ha.pos; omega) (by have := hc.pos; omega)
    obtain ⟨r, e⟩ := low0_red (u := a.1 * c.1) hd
    have z' : (lowF 0 (a.1 * c.1) (a.2 * c.2)).1 = 0 := z
    rw [z', Int.zero_mul] at e
    exact Int.mul_ne_zero (Int.mul_ne_zero h1 h2) (by have := r.1; omega) e.symm
  · have g0 : 0 < g := by unfold Gr5 at hg5; omega
    rw [times_wheel g0 (ha.one g0) (hc.one g0)]
    rcases ha.1 with ⟨e, _⟩ | ⟨_, a0, a1, _⟩
    · omega
    rcases hc.1 with ⟨e, _⟩ | ⟨_, c0, c1, _⟩
    · omega
    have key : ∀ g ∈ [3, 5, 7, 11, 13], ∀ a ∈ List.range g, ∀ c ∈ List.range g, a ≠ 0 → c ≠ 0 → ((a : Int) * (c : Int)).fmod (g : Int) ≠ 0 := by decide +kernel
    obtain ⟨na, ea⟩ := Int.eq_ofNat_of_zero_le a0
    obtain ⟨nc, ec⟩ := Int.eq_ofNat_of_zero_le c0
    rw [ea] at a1 h1
    rw [ec] at c1 h2
    show (a.1 * c.1).fmod g ≠ 0
    rw [ea, ec]
    have mk : ∀ m : Nat, m ∈ [3, 5, 7, 11, 13] → (na : Int) < m → (nc : Int) < m → ((na : Int) * (nc : Int)).fmod (m : Int) ≠ 0 := fun m hm x1 x2 => key m hm na (List.mem_range.mpr (by omega)) nc (List.mem_range.mpr (by omega)) (by omega) (by omega)
    unfold Gr5 at hg5
    rcases hg5 with rfl | rfl | rfl | rfl | rfl
    · exact mk 3 (by decide) a1 c1
    · exact mk 5 (by decide) a1 c1
    · exact mk 7 (by decide) a1 c1
    · exact mk 11 (by decide) a1 c1
    · exact mk 13 (by decide) a1 c1
theorem nz_minus {g : Int} {k : Nat} {a : Int × Int} (hg : g = 0 ∨ Gr5 g) (ha : TN g k a) (h1 : a.1 ≠ 0) : (minusF g a).1 ≠ 0 := by
  unfold minusF
  have hp := ha.pos
  rcases hg with rfl | hg5
  · intro z
    obtain ⟨r, e⟩ := low0_red (u := 0 - a.1) (d := a.2) (by omega)
    rw [z, Int.zero_mul] at e
    exact Int.mul_ne_zero (show 0 - a.1 ≠ 0 by omega) (by have := r.1; omega) e.symm
  · have g0 : 0 < g := by unfold Gr5 at hg5; omega
    rcases ha.1 with ⟨e, _⟩ | ⟨_, a0, a1, a2⟩
    · omega
    rw [a2, low_one g0]
    show (0 - a.1).fmod g ≠ 0
    rw [fmod_pos _ g0, ← Int.add_emod_right, Int.emod_eq_of_lt (by omega) (by omega)]
    omega
/-- only nought is written with nought above -/
theorem TN.zero {g : Int} {k : Nat} {a : Int × Int} (h : TN g k a) : a.1 = 0 ↔ a = (0, 1) := by
  constructor
  · intro z
    rcases h.1 with ⟨rfl, hr⟩ | ⟨_, _, _, e⟩
    · have h2 := hr.2
      rw [z, Int.gcd_zero_left] at h2
      have := hr.1
      exact Prod.ext z (by show a.2 = 1; omega)
    · exact Prod.ext z e
  · intro e
    rw [e]
end Fm

namespace Fd
/-! ### sums over a range -/
def S (f : Nat → Int) : Nat → Int
  | 0 => 0
  | n + 1 => S f n + f n
theorem S_congr {f g : Nat → Int} : ∀ {n : Nat}, (∀ i, i < n → f i = g i) → S f n = S g n
  | 0, _ => rfl
  | n + 1, h => by
    show S f n + f n = S g n + g n
    rw [S_congr (n := n) fun i hi => h i (by omega), h n (by omega)]
theorem S_zero : ∀ (n : Nat), S (fun _ => 0) n = 0
  | 0 => rfl
  | n + 1 => by
    show S (fun _ => 0) n + 0 = 0
    rw [S_zero n]
    rfl
theorem S_add (f g : Nat → Int) : ∀ (n : Nat), S (fun i => f i + g i) n = S f n + S g n
  | 0 => rfl
  | n + 1 => by
    show S (fun i => f i + g i) n + (f n + g n) = S f n + f n + (S g n + g n)
    rw [S_add f g n]
    omega
theorem S_mul (c : Int) (f : Nat → Int) : ∀ (n : Nat), S (fun i => c * f i) n = c * S f n
  | 0 => (Int.mul_zero c).symm
  | n + 1 => by
    show S (fun i => c * f i) n + c * f n = c * (S f n + f n)
    rw [S_mul c f n, Int.mul_add]
theorem S_neg (f : Nat → Int) (n : Nat) : S (fun i => -f i) n = -S f n := by
  have h := S_mul (-1) f n
  rw [S_congr (g := fun i => -1 * f i) fun i _ => by omega, h]
  omega
theorem S_comm (f : Nat → Nat → Int) (m : Nat) : ∀ (n : Nat), S (fun i => S (fun j => f i j) m) n = S (fun j => S (fun i => f i j) n) m
  | 0 => (S_zero m).symm
  | n + 1 => by
    show S (fun i => S (fun j => f i j) m) n + S (fun j => f n j) m = S (fun j => S (fun i => f i j) n + f n j) m
    rw [S_comm f m n, ← S_add]
def skip (i j : Nat) : Nat := if j < i then j else j + 1
theorem S_skip (f : Nat → Int) (i : Nat) : ∀ (n : Nat), i ≤ n → S (fun j => f (skip i j)) n = S (fun k => if k = i then 0 else f k) (n + 1)
  | 0, h => by
    have e : i = 0 := by omega
    subst e
    rfl
  | n + 1, h => by
    by_cases hi : i = n + 1
    · subst hi
      show S (fun j => f (skip (n + 1) j)) (n + 1) = S (fun k => if k = n + 1 then 0 else f k) (n + 1) + (if n + 1 = n + 1 then 0 else f (n + 1))
      rw [if_pos rfl, Int.add_zero]
      refine S_congr fun j hj => ?_
      unfold skip
      rw [if_pos hj, if_neg (by omega)]
    · show S (fun j => f (skip i j)) n + f (skip i n) = S (fun k => if k = i then 0 else f k) (n + 1) + (if n + 1 = i then 0 else f (n + 1))
      rw [S_skip f i n (by omega), if_neg (by omega)]
      unfold skip
      rw [if_neg (by omega)]
/-! ### signs -/
def sg (i : Nat) : Int := if i % 2 = 0 then 1 else -1
theorem sg_succ (i : Nat) : sg (i + 1) = -sg i := by
  unfold sg
  split <;> split <;> omega
theorem sg_sq (i : Nat) : sg i * sg i = 1 := by
  unfold sg
  split <;> rfl
/-! ### determinants of some columns of rows of whole numbers -/
def ent (rows : List (List Int)) (i c : Nat) : Int := (rows.getD i []).getD c 0
def dt : List (List Int) → List Nat → Int
  | _, [] => 1
  | rows, c :: cs => S (fun i => sg i * ent rows i c * dt (rows.eraseIdx i) cs) rows.length
theorem ent_erase (rows : List (List Int)) (i j c : Nat) : ent (rows.eraseIdx i) j c = ent rows (skip i j) c := by
  have e : (rows.eraseIdx i).getD j [] = rows.getD (skip i j) [] := by
    rw [List.getD_eq_getElem?_getD, List.getD_eq_getElem?_getD, List.getElem?_eraseIdx]
    unfold skip
    split <;> rfl
  unfold ent
  rw [e]
def er2 (rows : List (List Int)) (i k : Nat) : List (List Int) := (rows.eraseIdx i).eraseIdx (if k < i then k else k - 1)
theorem er2_symm (rows : List (List Int)) {i k : Nat} (h : i ≠ k) : er2 rows i k = er2 rows k i := by
  unfold er2
  refine List.ext_getElem? fun n => ?_
  rcases Nat.lt_or_gt_of_ne h with hk | hk
  · rw [if_neg (by omega), if_pos hk, List.getElem?_eraseIdx, List.getElem?_eraseIdx, List.getElem?_eraseIdx, List.getElem?_eraseIdx, List.getElem?_eraseIdx, List.getElem?_eraseIdx]
    by_cases h1 : n < i
    · rw [if_pos (show n < k - 1 by omega), if_pos h1, if_pos h1, if_pos (show n < k by omega)]
    · by_cases h2 : n < k - 1
      · rw [if_pos h2, if_neg h1, if_neg h1, if_pos (show n + 1 < k by omega)]
      · rw [if_neg h2, if_neg (show ¬ n + 1 < i by omega), if_neg h1, if_neg (show ¬ n + 1 < k by omega)]
  · rw [if_pos hk, if_neg (by omega), List.getElem?_eraseIdx, List.getElem?_eraseIdx, List.getElem?_eraseIdx, List.getElem?_eraseIdx, List.getElem?_eraseIdx, List.getElem?_eraseIdx]
    by_cases h1 : n < k
    · rw [if_pos h1, if_pos (show n < i by omega), if_pos (show n < i - 1 by omega), if_pos h1]
    · by_cases h2 : n < i - 1
      · rw [if_neg h1, if_pos (show n + 1 < i by omega), if_pos h2, if_neg h1]
      · rw [if_neg h1, if_neg (show ¬ n + 1 < i by omega), if_neg h2, if_neg (show ¬ n + 1 < k by omega)]
/-- the sign of taking i and then k -/
def s2 (i k : Nat) : Int := if k < i then sg i * sg k else -(sg i * sg k)
theorem dt_two (rows : List (List Int)) (a b : Nat) (cs : List Nat) : dt rows (a :: b :: cs) = S (fun i => S (fun k => if k = i then 0 else s2 i k * ent rows i a * ent rows k b * dt (er2 rows i k) cs) rows.length) rows.length := by
  show S (fun i => sg i * ent rows i a * S (fun j => sg j * ent (rows.eraseIdx i) j b * dt ((rows.eraseIdx i).eraseIdx j) cs) (rows.eraseIdx i).length) rows.length = _
  refine S_congr fun i hi => ?_
  have hl : rows.length = (rows.eraseIdx i).length + 1 := by rw [List.length_eraseIdx_of_lt hi]; omega
  rw [← S_mul]
  have e := S_skip (fun k => s2 i k * ent rows i a * ent rows k b * dt (er2 rows i k) cs) i (rows.eraseIdx i).length (by omega)
  rw [← hl] at e
  rw [← e]
  refine S_congr fun j hj => ?_
  rw [ent_erase]
  have e1 : s2 i (skip i j) = sg i * sg j := by
    unfold s2 skip
    by_cases h : j < i
    · rw [if_pos h, if_pos h]
    · rw [if_neg h, if_neg (by omega), sg_succ, Int.mul_neg, Int.neg_neg]
  have e2 : er2 rows i (skip i j) = (rows.eraseIdx i).eraseIdx j := by
    unfold er2 skip
    by_cases h : j < i
    · rw [if_pos h, if_pos h]
    · rw [if_neg h, if_neg (by omega)]
      rfl
  rw [e1, e2]
  simp only [Int.mul_assoc, Int.mul_left_comm, Int.mul_comm]
theorem s2_anti {i k : Nat} (h : i ≠ k) : s2 i k = -s2 k i := by
  unfold s2
  rcases Nat.lt_or_gt_of_ne h with hk | hk
  · rw [if_neg (by omega), if_pos hk, Int.mul_comm]
  · rw [if_pos hk, if_neg (by omega), Int.neg_neg, Int.mul_comm]
/-- two columns exchanged -/
theorem dt_swap (rows : List (List Int)) (a b : Nat) (cs : List Nat) : dt rows (a :: b :: cs) = -dt rows (b :: a :: cs) := by
  rw [dt_two, dt_two rows b a, S_comm, ← S_neg]
  refine S_congr fun k hk => ?_
  rw [← S_neg]
  refine S_congr fun i hi => ?_
  by_cases h : k = i
  · subst h
    rw [if_pos rfl, if_pos rfl]
    rfl
  · rw [if_neg h, if_neg (fun z => h z.symm), s2_anti (fun z => h z.symm), er2_symm rows (fun z => h z.symm)]
    simp only [Int.neg_mul]
    grind
/-- a column twice -/
theorem dt_twice (c : Nat) : ∀ (cs : List Nat) (rows : List (List Int)), c ∈ cs → dt rows (c :: cs) = 0
  | [], _, h => nomatch h
  | a :: cs, rows, h => by
    by_cases e : c = a
    · subst e
      have := dt_swap rows c c cs
      omega
    · have hm : c ∈ cs := by
        rcases List.mem_cons.mp h with z | z
        · exact absurd z e
        · exact z
      rw [dt_swap]
      show -S (fun i => sg i * ent rows i a * dt (rows.eraseIdx i) (c :: cs)) rows.length = 0
      rw [S_congr (g := fun _ => 0) fun i _ => by rw [dt_twice c cs _ hm, Int.mul_zero], S_zero]
      rfl
/-- a sum that isn't nought has a part that isn't -/
theorem S_ne {f : Nat → Int} : ∀ {n : Nat}, S f n ≠ 0 → ∃ i, i < n ∧ f i ≠ 0
  | 0, h => absurd rfl h
  | n + 1, h => by
    by_cases e : f n = 0
    · have h' : S f n ≠ 0 := fun z => h (by show S f n + f n = 0; rw [z, e]; rfl)
      obtain ⟨i, hi, hf⟩ := S_ne h'
      exact ⟨i, by omega, hf⟩
    · exact ⟨n, by omega, e⟩
/-- rows whose determinant at some columns isn't nought: none of them is a sum of the others there -/
theorem indep : ∀ (cs : List Nat) (P : List (List Int)) (δ : Nat → Int), P.length = cs.length → dt P cs ≠ 0 → (∀ c ∈ cs, S (fun i => δ i * ent P i c) P.length = 0) → ∀ i, i < P.length → δ i = 0
  | [], P, δ, hl, _, _, i, hi => by
    rw [hl] at hi
    exact absurd hi (Nat.not_lt_zero _)
  | c :: cs, P, δ, hl, hD, hz, i, hi => by
    have hD' : S (fun i => sg i * ent P i c * dt (P.eraseIdx i) cs) P.length ≠ 0 := hD
    obtain ⟨i0, hi0, hne⟩ := S_ne hD'
    have hg0 : dt (P.eraseIdx i0) cs ≠ 0 := fun z => hne (by rw [z, Int.mul_zero])
    -- the cofactors
    have hcof : ∀ c' ∈ cs, S (fun i => sg i * dt (P.eraseIdx i) cs * ent P i c') P.length = 0 := fun c' hc' => by
      have h := dt_twice c' cs P hc'
      rw [← h]
      show _ = S (fun i => sg i * ent P i c' * dt (P.eraseIdx i) cs) P.length
      exact S_congr fun i _ => by rw [Int.mul_assoc, Int.mul_assoc, Int.mul_comm (dt _ _)]
    have γ0 : sg i0 * dt (P.eraseIdx i0) cs ≠ 0 := by
      refine Int.mul_ne_zero (fun z => ?_) hg0
      have := sg_sq i0
      rw [z] at this
      cases this
    have hl' : (P.eraseIdx i0).length + 1 = P.length := by rw [List.length_eraseIdx_of_lt hi0]; omega
    have step : ∀ k, k < P.length → sg i0 * dt (P.eraseIdx i0) cs * δ k - δ i0 * (sg k * dt (P.eraseIdx k) cs) = 0 := by
      have ih := indep cs (P.eraseIdx i0) (fun j => (fun k => sg i0 * dt (P.eraseIdx i0) cs * δ k - δ i0 * (sg k * dt (P.eraseIdx k) cs)) (skip i0 j)) (by
        have : P.length = cs.length + 1 := hl
        omega) hg0 (fun c' hc' => by
          have e1 := S_skip (fun k => (sg i0 * dt (P.eraseIdx i0) cs * δ k - δ i0 * (sg k * dt (P.eraseIdx k) cs)) * ent P k c') i0 (P.eraseIdx i0).length (by omega)
          rw [hl'] at e1
          have e2 : S (fun j => (fun k => sg i0 * dt (P.eraseIdx i0) cs * δ k - δ i0 * (sg k * dt (P.eraseIdx k) cs)) (skip i0 j) * ent (P.eraseIdx i0) j c') (P.eraseIdx i0).length = S (fun j => (fun k => (sg i0 * dt (P.eraseIdx i0) cs * δ k - δ i0 * (sg k * dt (P.eraseIdx k) cs)) * ent P k c') (skip i0 j)) (P.eraseIdx i0).length := S_congr fun j _ => by rw [ent_erase]
          rw [e2, e1]
          have e3 : S (fun k => if k = i0 then 0 else (sg i0 * dt (P.eraseIdx i0) cs * δ k - δ i0 * (sg k * dt (P.eraseIdx k) cs)) * ent P k c') P.length = S (fun k => sg i0 * dt (P.eraseIdx i0) cs * (δ k * ent P k c') + -δ i0 * (sg k * dt (P.eraseIdx k) cs * ent P k c')) P.length := S_congr fun k _ => by
            by_cases hk : k = i0
            · subst hk
              rw [if_pos rfl]
              grind
            · rw [if_neg hk]
              grind
          rw [e3, S_add, S_mul, S_mul, hz c' (List.mem_cons_of_mem _ hc'), hcof c' hc', Int.mul_zero, Int.mul_zero]
          rfl)
      intro k hk
      by_cases e : k = i0
      · subst e
        grind
      · by_cases h : k < i0
        · have := ih k (by omega)
          simp only [skip, if_pos h] at this
          exact this
        · have := ih (k - 1) (by omega)
          simp only [skip, if_neg (show ¬ k - 1 < i0 by omega), show k - 1 + 1 = k by omega] at this
          exact this
    have hd0 : δ i0 = 0 := by
      have h1 := hz c List.mem_cons_self
      have h2 : S (fun k => sg i0 * dt (P.eraseIdx i0) cs * (δ k * ent P k c)) P.length = S (fun k => δ i0 * (sg k * ent P k c * dt (P.eraseIdx k) cs)) P.length := S_congr fun k hk => by
        have := step k hk
        grind
      rw [S_mul, S_mul, h1, Int.mul_zero] at h2
      rcases Int.mul_eq_zero.mp h2.symm with z | z
      · exact z
      · exact absurd z hD'
    have := step i hi
    rw [hd0, Int.zero_mul, Int.sub_zero] at this
    rcases Int.mul_eq_zero.mp this with z | z
    · exact absurd z γ0
    · exact z
/-! ### sizes -/
theorem S_abs {f : Nat → Int} {B : Nat} : ∀ {n : Nat}, (∀ i, i < n → (f i).natAbs ≤ B) → (S f n).natAbs ≤ n * B
  | 0, _ => by
    show (0 : Int).natAbs ≤ 0 * B
    rw [Nat.zero_mul]
    exact Nat.le_refl _
  | n + 1, h => by
    have h1 := S_abs (n := n) fun i hi => h i (by omega)
    have h2 := h n (by omega)
    show (S f n + f n).natAbs ≤ (n + 1) * B
    rw [Nat.succ_mul]
    omega
theorem dt_abs {A : Nat} : ∀ (cs : List Nat) (P : List (List Int)), P.length = cs.length → (∀ i c, (ent P i c).natAbs ≤ A) → (dt P cs).natAbs ≤ (cs.length * A) ^ cs.length
  | [], P, _, _ => by
    show 1 ≤ (0 * A) ^ 0
    rw [Nat.pow_zero]
    exact Nat.le_refl _
  | c :: cs, P, hl, hA => by
    have hl' : P.length = cs.length + 1 := hl
    show (S (fun i => sg i * ent P i c * dt (P.eraseIdx i) cs) P.length).natAbs ≤ _
    have hb : ∀ i, i < P.length → (sg i * ent P i c * dt (P.eraseIdx i) cs).natAbs ≤ A * ((cs.length + 1) * A) ^ cs.length := fun i hi => by
      rw [Int.natAbs_mul, Int.natAbs_mul]
      have h1 : (sg i).natAbs = 1 := by
        unfold sg
        split <;> rfl
      have h2 := dt_abs (A := A) cs (P.eraseIdx i) (by rw [List.length_eraseIdx_of_lt hi]; omega) fun j c' => by rw [ent_erase]; exact hA _ _
      have h3 : (cs.length * A) ^ cs.length ≤ ((cs.length + 1) * A) ^ cs.length := Nat.pow_le_pow_left (Nat.mul_le_mul_right A (by omega)) _
      rw [h1, Nat.one_mul]
      exact Nat.mul_le_mul (hA i c) (Nat.le_trans h2 h3)
    refine Nat.le_trans (S_abs hb) ?_
    rw [hl']
    show (cs.length + 1) * (A * ((cs.length + 1) * A) ^ cs.length) ≤ ((cs.length + 1) * A) ^ (cs.length + 1)
    rw [Nat.pow_succ, ← Nat.mul_assoc, Nat.mul_comm]
    exact Nat.le_refl _
end Fd

namespace Fr
open Lean.Grind
variable {F : Type} [CommRing F]
abbrev Row (F : Type) := Nat → F
/-- a sum of rows, times numbers -/
def lin : List F → List (Row F) → Row F
  | c :: cs, a :: A => fun j => c * a j + lin cs A j
  | _, _ => fun _ => 0
/-- what rows span: in every space that holds them -/
structure Spc (W : Row F → Prop) : Prop where
  zero : W (fun _ => 0)
  add : ∀ u v, W u → W v → W (fun j => u j + v j)
  mul : ∀ (c : F) u, W u → W (fun j => c * u j)
def InS (L : List (Row F)) (v : Row F) : Prop := ∀ W : Row F → Prop, Spc W → (∀ r ∈ L, W r) → W v
theorem InS.mem {L : List (Row F)} {v : Row F} (h : v ∈ L) : InS L v := fun _ _ hr => hr v h
theorem InS.spc (L : List (Row F)) : Spc (InS L) := ⟨fun _ s _ => s.zero, fun u v hu hv W s hr => s.add u v (hu W s hr) (hv W s hr), fun c u hu W s hr => s.mul c u (hu W s hr)⟩
theorem InS.trans {L M : List (Row F)} {v : Row F} (h : InS L v) (hl : ∀ r ∈ L, InS M r) : InS M v := h (InS M) (InS.spc M) hl
theorem lin_zero : ∀ (h : List Nat) (A : List (Row F)), lin (h.map fun _ => (0 : F)) A = fun _ => 0
  | [], _ => by unfold lin; rfl
  | _ :: _, [] => by unfold lin; rfl
  | _ :: h, a :: A => by
    funext j
    show (0 : F) * a j + lin (h.map fun _ => (0 : F)) A j = 0
    rw [lin_zero h A]
    grind
theorem lin_add (f g : Nat → F) : ∀ (h : List Nat) (A : List (Row F)), lin (h.map fun p => f p + g p) A = fun j => lin (h.map f) A j + lin (h.map g) A j
  | [], _ => by
    funext j
    show (0 : F) = 0 + 0
    grind
  | _ :: _, [] => by
    funext j
    show (0 : F) = 0 + 0
    grind
  | p :: h, a :: A => by
    funext j
    show (f p + g p) * a j + lin (h.map fun p => f p + g p) A j = f p * a j + lin (h.map f) A j + (g p * a j + lin (h.map g) A j)
    rw [lin_add f g h A]
    grind
theorem lin_mul (c : F) (f : Nat → F) : ∀ (h : List Nat) (A : List (Row F)), lin (h.map fun p => c * f p) A = fun j => c * lin (h.map f) A j
  | [], _ => by
    funext j
    show (0 : F) = c * 0
    grind
  | _ :: _, [] => by
    funext j
    show (0 : F) = c * 0
    grind
  | p :: h, a :: A => by
    funext j
    show c * f p * a j + lin (h.map fun p => c * f p) A j = c * (f p * a j + lin (h.map f) A j)
    rw [lin_mul c f h A]
    grind
/-- least rows A with their heads h -/
structure Rr (A : List (Row F)) (h : List Nat) : Prop where
  len : A.length = h.length
  inc : ∀ (i k p q : Nat), h[i]? = some p → h[k]? = some q → i < k → p < q
  one : ∀ (i : Nat) (a : Row F) (p : Nat), A[i]? = some a → h[i]? = some p → a p = 1
  nul : ∀ (i k : Nat) (a : Row F) (p : Nat), A[i]? = some a → h[k]? = some p → i ≠ k → a p = 0
  ahead : ∀ (i : Nat) (a : Row F) (p j : Nat), A[i]? = some a → h[i]? = some p → j < p → a j = 0
/-- by numbers that are all nought but one -/
theorem lin_unit : ∀ (i : Nat) (A : List (Row F)) (h : List Nat) (f : Nat → F) (a : Row F), A.length = h.length → A[i]? = some a → (∀ (k p : Nat), h[k]? = some p → k ≠ i → f p = 0) → (∀ p : Nat, h[i]? = some p → f p = 1) → lin (h.map f) A = a
  | _, [], _, _, _, _, e, _, _ => by cases e
  | _, _ :: _, [], _, _, hl, _, _, _ => by cases hl
  | 0, b :: A, q :: h, f, a, hl, e, hz, h1 => by
    have e' : b = a := Option.some.inj e
    subst e'
    funext j
    show f q * b j + lin (h.map f) A j = b j
    have hq : f q = 1 := h1 q rfl
    have hr : lin (h.map f) A = fun _ => 0 := by
      have : h.map f = h.map fun _ => (0 : F) := List.map_congr_left fun p hp => by
        obtain ⟨k, hk⟩ := List.getElem?_of_mem hp
        exact hz (k + 1) p hk (by omega)
      rw [this, lin_zero]
    rw [hq, hr]
    grind
  | i + 1, b :: A, q :: h, f, a, hl, e, hz, h1 => by
    have ih := lin_unit i A h f a (Nat.succ.inj hl) e (fun k p hk hne => hz (k + 1) p hk (by omega)) (fun p hp => h1 p hp)
    have hq : f q = 0 := hz 0 q rfl (by omega)
    funext j
    show f q * b j + lin (h.map f) A j = a j
    rw [hq, ih]
    grind
/-- a row that is spanned is told by what it has at the heads -/
theorem Rr.coord {A : List (Row F)} {h : List Nat} (R : Rr A h) {v : Row F} (hv : InS A v) : v = lin (h.map v) A := by
  refine hv (fun v => v = lin (h.map v) A) ⟨?_, fun u w hu hw => ?_, fun c u hu => ?_⟩ fun r hr => ?_
  · exact (lin_zero h A).symm
  · have e := lin_add u w h A
    rw [e, ← hu, ← hw]
  · have e := lin_mul c u h A
    rw [e, ← hu]
  · obtain ⟨i, hi⟩ := List.getElem?_of_mem hr
    exact (lin_unit i A h r r R.len hi (fun k p hk hne => R.nul i k r p hi hk (fun z => hne z.symm)) fun p hp => R.one i r p hi hp).symm
/-- a sum that isn't nought has a part that isn't -/
theorem lin_ne {p : Nat} : ∀ (A : List (Row F)) (h : List Nat) (f : Nat → F), A.length = h.length → lin (h.map f) A p ≠ 0 → ∃ (i : Nat) (a : Row F) (q : Nat), A[i]? = some a ∧ h[i]? = some q ∧ f q ≠ 0 ∧ a p ≠ 0
  | [], [], _, _, hne => absurd rfl hne
  | [], _ :: _, _, hl, _ => by cases hl
  | _ :: _, [], _, hl, _ => by cases hl
  | a :: A, q :: h, f, hl, hne => by
    have hne' : f q * a p + lin (h.map f) A p ≠ 0 := hne
    by_cases e : f q * a p = 0
    · have h2 : lin (h.map f) A p ≠ 0 := fun z => hne' (by rw [e, z]; grind)
      obtain ⟨i, b, r, h3, h4, h5, h6⟩ := lin_ne A h f (Nat.succ.inj hl) h2
      exact ⟨i + 1, b, r, h3, h4, h5, h6⟩
    · refine ⟨0, a, q, rfl, rfl, fun z => e ?_, fun z => e ?_⟩
      · rw [z]
        grind
      · rw [z]
        grind
/-- the first place of a spanned row that isn't nought is a head -/
theorem Rr.lead {A : List (Row F)} {h : List Nat} (R : Rr A h) {v : Row F} (hv : InS A v) {p : Nat} (hp : v p ≠ 0) (h0 : ∀ j, j < p → v j = 0) : p ∈ h := by
  have e := R.coord hv
  have hp' : lin (h.map v) A p ≠ 0 := fun z => hp (by rw [e]; exact z)
  obtain ⟨i, a, q, hi, hq, h1, h2⟩ := lin_ne A h v R.len hp'
  have hge : p ≤ q := Nat.le_of_not_lt fun z => h1 (h0 q z)
  have hle : q ≤ p := Nat.le_of_not_lt fun z => h2 (R.ahead i a q p hi hq z)
  have : p = q := by omega
  rw [this]
  exact List.mem_of_getElem? hq
theorem inc_eq : ∀ (h k : List Nat), (∀ (i j p q : Nat), h[i]? = some p → h[j]? = some q → i < j → p < q) → (∀ (i j p q : Nat), k[i]? = some p → k[j]? = some q → i < j → p < q) → (∀ p, p ∈ h ↔ p ∈ k) → h = k
  | [], [], _, _, _ => rfl
  | [], q :: k, _, _, hm => absurd ((hm q).mpr List.mem_cons_self) (by intro z; cases z)
  | p :: h, [], _, _, hm => absurd ((hm p).mp List.mem_cons_self) (by intro z; cases z)
  | p :: h, q :: k, hh, hk, hm => by
    have below : ∀ x ∈ h, p < x := fun x hx => by
      obtain ⟨i, hi⟩ := List.getElem?_of_mem hx
      exact hh 0 (i + 1) p x rfl hi (by omega)
    have below2 : ∀ x ∈ k, q < x := fun x hx => by
      obtain ⟨i, hi⟩ := List.getElem?_of_mem hx
      exact hk 0 (i + 1) q x rfl hi (by omega)
    have epq : p = q := by
      have h1 := (hm p).mp List.mem_cons_self
      have h2 := (hm q).mpr List.mem_cons_self
      rcases List.mem_cons.mp h1 with z | z
      · exact z
      · rcases List.mem_cons.mp h2 with y | y
        · exact y.symm
        · have := below2 p z
          have := below q y
          omega
    subst epq
    have ih := inc_eq h k (fun i j a b ha hb hij => hh (i + 1) (j + 1) a b ha hb (by omega)) (fun i j a b ha hb hij => hk (i + 1) (j + 1) a b ha hb (by omega)) fun x => by
      constructor
      · intro hx
        rcases List.mem_cons.mp ((hm x).mp (List.mem_cons_of_mem _ hx)) with z | z
        · have := below x hx
          omega
        · exact z
      · intro hx
        rcases List.mem_cons.mp ((hm x).mpr (List.mem_cons_of_mem _ hx)) with z | z
        · have := below2 x hx
          omega
        · exact z
    rw [ih]
/-- least rows that span the same are the same -/
theorem Rr.uniq {A B : List (Row F)} {h k : List Nat} (n1 : (1 : F) ≠ 0) (R : Rr A h) (T : Rr B k) (hAB : ∀ r ∈ A, InS B r) (hBA : ∀ r ∈ B, InS A r) : A = B ∧ h = k := by
  have heads : ∀ {A B : List (Row F)} {h k : List Nat}, Rr A h → Rr B k → (∀ r ∈ A, InS B r) → ∀ p ∈ h, p ∈ k := fun {A B h k} R T hAB p hp => by
    obtain ⟨i, hi⟩ := List.getElem?_of_mem hp
    have hlt : i < A.length := by rw [R.len]; exact (List.getElem?_eq_some_iff.mp hi).1
    have ha : A[i]? = some A[i] := List.getElem?_eq_getElem hlt
    exact T.lead (hAB _ (List.getElem_mem hlt)) (fun z => n1 (by rw [← R.one i _ p ha hi]; exact z)) fun j hj => R.ahead i _ p j ha hi hj
  have ehk : h = k := inc_eq h k R.inc T.inc fun p => ⟨heads R T hAB p, heads T R hBA p⟩
  subst ehk
  refine ⟨List.ext_getElem? fun i => ?_, rfl⟩
  have hl : A.length = B.length := R.len.trans T.len.symm
  by_cases hi : i < A.length
  · have ha : A[i]? = some A[i] := List.getElem?_eq_getElem hi
    have hb : B[i]? = some (B[i]'(by omega)) := List.getElem?_eq_getElem (by omega)
    have e := T.coord (hAB _ (List.getElem_mem hi))
    have e2 := lin_unit i B h A[i] (B[i]'(by omega)) T.len hb (fun q p hq hne => R.nul i q _ p ha hq (fun z => hne z.symm)) fun p hp => R.one i _ p ha hp
    rw [ha, hb]
    exact congrArg some (e.trans e2)
  · rw [List.getElem?_eq_none (by omega), List.getElem?_eq_none (by omega)]
/-- a row less what of it a head's row clears at a place -/
def clr (k : Nat) (b a : Row F) : Row F := fun j => a j + -(a k) * b j
theorem clr_at {k : Nat} {b a : Row F} (hb : b k = 1) : clr k b a k = 0 := by
  unfold clr
  rw [hb]
  grind
theorem clr_nul {k j : Nat} {b a : Row F} (hb : b j = 0) : clr k b a j = a j := by
  unfold clr
  rw [hb]
  grind
/-- one head more -/
theorem Rr.step {A : List (Row F)} {h : List Nat} (R : Rr A h) {k : Nat} {b : Row F} (hk : ∀ p ∈ h, p < k) (hb : b k = 1) (h0 : ∀ j, j < k → b j = 0) : Rr (A.map (clr k b) ++ [b]) (h ++ [k]) := by
  have hl : (A.map (clr k b)).length = h.length := by rw [List.length_map, R.len]
  have look : ∀ (i : Nat) (a : Row F), (A.map (clr k b) ++ [b])[i]? = some a → (i < h.length ∧ ∃ a0, A[i]? = some a0 ∧ a = clr k b a0) ∨ (i = h.length ∧ a = b) := fun i a e => by
    by_cases hi : i < h.length
    · rw [List.getElem?_append_left (by omega), List.getElem?_map] at e
      have ha : A[i]? = some (A[i]'(by rw [R.len]; exact hi)) := List.getElem?_eq_getElem _
      rw [ha] at e
      exact .inl ⟨hi, _, ha, (Option.some.inj e).symm⟩
    · rw [List.getElem?_append_right (by omega), hl] at e
      cases hd : i - h.length with
      | zero =>
        rw [hd] at e
        exact .inr ⟨by omega, (Option.some.inj e).symm⟩
      | succ n =>
        rw [hd] at e
        cases e
  have lookh : ∀ (i p : Nat), (h ++ [k])[i]? = some p → (i < h.length ∧ h[i]? = some p) ∨ (i = h.length ∧ p = k) := fun i p e => by
    by_cases hi : i < h.length
    · rw [List.getElem?_append_left hi] at e
      exact .inl ⟨hi, e⟩
    · rw [List.getElem?_append_right (by omega)] at e
      cases hd : i - h.length with
      | zero =>
        rw [hd] at e
        exact .inr ⟨by omega, (Option.some.inj e).symm⟩
      | succ n =>
        rw [hd] at e
        cases e
  refine ⟨by rw [List.length_append, List.length_append, hl]; rfl, fun i q p r hp hr hiq => ?_, fun i a p ha hp => ?_, fun i q a p ha hp hne => ?_, fun i a p j ha hp hj => ?_⟩
  · rcases lookh i p hp with ⟨h1, e1⟩ | ⟨h1, e1⟩
    · rcases lookh q r hr with ⟨h2, e2⟩ | ⟨h2, e2⟩
      · exact R.inc i q p r e1 e2 hiq
      · rw [e2]
        exact hk p (List.mem_of_getElem? e1)
    · rcases lookh q r hr with ⟨h2, e2⟩ | ⟨h2, e2⟩ <;> omega
  · rcases look i a ha with ⟨h1, a0, e0, rfl⟩ | ⟨h1, rfl⟩
    · rcases lookh i p hp with ⟨_, e1⟩ | ⟨h2, e1⟩
      · rw [clr_nul (h0 p (hk p (List.mem_of_getElem? e1)))]
        exact R.one i a0 p e0 e1
      · omega
    · rcases lookh i p hp with ⟨h2, e1⟩ | ⟨_, e1⟩
      · omega
      · rw [e1]
        exact hb
  · rcases look i a ha with ⟨h1, a0, e0, rfl⟩ | ⟨h1, rfl⟩
    · rcases lookh q p hp with ⟨_, e1⟩ | ⟨h2, e1⟩
      · rw [clr_nul (h0 p (hk p (List.mem_of_getElem? e1)))]
        exact R.nul i q a0 p e0 e1 hne
      · rw [e1]
        exact clr_at hb
    · rcases lookh q p hp with ⟨h2, e1⟩ | ⟨h2, e1⟩
      · exact h0 p (hk p (List.mem_of_getElem? e1))
      · omega
  · rcases look i a ha with ⟨h1, a0, e0, rfl⟩ | ⟨h1, rfl⟩
    · rcases lookh i p hp with ⟨_, e1⟩ | ⟨h2, e1⟩
      · have := hk p (List.mem_of_getElem? e1)
        rw [clr_nul (h0 j (by omega))]
        exact R.ahead i a0 p j e0 e1 hj
      · omega
    · rcases lookh i p hp with ⟨h2, e1⟩ | ⟨_, e1⟩
      · omega
      · rw [e1] at hj
        exact h0 j hj
/-- clearing changes nothing in what is spanned -/
theorem clr_span {L M : List (Row F)} {k : Nat} {b a : Row F} (hb : InS M b) (ha : InS M a) : InS M (clr k b a) := by
  have s := InS.spc M
  exact s.add a (fun j => -(a k) * b j) ha (s.mul (-(a k)) b hb)
theorem clr_back {M : List (Row F)} {k : Nat} {b a : Row F} (hb : InS M b) (hc : InS M (clr k b a)) : InS M a := by
  have s := InS.spc M
  have e : a = fun j => clr k b a j + (a k) * b j := by
    funext j
    unfold clr
    grind
  rw [e]
  exact s.add _ _ hc (s.mul (a k) b hb)
/-- rows that are nought everywhere span nothing -/
theorem ins_nought {L M : List (Row F)} {v : Row F} (h : InS (L ++ M) v) (hz : ∀ r ∈ M, r = fun _ => 0) : InS L v :=
  h.trans fun r hr => (List.mem_append.mp hr).elim InS.mem fun hm => by rw [hz r hm]; exact (InS.spc L).zero
end Fr

namespace Fm
open Lean.Grind
/-- numbers of the ground g as elements of a field: e of a number, i of a whole number -/
structure GV (g : Int) (F : Type) [CommRing F] where
  i : Int → F
  e : Int × Int → F
  iadd : ∀ a b, i (a + b) = i a + i b
  imul : ∀ a b, i (a * b) = i a * i b
  i0 : i 0 = 0
  i1 : i 1 = 1
  ker : ∀ z, i z = 0 → (g = 0 → z = 0) ∧ (g ≠ 0 → z.fmod g = 0)
  inv : ∀ x : F, x ≠ 0 → ∃ y, x * y = 1
  ei : ∀ a : Int × Int, a.2 ≠ 0 → (g ≠ 0 → a.2.fmod g ≠ 0) → e a * i a.2 = i a.1
  ne : (1 : F) ≠ 0
  gz : g ≠ 0 → i g = 0
section
variable {g : Int} {F : Type} [CommRing F] (V : GV g F)
include V in
theorem GV.dom {x y : F} (h : x * y = 0) (hx : x ≠ 0) : y = 0 := by
  obtain ⟨z, hz⟩ := V.inv x hx
  have : y = (x * z) * y := by rw [hz]; grind
  grind
include V in
theorem GV.cancel {x y z : F} (h : x * z = y * z) (hz : z ≠ 0) : x = y := by
  obtain ⟨w, hw⟩ := V.inv z hz
  have e1 : x = x * z * w := by grind
  have e2 : y = y * z * w := by grind
  rw [e1, e2, h]
theorem GV.ineg (a : Int) : V.i (-a) = -V.i a := by
  have h := V.iadd a (-a)
  rw [Int.add_right_neg, V.i0] at h
  grind
theorem GV.isub (a b : Int) : V.i (a - b) = V.i a - V.i b := by
  rw [Int.sub_eq_add_neg, V.iadd, V.ineg]
  grind
theorem GV.ine {d : Int} (h : d ≠ 0) (h2 : g ≠ 0 → d.fmod g ≠ 0) : V.i d ≠ 0 := fun z => by
  by_cases hg : g = 0
  · exact h ((V.ker d z).1 hg)
  · exact h2 hg ((V.ker d z).2 hg)
theorem TN.inv {k : Nat} {a : Int × Int} (hg : g = 0 ∨ Gr5 g) (h : TN g k a) : a.2 ≠ 0 ∧ (g ≠ 0 → a.2.fmod g ≠ 0) := by
  refine ⟨by have := h.pos; omega, fun z => ?_⟩
  rw [h.one (h.gpos z)]
  exact one_fmod (hg.resolve_left z)
theorem GV.tn {k : Nat} {a : Int × Int} (hg : g = 0 ∨ Gr5 g) (h : TN g k a) : V.e a * V.i a.2 = V.i a.1 ∧ V.i a.2 ≠ 0 := ⟨V.ei a (h.inv hg).1 (h.inv hg).2, V.ine (h.inv hg).1 (h.inv hg).2⟩
/-- numbers are told by their elements -/
theorem GV.inj {k l : Nat} {a b : Int × Int} (hg : g = 0 ∨ Gr5 g) (ha : TN g k a) (hb : TN g l b) (h : V.e a = V.e b) : a = b := by
  obtain ⟨e1, n1⟩ := V.tn hg ha
  obtain ⟨e2, n2⟩ := V.tn hg hb
  have e3 : V.i (a.1 * b.2 - b.1 * a.2) = 0 := by
    rw [V.isub, V.imul, V.imul, ← e1, ← e2, h]
    grind
  rcases hg with rfl | h5
  · have := (V.ker _ e3).1 rfl
    exact red_uniq ha.red hb.red (by omega)
  · have g0 : 0 < g := by unfold Gr5 at h5; omega
    have h1 := ha.one g0
    have h2 := hb.one g0
    have e4 := (V.ker _ e3).2 (by omega)
    rw [h1, h2, Int.mul_one, Int.mul_one, fmod_pos _ g0] at e4
    rcases ha.1 with ⟨z, _⟩ | ⟨_, a0, a1, _⟩
    · omega
    rcases hb.1 with ⟨z, _⟩ | ⟨_, b0, b1, _⟩
    · omega
    have e5 : a.1 % g = b.1 % g := Int.emod_eq_emod_iff_emod_sub_eq_zero.mpr e4
    rw [Int.emod_eq_of_lt a0 a1, Int.emod_eq_of_lt b0 b1] at e5
    exact Prod.ext e5 (by rw [h1, h2])
/-- what lowest terms come to -/
theorem GV.low {u d : Int} (hg : g = 0 ∨ Gr5 g) (hd : d ≠ 0) (h2 : g ≠ 0 → d.fmod g ≠ 0) : V.e (lowF g u d) * V.i d = V.i u := by
  obtain ⟨K, h4, hu, hdd⟩ : ∃ K, 4 ≤ K ∧ u.natAbs < 2 ^ K ∧ d.natAbs < 2 ^ K := by
    refine ⟨u.natAbs + d.natAbs + 4, by omega, ?_, ?_⟩
    · exact Nat.lt_of_lt_of_le Nat.lt_two_pow_self (Nat.pow_le_pow_right (by decide) (by omega))
    · exact Nat.lt_of_lt_of_le Nat.lt_two_pow_self (Nat.pow_le_pow_right (by decide) (by omega))
  have t := tn_low (u := u) hg hd h2 h4 hu hdd
  obtain ⟨e1, n1⟩ := V.tn hg t
  refine V.cancel ?_ n1
  have e3 : V.i ((lowF g u d).1 * d) = V.i (u * (lowF g u d).2) := by
    rcases hg with rfl | h5
    · rw [(low0_red hd).2]
    · have g0 : 0 < g := by unfold Gr5 at h5; omega
      obtain ⟨f, f1, f2, f3⟩ := inv_of h5 (h2 (by omega))
      rw [low_inv g0 f3]
      show V.i ((u * f).fmod g * d) = V.i (u * 1)
      have e4 : V.i ((u * f).fmod g * d - u * 1) = 0 := by
        have e5 : ((u * f).fmod g * d - u * 1) = g * (u * (f * d).fdiv g - (u * f).fdiv g * d) := by
          have m1 := Int.mul_fdiv_add_fmod (u * f) g
          have m2 := Int.mul_fdiv_add_fmod (f * d) g
          rw [f3] at m2
          have x1 : (u * f).fmod g = u * f - g * (u * f).fdiv g := by omega
          have x2 : (1 : Int) = f * d - g * (f * d).fdiv g := by omega
          rw [x1]
          have x3 : u * 1 = u * (f * d - g * (f * d).fdiv g) := by rw [← x2]
          rw [x3]
          grind
        rw [e5, V.imul]
        have ig : V.i g = 0 := by
          exact V.gz (by omega)
        rw [ig]
        grind
      rw [V.isub] at e4
      grind
  rw [V.imul, V.imul] at e3
  grind
theorem GV.plus {k l : Nat} {a c : Int × Int} (hg : g = 0 ∨ Gr5 g) (ha : TN g k a) (hc : TN g l c) : V.e (plusF g a c) = V.e a + V.e c := by
  obtain ⟨e1, n1⟩ := V.tn hg ha
  obtain ⟨e2, n2⟩ := V.tn hg hc
  have hd : a.2 * c.2 ≠ 0 := Int.mul_ne_zero (ha.inv hg).1 (hc.inv hg).1
  have hd2 : g ≠ 0 → (a.2 * c.2).fmod g ≠ 0 := fun z => by
    have g0 := ha.gpos z
    rw [ha.one g0, hc.one g0]
    exact one_fmod (hg.resolve_left z)
  have e3 := V.low (u := a.1 * c.2 + c.1 * a.2) hg hd hd2
  have n3 := V.ine hd hd2
  refine V.cancel (z := V.i (a.2 * c.2)) ?_ n3
  show V.e (lowF g (a.1 * c.2 + c.1 * a.2) (a.2 * c.2)) * V.i (a.2 * c.2) = _
  rw [e3, V.iadd, V.imul, V.imul, V.imul, ← e1, ← e2]
  grind
theorem GV.times {k l : Nat} {a c : Int × Int} (hg : g = 0 ∨ Gr5 g) (ha : TN g k a) (hc : TN g l c) : V.e (timesF g a c) = V.e a * V.e c := by
  obtain ⟨e1, n1⟩ := V.tn hg ha
  obtain ⟨e2, n2⟩ := V.tn hg hc
  have hd : a.2 * c.2 ≠ 0 := Int.mul_ne_zero (ha.inv hg).1 (hc.inv hg).1
  have hd2 : g ≠ 0 → (a.2 * c.2).fmod g ≠ 0 := fun z => by
    have g0 := ha.gpos z
    rw [ha.one g0, hc.one g0]
    exact one_fmod (hg.resolve_left z)
  have e3 := V.low (u := a.1 * c.1) hg hd hd2
  have n3 := V.ine hd hd2
  refine V.cancel (z := V.i (a.2 * c.2)) ?_ n3
  show V.e (lowF g (a.1 * c.1) (a.2 * c.2)) * V.i (a.2 * c.2) = _
  rw [e3, V.imul, V.imul, ← e1, ← e2]
  grind
theorem GV.minus {k : Nat} {a : Int × Int} (hg : g = 0 ∨ Gr5 g) (ha : TN g k a) : V.e (minusF g a) = -V.e a := by
  obtain ⟨e1, n1⟩ := V.tn hg ha
  have e3 := V.low (u := 0 - a.1) hg (ha.inv hg).1 (ha.inv hg).2
  refine V.cancel (z := V.i a.2) ?_ n1
  show V.e (lowF g (0 - a.1) a.2) * V.i a.2 = _
  rw [e3, V.isub, V.i0, ← e1]
  grind
def overF (g : Int) (x y : Int × Int) : Int × Int := lowF g (x.1 * y.2) (x.2 * y.1)
theorem TN.top {k : Nat} {a : Int × Int} (h : TN g k a) (hz : a.1 ≠ 0) : g ≠ 0 → a.1.fmod g ≠ 0 := fun z => by
  have g0 := h.gpos z
  rcases h.1 with ⟨e, _⟩ | ⟨_, a0, a1, _⟩
  · exact absurd e z
  · rw [fmod_pos _ g0, Int.emod_eq_of_lt a0 a1]
    exact hz
theorem GV.over {k l : Nat} {a c : Int × Int} (hg : g = 0 ∨ Gr5 g) (ha : TN g k a) (hc : TN g l c) (hz : c.1 ≠ 0) : V.e (overF g a c) * V.e c = V.e a := by
  obtain ⟨e1, n1⟩ := V.tn hg ha
  obtain ⟨e2, n2⟩ := V.tn hg hc
  have hd : a.2 * c.1 ≠ 0 := Int.mul_ne_zero (ha.inv hg).1 hz
  have hd2 : g ≠ 0 → (a.2 * c.1).fmod g ≠ 0 := fun z => by
    have g0 := ha.gpos z
    rw [ha.one g0, Int.one_mul]
    exact hc.top hz z
  have e3 := V.low (u := a.1 * c.2) hg hd hd2
  have n3 := V.ine hz (hc.top hz)
  refine V.cancel (z := V.i a.2 * V.i c.2) ?_ (fun z => n2 (V.dom z n1))
  have e4 : V.e (overF g a c) * V.i (a.2 * c.1) = V.i (a.1 * c.2) := e3
  rw [V.imul, V.imul] at e4
  grind
theorem GV.zero : V.e (0, 1) = 0 := by
  have h := V.ei (0, 1) (by decide) (fun z => ?_)
  · rw [V.i0, V.i1] at h
    grind
  · show (1 : Int).fmod g ≠ 0
    intro w
    have := V.ker 1
    rw [V.i1] at this
    have h5 : ∃ x : Int, 1 = g * x := ⟨(1 : Int).fdiv g, by have := Int.mul_fdiv_add_fmod 1 g; omega⟩
    obtain ⟨x, hx⟩ := h5
    have h6 := V.imul g x
    rw [← hx, V.i1, V.gz z] at h6
    exact V.ne (by grind)
theorem GV.one : V.e (1, 1) = 1 := by
  have h := V.ei (1, 1) (by decide) (fun z => ?_)
  · rw [V.i1] at h
    grind
  · show (1 : Int).fmod g ≠ 0
    intro w
    have h5 : ∃ x : Int, 1 = g * x := ⟨(1 : Int).fdiv g, by have := Int.mul_fdiv_add_fmod 1 g; omega⟩
    obtain ⟨x, hx⟩ := h5
    have h6 := V.imul g x
    rw [← hx, V.i1, V.gz z] at h6
    exact V.ne (by grind)
end
/-- the fractions -/
def gvQ : GV 0 Rat where
  i := fun z => (z : Rat)
  e := qv
  iadd := fun a b => by exact_mod_cast rfl
  imul := fun a b => by exact_mod_cast rfl
  i0 := by exact_mod_cast rfl
  i1 := by exact_mod_cast rfl
  ker := fun z h => ⟨fun _ => by exact_mod_cast h, fun w => absurd rfl w⟩
  inv := fun x hx => ⟨x⁻¹, by grind⟩
  ei := fun a h _ => by
    have := rat_ne h
    unfold qv
    grind
  ne := by decide
  gz := fun w => absurd rfl w
/-- a wheel -/
def fi (n : Nat) [NeZero n] (z : Int) : Fin n := @IntCast.intCast (Fin n) Ring.intCast z
theorem fi_zero (n : Nat) [NeZero n] (z : Int) : fi n z = 0 ↔ z % (n : Int) = 0 := IsCharP.intCast_eq_zero_iff (α := Fin n) n z
theorem fi_sub (n : Nat) [NeZero n] (a b : Int) : fi n (a - b) = fi n a - fi n b := Ring.intCast_sub a b
theorem fi_mul (n : Nat) [NeZero n] (a b : Int) : fi n (a * b) = fi n a * fi n b := Ring.intCast_mul a b
def gvW (n : Nat) [NeZero n] (h1 : 1 < n) (hinv : ∀ x : Fin n, x ≠ 0 → ∃ y, x * y = 1) (h5 : Gr5 (n : Int)) : GV (n : Int) (Fin n) where
  i := fi n
  e := fun a => fi n (lowF (n : Int) a.1 a.2).1
  iadd := fun a b => Ring.intCast_add a b
  imul := fi_mul n
  i0 := Ring.intCast_zero
  i1 := Ring.intCast_one
  ker := fun z h => ⟨fun w => absurd w (by omega), fun _ => by
    have := (fi_zero n z).mp h
    rw [fmod_pos _ (by omega)]
    exact this⟩
  inv := hinv
  ei := fun a h h2 => by
    have g0 : (0 : Int) < (n : Int) := by omega
    obtain ⟨f, f1, f2, f3⟩ := inv_of h5 (h2 (by omega))
    rw [low_inv g0 f3]
    show fi n ((a.1 * f).fmod (n : Int)) * fi n a.2 = fi n a.1
    have e4 : fi n ((a.1 * f).fmod (n : Int) * a.2 - a.1) = 0 := by
      refine (fi_zero n _).mpr ?_
      have e5 : ((a.1 * f).fmod (n : Int) * a.2 - a.1) = (n : Int) * (a.1 * (f * a.2).fdiv n - (a.1 * f).fdiv n * a.2) := by
        have m1 := Int.mul_fdiv_add_fmod (a.1 * f) n
        have m2 := Int.mul_fdiv_add_fmod (f * a.2) n
        rw [f3] at m2
        have x1 : (a.1 * f).fmod (n : Int) = a.1 * f - n * (a.1 * f).fdiv n := by omega
        have x2 : (1 : Int) = f * a.2 - n * (f * a.2).fdiv n := by omega
        rw [x1]
        have x3 : a.1 = a.1 * (f * a.2 - n * (f * a.2).fdiv n) := by rw [← x2, Int.mul_one]
        grind
      rw [e5]
      exact Int.mul_emod_right _ _
    rw [fi_sub, fi_mul] at e4
    grind
  ne := fun z => by
    have := (fi_zero n 1).mp (by rw [← z]; exact Ring.intCast_one)
    rw [Int.emod_eq_of_lt (by omega) (by omega)] at this
    omega
  gz := fun _ => (fi_zero n n).mpr (Int.emod_self)
theorem gvW_5 {g : Int} (h : Gr5 g) : ∃ n : Nat, ∃ _ : NeZero n, ∃ V : GV g (Fin n), True := by
  unfold Gr5 at h
  rcases h with rfl | rfl | rfl | rfl | rfl
  · exact ⟨3, inferInstance, gvW 3 (by decide) (by decide) (by unfold Gr5; omega), trivial⟩
  · exact ⟨5, inferInstance, gvW 5 (by decide) (by decide) (by unfold Gr5; omega), trivial⟩
  · exact ⟨7, inferInstance, gvW 7 (by decide) (by decide) (by unfold Gr5; omega), trivial⟩
  · exact ⟨11, inferInstance, gvW 11 (by decide) (by decide) (by unfold Gr5; omega), trivial⟩
  · exact ⟨13, inferInstance, gvW 13 (by decide) (by decide) (by unfold Gr5; omega), trivial⟩
/-- every ground has its field -/
theorem gv_any {g : Int} (h : g = 0 ∨ Gr5 g) : ∃ F : Type, ∃ _ : CommRing F, Nonempty (GV g F) := by
  rcases h with rfl | h
  · exact ⟨Rat, inferInstance, ⟨gvQ⟩⟩
  · obtain ⟨n, hn, V, _⟩ := gvW_5 h
    exact ⟨Fin n, inferInstance, ⟨V⟩⟩
end Fm

namespace PySem
namespace Fm6
open PySem.W
/-- what a built-in exception class tells of its own __init__ when it stands behind super() -/
structure SupB (B ini : String) (tl : List Value) : Prop where
  typ : typeOf (.builtin ini) = pure (.type "wrapper_descriptor")
  nam : (kfb_private% "nameAndClass") (Value.builtin ini) = (pure (("__init__" : Str), Value.type B) : Sem (Str × Value))
  along : ∀ K : W.Frag, W.alongIn K "__init__" tl = some (some (.builtin ini))
  quiet : ini.startsWith "lifetime." = false
theorem supZ : SupB "ZeroDivisionError" "ZeroDivisionError.__init__" [.type "ZeroDivisionError", .type "ArithmeticError", .type "Exception", .type "BaseException", .type "object"] where
  typ := by show builtinType _ = _; rw [builtinType_eq_fast]; kernel_rfl
  nam := by kernel_rfl
  along := fun K => by kernel_rfl
  quiet := by decide +kernel
theorem supA : SupB "ArithmeticError" "ArithmeticError.__init__" [.type "ArithmeticError", .type "Exception", .type "BaseException", .type "object"] where
  typ := by show builtinType _ = _; rw [builtinType_eq_fast]; kernel_rfl
  nam := by kernel_rfl
  along := fun K => by kernel_rfl
  quiet := by decide +kernel
theorem supL : SupB "LookupError" "LookupError.__init__" [.type "LookupError", .type "Exception", .type "BaseException", .type "object"] where
  typ := by show builtinType _ = _; rw [builtinType_eq_fast]; kernel_rfl
  nam := by kernel_rfl
  along := fun K => by kernel_rfl
  quiet := by decide +kernel
theorem supV : SupB "ValueError" "ValueError.__init__" [.type "ValueError", .type "Exception", .type "BaseException", .type "object"] where
  typ := by show builtinType _ = _; rw [builtinType_eq_fast]; kernel_rfl
  nam := by kernel_rfl
  along := fun K => by kernel_rfl
  quiet := by decide +kernel
/-- __init__ of a built-in class, bound to x -/
abbrev bnd (ini : String) (x : Addr) : Obj := { cls := .type "method-wrapper", dict := none, data := .fields #[.builtin ini, .ref x], slots := #[] }
section
variable {prog : Program} {w : World} {M : Model} {A : Around} {E : Value → Shared → Prop} {h : Heap} {g : Array GenState} {d : Drawn} {t : Nat} {os : OsState} {B ini : String} {tl : List Value}
theorem get_bnd (S : SupB B ini tl) {x C : Addr} {P : PySem.Fin → Shared → Prop} (hin : W.Looks M h (isInstance (.ref x) (.type B)) true) (hq : P (.done (.ret (.ref h.objs.size))) ⟨h.push (bnd ini x), g, d, t, os⟩) :
    wpAny M A (Builtin.«wrapper_descriptor.__get__» ⟨[.builtin ini, .ref x, .ref C], []⟩) P E ⟨h, g, d, t, os⟩ := by
  unfold Builtin.«wrapper_descriptor.__get__»
  refine wpAny_bind (wpAny_of_eq (a := (.builtin ini, some (.ref x), some (.ref C))) (by first | rfl | kernel_rfl) ?_)
  show wpAny M A ((kfb_private% "checkInstance") (.builtin ini) (.ref x) >>= fun _ => newFields "method-wrapper" [.builtin ini, .ref x] >>= fun r => ret r) P E _
  refine wpAny_bind ?_
  show wpAny M A ((kfb_private% "nameAndClass") (.builtin ini) >>= _) _ E _
  refine wpAny_bind (wpAny_of_eq S.nam ?_)
  show wpAny M A (isInstance (.ref x) (.type B) >>= _) _ E _
  refine wpAny_bind (hin.at ?_)
  refine KFB.if_not rfl ?_
  exact wpAny_pure (wpAny_bind (wpAny_newObj_type (wpAny_pure hq)))
theorem sup_ga (S : SupB B ini tl) {so D x C : Addr} {l₀ : List Value} {K : Frag} {tk : Tok} {Q : PySem.Fin → Shared → Prop}
    (hso : h.get? so = some { cls := .type "super", dict := none, data := .fields #[.ref D, .ref x, .ref C], slots := #[] }) (hno : W.Looks (model prog w) h (opaqueClassAbove (.ref C)) none)
    (hC : W.Looks (model prog w) h (mroOf (.ref C)) l₀) (hl : (l₀.dropWhile (· != .ref D)).drop 1 = tl) (X : K.In h) (hxC : x ≠ C) (hin : W.Looks (model prog w) h (isInstance (.ref x) (.type B)) true)
    (hq : Q (.done (.ret (.ref h.objs.size))) ⟨h.push (bnd ini x), g, d, t, os⟩) :
    wpAny (model prog w) A (Builtin.«super.__getattribute__» ⟨[.ref so, .str "__init__" tk], []⟩) Q E ⟨h, g, d, t, os⟩ := by
  have b1 := ESX.slot_wd.lookup
  have b2 : (Value.ref x == Value.ref C) = false := by simp [hxC]
  have b3 := S.typ
  have b4 : Shared.TypeIs ⟨h, g, d, t, os⟩ (.builtin ini) "wrapper_descriptor" := S.typ
  have b5 := S.along K
  have b6 : (("__init__" : Str) == ("__class__" : Str)) = false := by decide +kernel
  have b7 : ({ cls := .type "super", dict := none, data := .fields #[.ref D, .ref x, .ref C], slots := #[] } : Obj).data = .fields #[.ref D, .ref x, .ref C] := rfl
  have c0 : (#[.ref D, .ref x, .ref C] : Array Value)[0]? = some (.ref D) := rfl
  have c1 : (#[.ref D, .ref x, .ref C] : Array Value)[1]? = some (.ref x) := rfl
  have c2 : (#[.ref D, .ref x, .ref C] : Array Value)[2]? = some (.ref C) := rfl
  unfold Builtin.«super.__getattribute__»
  repeat (first
    | (with_reducible refine wpAny_field hso b7 c0 ?_)
    | (with_reducible refine wpAny_field hso b7 c1 ?_)
    | (with_reducible refine wpAny_field hso b7 c2 ?_)
    | (with_reducible refine ks_wpAny_notOpaque hno ?_)
    | (with_reducible refine Looks.at hC ?_; rw [hl])
    | (refine ks_forIn_along X (fun _ _ => rfl) rfl ?_ b5)
    | (with_reducible refine wpAny_call_entry ESX.slot_wd b4 ESX.entry_wd ?_ (ESX.args_wd _ _ _))
    | (with_reducible refine get_bnd S hin ?_)
    | (with_reducible refine ⟨_, rfl, ?_⟩)
    | (simp only [b6, b2, Bool.or_false, Bool.false_eq_true, if_false])
    | wp_step
    | dsimp only)
  all_goals exact hq
theorem sup_method (S : SupB B ini tl) {so D x C : Addr} {l₀ : List Value} {K : Frag} {pl : Sem Bool} {Q : Value × List Value → Shared → Prop}
    (hso : h.get? so = some { cls := .type "super", dict := none, data := .fields #[.ref D, .ref x, .ref C], slots := #[] }) (hno : W.Looks (model prog w) h (opaqueClassAbove (.ref C)) none)
    (hC : W.Looks (model prog w) h (mroOf (.ref C)) l₀) (hl : (l₀.dropWhile (· != .ref D)).drop 1 = tl) (X : K.In h) (hxC : x ≠ C) (hin : W.Looks (model prog w) h (isInstance (.ref x) (.type B)) true)
    (hq : Q (.ref h.objs.size, []) ⟨h.push (bnd ini x), g, d, t + 1, os⟩) :
    wpAny (model prog w) A (getMethod (.ref so) "__init__" pl) Q E ⟨h, g, d, t, os⟩ := by
  have b1 := F.ks_slot_super_ga.lookup
  have b2 : ∀ t', (⟨h, g, d, t', os⟩ : Shared).TypeIs (.ref so) "super" := fun _ => ⟨_, hso, rfl⟩
  unfold getMethod
  refine wpAny_bind (wpAny_specialOf (b2 _) b1 ?_)
  show wpAny _ _ (if (Manifest.canonical "super.__getattribute__" != "object.__getattribute__") = true then _ else _) _ _ _
  rw [if_pos F.ks_canon_super_ga]
  unfold getAttr getAttrBy
  refine wpAny_bind (wpAny_bind (wpAny_mkText (wpAny_holding (wpAny_bind (wpAny_typeOf (b2 _) (wpAny_bind (wpAny_of_eq b1 ?_)))))))
  show wpAny _ _ (getAttrByItsOwn (.ref so) (.str "__init__" t) (.type "super") (.builtin "super.__getattribute__") true false) _ _ _
  unfold getAttrByItsOwn hookBefore callGetattribute boundAndCalled
  refine wpAny_bind (wpAny_of_eq (show (if onTheHeap (.type "super") then typeLookup (.type "super") "__getattr__" else pure none) = pure none from rfl) ?_)
  refine wpAny_bind (wpAny_attempt (wpAny_holding ?_))
  show wpAny _ _ (bindSpecial (.builtin "super.__getattribute__") (.ref so) >>= _) _ _ _
  refine wpAny_bind (wpAny_of_eq (F.ks_slot_super_ga.bind _) ?_)
  refine wpAny_mono (Q := fun v s' => v = .ref h.objs.size ∧ s' = ⟨h.push (bnd ini x), g, d, t + 1, os⟩) (E := fun _ _ => False)
    (wpAny_call_entry F.ks_slot_super_ga (b2 _) F.ks_entry_super_ga (sup_ga S hso hno hC hl X hxC hin ⟨_, rfl, rfl, rfl⟩) (F.ks_gaArgs_super _ _)) (fun v s' hv => ?_) fun _ _ z => z.elim
  obtain ⟨rfl, rfl⟩ := hv
  exact wpAny_pure (wpAny_pure hq)
end
section
open PySem.Calls PyProof.Rows
variable {prog : Program} {w : World} {M : Model} {A : Around} {E : Value → Shared → Prop} {s : Shared} {ini : String}
/-- the call of what is bound: its arguments first -/
theorem with_bnd {pos : Pos} {u x : Addr} {first : List Value} {args : List (Bool × Sem Value)} {Q : Value → Shared → Prop} (hp : args.any (·.1) = false)
    (h : wpAny M A (evalArgs (.ref u) true args []) (fun a s₁ => s₁.heap.get? u = some (bnd ini x) ∧ wpAny M A (call (.ref u) (first ++ a.pos) a.kw) Q E s₁) E s) : wpAny M A (callWith pos (.ref u) first args []) Q E s := by
  unfold callWith
  refine wpAny_bind (wpAny_holding (wpAny_mono h (fun a s₁ b1 => wpAny_bind (wpAny_standAt ?_)) fun _ _ z => z))
  obtain ⟨b2, b3⟩ := b1
  simp only [hp, List.any_nil, Bool.or_false]
  refine wpAny_bind (m := keeperOf (.ref u)) ?_
  unfold keeperOf
  refine wpAny_bind (wpAny_load b2 ?_)
  simp only [bnd, show (Value.type "method-wrapper" != Value.type "method") = true by decide, show (Value.type "method-wrapper" == Value.type "builtin_function_or_method" || Value.type "method-wrapper" == Value.type "method-wrapper") = true by decide, if_true]
  exact wpAny_pure (wpAny_bind (wpAny_mono b3 (fun r s₂ hr => wpAny_bind (wpAny_holding (wpAny_point (wpAny_pure hr)))) fun _ _ z => z))
end
section
variable {prog : Program} {w : World} {A : Around} {E : Value → Shared → Prop} {h : Heap} {g : Array GenState} {d : Drawn} {t : Nat} {os : OsState} {B ini newId : String} {bmB : List Value}
variable {nm q : Str} {C N : Addr} {bs bm : List Value} {hdct : Bool} {sn : List Str} {sub : List Value} {ab : Bool} {col : Option Bool} {dd : Option Addr} {k0 k1 k2 k3 k5 : Option Value}
theorem call_bnd (S : SupB B ini bmB) (G : ExcBaseFacts B newId ini bmB) {u e t0 : Addr} {rest : List Value} {Q : Value → Shared → Prop}
    (hC : h.get? C = some (excClassObj nm q C N bs bm hdct sn sub ab col dd k0 k1 k2 k3 k5 newId)) (he : h.get? e = some (HandSPX.excO C t0)) (hu : h.get? u = some (bnd ini e)) (hr : rest.length ≤ sizeLine)
    (hq : ∀ h' t1, (∀ b o, b ≠ e → h.get? b = some o → h'.get? b = some o) → h'.get? e = some (HandSPX.excO C t1) → Q .none ⟨h', g, d, t, os⟩) :
    wpAny (model prog w) A (call (.ref u) rest) Q E ⟨h, g, d, t, os⟩ := by
  refine wpAny_call (codeAny_of_tree ?_)
  show wpAny _ A.in1 (callAny (.ref u) ⟨rest, []⟩) _ _ _
  simp only [callAny]
  refine wpAny_bind (wpAny_load hu ?_)
  simp only [bnd, show (Value.type "method-wrapper" == Value.type "method" || Value.type "method-wrapper" == Value.type "builtin_function_or_method" || Value.type "method-wrapper" == Value.type "method-wrapper") = true by decide, if_true]
  refine W.KFB.if_so (by decide) ?_
  refine wpAny_bind (ESX.check_bound G hC he rfl ?_)
  refine wpAny_bind (wpAny_pure (wpAny_pure ?_))
  refine ⟨Code.quiet_builtin _ S.quiet, codeAny_builtin G.initEntry ?_⟩
  rw [Around.under_plainId G.init.plain _]
  wp_walk
  refine hq _ h.objs.size (fun b o hb ho => ?_) ?_
  · exact (Heap.get?_update_other _ _ (Ne.symm hb)).trans (Heap.get?_push_of_some _ ho)
  · exact (Heap.get?_update_self _ (Heap.get?_push_of_some _ he) rfl).trans rfl
end
end Fm6
end PySem

namespace L2
open PySem PySem.Spec PyProof.Rows
/-- what the written part says of a class of the program right over the built-in class B -/
structure OexB (K : PySem.W.Frag) (C : Addr) (newId : String) (tl : List Value) : Prop where
  cls : ∃ nm q N bs sn sub ab col dd k0 k1 k2 k3 k5, K.lookup C = some (excClassObj nm q C N bs tl true sn sub ab col dd k0 k1 k2 k3 k5 newId)
  sa : PySem.W.findIn K (.ref C) "__setattr__" = some (some (.builtin "object.__setattr__"))
  exC : PySem.W.subIn K (.ref C) (.type "BaseException") = some true
  tyC : PySem.W.typeIn K (.ref C) = some (.type "type")
  kC : PySem.W.keepIn K (.ref C) = true
section
variable {X : Cx} {e : Expr} {es : List Expr} {ta : TA} {p pos : Pos} {B newId ini : String} {tl : List Value}
/-- C(..), C right over B, with an __init__ of its own -/
theorem pmk_oxb {CX : CXT} {x : Str} {C fI : Addr} {k : Nat} {fd : FuncData} {ps : List Str} {sp : Sp} {ds : List Value} {dvs : List V} (G : ExcBaseFacts B newId ini tl) (T : OexB X.K C newId tl) (iC : PySem.W.findIn X.K (.ref C) "__init__" = some (some (.ref fI)))
    (tI : PySem.W.typeIn X.K (.ref fI) = some (.type "function")) (F1 : FnOk X.prog X.w X.K X.mg X.base CX k fI fd ps sp) (hr : Room (k + 1) X.A) (hb : Binds X.K fd ps ds) (hd : Vals dvs ds) (hx : Passes CX X (fun _ _ _ => False)) (hg : Gl X x) (hm : X.mg x = some (.ref C))
    (ha : PA X (e :: es) ta) (hdb : (x == ("__debug__" : Str)) = false := by decide) (he : starEach (e :: es) X.env = (false, eval e X.env) :: starEach es X.env := by rfl) (hpl : (backTo pos (starEach es X.env)).any (·.1) = false := by rfl) :
    PMk X (.Call (.Name x p) (e :: es) [] pos) (tMkO C sp dvs ta) := by
  intro pins s σ H Q I h
  obtain ⟨nm, q, N, bs, sn, sub, ab, col, dd, k0, k1, k2, k3, k5, hC⟩ := T.cls
  refine wpAny_Call_Name_kw (ld_glob I hg hm ?_ hdb)
  refine PySem.W.callWith_K (h₀ := X.base) I.ok.mod.kin T.kC (thn (ha.run pos pins s σ H _ I h) fun us s1 b1 => ?_) he hpl
  obtain ⟨vs, H1, I1, r1, hz, q1⟩ := b1
  refine ⟨I1.kIn, ?_⟩
  show wpAny _ _ (call (.ref C) us) _ _ _
  obtain ⟨hp, g, dr, tk, os⟩ := s1
  have b2 : H1 (hp.objs.size + 1) = none := I1.hok.fresh (Nat.le_succ _)
  have b3 := q1 (hp.objs.size + 1) b2
  have b4 : ∀ b o, hp.get? b = some o → ((hp.push (PySem.W.kdv_tup us)).push (PySem.HandSPX.excO C hp.objs.size)).get? b = some o := fun b o z => Heap.get?_push_of_some _ (Heap.get?_push_of_some _ z)
  have b5 : ((hp.push (PySem.W.kdv_tup us)).push (PySem.HandSPX.excO C hp.objs.size)).get? (hp.objs.size + 1) = some (PySem.HandSPX.excO C hp.objs.size) := by heap_get
  have I2 := I1.laid (t' := tk) (a := hp.objs.size + 1) (o := exo (hp.objs.size + 1) C none) b4 (Nat.le_succ _) (exo_ok b5)
  have b6 : Vals (V.ref (hp.objs.size + 1) :: (vs ++ dvs)) (Value.ref (hp.objs.size + 1) :: (us ++ ds)) := .cons rfl (r1.append hd)
  have b7 : (Value.ref (hp.objs.size + 1) :: us ++ ds).length = ps.length := ((F1.len _ _ _ _ b3).symm.trans b6.length).symm
  have b8 : us.length ≤ sizeLine := by
    have := Paired.length r1
    rw [sizeLine_eq]
    omega
  refine wpAny_call (PySem.HandSPX.call_own G (fun Y => rfl) (I1.kIn _ _ hC) (PySem.W.looks_findIn I1.kIn iC) (fun self => PySem.W.bind_fn I1.kIn self tI) b8 ?_)
  refine codeAny_mono (F1.run _ X.stack _ _ ⟨Value.ref (hp.objs.size + 1) :: us, []⟩ (Value.ref (hp.objs.size + 1) :: (us ++ ds)) _ _ (fun _ _ _ => False) (hr.make C us []) (I2.env0.make C us []) (hb _ (Value.ref (hp.objs.size + 1) :: us) I2.kIn b7) b6 b3) fun r s' b9 => ?_
  cases r with
  | error er => exact hx pins σ _ _ er s' I2 b9
  | ok fl =>
    cases fl with
    | ret u =>
      obtain ⟨v, H2, os2, bare2, un2, hok2, rv, ev, d, fs, ea, ed, hd1, q2⟩ := b9
      subst ev
      obtain ⟨h2, g2, d2, t2, os'⟩ := s'
      exact ⟨rv, mk_end (raises_own T.exC T.tyC) I1 (Nat.le_succ _) b4 un2 hok2 os2 bare2 ea ed hd1 q2⟩
    | next => exact False.elim b9
    | brk => exact False.elim b9
    | cont => exact False.elim b9
end
end L2

namespace PySem
namespace Fm6
open PySem.W Builtin Builtin.ObjectAttr
section
variable {prog : Program} {w : World} {A : Around} {R : Result → Shared → Prop} {hp : Heap} {g : Array GenState} {d : Drawn} {t : Nat} {os : OsState} {tl : List Value}
/-- the first field of an exception right over a built-in class -/
theorem osaB {K : W.Frag} {name : Str} {tk : Tok} {v : Value} {x C : Addr} {fv : Array Value} {cd : ClassData} (X : K.In hp) (hx : hp.get? x = some { cls := .ref C, data := .fields fv }) (hcd : W.clsIn K C = some cd)
    (hm : cd.mro = .ref C :: tl) (hob : tl.contains (.type "object") = true) (hps : ∀ self, refuseLoop self "__setattr__" tl = pure ()) (hh : cd.hasDict = true) (ha : W.findIn K (.ref C) name = some none)
    (hq : ∀ h' tk' dx, (∀ b o, b ≠ x → hp.get? b = some o → h'.get? b = some o) → hp.objs.size ≤ dx → dx ≠ x → h'.get? x = some { cls := .ref C, dict := some dx, data := .fields fv } →
      h'.Ns1 dx (fun y => if y = name then some v else none) → R (.ok (.ret .none)) ⟨h', g, d, tk', os⟩) :
    codeAny (model prog w) A (.call (.builtin "object.__setattr__") ⟨[.ref x, .str name tk, v], []⟩) R ⟨hp, g, d, t, os⟩ := by
  have J : W.InstAt hp x { cls := .ref C, data := .fields fv } C none := ⟨hx, rfl, rfl, trivial⟩
  have b0 : x ≠ hp.objs.size := Nat.ne_of_lt (Heap.lt_size hx)
  have O := F.store_object
  have b1 : W.mroIn K C (.type "object") = some true := by
    unfold W.mroIn
    rw [hcd, Option.bind_some, hm, if_neg (show ¬ (List.isEmpty (Value.ref C :: tl) = true) from Bool.false_ne_true), List.contains_cons, hob, Bool.or_true]
  have b2 : W.Looks (model prog w) hp (isInstance (.ref x) (.type "object")) true := J.type.andThen (W.looks_mroIn X b1)
  refine codeAny_call_builtin O.slot.plain O.entry (@W.check_slot (model prog w) _ _ ⟨hp, g, d, t, os⟩ "object.__setattr__" "object" "__setattr__" (.ref x) [.str name tk, v] [] _ O.kind O.split b2 (O.args (.ref x) (.str name tk) v) ?_)
  have b3 : W.Looks (model prog w) hp (mroOf (.ref C)) cd.mro := (W.looks_clsIn X hcd).andThen .now
  have b4 : W.Looks (model prog w) hp (storeTaker? none) none := .now
  have b5 : refuseLoop (.ref x) "__setattr__" cd.mro = pure () := by
    rw [hm, refuseLoop_ref]
    exact hps _
  have b6 : W.Looks (model prog w) hp (classData C) cd := W.looks_clsIn X hcd
  rw [W.osa_eq, refuse_eq]
  refine wpAny_bind (wpAny_bind (J.type.at (wpAny_bind (b3.at ?_))))
  rw [b5]
  refine wpAny_pure (wpAny_bind (J.type.at (wpAny_bind ((W.looks_findIn X ha).at (wpAny_bind (b4.at ?_))))))
  show wpAny _ _ (storeInOwnDict (.ref x) (.ref C) (.str name tk) name v false) _ _ _
  obtain ⟨nm, bs, mro, ns, qn, hd, sn, sb, ab, col, del⟩ := cd
  dsimp only at hh
  subst hh
  unfold storeInOwnDict ownDictForStores
  repeat (first | with_reducible refine HandSPX.store_in_new ?_ ?_ | with_reducible refine wpAny_loadPart_at hx ?_ | with_reducible refine b6.at ?_ | wp_step)
  · exact ⟨_, #[], _, (Heap.get?_update_ne _ _ _ _ b0.symm).trans (Heap.get?_push_at rfl rfl), rfl, fun z hz => absurd hz (by simp), fun _ => rfl⟩
  · intro h' tk' b7 b8
    have b9 : (hp.push { cls := .type "dict", data := .dict #[] }).get? x = some { cls := .ref C, data := .fields fv } := Heap.get?_push_of_some _ hx
    refine hq h' tk' hp.objs.size (fun b o c1 c2 => ?_) (Nat.le_refl _) b0.symm ?_ b7
    · exact (b8.2 b (Nat.ne_of_lt (Heap.lt_size c2))).trans ((Heap.get?_update_ne _ _ _ _ c1).trans (Heap.get?_push_of_some _ c2))
    · exact (b8.2 x b0).trans (Heap.get?_update_self _ b9 rfl)
theorem passZ (self : Value) : refuseLoop self "__setattr__" [.type "ZeroDivisionError", .type "ArithmeticError", .type "Exception", .type "BaseException", .type "object"] = pure () := by first | kernel_rfl | rfl
theorem passA (self : Value) : refuseLoop self "__setattr__" [.type "ArithmeticError", .type "Exception", .type "BaseException", .type "object"] = pure () := by first | kernel_rfl | rfl
theorem passL (self : Value) : refuseLoop self "__setattr__" [.type "LookupError", .type "Exception", .type "BaseException", .type "object"] = pure () := by first | kernel_rfl | rfl
end
end Fm6
end PySem

namespace PySem
namespace Fm6
open PySem.W PySem.Calls PyProof.Rows Builtin Builtin.ObjectAttr
/-- the two rows of such an __init__ -/
abbrev iBody (txt sf fld par : Str) (p0 p1 p2 p3 p4 p5 q0 q1 q2 q3 : Pos) (j : Nat) : List Stmt :=
  [.Expr (.Call (.Attribute (.Call (.Name "super" p0) [] [] p1) "__init__" p2) [.Constant (.str txt) j p5] [] p3) p4, .Assign [.Attribute (.Name sf q0) fld q1] (.Name par q2) q3]
section
variable {prog : Program} {w : World} {A : Around} {E : Value → Shared → Prop} {h : Heap} {g : Array GenState} {d : Drawn} {t : Nat} {os : OsState} {B ini newId : String} {tl : List Value} {K : Frag}
variable {nm q : Str} {C N : Addr} {bs : List Value} {sn : List Str} {sub : List Value} {ab : Bool} {col : Option Bool} {dd : Option Addr} {k0 k1 k2 k3 k5 : Option Value}
theorem ibody_run {txt sf fld par file : Str} {p0 p1 p2 p3 p4 p5 q0 q1 q2 q3 : Pos} {j tf : Nat} {bd : List Stmt} {a L f cc cda t0 : Addr} {fd : FuncData} {ar : Arg} {vs : Array Value} {oc : Obj} {cl : Value} {cld : Option Addr} {csl : Array (Option Value)} {fo : Obj} {m mg mb : Str → Option Value} {u : Value} {pl : Sem Bool} {Q : Flow → Shared → Prop}
    (G : ExcBaseFacts B newId ini tl) (S : SupB B ini tl) (hob : tl.contains (.type "object") = true) (hps : ∀ self, refuseLoop self "__setattr__" tl = pure ())
    (X : K.In h) (hC : K.lookup C = some (excClassObj nm q C N bs tl true sn sub ab col dd k0 k1 k2 k3 k5 newId)) (ho : nsIn K cStatics "thirdparty.any" = some none) (sa : findIn K (.ref C) "__setattr__" = some (some (.builtin "object.__setattr__"))) (hno : findIn K (.ref C) fld = some none)
    (hn : h.Ns L m) (h1 : m sf = some (.ref a)) (h2 : m par = some u) (hx : h.get? a = some (HandSPX.excO C t0)) (hKa : K.lookup a = none)
    (hf : K.lookup f = some fo) (hfo : fo.data = .func fd) (hp : (fd.params.posonlyargs ++ fd.params.args).head? = some ar) (har : ar.arg = sf) (hco : fd.code = .ref cda) (hcc : K.lookup cda = some oc) (hoc : oc.data = .fields vs) (hvs : vs[2]? = some (.str file tf))
    (hfile : ((prog.main.file : Str) == file) = true) (htop : (prog.main.scope.names.lookup ("super" : Str)).isSome = false) (hcell : K.lookup cc = some ⟨cl, cld, .cell (some (.ref C)), csl⟩) (hclo : fd.closure = [(("__class__" : Str), cc)])
    (hgl : fd.globals = mainGlobals) (hbl : fd.builtins = builtinsNs) (hg1 : h.Ns mainGlobals mg) (hg2 : mg "super" = none) (hb1 : h.Ns builtinsNs mb) (hb2 : mb "super" = some (.type "super"))
    (hks : fd.scope.names.lookup ("super" : Str) = some .globalImplicit) (hkc : fd.scope.names.lookup ("__class__" : Str) = some .free) (hka : fd.scope.names.lookup sf = some .local) (hkp : fd.scope.names.lookup par = some .local) (hk : fd.scope.kind = .function)
    (hd1 : (sf == ("__debug__" : Str)) = false) (hd2 : (par == ("__debug__" : Str)) = false)
    (hi : interactive (callEnv fd L f) = false) (hs1 : swapsWith (.Call (.Attribute (.Call (.Name "super" p0) [] [] p1) "__init__" p2) [.Constant (.str txt) j p5] [] p3) none p4.line (callEnv fd L f) = pure false)
    (hs2 : swapsWith (.Name par q2) (some (.Attribute (.Name sf q0) fld q1)) q3.line (callEnv fd L f) = pure false)
    (he : eval (.Call (.Attribute (.Call (.Name "super" p0) [] [] p1) "__init__" p2) [.Constant (.str txt) j p5] [] p3) (callEnv fd L f) = (do
      let ov ← attributeBase (.Call (.Name "super" p0) [] [] p1) "__init__" (callEnv fd L f) (eval (.Call (.Name "super" p0) [] [] p1) (callEnv fd L f))
      standAt p2.atName
      let (z, first) ← holding [ov] (getMethod ov "__init__" pl)
      callWith p3 z first (backTo p3 (starEach [.Constant (.str txt) j p5] (callEnv fd L f))) []))
    (hq : ∀ h' tk' dx, (∀ b o, b ≠ a → h.get? b = some o → h'.get? b = some o) → h.get? dx = none → dx ≠ a → (∃ t1 : Addr, h'.get? a = some ({ cls := .ref C, dict := some dx, data := .fields #[.ref t1, .none, .none, .none, .bool false, .none] } : Obj)) →
      h'.Ns1 dx (fun y => if y = fld then some u else none) → Q .next ⟨h', g, d, tk', os⟩) :
    wpAt (model prog w) A (.func bd (callEnv fd L f)) (execs (iBody txt sf fld par p0 p1 p2 p3 p4 p5 q0 q1 q2 q3 j) (callEnv fd L f)) Q E ⟨h, g, d, t, os⟩ := by
  have hcd : clsIn K C = some { name := nm, bases := bs, mro := .ref C :: tl, ns := N, qualname := q, hasDict := true, slotNames := sn, subclasses := sub, abstract := ab, collection := col, hasDel := false } := by
    unfold clsIn
    rw [hC] <;> rfl
  have J0 : InstAt h a (HandSPX.excO C t0) C none := ⟨hx, rfl, rfl, trivial⟩
  have hm1 : ∀ b, (Value.ref C :: tl).contains b = true → mroIn K C b = some true := fun b z => by
    unfold mroIn
    rw [hcd, Option.bind_some, if_neg (show ¬ (List.isEmpty (Value.ref C :: tl) = true) from Bool.false_ne_true), z]
  have hmB : mroIn K C (.type B) = some true := hm1 _ (by rw [List.contains_cons, G.hasB, Bool.or_true])
  have hmC : mroIn K C (.ref C) = some true := hm1 _ (by rw [List.contains_cons, beq_self_eq_true, Bool.true_or])
  have hne : a ≠ C := ks_ne X J0 hcd
  refine ks_wpAt_execs_cons (ks_wpAt_Expr_any ?_ hi hs1)
  refine ks_wpAt_MethodCall (pl := pl) ?_ he
  refine ks_wpAt_super_base (env := callEnv fd L f) hks hkc (by decide +kernel) rfl (X _ _ hf) hfo hp hco (X _ _ hcc) hoc hvs hfile htop ?_
  refine ks_loadName_global hk hks (loadGlobal_builtin (env := callEnv fd L f) (by show h.Ns fd.globals mg; rw [hgl]; exact hg1) hg2 (by show h.Ns fd.builtins mb; rw [hbl]; exact hb1) hb2 ⟨rfl, ?_⟩)
  refine wpAny_loadName_free (c := cc) hk hkc (by show List.lookup _ fd.closure = _; rw [hclo]; rfl) ⟨_, X _ _ hcell, rfl⟩ ?_
  rw [har]
  refine wpAny_loadName_local hk hka hn h1 ?_
  refine ks_wpAny_isType_cls (X _ _ hC) rfl ⟨rfl, ?_⟩
  refine ks_wpAny_call_super (X _ _ hC) rfl hx rfl (fun c z => by cases z) (looks_mroIn X hmC) (fun e1 g1 g2 => ?_)
  have X1 : K.In e1 := fun b o z => g2 _ _ (X b o z)
  have J1 : InstAt e1 a (HandSPX.excO C t0) C none := ⟨g2 _ _ hx, rfl, rfl, trivial⟩
  refine sup_method S g1 (looks_opaque X1 ho) (l₀ := .ref C :: tl) (fun A Q E s k q => wpAny_bind ((looks_clsIn X1 hcd) A _ E s k (wpAny_pure q))) (ESX.drop_own C tl) X1 hne (J1.type.andThen (looks_mroIn X1 hmB)) ?_
  have g3 : (e1.push (bnd ini a)).get? e1.objs.size = some (bnd ini a) := Heap.get?_push_at rfl rfl
  have g4 : ∀ b o, h.get? b = some o → (e1.push (bnd ini a)).get? b = some o := fun b o z => Heap.get?_push_of_some _ (g2 b o z)
  refine with_bnd (ini := ini) (x := a) rfl (evalArgs_plain (spliced_more (Constant_str (spliced_none ⟨g3, ?_⟩))))
  refine call_bnd S G (g4 _ _ (X _ _ hC)) (g4 _ _ hx) g3 (by rw [sizeLine_eq]; simp) (fun e2 t1 g5 g6 => ?_)
  have aL : L ≠ a := fun z => by
    obtain ⟨o, es, ep, y1, y2, _⟩ := hn
    rw [z, hx] at y1
    cases y1
    cases y2
  have g7 : ∀ b o, b ≠ a → h.get? b = some o → e2.get? b = some o := fun b o z y => g5 b o z (g4 b o y)
  have X2 : K.In e2 := fun b o z => g7 b o (fun y => by rw [y, hKa] at z; cases z) (X b o z)
  have n2 : e2.Ns L m := hn.at fun o z => g7 L o aL z
  refine ks_wpAt_execs_cons (ks_wpAt_Assign_Attr ?_ hs2)
  refine wpAt_of_wpAny (wpAny_Name (wpAny_loadName_local hk hkp n2 h2 ?_) hd2)
  refine wpAny_Name (wpAny_loadName_local hk hka n2 h1 ?_) hd1
  refine set_plain (ox := HandSPX.excO C t1) (od := none) X2 ⟨g6, rfl, rfl, trivial⟩ sa ?_
  refine osaB (tl := tl) X2 g6 hcd rfl hob hps rfl hno (fun e3 tk' dx g8 g9 g10 g11 g12 => ?_)
  refine wpAt_of_wpAny (wpAny_execs_nil ?_)
  refine hq e3 tk' dx (fun b o z y => g8 b o z (g7 b o z y)) ?_ g10 ⟨t1, g11⟩ g12
  cases z : h.get? dx with
  | none => rfl
  | some o => exact absurd (Heap.lt_size (g7 dx o g10 z)) (Nat.not_lt.mpr g9)
end
end Fm6
end PySem

namespace L2
open PySem PySem.Spec PyProof.Rows PySem.W PySem.Fm6
/-- what such an __init__ promises -/
def spInit (C : Addr) (fld : Str) : Sp := fun vs H Q _ => ∃ (a : Addr) (y : V), vs = [.ref a, y] ∧ H a = some (exo a C none) ∧ ∀ dx, H dx = none → dx ≠ a → Q .non (upd (upd H dx (exd dx [(fld, y)])) a (exo a C (some dx)))
section
variable {P : Program} {w : World} {K : Frag} {mg : Str → Option Value} {base : Heap} {CX : CXT} {k : Nat} {B ini newId : String} {tl : List Value} {C : Addr}
theorem fn_sup {txt sf fld par file : Str} {p0 p1 p2 p3 p4 p5 q0 q1 q2 q3 : Pos} {j tf : Nat} {f cc cda : Addr} {fd : FuncData} {ar : Arg} {vs : Array Value} {oc : Obj} {cl oF : Value} {cld oD : Option Addr} {csl oS : Array (Option Value)} {pl : Addr → Sem Bool}
    (G : ExcBaseFacts B newId ini tl) (S : SupB B ini tl) (hob : tl.contains (.type "object") = true) (hps : ∀ self, refuseLoop self "__setattr__" tl = pure ()) (T : OexB K C newId tl) (ho : nsIn K cStatics "thirdparty.any" = some none) (hno : findIn K (.ref C) fld = some none)
    (hf : K.lookup f = some ⟨oF, oD, .func fd, oS⟩) (hbd : fd.body = .stmts (iBody txt sf fld par p0 p1 p2 p3 p4 p5 q0 q1 q2 q3 j)) (hp : (fd.params.posonlyargs ++ fd.params.args).head? = some ar) (har : ar.arg = sf) (hco : fd.code = .ref cda) (hcd : codeIn K fd.code fd.qualname = true)
    (hcc : K.lookup cda = some oc) (hoc : oc.data = .fields vs) (hvs : vs[2]? = some (.str file tf)) (hfile : ((P.main.file : Str) == file) = true) (htop : (P.main.scope.names.lookup ("super" : Str)).isSome = false)
    (hcell : K.lookup cc = some ⟨cl, cld, .cell (some (.ref C)), csl⟩) (hclo : fd.closure = [(("__class__" : Str), cc)]) (hgl : fd.globals = mainGlobals) (hbl : fd.builtins = builtinsNs) (hg2 : mg "super" = none)
    (hks : fd.scope.names.lookup ("super" : Str) = some .globalImplicit) (hkc : fd.scope.names.lookup ("__class__" : Str) = some .free) (hka : fd.scope.names.lookup sf = some .local) (hkp : fd.scope.names.lookup par = some .local) (hk : fd.scope.kind = .function)
    (hnc : ∀ x ∈ fd.scope.names, x.2 ≠ .cell) (hgen : fd.scope.isGenerator = false) (hcor : fd.scope.isCoroutine = false) (hne : (sf == par) = false) (hd1 : (sf == ("__debug__" : Str)) = false) (hd2 : (par == ("__debug__" : Str)) = false)
    (hi : ∀ L, interactive (callEnv fd L f) = false) (hs1 : ∀ L, swapsWith (.Call (.Attribute (.Call (.Name "super" p0) [] [] p1) "__init__" p2) [.Constant (.str txt) j p5] [] p3) none p4.line (callEnv fd L f) = pure false)
    (hs2 : ∀ L, swapsWith (.Name par q2) (some (.Attribute (.Name sf q0) fld q1)) q3.line (callEnv fd L f) = pure false)
    (he : ∀ L, eval (.Call (.Attribute (.Call (.Name "super" p0) [] [] p1) "__init__" p2) [.Constant (.str txt) j p5] [] p3) (callEnv fd L f) = (do
      let ov ← attributeBase (.Call (.Name "super" p0) [] [] p1) "__init__" (callEnv fd L f) (eval (.Call (.Name "super" p0) [] [] p1) (callEnv fd L f))
      standAt p2.atName
      let (z, first) ← holding [ov] (getMethod ov "__init__" (pl L))
      callWith p3 z first (backTo p3 (starEach [.Constant (.str txt) j p5] (callEnv fd L f))) [])) :
    FnOk P w K mg base CX (k + 1) f fd [sf, par] (spInit C fld) := by
  refine ⟨fun vs H Q E z => ?_, fun A outer s H args us vs Q E hr e0 hb r hsp => ?_⟩
  · obtain ⟨a, y, rfl, _⟩ := z
    rfl
  obtain ⟨a, y, rfl, ha, hq⟩ := hsp
  obtain ⟨nm, q, N, bs, sn, sub, ab, col, dd, k0, k1, k2, k3, k5, hC⟩ := T.cls
  obtain ⟨u, rfl, ru⟩ : ∃ u, us = [.ref a, u] ∧ RelV y u := by
    cases r with
    | cons r1 r2 =>
      cases r2 with
      | cons r3 r4 =>
        cases r4
        refine ⟨_, ?_, r3⟩
        have z : _ = Value.ref a := r1
        rw [z]
  have X : K.In s.heap := e0.mod.kin.keeps fun b o z => (e0.bs b o z).1
  obtain ⟨t1, c1⟩ := exo_at e0.hok ha
  have c2 : K.lookup a = none := by
    cases z : K.lookup a with
    | none => rfl
    | some o =>
      have := (e0.bs a o (e0.mod.kin _ _ z)).2
      rw [ha] at this
      cases this
  obtain ⟨mb, c3, c4⟩ := e0.mod.blt
  refine ks_codeAny_call_defAt (fd := fd) (binds := [(sf, .ref a), (par, u)]) hr.depth (X _ _ hf) rfl (e0.mod.nolimit.keeps fun b o z => (e0.bs b o z).1) (codeRec_of X hcd) hbd hb hnc ?_ (fun h₀ n kp => ?_) hcor hgen hk
  · intro x hx
    simp only [List.mem_cons, List.not_mem_nil, or_false] at hx
    rcases hx with rfl | rfl
    · exact hka
    · exact hkp
  have c5 : ∀ b o, base.get? b = some o → h₀.get? b = some o := fun b o z => kp b o (e0.bs b o z).1
  refine ibody_run (mg := mg) (mb := mb) (m := fun x => [(sf, Value.ref a), (par, u)].reverse.lookup x) (u := u) (a := a) G S hob hps (fun b o z => c5 b o (e0.mod.kin _ _ z)) hC ho T.sa hno n ?_ ?_ (kp _ _ c1) c2 hf rfl hp har hco hcc hoc hvs hfile htop hcell hclo hgl hbl
    (e0.mod.glob.keeps c5) hg2 (c3.keeps c5) ((c4 _ (by decide)).trans ?_) hks hkc hka hkp hk hd1 hd2 (hi _) (hs1 _) (hs2 _) (he _) (fun h' tk' dx d1 d2 d3 d4 d5 => ?_)
  · show List.lookup sf [(par, u), (sf, .ref a)] = _
    simp [List.lookup_cons, hne]
  · show List.lookup par [(par, u), (sf, .ref a)] = _
    simp [List.lookup_cons]
  · kernel_rfl
  · obtain ⟨t2, d4⟩ := d4
    have d6 : ∀ b o, b ≠ a → s.heap.get? b = some o → h'.get? b = some o := fun b o z v => d1 b o z (kp b o v)
    have d7 : s.heap.get? dx = none := by
      cases z : s.heap.get? dx with
      | none => rfl
      | some o => rw [kp dx o z] at d2; cases d2
    have d8 : H dx = none := e0.hok.gone d7
    have d9 : ∀ {b : Addr}, H b = none → b ≠ a := fun {b} z v => by
      rw [v, ha] at z
      cases z
    have dy : ∀ {b : Addr} {o : Obj}, s.heap.get? b = some o → b ≠ dx := fun {b o} z v => by
      rw [v, d7] at z
      cases z
    refine ⟨.non, _, rfl, e0.bare, ⟨?_, ?_, ?_, ?_, ?_, ?_, ?_⟩, ?_, rfl, hq dx d8 d3⟩
    · exact fun b o z v _ _ => d6 b o (d9 v) z
    · exact fun b o z v _ _ => ⟨o.slots, d6 b o (d9 v) z⟩
    · intro b o z v _
      rw [upd_ne (d9 v), upd_ne (dy z)]
      exact v
    · intro b o z _
      by_cases v : b = a
      · exact ⟨_, v ▸ d4⟩
      · exact ⟨o, d6 b o v z⟩
    · intro b xs z
      rw [upd_ne (at_ne ha z exo_tup), upd_ne (ne_of_none z d8)]
      exact z
    · intro b o v z
      rw [upd_ne (at_ne ha z exo_frz), upd_ne (ne_of_none z d8)]
      exact z
    · intro b ps z
      refine ⟨#[], ?_⟩
      rw [upd_ne (at_ne ha z exo_tbl), upd_ne (ne_of_none z d8), z]
      simp
    · intro b o z
      by_cases v1 : b = a
      · subst v1
        rw [upd_same] at z
        cases z
        exact exo_ok d4
      rw [upd_ne v1] at z
      by_cases v2 : b = dx
      · subst v2
        rw [upd_same] at z
        cases z
        exact exd_ok d5 (relO_put (fs := []) ru fun g => True.intro)
      rw [upd_ne v2] at z
      refine (e0.hok b o z).stay (fun c v x1 x2 => d6 c v ?_ x2) (fun c x1 => ?_) (fun c xs x1 => ?_)
      · rcases x1 with x1 | x1
        · exact x1 ▸ v1
        · exact at_ne ha x1 exo_own
      · rw [upd_ne (at_ne ha x1 exo_own), upd_ne (ne_of_none x1 d8)]
        exact x1
      · rw [upd_ne (at_ne ha x1 exo_tup), upd_ne (ne_of_none x1 d8)]
        exact x1
end
end L2

namespace L2N
open PySem PySem.Spec PyProof.Rows L2
section
variable {X : Cx} {e : Expr} {es : List Expr} {ta : TA} {p pos : Pos} {B newId ini : String} {tl : List Value}
/-- C(..), C right over B, with an __init__ of its own -/
theorem pmk_oxb {CX : CXT} {x : Str} {C fI : Addr} {k : Nat} {fd : FuncData} {ps : List Str} {sp : Sp} {ds : List Value} {dvs : List V} (G : ExcBaseFacts B newId ini tl) (T : OexB X.K C newId tl) (iC : PySem.W.findIn X.K (.ref C) "__init__" = some (some (.ref fI)))
    (tI : PySem.W.typeIn X.K (.ref fI) = some (.type "function")) (F1 : FnOk X.prog X.w X.K X.mg X.base CX k fI fd ps sp) (hr : Room (k + 1) X.A) (hb : Binds X.K fd ps ds) (hd : Vals dvs ds) (hx : Passes CX X (fun _ _ _ => False)) (hg : Gl X x) (hm : X.mg x = some (.ref C))
    (ha : PA X (e :: es) ta) (hdb : (x == ("__debug__" : Str)) = false := by decide) (he : starEach (e :: es) X.env = (false, eval e X.env) :: starEach es X.env := by rfl) (hpl : (backTo pos (starEach es X.env)).any (·.1) = false := by rfl) :
    L2N.PMk X (.Call (.Name x p) (e :: es) [] pos) (tMkO C sp dvs ta) := by
  intro pins s σ H Q I h
  obtain ⟨nm, q, N, bs, sn, sub, ab, col, dd, k0, k1, k2, k3, k5, hC⟩ := T.cls
  refine wpAny_Call_Name_kw (ld_glob I hg hm ?_ hdb)
  refine PySem.W.callWith_K (h₀ := X.base) I.ok.mod.kin T.kC (thn (ha.run pos pins s σ H _ I h) fun us s1 b1 => ?_) he hpl
  obtain ⟨vs, H1, I1, r1, hz, q1⟩ := b1
  refine ⟨I1.kIn, ?_⟩
  show wpAny _ _ (call (.ref C) us) _ _ _
  obtain ⟨hp, g, dr, tk, os⟩ := s1
  have b2 : H1 (hp.objs.size + 1) = none := I1.hok.fresh (Nat.le_succ _)
  have b3 := q1 (hp.objs.size + 1) b2
  have b4 : ∀ b o, hp.get? b = some o → ((hp.push (PySem.W.kdv_tup us)).push (PySem.HandSPX.excO C hp.objs.size)).get? b = some o := fun b o z => Heap.get?_push_of_some _ (Heap.get?_push_of_some _ z)
  have b5 : ((hp.push (PySem.W.kdv_tup us)).push (PySem.HandSPX.excO C hp.objs.size)).get? (hp.objs.size + 1) = some (PySem.HandSPX.excO C hp.objs.size) := by heap_get
  have I2 := I1.laid (t' := tk) (a := hp.objs.size + 1) (o := exo (hp.objs.size + 1) C none) b4 (Nat.le_succ _) (exo_ok b5)
  have b6 : Vals (V.ref (hp.objs.size + 1) :: (vs ++ dvs)) (Value.ref (hp.objs.size + 1) :: (us ++ ds)) := .cons rfl (r1.append hd)
  have b7 : (Value.ref (hp.objs.size + 1) :: us ++ ds).length = ps.length := ((F1.len _ _ _ _ b3).symm.trans b6.length).symm
  have b8 : us.length ≤ sizeLine := by
    have := Paired.length r1
    rw [sizeLine_eq]
    omega
  refine wpAny_call (PySem.HandSPX.call_own G (fun Y => rfl) (I1.kIn _ _ hC) (PySem.W.looks_findIn I1.kIn iC) (fun self => PySem.W.bind_fn I1.kIn self tI) b8 ?_)
  refine codeAny_mono (F1.run _ X.stack _ _ ⟨Value.ref (hp.objs.size + 1) :: us, []⟩ (Value.ref (hp.objs.size + 1) :: (us ++ ds)) _ _ (fun _ _ _ => False) (hr.make C us []) (I2.env0.make C us []) (hb _ (Value.ref (hp.objs.size + 1) :: us) I2.kIn b7) b6 b3) fun r s' b9 => ?_
  cases r with
  | error er => exact hx pins σ _ _ er s' I2 b9
  | ok fl =>
    cases fl with
    | ret u =>
      obtain ⟨v, H2, os2, bare2, un2, hok2, rv, ev, d, fs, ea, ed, hd1, q2⟩ := b9
      subst ev
      obtain ⟨h2, g2, d2, t2, os'⟩ := s'
      obtain ⟨t0, G2, J, kG, ge, hoe, na⟩ := mk_end0 (d2 := d2) (t2 := t2) I1 (Nat.le_succ _) b4 un2 hok2 os2 bare2 ea ed hd1
      refine ⟨rv, hp.objs.size + 1, _, _, ⟨G2, g2, d2, t2, os'⟩, _, .ref C, some d, rfl, J, kG, ge, hoe, ⟨rfl, rfl, ?_⟩, rfl, rfl, na, rfl, bare2, raises_own T.exC T.tyC, q2⟩
      intro vs z
      cases z
      rfl
    | next => exact False.elim b9
    | brk => exact False.elim b9
    | cont => exact False.elim b9
end
end L2N

namespace Fm
open PySem PySem.Spec PyProof.Rows L2 PySem.Fm6
/-- what is known of OverNought where it is raised -/
structure OverC (P : Program) (w : World) (K : PySem.W.Frag) (mg : Str → Option Value) (base : Heap) (fI : Addr) (fd : FuncData) : Prop where
  T : OexB K (He.ga K "OverNought") "ZeroDivisionError.__new__" [.type "ZeroDivisionError", .type "ArithmeticError", .type "Exception", .type "BaseException", .type "object"]
  i : PySem.W.findIn K (.ref (He.ga K "OverNought")) "__init__" = some (some (.ref fI))
  ty : PySem.W.typeIn K (.ref fI) = some (.type "function")
  fn : FnOk P w K mg base C8.CX0 1 fI fd ["self", "top"] (spInit (He.ga K "OverNought") "top")
  b : Binds K fd ["self", "top"] []
  g : mg "OverNought" = some (.ref (He.ga K "OverNought"))
/-- OverNought(y) is raised -/
theorem w_over {C : Addr} {y : V} {H : Hp} {Q : XK} (q : ∀ d H', H d = none → Same H H' → H' d = some (.xd [("top", y)]) → Q (.ref C) (some d) H') :
    ([y] : List V).length ≤ 1000 ∧ ∀ a, H a = none → spInit C "top" (.ref a :: ([y] ++ [])) (upd H a (exo a C none))
      (fun v H2 => v = .non ∧ ∃ (d : Addr) (fs : List (Str × V)), H2 a = some (exo a C (some d)) ∧ H2 d = some (exd d fs) ∧ H d = none ∧ Q (.ref C) (some d) (upd (del H2 a) d (.xd fs))) (fun _ _ _ => False) := by
  refine ⟨by simp, fun a ha => ⟨a, y, rfl, upd_same, fun dx h1 h2 => ?_⟩⟩
  rw [upd_ne h2] at h1
  refine ⟨rfl, dx, [("top", y)], upd_same, ?_, h1, q dx _ h1 (fun b o z => ?_) upd_same⟩
  · rw [upd_ne h2, upd_same]
  · have z1 : b ≠ a := ne_of_none z ha
    have z2 : b ≠ dx := ne_of_none z h1
    rw [upd_ne z2, del_ne z1, upd_ne z1, upd_ne z2, upd_ne z1]
    exact z
theorem w_mk {C : Addr} {sp : Sp} {dvs : List V} {ta : TA} {σ : L2.St} {H : Hp} {Q : XK} (h : ta σ H fun vs H1 => vs.length ≤ 1000 ∧ ∀ a, H1 a = none → sp (.ref a :: (vs ++ dvs)) (upd H1 a (exo a C none))
    (fun v H2 => v = .non ∧ ∃ (d : Addr) (fs : List (Str × V)), H2 a = some (exo a C (some d)) ∧ H2 d = some (exd d fs) ∧ H1 d = none ∧ Q (.ref C) (some d) (upd (del H2 a) d (.xd fs))) (fun _ _ _ => False)) : tMkO C sp dvs ta σ H Q := h
/-- one number over another -/
def ovrF (g : Int) (x y : Int × Int) : Int × Int := lowF g (x.1 * y.2) (x.2 * y.1)
theorem TN.topN {g : Int} {k : Nat} {a : Int × Int} (h : TN g k a) (hz : a.1 ≠ 0) : g ≠ 0 → a.1.fmod g ≠ 0 := fun z => by
  have g0 := h.gpos z
  rcases h.1 with ⟨w, _⟩ | ⟨_, a0, a1, _⟩
  · exact absurd w z
  · rw [fmod_pos _ g0, Int.emod_eq_of_lt a0 a1]
    exact hz
end Fm

namespace Fm
open Lean.Grind PySem L2
/-- one number less another -/
def lessF (g : Int) (x y : Int × Int) : Int × Int := lowF g (x.1 * y.2 - y.1 * x.2) (x.2 * y.2)
section
variable {g : Int} {k l : Nat} {a c : Int × Int}
theorem dn2 (hg : g = 0 ∨ Gr5 g) (ha : TN g k a) (hc : TN g l c) : a.2 * c.2 ≠ 0 ∧ (g ≠ 0 → (a.2 * c.2).fmod g ≠ 0) := by
  refine ⟨Int.mul_ne_zero (ha.inv hg).1 (hc.inv hg).1, fun z => ?_⟩
  have g0 := ha.gpos z
  rw [ha.one g0, hc.one g0]
  exact one_fmod (hg.resolve_left z)
theorem dif_lt {u v : Int} {k : Nat} (h1 : u.natAbs < 2 ^ k) (h2 : v.natAbs < 2 ^ k) : (u - v).natAbs < 2 ^ (k + 1) := by
  rw [Nat.pow_succ]
  omega
theorem sum_lt {u v : Int} {k : Nat} (h1 : u.natAbs < 2 ^ k) (h2 : v.natAbs < 2 ^ k) : (u + v).natAbs < 2 ^ (k + 1) := by
  rw [Nat.pow_succ]
  omega
theorem tn_less (hg : g = 0 ∨ Gr5 g) (ha : TN g k a) (hc : TN g l c) (hk : 4 ≤ k) : TN g (k + l + 1) (lessF g a c) :=
  tn_low hg (dn2 hg ha hc).1 (dn2 hg ha hc).2 (by omega) (dif_lt (wide_lt ha.2.1 hc.2.2) (by have := wide_lt hc.2.1 ha.2.2; rwa [Nat.add_comm] at this))
    (Nat.lt_of_lt_of_le (wide_lt ha.2.2 hc.2.2) (Nat.pow_le_pow_right (by decide) (Nat.le_succ _)))
theorem GV.less {F : Type} [CommRing F] (V : GV g F) (hg : g = 0 ∨ Gr5 g) (ha : TN g k a) (hc : TN g l c) : V.e (lessF g a c) = V.e a - V.e c := by
  obtain ⟨e1, n1⟩ := V.tn hg ha
  obtain ⟨e2, n2⟩ := V.tn hg hc
  have e3 := V.low (u := a.1 * c.2 - c.1 * a.2) hg (dn2 hg ha hc).1 (dn2 hg ha hc).2
  have e4 : V.e (lessF g a c) * V.i (a.2 * c.2) = V.i (a.1 * c.2 - c.1 * a.2) := e3
  refine V.cancel (z := V.i a.2 * V.i c.2) ?_ (fun z => n2 (V.dom z n1))
  rw [V.isub, V.imul, V.imul, V.imul] at e4
  grind
/-- less: plus the contrary -/
theorem less_eq (hg : g = 0 ∨ Gr5 g) (ha : TN g k a) (hc : TN g l c) (hk : 4 ≤ k) (hl : 4 ≤ l) : plusF g a (minusF g c) = lessF g a c := by
  obtain ⟨F, R, ⟨V⟩⟩ := gv_any hg
  have m := tn_minus hg hc hl
  refine V.inj hg (tn_plus hg ha m hk) (tn_less hg ha hc hk) ?_
  rw [V.plus hg ha m, V.minus hg hc, V.less hg ha hc]
  grind
/-- what is divided is a number again -/
theorem tn_ovr (hg : g = 0 ∨ Gr5 g) (ha : TN g k a) (hc : TN g l c) (hk : 4 ≤ k) (hz : c.1 ≠ 0) : TN g (k + l) (ovrF g a c) :=
  tn_low hg (Int.mul_ne_zero (ha.inv hg).1 hz) (fun z => by
    rw [ha.one (ha.gpos z), Int.one_mul]
    exact hc.topN hz z) (by omega) (wide_lt ha.2.1 hc.2.2) (wide_lt ha.2.2 hc.2.1)
end
end Fm

namespace Fm
open Lean.Grind PySem L2
/-! ### sums of products, and numbers of four parts -/
section
variable {g : Int} {F : Type} [CommRing F]
theorem tn_zero (hg : g = 0 ∨ Gr5 g) : TN g 4 (0, 1) := by
  refine ⟨?_, by decide, by decide⟩
  rcases hg with h | h
  · exact .inl ⟨h, by decide, by decide⟩
  · refine .inr ⟨?_, by decide, ?_, rfl⟩
    · unfold Gr5 at h; omega
    · show (0 : Int) < g
      unfold Gr5 at h; omega
theorem tn_one (hg : g = 0 ∨ Gr5 g) : TN g 4 (1, 1) := by
  refine ⟨?_, by decide, by decide⟩
  rcases hg with h | h
  · exact .inl ⟨h, by decide, by decide⟩
  · refine .inr ⟨?_, by decide, ?_, rfl⟩
    · unfold Gr5 at h; omega
    · show (1 : Int) < g
      unfold Gr5 at h; omega
theorem tn_fold (hg : g = 0 ∨ Gr5 g) {m : Nat} : ∀ (as : List (Int × Int)) (p : Int × Int) (l : Nat), TN g l p → 4 ≤ l → (∀ a ∈ as, TN g m a) → TN g (l + as.length * (m + 1)) (as.foldl (plusF g) p)
  | [], p, l, hp, _, _ => by
    show TN g (l + 0 * (m + 1)) p
    rw [Nat.zero_mul]
    exact hp
  | a :: as, p, l, hp, hl, h => by
    have h1 := tn_plus hg hp (h a (List.mem_cons_self ..)) hl
    have h2 := tn_fold hg as _ _ h1 (by omega) fun b hb => h b (List.mem_cons_of_mem _ hb)
    refine h2.mono ?_
    rw [List.length_cons, Nat.succ_mul]
    omega
theorem GV.fold (V : GV g F) (hg : g = 0 ∨ Gr5 g) {m : Nat} : ∀ (as : List (Int × Int)) (p : Int × Int) (l : Nat), TN g l p → 4 ≤ l → (∀ a ∈ as, TN g m a) → V.e (as.foldl (plusF g) p) = (as.map V.e).foldl (· + ·) (V.e p)
  | [], p, l, hp, _, _ => rfl
  | a :: as, p, l, hp, hl, h => by
    have ha := h a (List.mem_cons_self ..)
    have h1 := tn_plus hg hp ha hl
    rw [List.foldl_cons, V.fold hg as _ _ h1 (by omega) fun b hb => h b (List.mem_cons_of_mem _ hb), List.map_cons, List.foldl_cons, V.plus hg hp ha]
theorem tn_cell (hg : g = 0 ∨ Gr5 g) {k l : Nat} {r s : List (Int × Int)} (hr : ∀ a ∈ r, TN g k a) (hs : ∀ a ∈ s, TN g l a) (hk : 4 ≤ k) : TN g (4 + r.length * (k + l + 1)) (cellF g r s) := by
  have h := tn_fold hg (List.zipWith (timesF g) r s) (0, 1) 4 (tn_zero hg) (Nat.le_refl _) (m := k + l) (fun a ha => by
    obtain ⟨i, hi, rfl⟩ := List.mem_iff_getElem.mp ha
    rw [List.getElem_zipWith]
    rw [List.length_zipWith] at hi
    exact tn_times hg (hr _ (List.getElem_mem (by omega))) (hs _ (List.getElem_mem (by omega))) hk)
  refine h.mono ?_
  refine Nat.add_le_add_left (Nat.mul_le_mul_right _ ?_) _
  rw [List.length_zipWith]
  omega
theorem GV.cell (V : GV g F) (hg : g = 0 ∨ Gr5 g) {k l : Nat} {r s : List (Int × Int)} (hr : ∀ a ∈ r, TN g k a) (hs : ∀ a ∈ s, TN g l a) (hk : 4 ≤ k) : V.e (cellF g r s) = (List.zipWith (fun a b => V.e a * V.e b) r s).foldl (· + ·) 0 := by
  unfold cellF
  rw [V.fold hg (List.zipWith (timesF g) r s) (0, 1) 4 (tn_zero hg) (Nat.le_refl _) (m := k + l) (fun a ha => by
    obtain ⟨i, hi, rfl⟩ := List.mem_iff_getElem.mp ha
    rw [List.getElem_zipWith]
    rw [List.length_zipWith] at hi
    exact tn_times hg (hr _ (List.getElem_mem (by omega))) (hs _ (List.getElem_mem (by omega))) hk), V.zero, List.map_zipWith]
  congr 1
  refine List.ext_getElem (by rw [List.length_zipWith, List.length_zipWith]) fun i h1 h2 => ?_
  rw [List.length_zipWith] at h1
  rw [List.getElem_zipWith, List.getElem_zipWith, V.times hg (hr _ (List.getElem_mem (by omega))) (hs _ (List.getElem_mem (by omega)))]
theorem GV.injL (V : GV g F) (hg : g = 0 ∨ Gr5 g) {k l : Nat} : ∀ {r s : List (Int × Int)}, (∀ a ∈ r, TN g k a) → (∀ a ∈ s, TN g l a) → r.map V.e = s.map V.e → r = s
  | [], [], _, _, _ => rfl
  | [], _ :: _, _, _, h => by cases h
  | _ :: _, [], _, _, h => by cases h
  | a :: r, c :: s, hr, hs, h => by
    rw [List.map_cons, List.map_cons] at h
    injection h with h1 h2
    rw [V.inj hg (hr a (List.mem_cons_self ..)) (hs c (List.mem_cons_self ..)) h1, V.injL hg (fun x hx => hr x (List.mem_cons_of_mem _ hx)) (fun x hx => hs x (List.mem_cons_of_mem _ hx)) h2]
theorem TN.okn (hg : g = 0 ∨ Gr5 g) {k : Nat} {a : Int × Int} (h : TN g k a) : OkN g k a := by
  refine ⟨h.2.1, h.2.2, ?_⟩
  rcases hg with e | h5
  · exact .inl ⟨e, h.pos⟩
  · have : 3 ≤ g ∧ g ≤ 13 := by unfold Gr5 at h5; omega
    exact .inr ⟨this.1, this.2, h.one (by omega)⟩
/-- the number -1 -/
def m1F (g : Int) : Int × Int := lowF g (-1) 1
theorem tn_m1 (hg : g = 0 ∨ Gr5 g) : TN g 4 (m1F g) := tn_low hg (by decide) (fun z => one_fmod (hg.resolve_left z)) (Nat.le_refl _) (by decide) (by decide)
theorem GV.m1 (V : GV g F) (hg : g = 0 ∨ Gr5 g) : V.e (m1F g) = -1 := by
  have h := V.low (u := -1) (d := 1) hg (by decide) (fun z => one_fmod (hg.resolve_left z))
  rw [V.i1, V.ineg, V.i1] at h
  unfold m1F
  grind
def negF (g : Int) (x : Int × Int) : Int × Int := timesF g x (m1F g)
theorem tn_neg (hg : g = 0 ∨ Gr5 g) {k : Nat} {a : Int × Int} (h : TN g k a) (hk : 4 ≤ k) : TN g (k + 4) (negF g a) := tn_times hg h (tn_m1 hg) hk
theorem GV.neg (V : GV g F) (hg : g = 0 ∨ Gr5 g) {k : Nat} {a : Int × Int} (h : TN g k a) : V.e (negF g a) = - V.e a := by
  unfold negF
  rw [V.times hg h (tn_m1 hg), V.m1 hg]
  grind
/-- the four times 1, i, j, k -/
def unitsF (g : Int) (a b c d : Int × Int) : List (List (Int × Int)) := [[a, b, c, d], [negF g b, a, d, negF g c], [negF g c, negF g d, a, b], [negF g d, c, negF g b, a]]
def fourF (g : Int) : List (Int × Int) → List (Int × Int) → List (Int × Int)
  | [a, b, c, d], s => (turnF 4 (unitsF g a b c d)).map (cellF g s)
  | _, _ => []
theorem units_tn (hg : g = 0 ∨ Gr5 g) {k : Nat} {a b c d : Int × Int} (hk : 4 ≤ k) (h : ∀ x ∈ [a, b, c, d], TN g k x) : ∀ r ∈ unitsF g a b c d, r.length = 4 ∧ ∀ x ∈ r, TN g (k + 4) x := by
  have ha := h a (by simp)
  have hb := h b (by simp)
  have hc := h c (by simp)
  have hd := h d (by simp)
  have u : ∀ {x}, TN g k x → TN g (k + 4) x := fun h => h.mono (by omega)
  have v : ∀ {x}, TN g k x → TN g (k + 4) (negF g x) := fun h => tn_neg hg h hk
  intro r hr
  unfold unitsF at hr
  simp only [List.mem_cons, List.not_mem_nil, or_false] at hr
  rcases hr with rfl | rfl | rfl | rfl
  all_goals
    refine ⟨rfl, fun x hx => ?_⟩
    simp only [List.mem_cons, List.not_mem_nil, or_false] at hx
    rcases hx with rfl | rfl | rfl | rfl <;> first | exact u ha | exact u hb | exact u hc | exact u hd | exact v hb | exact v hc | exact v hd
theorem four_is (a b c d : Int × Int) (s : List (Int × Int)) : fourF g [a, b, c, d] s = [cellF g s [a, negF g b, negF g c, negF g d], cellF g s [b, a, negF g d, c], cellF g s [c, d, a, negF g b], cellF g s [d, negF g c, b, a]] := rfl
theorem four_len {r s : List (Int × Int)} (h : r.length = 4) : (fourF g r s).length = 4 := by
  match r, h with
  | [a, b, c, d], _ => rfl
theorem four_tn (hg : g = 0 ∨ Gr5 g) {k l : Nat} (hk : 4 ≤ k) (hl : 4 ≤ l) {r s : List (Int × Int)} (hr : ∀ x ∈ r, TN g k x) (hs : ∀ x ∈ s, TN g l x) (h4 : r.length = 4) (h5 : s.length = 4) : ∀ x ∈ fourF g r s, TN g (4 * k + 4 * l + 24) x := by
  match r, h4 with
  | [a, b, c, d], _ =>
    have ha := hr a (by simp)
    have hb := hr b (by simp)
    have hc := hr c (by simp)
    have hd := hr d (by simp)
    have u : ∀ {x}, TN g k x → TN g (k + 4) x := fun h => h.mono (by omega)
    have v : ∀ {x}, TN g k x → TN g (k + 4) (negF g x) := fun h => tn_neg hg h hk
    rw [four_is]
    intro x hx
    simp only [List.mem_cons, List.not_mem_nil, or_false] at hx
    rcases hx with rfl | rfl | rfl | rfl
    all_goals
      refine (tn_cell hg hs (l := k + 4) (fun x hx => ?_) hl).mono (by rw [h5]; omega)
      simp only [List.mem_cons, List.not_mem_nil, or_false] at hx
      rcases hx with rfl | rfl | rfl | rfl <;> first | exact u ha | exact u hb | exact u hc | exact u hd | exact v hb | exact v hc | exact v hd
/-- fours in the field -/
def qmul {F : Type} [CommRing F] : List F → List F → List F
  | [a, b, c, d], [e, f, h, k] => [a * e - b * f - c * h - d * k, a * f + b * e + c * k - d * h, a * h - b * k + c * e + d * f, a * k + b * h - c * f + d * e]
  | _, _ => []
theorem GV.four (V : GV g F) (hg : g = 0 ∨ Gr5 g) {k l : Nat} (hk : 4 ≤ k) (hl : 4 ≤ l) {r s : List (Int × Int)} (hr : ∀ x ∈ r, TN g k x) (hs : ∀ x ∈ s, TN g l x) (h4 : r.length = 4) (h5 : s.length = 4) : (fourF g r s).map V.e = qmul (r.map V.e) (s.map V.e) := by
  match r, h4, s, h5 with
  | [a, b, c, d], _, [e, f, h, j], _ =>
    have ha := hr a (by simp)
    have hb := hr b (by simp)
    have hc := hr c (by simp)
    have hd := hr d (by simp)
    have u : ∀ {x}, TN g k x → TN g (k + 4) x := fun h => h.mono (by omega)
    have v : ∀ {x}, TN g k x → TN g (k + 4) (negF g x) := fun h => tn_neg hg h hk
    have key : ∀ x1 x2 x3 x4 : Int × Int, TN g (k + 4) x1 → TN g (k + 4) x2 → TN g (k + 4) x3 → TN g (k + 4) x4 → V.e (cellF g [e, f, h, j] [x1, x2, x3, x4]) = 0 + V.e e * V.e x1 + V.e f * V.e x2 + V.e h * V.e x3 + V.e j * V.e x4 := fun x1 x2 x3 x4 t1 t2 t3 t4 => by
      rw [V.cell hg hs (l := k + 4) (fun x hx => ?_) hl]
      · rfl
      · simp only [List.mem_cons, List.not_mem_nil, or_false] at hx
        rcases hx with rfl | rfl | rfl | rfl <;> assumption
    rw [four_is]
    simp only [List.map_cons, List.map_nil]
    rw [key _ _ _ _ (u ha) (v hb) (v hc) (v hd), key _ _ _ _ (u hb) (u ha) (v hd) (u hc), key _ _ _ _ (u hc) (u hd) (u ha) (v hb), key _ _ _ _ (u hd) (v hc) (u hb) (u ha), V.neg hg hb, V.neg hg hc, V.neg hg hd]
    unfold qmul
    congr 1
    · grind
    congr 1
    · grind
    congr 1
    · grind
    congr 1
    · grind
theorem qmul_assoc {x y z : List F} (hx : x.length = 4) (hy : y.length = 4) (hz : z.length = 4) : qmul (qmul x y) z = qmul x (qmul y z) := by
  match x, hx, y, hy, z, hz with
  | [a, b, c, d], _, [e, f, h, j], _, [p, q, r, s], _ =>
    show [_, _, _, _] = [_, _, _, _]
    congr 1
    · grind
    congr 1
    · grind
    congr 1
    · grind
    congr 1
    · grind
theorem four_assoc (hg : g = 0 ∨ Gr5 g) {k : Nat} (hk : 4 ≤ k) {r s t : List (Int × Int)} (hr : ∀ x ∈ r, TN g k x) (hs : ∀ x ∈ s, TN g k x) (ht : ∀ x ∈ t, TN g k x) (h4 : r.length = 4) (h5 : s.length = 4) (h6 : t.length = 4) : fourF g (fourF g r s) t = fourF g r (fourF g s t) := by
  obtain ⟨F, R, ⟨V⟩⟩ := gv_any hg
  have t1 := four_tn hg hk hk hr hs h4 h5
  have t2 := four_tn hg hk hk hs ht h5 h6
  have l1 := four_len (g := g) (s := s) h4
  have l2 := four_len (g := g) (s := t) h5
  refine V.injL hg (four_tn hg (by omega) hk t1 ht l1 h6) (four_tn hg hk (by omega) hr t2 h4 l2) ?_
  rw [V.four hg (by omega) hk t1 ht l1 h6, V.four hg hk hk hr hs h4 h5, V.four hg hk (by omega) hr t2 h4 l2, V.four hg hk hk hs ht h5 h6]
  exact qmul_assoc (by rw [List.length_map, h4]) (by rw [List.length_map, h5]) (by rw [List.length_map, h6])
theorem GV.norm (V : GV g F) (hg : g = 0 ∨ Gr5 g) {k : Nat} (hk : 4 ≤ k) {r : List (Int × Int)} (hr : ∀ x ∈ r, TN g k x) : V.e (cellF g r r) = ((r.map V.e).map fun x => x * x).foldl (· + ·) 0 := by
  rw [V.cell hg hr hr hk, List.zipWith_self, List.map_map]
  rfl
theorem norm_mul (hg : g = 0 ∨ Gr5 g) {k : Nat} (hk : 4 ≤ k) {r s : List (Int × Int)} (hr : ∀ x ∈ r, TN g k x) (hs : ∀ x ∈ s, TN g k x) (h4 : r.length = 4) (h5 : s.length = 4) : cellF g (fourF g r s) (fourF g r s) = timesF g (cellF g r r) (cellF g s s) := by
  obtain ⟨F, R, ⟨V⟩⟩ := gv_any hg
  have t1 := four_tn hg hk hk hr hs h4 h5
  have n1 := tn_cell hg hr hr hk
  have n2 := tn_cell hg hs hs hk
  refine V.inj hg (tn_cell hg t1 t1 (by omega)) (tn_times hg n1 n2 (by omega)) ?_
  rw [V.norm hg (by omega) t1, V.four hg hk hk hr hs h4 h5, V.times hg n1 n2, V.norm hg hk hr, V.norm hg hk hs]
  match r, h4, s, h5 with
  | [a, b, c, d], _, [e, f, h, j], _ =>
    simp only [List.map_cons, List.map_nil, qmul, List.foldl_cons, List.foldl_nil]
    grind
/-- the contrary -/
def turn4F (g : Int) : List (Int × Int) → List (Int × Int)
  | a :: r => a :: r.map (minusF g)
  | [] => []
theorem turn4_tn (hg : g = 0 ∨ Gr5 g) {k : Nat} (hk : 4 ≤ k) {r : List (Int × Int)} (hr : ∀ x ∈ r, TN g k x) : ∀ x ∈ turn4F g r, TN g k x := by
  match r with
  | [] => intro x hx; cases hx
  | a :: r =>
    intro x hx
    rcases List.mem_cons.mp (show x ∈ a :: r.map (minusF g) from hx) with rfl | hx
    · exact hr _ (List.mem_cons_self ..)
    · obtain ⟨y, hy, rfl⟩ := List.mem_map.mp hx
      exact tn_minus hg (hr y (List.mem_cons_of_mem _ hy)) hk
theorem four_contrary (hg : g = 0 ∨ Gr5 g) {k : Nat} (hk : 4 ≤ k) {r : List (Int × Int)} (hr : ∀ x ∈ r, TN g k x) (h4 : r.length = 4) : fourF g r (turn4F g r) = [cellF g r r, (0, 1), (0, 1), (0, 1)] := by
  obtain ⟨F, R, ⟨V⟩⟩ := gv_any hg
  have t1 := turn4_tn hg hk hr
  have n1 := tn_cell hg hr hr hk
  have z := tn_zero hg
  have l1 : (turn4F g r).length = 4 := by
    match r, h4 with
    | [a, b, c, d], _ => rfl
  refine V.injL (l := 4 + r.length * (k + k + 1) + 4) hg (four_tn hg hk hk hr t1 h4 l1) (fun x hx => ?_) ?_
  · simp only [List.mem_cons, List.not_mem_nil, or_false] at hx
    rcases hx with rfl | rfl | rfl | rfl
    · exact n1.mono (by omega)
    · exact z.mono (by omega)
    · exact z.mono (by omega)
    · exact z.mono (by omega)
  · rw [V.four hg hk hk hr t1 h4 l1]
    simp only [List.map_cons, List.map_nil]
    rw [V.norm hg hk hr, V.zero]
    match r, h4 with
    | [a, b, c, d], _ =>
      have hb := hr b (by simp)
      have hc := hr c (by simp)
      have hd := hr d (by simp)
      simp only [turn4F, List.map_cons, List.map_nil, V.minus hg hb, V.minus hg hc, V.minus hg hd, qmul, List.foldl_cons, List.foldl_nil]
      congr 1
      · grind
      congr 1
      · grind
      congr 1
      · grind
      congr 1
      · grind
/-- the law's own products -/
def lsF (g : Int) (l : List ((Int × Int) × (Int × Int) × Int)) : List (Int × Int) := l.map fun t => timesF g (lowF g t.2.2 1) (timesF g t.1 t.2.1)
def lrows (a b c d e f h k : Int × Int) : List (List ((Int × Int) × (Int × Int) × Int)) := [[(a, e, 1), (b, f, -1), (c, h, -1), (d, k, -1)], [(a, f, 1), (b, e, 1), (c, k, 1), (d, h, -1)], [(a, h, 1), (b, k, -1), (c, e, 1), (d, f, 1)], [(a, k, 1), (b, h, 1), (c, f, -1), (d, e, 1)]]
def lfourF (g : Int) : List (Int × Int) → List (Int × Int) → List (Int × Int)
  | [a, b, c, d], [e, f, h, k] => (lrows a b c d e f h k).map fun l => (lsF g l).foldl (plusF g) (0, 1)
  | _, _ => []
def SgOk (g : Int) (k : Nat) (t : (Int × Int) × (Int × Int) × Int) : Prop := TN g k t.1 ∧ TN g k t.2.1 ∧ (t.2.2 = 1 ∨ t.2.2 = -1)
theorem sg_tn (hg : g = 0 ∨ Gr5 g) {s : Int} (h : s = 1 ∨ s = -1) : TN g 4 (lowF g s 1) := tn_low hg (by decide) (fun z => one_fmod (hg.resolve_left z)) (Nat.le_refl _) (by rcases h with rfl | rfl <;> decide) (by decide)
theorem GV.sg (V : GV g F) (hg : g = 0 ∨ Gr5 g) {s : Int} : V.e (lowF g s 1) = V.i s := by
  have h := V.low (u := s) (d := 1) hg (by decide) (fun z => one_fmod (hg.resolve_left z))
  rw [V.i1] at h
  grind
theorem lrows_ok {k : Nat} {a b c d e f h j : Int × Int} (hr : ∀ x ∈ [a, b, c, d], TN g k x) (hs : ∀ x ∈ [e, f, h, j], TN g k x) : ∀ l ∈ lrows a b c d e f h j, l.length = 4 ∧ ∀ t ∈ l, SgOk g k t := by
  have ha := hr a (by simp)
  have hb := hr b (by simp)
  have hc := hr c (by simp)
  have hd := hr d (by simp)
  have he := hs e (by simp)
  have hf := hs f (by simp)
  have hh := hs h (by simp)
  have hj := hs j (by simp)
  intro l hl
  unfold lrows at hl
  simp only [List.mem_cons, List.not_mem_nil, or_false] at hl
  rcases hl with rfl | rfl | rfl | rfl
  all_goals
    refine ⟨rfl, fun t ht => ?_⟩
    simp only [List.mem_cons, List.not_mem_nil, or_false] at ht
    rcases ht with rfl | rfl | rfl | rfl <;> first | exact ⟨by assumption, by assumption, .inl rfl⟩ | exact ⟨by assumption, by assumption, .inr rfl⟩
theorem ls_tn (hg : g = 0 ∨ Gr5 g) {k : Nat} (hk : 4 ≤ k) {l : List ((Int × Int) × (Int × Int) × Int)} (h : ∀ t ∈ l, SgOk g k t) : ∀ x ∈ lsF g l, TN g (4 + (k + k)) x := fun x hx => by
  obtain ⟨t, ht, rfl⟩ := List.mem_map.mp hx
  obtain ⟨h1, h2, h3⟩ := h t ht
  exact tn_times hg (sg_tn hg h3) (tn_times hg h1 h2 hk) (Nat.le_refl _)
theorem ls_fold (hg : g = 0 ∨ Gr5 g) {k : Nat} (hk : 4 ≤ k) {l : List ((Int × Int) × (Int × Int) × Int)} (h4 : l.length = 4) (h : ∀ t ∈ l, SgOk g k t) (i : Nat) : TN g (8 * k + 24) (((lsF g l).take i).foldl (plusF g) (0, 1)) := by
  refine (tn_fold hg ((lsF g l).take i) (0, 1) 4 (tn_zero hg) (Nat.le_refl _) (m := 4 + (k + k)) fun x hx => ls_tn hg hk h x (List.mem_of_mem_take hx)).mono ?_
  have : ((lsF g l).take i).length ≤ 4 := by
    rw [List.length_take]
    unfold lsF
    rw [List.length_map, h4]
    omega
  have := Nat.mul_le_mul_right (4 + (k + k) + 1) this
  omega
theorem GV.ls (V : GV g F) (hg : g = 0 ∨ Gr5 g) {k : Nat} (hk : 4 ≤ k) {l : List ((Int × Int) × (Int × Int) × Int)} (h : ∀ t ∈ l, SgOk g k t) : V.e ((lsF g l).foldl (plusF g) (0, 1)) = (l.map fun t => V.i t.2.2 * (V.e t.1 * V.e t.2.1)).foldl (· + ·) 0 := by
  rw [V.fold hg (lsF g l) (0, 1) 4 (tn_zero hg) (Nat.le_refl _) (m := 4 + (k + k)) (ls_tn hg hk h), V.zero]
  congr 1
  unfold lsF
  rw [List.map_map]
  refine List.map_congr_left fun t ht => ?_
  obtain ⟨h1, h2, h3⟩ := h t ht
  show V.e (timesF g (lowF g t.2.2 1) (timesF g t.1 t.2.1)) = _
  rw [V.times hg (sg_tn hg h3) (tn_times hg h1 h2 hk), V.times hg h1 h2, V.sg hg]
theorem lfour_eq (hg : g = 0 ∨ Gr5 g) {k : Nat} (hk : 4 ≤ k) {r s : List (Int × Int)} (hr : ∀ x ∈ r, TN g k x) (hs : ∀ x ∈ s, TN g k x) (h4 : r.length = 4) (h5 : s.length = 4) : lfourF g r s = fourF g r s := by
  obtain ⟨F, R, ⟨V⟩⟩ := gv_any hg
  have t1 := four_tn hg hk hk hr hs h4 h5
  have e1 := V.four hg hk hk hr hs h4 h5
  match r, h4, s, h5 with
  | [a, b, c, d], _, [e, f, h, j], _ =>
    have ok := lrows_ok hr hs
    refine V.injL (k := 8 * k + 24) hg (fun x hx => ?_) t1 ?_
    · obtain ⟨l, hl, rfl⟩ := List.mem_map.mp hx
      have := ls_fold hg hk (ok l hl).1 (ok l hl).2 (lsF g l).length
      rw [List.take_length] at this
      exact this
    · rw [e1]
      have e2 : (lfourF g [a, b, c, d] [e, f, h, j]).map V.e = (lrows a b c d e f h j).map fun l => (l.map fun t => V.i t.2.2 * (V.e t.1 * V.e t.2.1)).foldl (· + ·) 0 := by
        show ((lrows a b c d e f h j).map fun l => (lsF g l).foldl (plusF g) (0, 1)).map V.e = _
        rw [List.map_map]
        exact List.map_congr_left fun l hl => V.ls hg hk (ok l hl).2
      rw [e2]
      have im : V.i (-1) = -1 := by rw [V.ineg, V.i1]
      simp only [lrows, List.map_cons, List.map_nil, List.foldl_cons, List.foldl_nil, V.i1, im, qmul]
      congr 1
      · grind
      congr 1
      · grind
      congr 1
      · grind
      congr 1
      · grind
theorem lnorm_eq (r : List (Int × Int)) : (r.map fun x => timesF g x x).foldl (plusF g) (0, 1) = cellF g r r := by
  unfold cellF
  rw [List.zipWith_self]
end
theorem four_ijk : fourF 0 (fourF 0 [(0, 1), (1, 1), (0, 1), (0, 1)] [(0, 1), (0, 1), (1, 1), (0, 1)]) [(0, 1), (0, 1), (0, 1), (1, 1)] = [(-1, 1), (0, 1), (0, 1), (0, 1)] := by decide +kernel
theorem norm_i3 : cellF 3 [(0, 1), (1, 1), (0, 1), (0, 1)] [(0, 1), (1, 1), (0, 1), (0, 1)] = (1, 1) := by decide +kernel
end Fm

namespace Fm
open PySem PySem.Spec PyProof.Rows L2
theorem ps_never {X : Cx} {st : Stmt} : PS X st (fun _ _ _ => False) := ⟨fun _ _ _ _ _ _ h => h.elim⟩
theorem w_glst {K : PySem.W.Frag} {n : Nat} {t : TGs} {a : Addr} {xs : List V} {σ : L2.St} {H : Hp} {R : L2.St → Hp → Prop} (h : H a = some (.lst xs)) (hn : xs.length = n) (q : t xs σ H R) : gLst K n t (.ref a) σ H R := ⟨a, xs, rfl, SqL.of h, hn, q⟩
theorem sqv4 {α : Type} {P : Hp → V → α → Prop} {H : Hp} {p : Addr} {x y z w : V} {a b c d : α} (hp : H p = some (.tup [x, y, z, w])) (h1 : P H x a) (h2 : P H y b) (h3 : P H z c) (h4 : P H w d) : SqV P H (.ref p) [a, b, c, d] := ⟨p, [x, y, z, w], rfl, hp, rfl, fun i v e e1 e2 => by
  match i with
  | 0 => cases e1; cases e2; exact h1
  | 1 => cases e1; cases e2; exact h2
  | 2 => cases e1; cases e2; exact h3
  | 3 => cases e1; cases e2; exact h4
  | i + 4 => simp at e1⟩
theorem sqv3 {α : Type} {P : Hp → V → α → Prop} {H : Hp} {p : Addr} {x y z : V} {a b c : α} (hp : H p = some (.tup [x, y, z])) (h1 : P H x a) (h2 : P H y b) (h3 : P H z c) : SqV P H (.ref p) [a, b, c] := ⟨p, [x, y, z], rfl, hp, rfl, fun i v e e1 e2 => by
  match i with
  | 0 => cases e1; cases e2; exact h1
  | 1 => cases e1; cases e2; exact h2
  | 2 => cases e1; cases e2; exact h3
  | i + 3 => simp at e1⟩
theorem sqv4_of {α : Type} {P : Hp → V → α → Prop} {H : Hp} {v : V} {a b c d : α} (h : SqV P H v [a, b, c, d]) : ∃ p x y z w, v = .ref p ∧ H p = some (.tup [x, y, z, w]) ∧ P H x a ∧ P H y b ∧ P H z c ∧ P H w d := by
  obtain ⟨p, xs, rfl, hp, hl, hx⟩ := h
  match xs, hl with
  | [x, y, z, w], _ => exact ⟨p, x, y, z, w, rfl, hp, hx 0 x a rfl rfl, hx 1 y b rfl rfl, hx 2 z c rfl rfl, hx 3 w d rfl rfl⟩
theorem sqv3_of {α : Type} {P : Hp → V → α → Prop} {H : Hp} {v : V} {a b c : α} (h : SqV P H v [a, b, c]) : ∃ p x y z, v = .ref p ∧ H p = some (.tup [x, y, z]) ∧ P H x a ∧ P H y b ∧ P H z c := by
  obtain ⟨p, xs, rfl, hp, hl, hx⟩ := h
  match xs, hl with
  | [x, y, z], _ => exact ⟨p, x, y, z, rfl, hp, hx 0 x a rfl rfl, hx 1 y b rfl rfl, hx 2 z c rfl rfl⟩
theorem len4 {α : Type} {r : List α} (h : r.length = 4) : ∃ a b c d, r = [a, b, c, d] := by
  match r, h with
  | [a, b, c, d], _ => exact ⟨a, b, c, d, rfl⟩
theorem grn {g : Int} (h : g = 0 ∨ Gr5 g) : g = 0 ∨ (3 ≤ g ∧ g ≤ 13) := by
  unfold Gr5 at h
  omega
theorem grb {g : Int} (h : g = 0 ∨ Gr5 g) : 0 ≤ g ∧ g ≤ 13 := by
  unfold Gr5 at h
  omega
/-- the rows of letters alone -/
def onesF (m : Nat) : List (List (Int × Int)) := (List.range m).map fun i => (List.range m).map fun j => (if i = j then 1 else 0, 1)
theorem w_catE {K : PySem.W.Frag} {H : Hp} {Q : VK} {a b : Addr} {x y : V} {xs ys : List V} (h1 : H a = some (.tup (x :: xs))) (h2 : H b = some (.tup (y :: ys))) (hl : xs.length + ys.length ≤ 100) (q : ∀ p H', H p = none → Same H H' → H' p = some (.tup (x :: xs ++ y :: ys)) → Q (.ref p) H') : rCatA K (.ref a) (.ref b) H Q := by
  refine ⟨a, b, _, _, rfl, rfl, SqT.of h1, SqT.of h2, Nat.le_of_lt (small1000 (by simp only [List.length_cons]; omega)), fun z => ?_, fun _ z => ?_, fun _ _ p hp => q p _ hp (same_upd hp) upd_same⟩
  · cases z
  · cases z
/-- one row told twice is the same data -/
theorem w_neRow {K : PySem.W.Frag} {H : Hp} {Q : VK} {v v' : V} {r s : List (Int × Int)} (h1 : RowV H v r) (h2 : RowV H v' s) (e : r = s) (q : Q (.bl false) H) : rNeD K v v' H Q := by
  subst e
  have l := lay_num r
  have c : PyData.canLay0 (rowD r) = true := by rw [rowD, PyData.canLay0]; exact l.1
  have d : PyData.depth (rowD r) ≤ 64 := by rw [rowD, PyData.depth]; have := l.2; omega
  refine ⟨_, _, RowV.dp h1, RowV.dp h2, shaped_of c d, shaped_of c d, ?_⟩
  rw [SeqAt.eqv_refl _ c]
  exact q
end Fm
namespace Fm
open PySem PySem.Spec PyProof.Rows L2
theorem acc_app {α : Type} {P : Hp → V → α → Prop} {H : Hp} {ys : List V} {as : List α} {i : Nat} {v : V} {a : α} (h : Acc P H ys as i) (hl : as.length = i) (hv : P H v a) : Acc P H (ys ++ [v]) (as ++ [a]) (i + 1) := by
  refine ⟨by rw [List.length_append, h.1]; rfl, fun j x b h1 h2 => ?_⟩
  by_cases e : j < i
  · rw [List.getElem?_append_left (by rw [h.1]; exact e)] at h1
    rw [List.getElem?_append_left (by omega)] at h2
    exact h.2 j x b h1 h2
  · have hj : j = i := by
      have := (List.getElem?_eq_some_iff.mp h1).1
      rw [List.length_append, h.1] at this
      simp at this
      omega
    subst hj
    rw [List.getElem?_append_right (by rw [h.1]; exact Nat.le_refl _), h.1, Nat.sub_self] at h1
    rw [List.getElem?_append_right (by omega), hl, Nat.sub_self] at h2
    cases h1
    cases h2
    exact hv
theorem acc4 {α : Type} {P : Hp → V → α → Prop} {H : Hp} {x y z w : V} {a b c d : α} (h1 : P H x a) (h2 : P H y b) (h3 : P H z c) (h4 : P H w d) : Acc P H [x, y, z, w] [a, b, c, d] 4 := ⟨rfl, fun i v e e1 e2 => by
  match i with
  | 0 => cases e1; cases e2; exact h1
  | 1 => cases e1; cases e2; exact h2
  | 2 => cases e1; cases e2; exact h3
  | 3 => cases e1; cases e2; exact h4
  | i + 4 => simp at e1⟩
/-- a tuple of two numbers and a sign -/
def Tri3 (H : Hp) (v : V) (t : (Int × Int) × (Int × Int) × Int) : Prop := ∃ p vx vy, v = .ref p ∧ H p = some (.tup [vx, vy, .int t.2.2]) ∧ NumV H vx t.1 ∧ NumV H vy t.2.1
theorem Tri3.kt {H H' : Hp} {v : V} {t : (Int × Int) × (Int × Int) × Int} (h : Tri3 H v t) (s : Kt H H') : Tri3 H' v t := by
  obtain ⟨p, vx, vy, rfl, h1, h2, h3⟩ := h
  exact ⟨p, vx, vy, rfl, s _ _ h1, h2.kt s, h3.kt s⟩
def TriL (H : Hp) (v : V) (l : List ((Int × Int) × (Int × Int) × Int)) : Prop := ∃ p xs, v = .ref p ∧ H p = some (.lst xs) ∧ Acc Tri3 H xs l l.length
theorem TriL.sm {H H' : Hp} {v : V} {l : List ((Int × Int) × (Int × Int) × Int)} (h : TriL H v l) (s : Same H H') : TriL H' v l := by
  obtain ⟨p, xs, rfl, h1, h2⟩ := h
  exact ⟨p, xs, rfl, s _ _ h1, h2.mono fun x a h => h.kt (Kt.of s)⟩
/-- a row of numbers of g, of so many signs -/
def TRow (g : Int) (k : Nat) (H : Hp) (v : V) (r : List (Int × Int)) : Prop := RowV H v r ∧ ∀ a ∈ r, TN g k a
end Fm

namespace Fm
open PySem PySem.Spec PyProof.Rows L2
/-! ### calls with keywords: all parameters are told -/
section
variable {K : PySem.W.Frag} {x qual : Str} {params : Arguments} {body : List Stmt} {scope : Scope} {dvs : List V} {kws : List (Str × V)} {f : Addr} {fd : FuncData} {ps : List Str}
theorem bnd_of (F : FunD K x qual params body scope dvs kws f fd) (n : Nat) (hd : dvs ≠ []) (hn : n = ps.length)
    (h : ∀ (T : Addr) (kV doc pm : Value) (an : Option Addr) (cdv ct : Value) (us its : List Value), us.length = n → its.length = dvs.length → ∃ k, bindArgs (PySem.W.fnOf x qual params body scope (.ref T) kV doc pm an cdv ct) ⟨us, []⟩ = seqItems? (.ref T) >>= k ∧ k (some its.toArray) = pure (ps.zip (us ++ its.drop dvs.length))) : L2.Binds K fd ps [] := by
  obtain ⟨ds, hv, hb⟩ := FunD.binds1 (ps := ps) F n dvs.length hd (by omega) h
  rw [List.drop_length] at hv
  cases hv
  exact hb
theorem kbn_of (F : FunD K x qual params body scope dvs kws f fd) {n : Nat} {ks : List Str} {g : List Value → List Value → List Value} {gV : List V → List V → List V} (hd : dvs ≠ [])
    (h : ∀ (T : Addr) (kV doc pm : Value) (an : Option Addr) (cdv ct : Value) (us ws its : List Value), us.length = n → ws.length = ks.length → its.length = dvs.length → ∃ k, bindArgs (PySem.W.fnOf x qual params body scope (.ref T) kV doc pm an cdv ct) ⟨us, ks.zip ws⟩ = seqItems? (.ref T) >>= k ∧ k (some its.toArray) = pure (ps.zip (g us ws)))
    (hrel : ∀ {vs : List V} {us : List Value} {zs : List V} {ws : List Value}, Vals vs us → Vals zs ws → Vals (gV vs zs) (g us ws)) : L2.KBn K fd ps n ks g gV := by
  obtain ⟨_, _, dV, kV, doc, pm, an, cdv, ct, _, rfl, _, _, hD, _⟩ := F.ex
  refine ⟨fun s us ws X l1 l2 => ?_, hrel⟩
  rcases hD with ⟨e, _⟩ | ⟨_, T, o, its, m, rfl, lT, oT, rT⟩
  · exact absurd e hd
  · obtain ⟨k, e1, e2⟩ := h T kV doc pm an cdv ct us ws its l1 l2 rT.length.symm
    refine L2.BindsTo.of_looks fun M => ?_
    rw [e1]
    exact L2.looks_items X lT oT (.of_pure e2)
end
def tCallNS (n m : Nat) (sp : Sp) (gV : List V → List V → List V) (E : L2.St → XK) (t tk : TA) : TE := fun σ H Q => t σ H fun vs H1 => tk σ H1 fun zs H2 => vs.length = n ∧ zs.length = m ∧ sp (gV vs zs) H2 Q (E σ)
def tCallN0 (m : Nat) (sp : Sp) (gV : List V → List V → List V) (E : XK) (tk : TA) : TE := fun σ H Q => tk σ H fun zs H2 => zs.length = m ∧ sp (gV [] zs) H2 Q E
section
variable {X : Cx} {CX : CXT} {k n : Nat} {f : Addr} {fd : FuncData} {ps ks : List Str} {sp : Sp} {x : Str} {p pos : Pos} {e : Expr} {es : List Expr} {kws : List Keyword} {t tk : TA} {g : List Value → List Value → List Value} {gV : List V → List V → List V}
theorem go_kS {pins : List (Addr × Obj)} {σ : L2.St} {H : Hp} {s : Shared} {Q : VK} {us ws : List Value} {vs zs : List V} {E1 : XK} (F : FnOk X.prog X.w X.K X.mg X.base CX k f fd ps sp) (hr : Room k X.A) (hb : L2.KBn X.K fd ps n ks g gV) (hx : L2.PassesAt CX X σ E1)
    (I : Inv X pins σ H s) (rv : Vals vs us) (rz : Vals zs ws) (l1 : vs.length = n) (l2 : zs.length = ks.length) (h : sp (gV vs zs) H Q E1) : wpAny (model X.prog X.w) X.A (call (.ref f) us (ks.zip ws)) (EP X pins σ Q) X.xe s := by
  have bt := hb.to s us ws I.kIn (rv.length.symm.trans l1) (rz.length.symm.trans l2)
  have run := F.run X.A X.stack s H ⟨us, ks.zip ws⟩ (g us ws) (gV vs zs) Q E1 hr I.env0 bt (hb.rel rv rz) h
  refine wpAny_call (codeAny_mono run fun r s' hq => ?_)
  match r, hq with
  | .error e, hq => exact hx pins H s e s' I hq
  | .ok (.ret u), hq => exact I.after hq
  | .ok .next, hq => exact False.elim hq
  | .ok .brk, hq => exact False.elim hq
  | .ok .cont, hq => exact False.elim hq
/-- f(e, .., k = v, ..), what is raised wished for at the slots -/
theorem pe_callNS {E : L2.St → XK} (F : FnOk X.prog X.w X.K X.mg X.base CX k f fd ps sp) (hr : Room k X.A) (hg : Gl X x) (hm : X.mg x = some (.ref f)) (hk : PySem.W.keepIn X.K (.ref f) = true) (hb : L2.KBn X.K fd ps n ks g gV) (hx : ∀ σ, L2.PassesAt CX X σ (E σ))
    (ha : PA X (e :: es) t) (hkw : PK X kws tk) (c1 : (backToKw pos (keywordEach kws X.env)).all (·.1.isSome) = true := by rfl) (c2 : (backToKw pos (keywordEach kws X.env)).filterMap (·.1) = ks := by rfl) (c3 : (x == ("__debug__" : Str)) = false := by decide)
    (c4 : starEach (e :: es) X.env = (false, eval e X.env) :: starEach es X.env := by rfl) (c5 : ((backTo pos (starEach (e :: es) X.env)).any (·.1) || (backToKw pos (keywordEach kws X.env)).any (·.1.isNone)) = false := by rfl) : PE X (.Call (.Name x p) (e :: es) kws pos) (tCallNS n ks.length sp gV E t tk) := by
  refine ⟨fun pins s σ H Q I h => wpAny_Call_Name_kw (ld_glob I hg hm ?_ c3)⟩
  refine PySem.W.callWith_KW (h₀ := X.base) I.ok.mod.kin hk c1 (thn (ha.run pos pins s σ H _ I h) fun us s1 ⟨vs, H1, I1, rv, q1⟩ => thn (hkw.run pos pins s1 σ H1 _ I1 q1) fun ws s2 ⟨zs, H2, I2, rz, l1, l2, q2⟩ => ⟨I2.kIn, ?_⟩) c5 c4
  rw [c2]
  exact go_kS F hr hb (hx σ) I2 rv rz l1 l2 q2
/-- f(k = v, ..): names alone -/
theorem pe_callN0 {E : XK} (F : FnOk X.prog X.w X.K X.mg X.base CX k f fd ps sp) (hr : Room k X.A) (hg : Gl X x) (hm : X.mg x = some (.ref f)) (hk : PySem.W.keepIn X.K (.ref f) = true) (hb : L2.KBn X.K fd ps 0 ks g gV) (hx : Passes CX X E) (hkw : PK X kws tk)
    (c1 : (backToKw pos (keywordEach kws X.env)).all (·.1.isSome) = true := by rfl) (c2 : (backToKw pos (keywordEach kws X.env)).filterMap (·.1) = ks := by rfl) (c3 : (x == ("__debug__" : Str)) = false := by decide)
    (c5 : (backToKw pos (keywordEach kws X.env)).any (·.1.isNone) = false := by rfl) : PE X (.Call (.Name x p) [] kws pos) (tCallN0 ks.length sp gV E tk) := by
  refine ⟨fun pins s σ H Q I h => wpAny_Call_Name_kw (ld_glob I hg hm ?_ c3)⟩
  refine PySem.W.callWith_KW0 (h₀ := X.base) I.ok.mod.kin hk c1 (thn (hkw.run pos pins s σ H _ I h) fun ws s2 ⟨zs, H2, I2, rz, l2, q2⟩ => ⟨I2.kIn, ?_⟩) c5
  rw [c2]
  exact go_kS (us := []) (vs := []) F hr hb (fun pins H s e s' I c => hx pins σ H s e s' I c) I2 .nil rz rfl l2 q2
end
end Fm
namespace Fm
open PySem PySem.Spec PyProof.Rows L2
theorem w_callN {n m : Nat} {sp : Sp} {gV : List V → List V → List V} {E : XK} {t tk : TA} {σ : L2.St} {H : Hp} {Q : VK} (h : t σ H fun vs H1 => tk σ H1 fun zs H2 => vs.length = n ∧ zs.length = m ∧ sp (gV vs zs) H2 Q E) : tCallN n m sp gV E t tk σ H Q := h
theorem w_callN0 {m : Nat} {sp : Sp} {gV : List V → List V → List V} {E : XK} {tk : TA} {σ : L2.St} {H : Hp} {Q : VK} (h : tk σ H fun zs H2 => zs.length = m ∧ sp (gV [] zs) H2 Q E) : tCallN0 m sp gV E tk σ H Q := h
/-- lists of numbers -/
theorem w_neNums {K : PySem.W.Frag} {H : Hp} {Q : VK} {p r : Addr} {xs ys : List V} {t : List (Int × Int)} (hp : H p = some (.lst xs)) (hr : H r = some (.lst ys)) (h1 : Acc NumV H xs t t.length) (h2 : Acc NumV H ys t t.length) (q : Q (.bl false) H) : rNeD K (.ref p) (.ref r) H Q := by
  have l := lay_num t
  have c : PyData.canLay0 (.list (t.map numD)) = true := by rw [PyData.canLay0]; exact l.1
  have d : PyData.depth (.list (t.map numD)) ≤ 64 := by rw [PyData.depth]; have := l.2; omega
  refine ⟨.list (t.map numD), .list (t.map numD), .lst (SqL.of hp) (dpAll_of h1.1 fun i x a e1 e2 => NumV.dp (h1.2 i x a e1 e2)), .lst (SqL.of hr) (dpAll_of h2.1 fun i x a e1 e2 => NumV.dp (h2.2 i x a e1 e2)), shaped_of c d, shaped_of c d, ?_⟩
  rw [SeqAt.eqv_refl _ c]
  exact q
theorem w_eqNums {K : PySem.W.Frag} {H : Hp} {Q : VK} {p r : Addr} {xs ys : List V} {t : List (Int × Int)} (hp : H p = some (.lst xs)) (hr : H r = some (.lst ys)) (h1 : Acc NumV H xs t t.length) (h2 : Acc NumV H ys t t.length) (q : Q (.bl true) H) : rEqD K (.ref p) (.ref r) H Q := by
  have l := lay_num t
  have c : PyData.canLay0 (.list (t.map numD)) = true := by rw [PyData.canLay0]; exact l.1
  have d : PyData.depth (.list (t.map numD)) ≤ 64 := by rw [PyData.depth]; have := l.2; omega
  refine ⟨.list (t.map numD), .list (t.map numD), .lst (SqL.of hp) (dpAll_of h1.1 fun i x a e1 e2 => NumV.dp (h1.2 i x a e1 e2)), .lst (SqL.of hr) (dpAll_of h2.1 fun i x a e1 e2 => NumV.dp (h2.2 i x a e1 e2)), shaped_of c d, shaped_of c d, ?_⟩
  rw [SeqAt.eqv_refl _ c]
  exact q
theorem acc3 {α : Type} {P : Hp → V → α → Prop} {H : Hp} {x y z : V} {a b c : α} (h1 : P H x a) (h2 : P H y b) (h3 : P H z c) : Acc P H [x, y, z] [a, b, c] 3 := ⟨rfl, fun i v e e1 e2 => by
  match i with
  | 0 => cases e1; cases e2; exact h1
  | 1 => cases e1; cases e2; exact h2
  | 2 => cases e1; cases e2; exact h3
  | i + 3 => simp at e1⟩
/-- all of a list of numbers are numbers: the list that [is_number(..) for ..] makes -/
theorem nums_true {g : Int} {H : Hp} {xs : List V} {as : List (Int × Int)} (h : Acc NumV H xs as as.length) (hn : ∀ a ∈ as, numOk g [.int a.1, .int a.2] = true) : ∀ x ∈ xs, numOf H g x = true := fun x hx => by
  obtain ⟨i, hi, rfl⟩ := List.mem_iff_getElem.mp hx
  have hl := h.1
  obtain ⟨p, e, hp⟩ := h.2 i _ _ (List.getElem?_eq_getElem hi) (List.getElem?_eq_getElem (by omega))
  rw [e, numOf_tup hp]
  exact hn _ (List.getElem_mem _)
end Fm

namespace Fd
/-! ### rows cleared at columns: how great their numbers are -/
abbrev gt (r : List Int) (x : Nat) : Int := r.getD x 0
theorem S_front (f : Nat → Int) : ∀ (n : Nat), S f (n + 1) = f 0 + S (fun i => f (i + 1)) n
  | 0 => by
    show 0 + f 0 = f 0 + 0
    omega
  | n + 1 => by
    show S f (n + 1) + f (n + 1) = f 0 + (S (fun i => f (i + 1)) n + f (n + 1))
    rw [S_front f n]
    omega
theorem ent_zero (o : List Int) (P : List (List Int)) (x : Nat) : ent (o :: P) 0 x = gt o x := rfl
theorem ent_succ (o : List Int) (P : List (List Int)) (i x : Nat) : ent (o :: P) (i + 1) x = ent P i x := rfl
/-- a column moved to the front -/
theorem dt_move : ∀ (cs : List Nat) (P : List (List Int)) (j c : Nat), cs[j]? = some c → dt P (c :: cs.eraseIdx j) = sg j * dt P cs
  | [], _, _, _, h => by simp at h
  | a :: cs, P, 0, c, h => by
    have e : a = c := Option.some.inj h
    subst e
    show dt P (a :: cs) = 1 * dt P (a :: cs)
    omega
  | a :: cs, P, j + 1, c, h => by
    have h' : cs[j]? = some c := h
    show dt P (c :: a :: cs.eraseIdx j) = _
    rw [dt_swap]
    show -S (fun i => sg i * ent P i a * dt (P.eraseIdx i) (c :: cs.eraseIdx j)) P.length = sg (j + 1) * S (fun i => sg i * ent P i a * dt (P.eraseIdx i) cs) P.length
    rw [sg_succ, Int.neg_mul, ← S_mul]
    congr 1
    exact S_congr fun i _ => by rw [dt_move cs (P.eraseIdx i) j c h']; grind
/-- the bordered minors as a sum of the rows -/
theorem dt_front (o : List Int) (P : List (List Int)) (c : List Nat) (x : Nat) : dt (o :: P) (x :: c) = dt P c * gt o x + S (fun i => sg (i + 1) * dt ((o :: P).eraseIdx (i + 1)) c * ent P i x) P.length := by
  show S (fun i => sg i * ent (o :: P) i x * dt ((o :: P).eraseIdx i) c) (P.length + 1) = _
  rw [S_front]
  have e1 : sg 0 * ent (o :: P) 0 x * dt ((o :: P).eraseIdx 0) c = dt P c * gt o x := by
    show 1 * gt o x * dt P c = _
    rw [Int.one_mul, Int.mul_comm]
  rw [e1]
  congr 1
  exact S_congr fun i _ => by rw [ent_succ]; grind
theorem dt_rows (P : List (List Int)) (c : List Nat) (x : Nat) : dt P (x :: c) = S (fun i => sg i * dt (P.eraseIdx i) c * ent P i x) P.length := by
  show S (fun i => sg i * ent P i x * dt (P.eraseIdx i) c) P.length = _
  exact S_congr fun i _ => by grind
/-- a row out of o and P that is nought at the columns c -/
def NonP (P : List (List Int)) (c : List Nat) (o r : List Int) : Prop := ∃ (a b : Int) (β : Nat → Int), a ≠ 0 ∧ b ≠ 0 ∧ (∀ x, a * gt r x = b * gt o x + S (fun i => β i * ent P i x) P.length) ∧ ∀ k ∈ c, gt r k = 0
/-- a row out of P that is nought at the columns c but the one at j -/
def PivP (P : List (List Int)) (c : List Nat) (j : Nat) (r : List Int) : Prop := ∃ (a : Int) (β : Nat → Int), a ≠ 0 ∧ (∀ x, a * gt r x = S (fun i => β i * ent P i x) P.length) ∧ (∀ k ∈ c.eraseIdx j, gt r k = 0) ∧ ∃ k, c[j]? = some k ∧ gt r k ≠ 0
theorem S_lin (u v : Int) (f g : Nat → Int) (n : Nat) : S (fun i => u * f i - v * g i) n = u * S f n - v * S g n := by
  have e : S (fun i => u * f i - v * g i) n = S (fun i => u * f i + -v * g i) n := S_congr fun i _ => by grind
  rw [e, S_add, S_mul, S_mul]
  grind
theorem NonP.par {P : List (List Int)} {c : List Nat} {o r : List Int} (hl : P.length = c.length) (hD : dt P c ≠ 0) (h : NonP P c o r) : ∃ a b : Int, a ≠ 0 ∧ b ≠ 0 ∧ ∀ x, a * gt r x = b * dt (o :: P) (x :: c) := by
  obtain ⟨a, b, β, ha, hb, hx, hz⟩ := h
  refine ⟨dt P c * a, b, Int.mul_ne_zero hD ha, hb, ?_⟩
  have key : ∀ x, dt P c * a * gt r x - b * dt (o :: P) (x :: c) = S (fun i => (dt P c * β i - b * (sg (i + 1) * dt ((o :: P).eraseIdx (i + 1)) c)) * ent P i x) P.length := fun x => by
    have e : S (fun i => (dt P c * β i - b * (sg (i + 1) * dt ((o :: P).eraseIdx (i + 1)) c)) * ent P i x) P.length = S (fun i => dt P c * (β i * ent P i x) - b * (sg (i + 1) * dt ((o :: P).eraseIdx (i + 1)) c * ent P i x)) P.length := S_congr fun i _ => by grind
    rw [e, S_lin, dt_front, Int.mul_assoc, hx]
    grind
  have z := indep c P (fun i => dt P c * β i - b * (sg (i + 1) * dt ((o :: P).eraseIdx (i + 1)) c)) hl hD fun k hk => by
    rw [← key k, hz k hk, dt_twice k c (o :: P) hk]
    grind
  intro x
  have h2 := key x
  rw [S_congr (g := fun _ => 0) fun i hi => by rw [z i hi, Int.zero_mul], S_zero] at h2
  omega
theorem PivP.par {P : List (List Int)} {c : List Nat} {j : Nat} {r : List Int} (hl : P.length = c.length) (hD : dt P c ≠ 0) (h : PivP P c j r) : ∃ a b : Int, a ≠ 0 ∧ b ≠ 0 ∧ ∀ x, a * gt r x = b * dt P (x :: c.eraseIdx j) := by
  obtain ⟨a, β, ha, hx, hz, k, hk, hne⟩ := h
  have hw : dt P (k :: c.eraseIdx j) ≠ 0 := by
    rw [dt_move c P j k hk]
    refine Int.mul_ne_zero (fun z => ?_) hD
    have := sg_sq j
    rw [z] at this
    cases this
  refine ⟨dt P (k :: c.eraseIdx j) * a, a * gt r k, Int.mul_ne_zero hw ha, Int.mul_ne_zero ha hne, ?_⟩
  have key : ∀ x, dt P (k :: c.eraseIdx j) * a * gt r x - a * gt r k * dt P (x :: c.eraseIdx j) = S (fun i => (dt P (k :: c.eraseIdx j) * β i - a * gt r k * (sg i * dt (P.eraseIdx i) (c.eraseIdx j))) * ent P i x) P.length := fun x => by
    have e : S (fun i => (dt P (k :: c.eraseIdx j) * β i - a * gt r k * (sg i * dt (P.eraseIdx i) (c.eraseIdx j))) * ent P i x) P.length = S (fun i => dt P (k :: c.eraseIdx j) * (β i * ent P i x) - a * gt r k * (sg i * dt (P.eraseIdx i) (c.eraseIdx j) * ent P i x)) P.length := S_congr fun i _ => by grind
    rw [e, S_lin, ← dt_rows, ← hx]
    grind
  have z := indep c P (fun i => dt P (k :: c.eraseIdx j) * β i - a * gt r k * (sg i * dt (P.eraseIdx i) (c.eraseIdx j))) hl hD fun m hm => by
    rw [← key m]
    obtain ⟨i, hi⟩ := List.getElem?_of_mem hm
    by_cases e : i = j
    · subst e
      have : m = k := Option.some.inj (hi.symm.trans hk)
      subst this
      grind
    · have hm2 : m ∈ c.eraseIdx j := by
        refine List.mem_eraseIdx_iff_getElem?.mpr ⟨i, e, hi⟩
      rw [hz m hm2, dt_twice m (c.eraseIdx j) P hm2]
      grind
  intro x
  have h2 := key x
  rw [S_congr (g := fun _ => 0) fun i hi => by rw [z i hi, Int.zero_mul], S_zero] at h2
  omega
/-- no whole number but 1 and -1 divides all -/
def Prim (r : List Int) : Prop := ∀ d : Int, (∀ x, d ∣ gt r x) → d.natAbs = 1
theorem prim_le {r : List Int} {w : Nat → Int} {a b : Int} (hp : Prim r) (ha : a ≠ 0) (hb : b ≠ 0) (h : ∀ x, a * gt r x = b * w x) : ∀ x, (gt r x).natAbs ≤ (w x).natAbs := by
  have hg : (Int.gcd a b : Int) ≠ 0 := fun z => ha (Int.gcd_eq_zero_iff.mp (Int.ofNat_eq_zero.mp z)).1
  obtain ⟨a', ea⟩ : (Int.gcd a b : Int) ∣ a := Int.gcd_dvd_left ..
  obtain ⟨b', eb⟩ : (Int.gcd a b : Int) ∣ b := Int.gcd_dvd_right ..
  have hcop : Int.gcd a' b' = 1 := by
    have h1 : Int.gcd a b = Int.gcd a b * Int.gcd a' b' := by
      have h2 : Int.gcd ((Int.gcd a b : Int) * a') ((Int.gcd a b : Int) * b') = (Int.gcd a b : Int).natAbs * Int.gcd a' b' := Int.gcd_mul_left ..
      rw [← ea, ← eb, Int.natAbs_natCast] at h2
      exact h2
    have h3 : 0 < Int.gcd a b := Nat.pos_of_ne_zero fun z => hg (by omega)
    exact Nat.eq_of_mul_eq_mul_left h3 (by omega)
  have h' : ∀ x, a' * gt r x = b' * w x := fun x => by
    have : (Int.gcd a b : Int) * (a' * gt r x) = (Int.gcd a b : Int) * (b' * w x) := by
      rw [← Int.mul_assoc, ← Int.mul_assoc, ← ea, ← eb]
      exact h x
    exact Int.eq_of_mul_eq_mul_left hg this
  have hdiv : ∀ x, b' ∣ gt r x := fun x => Fm.dvd_cop hcop ⟨w x, h' x⟩
  have hb1 := hp b' hdiv
  have ha0 : a' ≠ 0 := fun z => ha (by rw [ea, z, Int.mul_zero])
  intro x
  have e := congrArg Int.natAbs (h' x)
  rw [Int.natAbs_mul, Int.natAbs_mul, hb1, Nat.one_mul] at e
  rw [← e]
  exact Nat.le_mul_of_pos_left _ (by omega)
theorem pow_mono {m n A : Nat} (h : m ≤ n) (hA : 1 ≤ n * A) : (m * A) ^ m ≤ (n * A) ^ n := Nat.le_trans (Nat.pow_le_pow_left (Nat.mul_le_mul_right A h) m) (Nat.pow_le_pow_right hA h)
/-- nought everywhere -/
def Nul (r : List Int) : Prop := ∀ x, gt r x = 0
/-- what is known of the rows: P the pivots' own rows, c their columns, the last one first; O the others' own rows -/
structure Sz (A n : Nat) (P O : List (List Int)) (c : List Nat) (rows : List (List Int)) : Prop where
  lc : P.length = c.length
  lr : P.length + O.length = rows.length
  det : dt P c ≠ 0
  bP : ∀ i x, (ent P i x).natAbs ≤ A
  bO : ∀ i x, (ent O i x).natAbs ≤ A
  piv : ∀ (i : Nat) (r : List Int), i < P.length → rows[i]? = some r → PivP P c (P.length - 1 - i) r
  non : ∀ (i : Nat) (o r : List Int), O[i]? = some o → rows[P.length + i]? = some r → NonP P c o r
  pri : ∀ r ∈ rows, Prim r ∨ Nul r
theorem Sz.bound {A n : Nat} {P O : List (List Int)} {c : List Nat} {rows : List (List Int)} (h : Sz A n P O c rows) {m : Nat} (hm : rows.length ≤ m) (hA : 1 ≤ A) : ∀ r ∈ rows, ∀ x, (gt r x).natAbs ≤ (m * A) ^ m := fun r hr x => by
  obtain ⟨i, hi⟩ := List.getElem?_of_mem hr
  have hlt := (List.getElem?_eq_some_iff.mp hi).1
  rcases h.pri r hr with hp | hz
  · by_cases hip : i < P.length
    · have hpv := h.piv i r hip hi
      obtain ⟨a, b, ha, hb, e⟩ := hpv.par h.lc h.det
      refine Nat.le_trans (prim_le hp ha hb e x) ?_
      obtain ⟨_, _, _, _, _, k, hk, _⟩ := hpv
      have hj := (List.getElem?_eq_some_iff.mp hk).1
      have hl : P.length = (x :: c.eraseIdx (P.length - 1 - i)).length := by
        rw [List.length_cons, List.length_eraseIdx_of_lt hj, h.lc]
        omega
      refine Nat.le_trans (dt_abs _ P hl h.bP) ?_
      rw [← hl]
      have := h.lr
      exact pow_mono (by omega) (Nat.mul_le_mul (show 1 ≤ m by omega) hA)
    · have hO : O[i - P.length]? = some (O[i - P.length]'(by have := h.lr; omega)) := List.getElem?_eq_getElem _
      have hnp := h.non (i - P.length) _ r hO (by rw [show P.length + (i - P.length) = i by omega]; exact hi)
      obtain ⟨a, b, ha, hb, e⟩ := hnp.par h.lc h.det
      refine Nat.le_trans (prim_le hp ha hb e x) ?_
      refine Nat.le_trans (dt_abs (A := A) _ _ (by rw [List.length_cons, List.length_cons, h.lc]) fun k y => ?_) ?_
      · cases k with
        | zero =>
          rw [ent_zero]
          have := h.bO (i - P.length) y
          have e3 : O.getD (i - P.length) [] = O[i - P.length]'(by have := h.lr; omega) := by rw [List.getD_eq_getElem?_getD, hO]; rfl
          unfold ent at this
          rw [e3] at this
          exact this
        | succ k =>
          rw [ent_succ]
          exact h.bP k y
      · rw [List.length_cons, ← h.lc]
        have := h.lr
        exact pow_mono (by omega) (Nat.mul_le_mul (show 1 ≤ m by omega) hA)
  · rw [hz x]
    exact Nat.zero_le _
/-- what clearing makes: r' times a number is r times h less head times r's own -/
def Clr (h ρ : Int) (head r r' : List Int) : Prop := ∃ s : Int, s ≠ 0 ∧ ∀ x, s * gt r' x = h * gt r x - ρ * gt head x
theorem NonP.head {P : List (List Int)} {c : List Nat} {o r : List Int} {at_ : Nat} (h : NonP P c o r) (hne : gt r at_ ≠ 0) : PivP (o :: P) (at_ :: c) 0 r := by
  obtain ⟨a, b, β, ha, hb, hx, hz⟩ := h
  refine ⟨a, fun i => match i with | 0 => b | i + 1 => β i, ha, fun x => ?_, hz, at_, rfl, hne⟩
  show _ = S _ (P.length + 1)
  rw [S_front, hx x]
  rfl
theorem NonP.clear {P : List (List Int)} {c : List Nat} {o oh r head r' : List Int} {at_ : Nat} (h : NonP P c o r) (hh : NonP P c oh head) (hne : gt head at_ ≠ 0) (hc : Clr (gt head at_) (gt r at_) head r r') : NonP (oh :: P) (at_ :: c) o r' := by
  obtain ⟨a, b, β, ha, hb, hx, hz⟩ := h
  obtain ⟨a', b', β', ha', hb', hx', hz'⟩ := hh
  obtain ⟨s, hs, e⟩ := hc
  have hmul : ∀ x, a * a' * s * gt r' x = a' * gt head at_ * (a * gt r x) - a * gt r at_ * (a' * gt head x) := fun x => by
    have := e x
    grind
  refine ⟨a * a' * s, a' * gt head at_ * b, fun i => match i with | 0 => -(a * gt r at_ * b') | i + 1 => a' * gt head at_ * β i - a * gt r at_ * β' i, Int.mul_ne_zero (Int.mul_ne_zero ha ha') hs, Int.mul_ne_zero (Int.mul_ne_zero ha' hne) hb, fun x => ?_, fun k hk => ?_⟩
  · rw [hmul x, hx x, hx' x]
    show _ = _ + S _ (P.length + 1)
    rw [S_front]
    have e2 : S (fun i => (a' * gt head at_ * β i - a * gt r at_ * β' i) * ent P i x) P.length = a' * gt head at_ * S (fun i => β i * ent P i x) P.length - a * gt r at_ * S (fun i => β' i * ent P i x) P.length := by
      rw [← S_lin]
      exact S_congr fun i _ => by grind
    show _ = _ + (-(a * gt r at_ * b') * gt oh x + S (fun i => (a' * gt head at_ * β i - a * gt r at_ * β' i) * ent P i x) P.length)
    rw [e2]
    grind
  · have h1 : s * gt r' k = 0 := by
      rw [e k]
      rcases List.mem_cons.mp hk with rfl | hk
      · grind
      · rw [hz k hk, hz' k hk]
        grind
    rcases Int.mul_eq_zero.mp h1 with z | z
    · exact absurd z hs
    · exact z
theorem PivP.clear {P : List (List Int)} {c : List Nat} {j : Nat} {oh r head r' : List Int} {at_ : Nat} (h : PivP P c j r) (hh : NonP P c oh head) (hne : gt head at_ ≠ 0) (hc : Clr (gt head at_) (gt r at_) head r r') : PivP (oh :: P) (at_ :: c) (j + 1) r' := by
  obtain ⟨a, β, ha, hx, hz, k, hk, hkn⟩ := h
  obtain ⟨a', b', β', ha', hb', hx', hz'⟩ := hh
  obtain ⟨s, hs, e⟩ := hc
  have hmul : ∀ x, a * a' * s * gt r' x = a' * gt head at_ * (a * gt r x) - a * gt r at_ * (a' * gt head x) := fun x => by
    have := e x
    grind
  refine ⟨a * a' * s, fun i => match i with | 0 => -(a * gt r at_ * b') | i + 1 => a' * gt head at_ * β i - a * gt r at_ * β' i, Int.mul_ne_zero (Int.mul_ne_zero ha ha') hs, fun x => ?_, fun m hm => ?_, k, hk, fun z => ?_⟩
  · rw [hmul x, hx x, hx' x]
    show _ = S _ (P.length + 1)
    rw [S_front]
    have e2 : S (fun i => (a' * gt head at_ * β i - a * gt r at_ * β' i) * ent P i x) P.length = a' * gt head at_ * S (fun i => β i * ent P i x) P.length - a * gt r at_ * S (fun i => β' i * ent P i x) P.length := by
      rw [← S_lin]
      exact S_congr fun i _ => by grind
    show _ = -(a * gt r at_ * b') * gt oh x + S (fun i => (a' * gt head at_ * β i - a * gt r at_ * β' i) * ent P i x) P.length
    rw [e2]
    grind
  · have hm' : m ∈ at_ :: c.eraseIdx j := hm
    have h1 : s * gt r' m = 0 := by
      rw [e m]
      rcases List.mem_cons.mp hm' with rfl | hk'
      · grind
      · rw [hz m hk', hz' m (List.mem_of_mem_eraseIdx hk')]
        grind
    rcases Int.mul_eq_zero.mp h1 with z | z
    · exact absurd z hs
    · exact z
  · have h2 := e k
    rw [z, hz' k (List.mem_of_getElem? hk), Int.mul_zero, Int.mul_zero, Int.sub_zero] at h2
    rcases Int.mul_eq_zero.mp h2.symm with y | y
    · exact hne y
    · exact hkn y
/-- the pivot's minor stays other than nought -/
theorem NonP.det {P : List (List Int)} {c : List Nat} {o r : List Int} {at_ : Nat} (hl : P.length = c.length) (hD : dt P c ≠ 0) (h : NonP P c o r) (hne : gt r at_ ≠ 0) : dt (o :: P) (at_ :: c) ≠ 0 := by
  obtain ⟨a, b, ha, hb, e⟩ := h.par hl hD
  intro z
  have := e at_
  rw [z, Int.mul_zero] at this
  rcases Int.mul_eq_zero.mp this with y | y
  · exact ha y
  · exact hne y
end Fd

namespace Fm
open Lean.Grind PySem L2 Fr Fd
/-! ### least rows: the program's steps over whole numbers, in the field -/
def fr {g : Int} {F : Type} [CommRing F] (V : GV g F) (r : List Int) : Row F := fun j => V.i (gt r j)
def er {g : Int} {F : Type} [CommRing F] (V : GV g F) (r : List (Int × Int)) : Row F := fun j => V.e (r.getD j (0, 1))
/-- the greatest common divisor of all -/
def gcdL (r : List Int) : Int := r.foldl (fun s x => (Int.gcd s x : Int)) 0
def plainF (g : Int) (r : List Int) : List Int := if g ≠ 0 then r.map (fun x => x.fmod g) else if gcdL r = 0 then r else r.map (fun x => x.fdiv (gcdL r))
def clearF (g : Int) (at_ : Nat) (head row : List Int) : List Int := if gt row at_ = 0 then row else plainF g (List.zipWith (fun x y => x * gt head at_ - y * gt row at_) row head)
/-- whole numbers of the ground -/
def InG (g : Int) (r : List Int) : Prop := g ≠ 0 → ∀ x, 0 ≤ gt r x ∧ gt r x < g
theorem gcd_fold : ∀ (r : List Int) (s : Int), (r.foldl (fun s x => (Int.gcd s x : Int)) s ∣ s) ∧ (∀ x ∈ r, r.foldl (fun s x => (Int.gcd s x : Int)) s ∣ x) ∧ ∀ d, d ∣ s → (∀ x ∈ r, d ∣ x) → d ∣ r.foldl (fun s x => (Int.gcd s x : Int)) s
  | [], s => ⟨Int.dvd_refl s, fun x hx => (by cases hx), fun d h _ => h⟩
  | a :: r, s => by
    obtain ⟨h1, h2, h3⟩ := gcd_fold r (Int.gcd s a : Int)
    refine ⟨Int.dvd_trans h1 (Int.gcd_dvd_left ..), fun x hx => ?_, fun d hd hx => h3 d (Int.dvd_coe_gcd hd (hx a (List.mem_cons_self ..))) fun x m => hx x (List.mem_cons_of_mem _ m)⟩
    rcases List.mem_cons.mp hx with rfl | m
    · exact Int.dvd_trans h1 (Int.gcd_dvd_right ..)
    · exact h2 x m
theorem gcdL_dvd {r : List Int} : (∀ x ∈ r, gcdL r ∣ x) ∧ ∀ d, (∀ x ∈ r, d ∣ x) → d ∣ gcdL r := ⟨(gcd_fold r 0).2.1, fun d h => (gcd_fold r 0).2.2 d (Int.dvd_zero d) h⟩
theorem gt_map {f : Int → Int} {r : List Int} (h0 : f 0 = 0) (x : Nat) : gt (r.map f) x = f (gt r x) := by
  unfold gt
  rw [List.getD_eq_getElem?_getD, List.getD_eq_getElem?_getD, List.getElem?_map]
  cases r[x]? with
  | none => exact h0.symm
  | some y => rfl
theorem gt_mem {r : List Int} {x : Nat} (h : gt r x ≠ 0) : gt r x ∈ r := by
  unfold gt at h ⊢
  rw [List.getD_eq_getElem?_getD] at h ⊢
  cases e : r[x]? with
  | none => rw [e] at h; exact absurd rfl h
  | some y => exact List.mem_of_getElem? e
theorem dvd_gt {r : List Int} {d : Int} (h : ∀ x ∈ r, d ∣ x) (x : Nat) : d ∣ gt r x := by
  by_cases e : gt r x = 0
  · rw [e]; exact Int.dvd_zero d
  · exact h _ (gt_mem e)
theorem gcd0_nul {r : List Int} (h : gcdL r = 0) : Nul r := fun x => by
  have := dvd_gt gcdL_dvd.1 x (r := r)
  rw [h] at this
  exact Int.zero_dvd.mp this
/-- a plain row is the row over a number -/
theorem plain_zero {r : List Int} : ∃ s : Int, s ≠ 0 ∧ (∀ x, s * gt (plainF 0 r) x = gt r x) ∧ (Prim (plainF 0 r) ∨ Nul (plainF 0 r)) := by
  unfold plainF
  rw [if_neg (by decide)]
  by_cases h : gcdL r = 0
  · rw [if_pos h]
    exact ⟨1, by decide, fun x => Int.one_mul _, .inr (gcd0_nul h)⟩
  · rw [if_neg h]
    have e : ∀ x, gcdL r * gt (r.map fun x => x.fdiv (gcdL r)) x = gt r x := fun x => by
      rw [gt_map (by rw [Int.zero_fdiv])]
      obtain ⟨q, hq⟩ := dvd_gt gcdL_dvd.1 x (r := r)
      rw [hq, Int.mul_fdiv_cancel_left _ h]
    refine ⟨gcdL r, h, e, .inl fun d hd => ?_⟩
    have h1 : gcdL r * d ∣ gcdL r := gcdL_dvd.2 _ fun x hx => by
      obtain ⟨i, hi, rfl⟩ := List.mem_iff_getElem.mp hx
      have h2 := e i
      have h3 : gt r i = r[i] := by unfold gt; rw [List.getD_eq_getElem?_getD, List.getElem?_eq_getElem hi]; rfl
      rw [h3] at h2
      rw [← h2]
      exact Int.mul_dvd_mul_left _ (hd i)
    obtain ⟨q, hq⟩ := h1
    have h4 : 1 = d * q := by
      have : gcdL r * 1 = gcdL r * (d * q) := by rw [Int.mul_one, ← Int.mul_assoc]; exact hq
      exact Int.eq_of_mul_eq_mul_left h this
    have h5 := congrArg Int.natAbs h4
    rw [Int.natAbs_mul] at h5
    exact Nat.dvd_one.mp ⟨q.natAbs, h5⟩
theorem gt_zip {r h : List Int} (hl : r.length = h.length) (a b : Int) (x : Nat) : gt (List.zipWith (fun x y => x * a - y * b) r h) x = gt r x * a - gt h x * b := by
  unfold gt
  rw [List.getD_eq_getElem?_getD, List.getD_eq_getElem?_getD, List.getD_eq_getElem?_getD, List.getElem?_zipWith]
  by_cases hx : x < r.length
  · rw [List.getElem?_eq_getElem hx, List.getElem?_eq_getElem (by omega)]
    rfl
  · rw [List.getElem?_eq_none (by omega), List.getElem?_eq_none (by omega)]
    show (0 : Int) = 0 * a - 0 * b
    omega
/-- clearing, for the fractions -/
theorem clear_zero {at_ : Nat} {head r : List Int} (hl : r.length = head.length) (hne : gt head at_ ≠ 0) (hp : Prim r ∨ Nul r) : Clr (gt head at_) (gt r at_) head r (clearF 0 at_ head r) ∧ (Prim (clearF 0 at_ head r) ∨ Nul (clearF 0 at_ head r)) := by
  unfold clearF
  by_cases h : gt r at_ = 0
  · rw [if_pos h]
    refine ⟨⟨gt head at_, hne, fun x => ?_⟩, hp⟩
    rw [h]
    omega
  · rw [if_neg h]
    obtain ⟨s, hs, e, hpr⟩ := plain_zero (r := List.zipWith (fun x y => x * gt head at_ - y * gt r at_) r head)
    refine ⟨⟨s, hs, fun x => ?_⟩, hpr⟩
    rw [e x, gt_zip hl]
    grind
theorem plain_len (g : Int) (r : List Int) : (plainF g r).length = r.length := by
  unfold plainF
  split
  · rw [List.length_map]
  · split
    · rfl
    · rw [List.length_map]
theorem clear_len {g : Int} {at_ : Nat} {head r : List Int} (hl : r.length = head.length) : (clearF g at_ head r).length = r.length := by
  unfold clearF
  split
  · rfl
  · rw [plain_len, List.length_zipWith]
    omega
section
variable {g : Int} {F : Type} [CommRing F] (V : GV g F)
theorem GV.imod (hg : g ≠ 0) (x : Int) : V.i (x.fmod g) = V.i x := by
  have e : x = g * x.fdiv g + x.fmod g := (Int.mul_fdiv_add_fmod x g).symm
  have h := V.iadd (g * x.fdiv g) (x.fmod g)
  rw [← e, V.imul, V.gz hg] at h
  grind
theorem GV.iz {r : List Int} (hr : InG g r) {x : Nat} (h : V.i (gt r x) = 0) : gt r x = 0 := by
  by_cases hg : g = 0
  · exact (V.ker _ h).1 hg
  · have h1 := (V.ker _ h).2 hg
    obtain ⟨h2, h3⟩ := hr hg x
    rw [fmod_pos _ (by omega), Int.emod_eq_of_lt h2 h3] at h1
    exact h1
theorem plain_ing (hg : g = 0 ∨ Gr5 g) (r : List Int) : InG g (plainF g r) := fun z x => by
  have g0 : 0 < g := by
    have h5 := hg.resolve_left z
    unfold Gr5 at h5
    omega
  unfold plainF
  rw [if_pos z, gt_map (Int.zero_fmod g), fmod_pos _ g0]
  exact ⟨Int.emod_nonneg _ (by omega), Int.emod_lt_of_pos _ g0⟩
/-- a plain row, in the field -/
theorem GV.plain (r : List Int) : ∃ s : F, s ≠ 0 ∧ ∀ x, s * V.i (gt (plainF g r) x) = V.i (gt r x) := by
  by_cases hg : g = 0
  · subst hg
    obtain ⟨s, hs, e, _⟩ := plain_zero (r := r)
    refine ⟨V.i s, V.ine hs fun z => absurd rfl z, fun x => ?_⟩
    rw [← V.imul, e x]
  · refine ⟨1, V.ne, fun x => ?_⟩
    unfold plainF
    rw [if_pos hg, gt_map (Int.zero_fmod g), V.imod hg]
    grind
theorem GV.clear {at_ : Nat} {head r : List Int} (hh : InG g head) (hl : r.length = head.length) (hne : gt head at_ ≠ 0) : ∃ s : F, s ≠ 0 ∧ ∀ x, s * V.i (gt (clearF g at_ head r) x) = V.i (gt head at_) * V.i (gt r x) - V.i (gt r at_) * V.i (gt head x) := by
  unfold clearF
  by_cases h : gt r at_ = 0
  · rw [if_pos h]
    refine ⟨V.i (gt head at_), fun z => hne (V.iz hh z), fun x => ?_⟩
    rw [h, V.i0]
    grind
  · rw [if_neg h]
    obtain ⟨s, hs, e⟩ := V.plain (List.zipWith (fun x y => x * gt head at_ - y * gt r at_) r head)
    refine ⟨s, hs, fun x => ?_⟩
    rw [e x, gt_zip hl, V.isub, V.imul, V.imul]
    grind
theorem clear_ing (hg : g = 0 ∨ Gr5 g) {at_ : Nat} {head r : List Int} (hr : InG g r) : InG g (clearF g at_ head r) := by
  unfold clearF
  split
  · exact hr
  · exact plain_ing hg _
/-- the loop's state behind the columns ahead of at_: h the heads -/
structure Fst (at_ n : Nat) (orig rows : List (List Int)) (h : List Nat) : Prop where
  lr : h.length ≤ rows.length
  hd : ∀ p ∈ h, p < at_
  piv : ∃ A, Rr A h ∧ ∀ (i : Nat) (a : Row F) (r : List Int) (p : Nat), A[i]? = some a → rows[i]? = some r → h[i]? = some p → V.i (gt r p) ≠ 0 ∧ ∀ j, V.i (gt r j) = V.i (gt r p) * a j
  non : ∀ (i : Nat) (r : List Int), h.length ≤ i → rows[i]? = some r → ∀ j, j < at_ → V.i (gt r j) = 0
  sp1 : ∀ r ∈ rows, InS (orig.map (fr V)) (fr V r)
  sp2 : ∀ r ∈ orig, InS (rows.map (fr V)) (fr V r)
  ing : ∀ r ∈ rows, InG g r
  len : ∀ r ∈ rows, r.length = n
theorem rr_nil : Rr ([] : List (Row F)) [] := ⟨rfl, fun i k p q h => by simp at h, fun i a p h => by simp at h, fun i k a p h => by simp at h, fun i a p j h => by simp at h⟩
theorem Fst.start {n : Nat} {rows : List (List Int)} (hi : ∀ r ∈ rows, InG g r) (hl : ∀ r ∈ rows, r.length = n) : Fst V 0 n rows rows [] :=
  ⟨Nat.zero_le _, fun p hp => (by cases hp), ⟨[], rr_nil, fun i a r p h => by simp at h⟩, fun i r _ _ j hj => absurd hj (Nat.not_lt_zero _), fun r hr => InS.mem (List.mem_map.mpr ⟨r, hr, rfl⟩), fun r hr => InS.mem (List.mem_map.mpr ⟨r, hr, rfl⟩), hi, hl⟩
variable {V}
/-- a column without a head -/
theorem Fst.skip {at_ n : Nat} {orig rows : List (List Int)} {h : List Nat} (f : Fst V at_ n orig rows h) (hz : ∀ (i : Nat) (r : List Int), h.length ≤ i → rows[i]? = some r → gt r at_ = 0) : Fst V (at_ + 1) n orig rows h :=
  ⟨f.lr, fun p hp => Nat.lt_succ_of_lt (f.hd p hp), f.piv, fun i r hi hr j hj => by
    by_cases e : j = at_
    · rw [e, hz i r hi hr, V.i0]
    · exact f.non i r hi hr j (by omega), f.sp1, f.sp2, f.ing, f.len⟩
/-- the rows behind a column with its head at place -/
def stepF (g : Int) (at_ many place : Nat) (head : List Int) (rows : List (List Int)) : List (List Int) :=
  ((rows.eraseIdx place).map (clearF g at_ head)).take many ++ [head] ++ ((rows.eraseIdx place).map (clearF g at_ head)).drop many
theorem step_len {at_ many place : Nat} {head : List Int} {rows : List (List Int)} (hp : place < rows.length) (hm : many ≤ place) : (stepF g at_ many place head rows).length = rows.length := by
  unfold stepF
  rw [List.length_append, List.length_append, List.length_take, List.length_drop, List.length_map, List.length_eraseIdx_of_lt hp]
  show min many (rows.length - 1) + 1 + (rows.length - 1 - many) = _
  omega
theorem step_piv {at_ many place i : Nat} {head r' : List Int} {rows : List (List Int)} (hp : place < rows.length) (hm : many ≤ place) (hi : i < many) (e : (stepF g at_ many place head rows)[i]? = some r') : ∃ r, rows[i]? = some r ∧ r' = clearF g at_ head r := by
  unfold stepF at e
  have l1 : i < (((rows.eraseIdx place).map (clearF g at_ head)).take many).length := by
    rw [List.length_take, List.length_map, List.length_eraseIdx_of_lt hp]
    omega
  rw [List.append_assoc, List.getElem?_append_left l1, List.getElem?_take, if_pos hi, List.getElem?_map, List.getElem?_eraseIdx, if_pos (by omega)] at e
  cases er : rows[i]? with
  | none => rw [er] at e; cases e
  | some r =>
    rw [er] at e
    exact ⟨r, rfl, (Option.some.inj e).symm⟩
theorem step_mid {at_ many place : Nat} {head : List Int} {rows : List (List Int)} (hp : place < rows.length) (hm : many ≤ place) : (stepF g at_ many place head rows)[many]? = some head := by
  unfold stepF
  have l1 : (((rows.eraseIdx place).map (clearF g at_ head)).take many).length = many := by
    rw [List.length_take, List.length_map, List.length_eraseIdx_of_lt hp]
    omega
  rw [List.append_assoc, List.getElem?_append_right (by omega), l1, Nat.sub_self]
  rfl
theorem step_non {at_ many place i : Nat} {head r' : List Int} {rows : List (List Int)} (hp : place < rows.length) (hm : many ≤ place) (hi : many < i) (e : (stepF g at_ many place head rows)[i]? = some r') : ∃ r, rows[skip place (i - 1)]? = some r ∧ r' = clearF g at_ head r := by
  unfold stepF at e
  have l1 : (((rows.eraseIdx place).map (clearF g at_ head)).take many).length = many := by
    rw [List.length_take, List.length_map, List.length_eraseIdx_of_lt hp]
    omega
  rw [List.append_assoc, List.getElem?_append_right (by omega), l1, List.getElem?_append_right (by show 1 ≤ _; omega)] at e
  rw [List.getElem?_drop, List.getElem?_map, List.getElem?_eraseIdx, show many + (i - many - [head].length) = i - 1 by show many + (i - many - 1) = i - 1; omega] at e
  have e2 : (if i - 1 < place then rows[i - 1]? else rows[i - 1 + 1]?) = rows[skip place (i - 1)]? := by
    unfold skip
    split <;> rfl
  rw [e2] at e
  cases er : rows[skip place (i - 1)]? with
  | none => rw [er] at e; cases e
  | some r =>
    rw [er] at e
    exact ⟨r, rfl, (Option.some.inj e).symm⟩
/-- every row but the head is there, cleared -/
theorem step_all {at_ many place k : Nat} {head r : List Int} {rows : List (List Int)} (hp : place < rows.length) (hm : many ≤ place) (hk : k ≠ place) (e : rows[k]? = some r) : clearF g at_ head r ∈ stepF g at_ many place head rows := by
  have h1 : clearF g at_ head r ∈ (rows.eraseIdx place).map (clearF g at_ head) := List.mem_map.mpr ⟨r, List.mem_eraseIdx_iff_getElem?.mpr ⟨k, hk, e⟩, rfl⟩
  unfold stepF
  rw [← List.take_append_drop many ((rows.eraseIdx place).map (clearF g at_ head))] at h1
  rcases List.mem_append.mp h1 with h | h
  · exact List.mem_append_left _ (List.mem_append_left _ h)
  · exact List.mem_append_right _ h
theorem step_mem {at_ many place : Nat} {head r' : List Int} {rows : List (List Int)} (h : r' ∈ stepF g at_ many place head rows) : r' = head ∨ ∃ r ∈ rows, r' = clearF g at_ head r := by
  unfold stepF at h
  rcases List.mem_append.mp h with h | h
  · rcases List.mem_append.mp h with h | h
    · obtain ⟨r, hr, rfl⟩ := List.mem_map.mp (List.mem_of_mem_take h)
      exact .inr ⟨r, List.mem_of_mem_eraseIdx hr, rfl⟩
    · exact .inl (List.mem_singleton.mp h)
  · obtain ⟨r, hr, rfl⟩ := List.mem_map.mp (List.mem_of_mem_drop h)
    exact .inr ⟨r, List.mem_of_mem_eraseIdx hr, rfl⟩
theorem Fst.step (hg : g = 0 ∨ Gr5 g) {at_ n place : Nat} {orig rows : List (List Int)} {h : List Nat} {head : List Int} (f : Fst V at_ n orig rows h) (hm : h.length ≤ place) (hh : rows[place]? = some head) (hne : gt head at_ ≠ 0) : Fst V (at_ + 1) n orig (stepF g at_ h.length place head rows) (h ++ [at_]) := by
  have hp := (List.getElem?_eq_some_iff.mp hh).1
  have hmem := List.mem_of_getElem? hh
  have hln := f.len head hmem
  have ihead := f.ing head hmem
  have vne : V.i (gt head at_) ≠ 0 := fun z => hne (V.iz ihead z)
  obtain ⟨y, hy⟩ := V.inv _ vne
  have hz0 : ∀ j, j < at_ → V.i (gt head j) = 0 := f.non place head hm hh
  have cl : ∀ r ∈ rows, ∃ s : F, s ≠ 0 ∧ ∀ x, s * V.i (gt (clearF g at_ head r) x) = V.i (gt head at_) * V.i (gt r x) - V.i (gt r at_) * V.i (gt head x) := fun r hr => V.clear ihead (by rw [f.len r hr, hln]) hne
  obtain ⟨A, hA, hAr⟩ := f.piv
  have hb1 : (fun j => y * V.i (gt head j) : Row F) at_ = 1 := by
    show y * V.i (gt head at_) = 1
    grind
  have hR := hA.step (k := at_) (b := fun j => y * V.i (gt head j)) f.hd hb1 (fun j hj => by rw [hz0 j hj]; grind)
  have hspan : ∀ r ∈ rows, InS (rows.map (fr V)) (fr V r) := fun r hr => InS.mem (List.mem_map.mpr ⟨r, hr, rfl⟩)
  refine ⟨?_, fun p hp' => ?_, ⟨_, hR, fun i a r' p ha hr hpi => ?_⟩, fun i r' hi hr j hj => ?_, fun r' hr => ?_, fun r hr => ?_, fun r' hr => ?_, fun r' hr => ?_⟩
  · rw [step_len hp hm, List.length_append]
    show h.length + 1 ≤ rows.length
    omega
  · rcases List.mem_append.mp hp' with z | z
    · exact Nat.lt_succ_of_lt (f.hd p z)
    · rw [List.mem_singleton.mp z]
      exact Nat.lt_succ_self _
  · by_cases hi : i < h.length
    · rw [List.getElem?_append_left (by rw [List.length_map, hA.len]; exact hi), List.getElem?_map] at ha
      rw [List.getElem?_append_left hi] at hpi
      obtain ⟨r, er, rfl⟩ := step_piv hp hm hi hr
      cases ea : A[i]? with
      | none => rw [ea] at ha; cases ha
      | some a0 =>
        rw [ea] at ha
        have e0 : a = clr at_ (fun j => y * V.i (gt head j)) a0 := (Option.some.inj ha).symm
        obtain ⟨hn, hx⟩ := hAr i a0 r p ea er hpi
        obtain ⟨s, hs, e⟩ := cl r (List.mem_of_getElem? er)
        have hpz := hz0 p (f.hd p (List.mem_of_getElem? hpi))
        have ep := e p
        rw [hpz] at ep
        have hsp : s * V.i (gt (clearF g at_ head r) p) = V.i (gt head at_) * V.i (gt r p) := by grind
        refine ⟨fun z => ?_, fun j => ?_⟩
        · rw [z] at hsp
          have h0 : V.i (gt head at_) * V.i (gt r p) = 0 := by grind
          exact hn (V.dom h0 vne)
        · refine V.cancel (z := s) ?_ hs
          have ej := e j
          rw [hx j, hx at_] at ej
          rw [e0]
          show V.i (gt (clearF g at_ head r) j) * s = V.i (gt (clearF g at_ head r) p) * (a0 j + -(a0 at_) * (y * V.i (gt head j))) * s
          have h1 : V.i (gt (clearF g at_ head r) j) * s = V.i (gt head at_) * (V.i (gt r p) * a0 j) - V.i (gt r p) * a0 at_ * V.i (gt head j) := by
            rw [← ej]
            grind
          have h2 : V.i (gt (clearF g at_ head r) p) * (a0 j + -(a0 at_) * (y * V.i (gt head j))) * s = V.i (gt head at_) * V.i (gt r p) * (a0 j + -(a0 at_) * (y * V.i (gt head j))) := by
            rw [← hsp]
            grind
          rw [h1, h2]
          grind
    · have hlen : (A.map (clr at_ (fun j => y * V.i (gt head j)))).length = h.length := by rw [List.length_map, hA.len]
      rw [List.getElem?_append_right (by omega), hlen] at ha
      rw [List.getElem?_append_right (by omega)] at hpi
      cases hd : i - h.length with
      | succ m =>
        rw [hd] at hpi
        cases hpi
      | zero =>
        rw [hd] at ha hpi
        have ei : i = h.length := by omega
        subst ei
        rw [step_mid hp hm] at hr
        have e1 : head = r' := Option.some.inj hr
        have e2 : at_ = p := Option.some.inj hpi
        have e3 : (fun j => y * V.i (gt head j)) = a := Option.some.inj ha
        subst e1 e2 e3
        refine ⟨vne, fun j => ?_⟩
        show V.i (gt head j) = V.i (gt head at_) * (y * V.i (gt head j))
        grind
  · have hi' : h.length < i := by
      rw [List.length_append] at hi
      exact hi
    obtain ⟨r, er, rfl⟩ := step_non hp hm hi' hr
    obtain ⟨s, hs, e⟩ := cl r (List.mem_of_getElem? er)
    refine V.dom (x := s) ?_ hs
    rw [e j]
    by_cases ej : j = at_
    · subst ej
      grind
    · rw [f.non _ r (by unfold Fd.skip; split <;> omega) er j (by omega), hz0 j (by omega)]
      grind
  · rcases step_mem hr with rfl | ⟨r, hr', rfl⟩
    · exact f.sp1 _ hmem
    · obtain ⟨s, hs, e⟩ := cl r hr'
      obtain ⟨z, hz⟩ := V.inv s hs
      have s1 := InS.spc (orig.map (fr V))
      have e2 : fr V (clearF g at_ head r) = fun j => z * (V.i (gt head at_) * fr V r j + (-V.i (gt r at_)) * fr V head j) := by
        funext j
        show V.i (gt (clearF g at_ head r) j) = z * (V.i (gt head at_) * V.i (gt r j) + (-V.i (gt r at_)) * V.i (gt head j))
        have := e j
        grind
      rw [e2]
      exact s1.mul z _ (s1.add _ _ (s1.mul _ _ (f.sp1 r hr')) (s1.mul _ _ (f.sp1 head hmem)))
  · refine (f.sp2 r hr).trans fun u hu => ?_
    obtain ⟨r0, hr0, rfl⟩ := List.mem_map.mp hu
    obtain ⟨k, hk⟩ := List.getElem?_of_mem hr0
    have hhead : InS ((stepF g at_ h.length place head rows).map (fr V)) (fr V head) := InS.mem (List.mem_map.mpr ⟨head, List.mem_of_getElem? (step_mid hp hm), rfl⟩)
    by_cases ek : k = place
    · subst ek
      have : r0 = head := Option.some.inj (hk.symm.trans hh)
      rw [this]
      exact hhead
    · have hcl : InS ((stepF g at_ h.length place head rows).map (fr V)) (fr V (clearF g at_ head r0)) := InS.mem (List.mem_map.mpr ⟨_, step_all hp hm ek hk, rfl⟩)
      obtain ⟨s, hs, e⟩ := cl r0 hr0
      have s1 := InS.spc ((stepF g at_ h.length place head rows).map (fr V))
      have e2 : fr V r0 = fun j => y * (s * fr V (clearF g at_ head r0) j + V.i (gt r0 at_) * fr V head j) := by
        funext j
        show V.i (gt r0 j) = y * (s * V.i (gt (clearF g at_ head r0) j) + V.i (gt r0 at_) * V.i (gt head j))
        have := e j
        grind
      rw [e2]
      exact s1.mul y _ (s1.add _ _ (s1.mul _ _ hcl) (s1.mul _ _ hhead))
  · rcases step_mem hr with rfl | ⟨r, hr', rfl⟩
    · exact ihead
    · exact clear_ing hg (f.ing r hr')
  · rcases step_mem hr with rfl | ⟨r, hr', rfl⟩
    · exact hln
    · rw [clear_len (by rw [f.len r hr', hln]), f.len r hr']
end
/-- one head more, for the sizes -/
theorem _root_.Fd.Sz.step {A n at_ place : Nat} {P O : List (List Int)} {c : List Nat} {rows : List (List Int)} {head : List Int} (z : Sz A n P O c rows) (hm : P.length ≤ place) (hh : rows[place]? = some head) (hne : gt head at_ ≠ 0) (hl : ∀ r ∈ rows, r.length = head.length) :
    ∃ o O', Sz A n (o :: P) O' (at_ :: c) (stepF 0 at_ P.length place head rows) := by
  have hp := (List.getElem?_eq_some_iff.mp hh).1
  have hOl : place - P.length < O.length := by have := z.lr; omega
  have hO : O[place - P.length]? = some (O[place - P.length]'hOl) := List.getElem?_eq_getElem _
  have hnon := z.non (place - P.length) _ head hO (by rw [show P.length + (place - P.length) = place by omega]; exact hh)
  have cl : ∀ r ∈ rows, Clr (gt head at_) (gt r at_) head r (clearF 0 at_ head r) ∧ (Prim (clearF 0 at_ head r) ∨ Nul (clearF 0 at_ head r)) := fun r hr => clear_zero (hl r hr) hne (z.pri r hr)
  refine ⟨O[place - P.length]'hOl, O.eraseIdx (place - P.length), by rw [List.length_cons, List.length_cons, z.lc], ?_, hnon.det z.lc z.det hne, fun i x => ?_, fun i x => ?_, fun i r' hi hr => ?_, fun i o r' ho hr => ?_, fun r' hr => ?_⟩
  · rw [step_len hp hm, List.length_cons, List.length_eraseIdx_of_lt hOl]
    have := z.lr
    omega
  · cases i with
    | zero =>
      rw [ent_zero]
      have := z.bO (place - P.length) x
      have e3 : O.getD (place - P.length) [] = O[place - P.length]'hOl := by rw [List.getD_eq_getElem?_getD, hO]; rfl
      unfold ent at this
      rw [e3] at this
      exact this
    | succ i =>
      rw [ent_succ]
      exact z.bP i x
  · rw [ent_erase]
    exact z.bO _ x
  · rw [List.length_cons] at hi ⊢
    by_cases hi2 : i < P.length
    · obtain ⟨r, er, rfl⟩ := step_piv hp hm hi2 hr
      have := (z.piv i r hi2 er).clear hnon hne (cl r (List.mem_of_getElem? er)).1
      rw [show P.length + 1 - 1 - i = P.length - 1 - i + 1 by omega]
      exact this
    · have ei : i = P.length := by omega
      subst ei
      rw [step_mid hp hm] at hr
      cases hr
      rw [show P.length + 1 - 1 - P.length = 0 by omega]
      exact hnon.head hne
  · rw [List.length_cons, show P.length + 1 + i = P.length + i + 1 by omega] at hr
    obtain ⟨r, er, rfl⟩ := step_non hp hm (by omega) hr
    rw [show P.length + i + 1 - 1 = P.length + i by omega] at er
    refine NonP.clear ?_ hnon hne (cl r (List.mem_of_getElem? er)).1
    rw [List.getElem?_eraseIdx] at ho
    by_cases hi2 : i < place - P.length
    · rw [if_pos hi2] at ho
      refine z.non i o r ho ?_
      unfold skip at er
      rw [if_pos (by omega)] at er
      exact er
    · rw [if_neg hi2] at ho
      refine z.non (i + 1) o r ho ?_
      unfold skip at er
      rw [if_neg (by omega)] at er
      exact er
  · rcases step_mem hr with rfl | ⟨r, hr', rfl⟩
    · exact z.pri _ (List.mem_of_getElem? hh)
    · exact (cl r hr').2
theorem _root_.Fd.Sz.start {A n : Nat} {rows : List (List Int)} (hb : ∀ r ∈ rows, ∀ x, (gt r x).natAbs ≤ A) (hp : ∀ r ∈ rows, Prim r ∨ Nul r) : Sz A n [] rows [] rows := by
  refine ⟨rfl, by rw [List.length_nil, Nat.zero_add], by show (1 : Int) ≠ 0; decide, fun i x => ?_, fun i x => ?_, fun i r hi => absurd hi (Nat.not_lt_zero _), fun i o r ho hr => ?_, hp⟩
  · show (gt (([] : List (List Int)).getD i []) x).natAbs ≤ A
    have : ([] : List (List Int)).getD i [] = [] := by simp
    rw [this]
    exact Nat.zero_le _
  · show (gt (rows.getD i []) x).natAbs ≤ A
    cases e : rows[i]? with
    | none =>
      have e2 : rows.getD i [] = [] := by rw [List.getD_eq_getElem?_getD, e]; rfl
      rw [e2]
      exact Nat.zero_le _
    | some r =>
      have e2 : rows.getD i [] = r := by rw [List.getD_eq_getElem?_getD, e]; rfl
      rw [e2]
      exact hb r (List.mem_of_getElem? e) x
  · rw [List.length_nil, Nat.zero_add] at hr
    have e : o = r := Option.some.inj (ho.symm.trans hr)
    subst e
    refine ⟨1, 1, fun _ => 0, by decide, by decide, fun x => ?_, fun k hk => by cases hk⟩
    show 1 * gt o x = 1 * gt o x + 0
    omega
end Fm

namespace Fm
open Lean.Grind PySem L2 Fr Fd
/-! ### least rows as numbers -/
def hdF (r : List Int) : Int := ((r.filter fun x => decide (x ≠ 0)).head?).getD 0
def headF (g : Int) (r : List Int) : List (Int × Int) := r.map fun x => lowF g x (hdF r)
theorem hd_at : ∀ {r : List Int} {p : Nat}, (∀ j, j < p → gt r j = 0) → gt r p ≠ 0 → hdF r = gt r p
  | [], p, _, h => absurd (by unfold gt; simp) h
  | a :: r, 0, _, h => by
    have ha : a ≠ 0 := h
    unfold hdF
    rw [List.filter_cons, if_pos (decide_eq_true ha)]
    rfl
  | a :: r, p + 1, h0, h => by
    have ha : a = 0 := h0 0 (Nat.succ_pos _)
    have ih := hd_at (r := r) (p := p) (fun j hj => h0 (j + 1) (Nat.succ_lt_succ hj)) h
    unfold hdF at ih ⊢
    rw [List.filter_cons, if_neg (by rw [decide_eq_false (fun z => z ha)]; exact Bool.false_ne_true)]
    exact ih
section
variable {g : Int} {F : Type} [CommRing F] (V : GV g F)
/-- T: the least rows of t -/
structure LeastR (n k : Nat) (t T : List (List (Int × Int))) : Prop where
  row : ∀ r ∈ T, r.length = n ∧ ∀ a ∈ r, TN g k a
  rr : ∃ h, Rr (T.map (er V)) h ∧ ∀ p ∈ h, p < n
  s1 : ∀ r ∈ T, InS (t.map (er V)) (er V r)
  s2 : ∀ r ∈ t, InS (T.map (er V)) (er V r)
variable {V}
theorem er_at {r : List (Int × Int)} {j : Nat} (hj : j < r.length) : er V r j = V.e r[j] := by
  unfold er
  rw [List.getD_eq_getElem?_getD, List.getElem?_eq_getElem hj]
  rfl
theorem er_out {r : List (Int × Int)} {j : Nat} (hj : r.length ≤ j) : er V r j = 0 := by
  unfold er
  rw [List.getD_eq_getElem?_getD, List.getElem?_eq_none hj]
  exact V.zero
theorem er_inj (hg : g = 0 ∨ Gr5 g) {n k l : Nat} {r s : List (Int × Int)} (hr : r.length = n ∧ ∀ a ∈ r, TN g k a) (hs : s.length = n ∧ ∀ a ∈ s, TN g l a) (e : er V r = er V s) : r = s := by
  refine V.injL hg hr.2 hs.2 ?_
  refine List.ext_getElem (by rw [List.length_map, List.length_map, hr.1, hs.1]) fun i h1 h2 => ?_
  rw [List.length_map] at h1 h2
  rw [List.getElem_map, List.getElem_map, ← er_at h1, ← er_at h2, e]
theorem LeastR.uniq (hg : g = 0 ∨ Gr5 g) {n k l : Nat} {t t' T T' : List (List (Int × Int))} (a : LeastR V n k t T) (b : LeastR V n l t' T') (h1 : ∀ r ∈ t, InS (t'.map (er V)) (er V r)) (h2 : ∀ r ∈ t', InS (t.map (er V)) (er V r)) : T = T' := by
  obtain ⟨h, R, _⟩ := a.rr
  obtain ⟨h', R', _⟩ := b.rr
  have go : ∀ {t t' T T' : List (List (Int × Int))}, (∀ r ∈ T, InS (t.map (er V)) (er V r)) → (∀ r ∈ t, InS (t'.map (er V)) (er V r)) → (∀ r ∈ t', InS (T'.map (er V)) (er V r)) → ∀ u ∈ T.map (er V), InS (T'.map (er V)) u := fun {t t' T T'} x y z u hu => by
    obtain ⟨r, hr, rfl⟩ := List.mem_map.mp hu
    refine (InS.trans (M := t'.map (er V)) (x r hr) fun v hv => ?_).trans fun v hv => ?_
    · obtain ⟨q, hq, rfl⟩ := List.mem_map.mp hv
      exact y q hq
    · obtain ⟨q, hq, rfl⟩ := List.mem_map.mp hv
      exact z q hq
  have e := (R.uniq V.ne R' (go a.s1 h1 b.s2) (go b.s1 h2 a.s2)).1
  have hl : T.length = T'.length := by
    have := congrArg List.length e
    rw [List.length_map, List.length_map] at this
    exact this
  refine List.ext_getElem hl fun i i1 i2 => ?_
  have e2 : (T.map (er V))[i]? = (T'.map (er V))[i]? := by rw [e]
  rw [List.getElem?_map, List.getElem?_map, List.getElem?_eq_getElem i1, List.getElem?_eq_getElem i2] at e2
  exact er_inj hg (a.row _ (List.getElem_mem i1)) (b.row _ (List.getElem_mem i2)) (Option.some.inj e2)
/-- the program's whole numbers of a row: its numbers times one -/
theorem wr_fr (hg : g = 0 ∨ Gr5 g) {k : Nat} {r : List (Int × Int)} (hr : ∀ a ∈ r, TN g k a) : V.i (wrB r) ≠ 0 ∧ ∀ j, V.i (gt (wrT r) j) = V.i (wrB r) * er V r j := by
  have hpos : ∀ x ∈ r, 0 < x.2 := fun x hx => (hr x hx).pos
  have hb := (wrB_spec hpos).1
  refine ⟨V.ine (by omega) fun z => ?_, fun j => ?_⟩
  · have h5 := hg.resolve_left z
    have g0 : 0 < g := by unfold Gr5 at h5; omega
    rw [wrB_one fun x hx => (hr x hx).one g0]
    exact one_fmod h5
  · by_cases hj : j < r.length
    · have hm := List.getElem_mem hj
      have e1 : gt (wrT r) j = r[j].1 * (wrB r).fdiv r[j].2 := by
        unfold gt wrT
        rw [List.getD_eq_getElem?_getD, List.getElem?_map, List.getElem?_eq_getElem hj]
        rfl
      obtain ⟨q, hq⟩ := (wrB_spec hpos).2.1 _ hm
      have hp := hpos _ hm
      have e2 : (wrB r).fdiv r[j].2 = q := by
        rw [hq]
        exact Int.mul_fdiv_cancel_left _ (by omega)
      obtain ⟨e3, _⟩ := V.tn hg (hr _ hm)
      rw [e1, e2, er_at hj, hq, V.imul, V.imul, ← e3]
      grind
    · have e1 : gt (wrT r) j = 0 := by
        unfold gt wrT
        rw [List.getD_eq_getElem?_getD, List.getElem?_map, List.getElem?_eq_none (by omega)]
        rfl
      rw [e1, er_out (by omega), V.i0]
      grind
/-- the program's first rows span what is given -/
theorem start_span (hg : g = 0 ∨ Gr5 g) {k : Nat} {t : List (List (Int × Int))} (ht : ∀ r ∈ t, ∀ a ∈ r, TN g k a) :
    (∀ r ∈ t, InS ((t.map fun r => plainF g (wrT r)).map (fr V)) (er V r)) ∧ ∀ o ∈ (t.map fun r => plainF g (wrT r)), InS (t.map (er V)) (fr V o) := by
  have key : ∀ r ∈ t, ∃ c : F, c ≠ 0 ∧ ∀ j, c * fr V (plainF g (wrT r)) j = er V r j := fun r hr => by
    obtain ⟨s, hs, e⟩ := V.plain (wrT r)
    obtain ⟨hb, e2⟩ := wr_fr (V := V) hg (ht r hr)
    obtain ⟨y, hy⟩ := V.inv _ hb
    refine ⟨y * s, fun z => ?_, fun j => ?_⟩
    · refine hs ?_
      have : V.i (wrB r) * (y * s) = V.i (wrB r) * 0 := by rw [z]
      grind
    · show y * s * V.i (gt (plainF g (wrT r)) j) = _
      have h1 := e j
      have h2 := e2 j
      grind
  refine ⟨fun r hr => ?_, fun o ho => ?_⟩
  · obtain ⟨c, hc, e⟩ := key r hr
    have e2 : er V r = fun j => c * fr V (plainF g (wrT r)) j := funext fun j => (e j).symm
    rw [e2]
    exact (InS.spc _).mul c _ (InS.mem (List.mem_map.mpr ⟨_, List.mem_map.mpr ⟨r, hr, rfl⟩, rfl⟩))
  · obtain ⟨r, hr, rfl⟩ := List.mem_map.mp ho
    obtain ⟨c, hc, e⟩ := key r hr
    obtain ⟨y, hy⟩ := V.inv c hc
    have e2 : fr V (plainF g (wrT r)) = fun j => y * er V r j := funext fun j => by
      rw [← e j]
      grind
    rw [e2]
    exact (InS.spc _).mul y _ (InS.mem (List.mem_map.mpr ⟨r, hr, rfl⟩))
/-- behind the last column -/
theorem Fst.done (hg : g = 0 ∨ Gr5 g) {n k : Nat} {orig rows : List (List Int)} {h : List Nat} {t : List (List (Int × Int))} (f : Fst V n n orig rows h) (hk : 4 ≤ k) (hs : ∀ r ∈ rows, ∀ x, (gt r x).natAbs < 2 ^ k)
    (ht1 : ∀ r ∈ t, InS (orig.map (fr V)) (er V r)) (ht2 : ∀ o ∈ orig, InS (t.map (er V)) (fr V o)) : LeastR V n k t ((rows.take h.length).map (headF g)) := by
  obtain ⟨A, hA, hAr⟩ := f.piv
  have hlen : (rows.take h.length).length = h.length := by rw [List.length_take]; have := f.lr; omega
  -- each pivot's row by its head
  have key : ∀ (i : Nat) (r : List Int), i < h.length → rows[i]? = some r → ∃ a p, A[i]? = some a ∧ h[i]? = some p ∧ p < n ∧ gt r p ≠ 0 ∧ hdF r = gt r p ∧ er V (headF g r) = a ∧ (∀ j, V.i (gt r j) = V.i (gt r p) * a j) ∧ ∀ b ∈ headF g r, TN g k b := fun i r hi hr => by
    have ea : A[i]? = some (A[i]'(by rw [hA.len]; exact hi)) := List.getElem?_eq_getElem _
    have eh : h[i]? = some h[i] := List.getElem?_eq_getElem hi
    have hmem := List.mem_of_getElem? hr
    obtain ⟨hn, hx⟩ := hAr i _ r _ ea hr eh
    have ing := f.ing r hmem
    have hne : gt r h[i] ≠ 0 := fun z => hn (by rw [z, V.i0])
    have hd0 : hdF r = gt r h[i] := hd_at (fun j hj => V.iz ing (by rw [hx j, hA.ahead i _ _ j ea eh hj]; grind)) hne
    have hfm : g ≠ 0 → (gt r h[i]).fmod g ≠ 0 := fun z => by
      have h5 := hg.resolve_left z
      have g0 : 0 < g := by unfold Gr5 at h5; omega
      obtain ⟨q1, q2⟩ := ing z h[i]
      rw [fmod_pos _ g0, Int.emod_eq_of_lt q1 q2]
      exact hne
    have hlow : ∀ x : Int, V.e (lowF g x (gt r h[i])) * V.i (gt r h[i]) = V.i x := fun x => V.low hg hne hfm
    refine ⟨_, _, ea, eh, f.hd _ (List.getElem_mem hi), hne, hd0, funext fun j => ?_, hx, fun b hb => ?_⟩
    · refine V.cancel (z := V.i (gt r h[i])) ?_ hn
      by_cases hj : j < r.length
      · have hj' : j < (headF g r).length := by unfold headF; rw [List.length_map]; exact hj
        rw [er_at hj']
        have e1 : (headF g r)[j] = lowF g r[j] (gt r h[i]) := by
          rw [← hd0]
          exact List.getElem_map ..
        have e2 : gt r j = r[j] := by unfold gt; rw [List.getD_eq_getElem?_getD, List.getElem?_eq_getElem hj]; rfl
        rw [e1, hlow, ← e2, hx j]
        grind
      · rw [er_out (by unfold headF; rw [List.length_map]; omega)]
        have e2 : gt r j = 0 := by unfold gt; rw [List.getD_eq_getElem?_getD, List.getElem?_eq_none (by omega)]; rfl
        have h2 := hx j
        rw [e2, V.i0] at h2
        grind
    · obtain ⟨x, hx', rfl⟩ := List.mem_map.mp hb
      rw [hd0]
      obtain ⟨j, hj, rfl⟩ := List.mem_iff_getElem.mp hx'
      have e2 : gt r j = r[j] := by unfold gt; rw [List.getD_eq_getElem?_getD, List.getElem?_eq_getElem hj]; rfl
      rw [← e2]
      exact tn_low hg hne hfm hk (hs r hmem j) (hs r hmem _)
  have hmapA : ((rows.take h.length).map (headF g)).map (er V) = A := by
    refine List.ext_getElem? fun i => ?_
    rw [List.getElem?_map, List.getElem?_map]
    by_cases hi : i < h.length
    · rw [List.getElem?_take, if_pos hi]
      have hr : rows[i]? = some (rows[i]'(by have := f.lr; omega)) := List.getElem?_eq_getElem _
      obtain ⟨a, p, ea, _, _, _, _, e, _⟩ := key i _ hi hr
      rw [hr, ea]
      exact congrArg some e
    · rw [List.getElem?_take, if_neg hi, List.getElem?_eq_none (by rw [hA.len]; omega)]
      rfl
  -- rows of the field: the pivots' span all
  have hin : ∀ r ∈ rows, InS A (fr V r) := fun r hr => by
    obtain ⟨i, hi⟩ := List.getElem?_of_mem hr
    by_cases hi2 : i < h.length
    · obtain ⟨a, p, ea, _, _, _, _, _, hx, _⟩ := key i r hi2 hi
      have e2 : fr V r = fun j => V.i (gt r p) * a j := funext hx
      rw [e2]
      exact (InS.spc A).mul _ _ (InS.mem (List.mem_of_getElem? ea))
    · have e2 : fr V r = fun _ => 0 := funext fun j => by
        show V.i (gt r j) = 0
        by_cases hj : j < n
        · exact f.non i r (by omega) hi j hj
        · have : gt r j = 0 := by unfold gt; rw [List.getD_eq_getElem?_getD, List.getElem?_eq_none (by rw [f.len r hr]; omega)]; rfl
          rw [this, V.i0]
      rw [e2]
      exact (InS.spc A).zero
  refine ⟨fun r hr => ?_, ⟨h, by rw [hmapA]; exact hA, f.hd⟩, fun r hr => ?_, fun r hr => ?_⟩
  · obtain ⟨o, ho, rfl⟩ := List.mem_map.mp hr
    obtain ⟨i, hi⟩ := List.getElem?_of_mem ho
    rw [List.getElem?_take] at hi
    by_cases hi2 : i < h.length
    · rw [if_pos hi2] at hi
      obtain ⟨_, _, _, _, _, _, _, _, _, ht⟩ := key i o hi2 hi
      exact ⟨by unfold headF; rw [List.length_map]; exact f.len o (List.mem_of_getElem? hi), ht⟩
    · rw [if_neg hi2] at hi
      cases hi
  · obtain ⟨o, ho, rfl⟩ := List.mem_map.mp hr
    obtain ⟨i, hi⟩ := List.getElem?_of_mem ho
    rw [List.getElem?_take] at hi
    by_cases hi2 : i < h.length
    · rw [if_pos hi2] at hi
      obtain ⟨a, p, ea, _, _, hne, _, e, hx, _⟩ := key i o hi2 hi
      have hmem := List.mem_of_getElem? hi
      have hn : V.i (gt o p) ≠ 0 := fun z => hne (V.iz (f.ing o hmem) z)
      obtain ⟨y, hy⟩ := V.inv _ hn
      have e2 : er V (headF g o) = fun j => y * fr V o j := funext fun j => by
        rw [e]
        show a j = y * V.i (gt o j)
        rw [hx j]
        grind
      rw [e2]
      refine (InS.spc _).mul y _ ((f.sp1 o hmem).trans fun v hv => ?_)
      obtain ⟨q, hq, rfl⟩ := List.mem_map.mp hv
      exact ht2 q hq
    · rw [if_neg hi2] at hi
      cases hi
  · rw [hmapA]
    refine (InS.trans (M := rows.map (fr V)) (ht1 r hr) fun v hv => ?_).trans fun v hv => ?_
    · obtain ⟨q, hq, rfl⟩ := List.mem_map.mp hv
      exact f.sp2 q hq
    · obtain ⟨q, hq, rfl⟩ := List.mem_map.mp hv
      exact hin q hq
end
end Fm

namespace Fm
open PySem PySem.Spec PyProof.Rows L2 Fd
/-! ### lists of whole numbers, lists of these -/
def IL (H : Hp) (v : V) (r : List Int) : Prop := ∃ p, v = .ref p ∧ H p = some (.lst (r.map V.int))
theorem IL.sm {H H' : Hp} {v : V} {r : List Int} (h : IL H v r) (s : Same H H') : IL H' v r := by
  obtain ⟨p, e, hp⟩ := h
  exact ⟨p, e, s _ _ hp⟩
def ILs (H : Hp) (v : V) (rows : List (List Int)) : Prop := ∃ p xs, v = .ref p ∧ H p = some (.lst xs) ∧ Acc IL H xs rows rows.length
theorem ILs.sm {H H' : Hp} {v : V} {rows : List (List Int)} (h : ILs H v rows) (s : Same H H') : ILs H' v rows := by
  obtain ⟨p, xs, e, hp, ha⟩ := h
  exact ⟨p, xs, e, s _ _ hp, ha.mono fun x a h => h.sm s⟩
def ILn (D : Addr) (H : Hp) (v : V) (r : List Int) : Prop := ∃ p, v = .ref p ∧ p ≠ D ∧ H p = some (.lst (r.map V.int))
theorem ILn.sm {D : Addr} {H H' : Hp} {v : V} {r : List Int} (h : ILn D H v r) (s : Same H H') : ILn D H' v r := by
  obtain ⟨p, e, hn, hp⟩ := h
  exact ⟨p, e, hn, s _ _ hp⟩
theorem ILn.upd {D : Addr} {H : Hp} {v : V} {r : List Int} {o : HO} (h : ILn D H v r) : ILn D (L2.upd H D o) v r := by
  obtain ⟨p, e, hn, hp⟩ := h
  exact ⟨p, e, hn, by rw [upd_ne hn]; exact hp⟩
theorem ILn.il {D : Addr} {H : Hp} {v : V} {r : List Int} (h : ILn D H v r) : IL H v r := by
  obtain ⟨p, e, hn, hp⟩ := h
  exact ⟨p, e, hp⟩
theorem cut_take (xs : List V) (k : Nat) : cutV xs none (some (k : Int)) = xs.take k := by
  unfold cutV
  rw [HT.sIx_nat, HT.sIx_none, List.drop_zero, Nat.sub_zero]
  by_cases h : k ≤ xs.length
  · rw [Nat.min_eq_left h]
  · rw [Nat.min_eq_right (by omega), List.take_length, List.take_of_length_le (by omega)]
theorem cut_drop (xs : List V) (k : Nat) : cutV xs (some (k : Int)) none = xs.drop k := by
  unfold cutV
  rw [HT.sIx_nat, HT.sIx_none]
  by_cases h : k ≤ xs.length
  · rw [Nat.min_eq_left h, List.take_of_length_le (by rw [List.length_drop]; exact Nat.le_refl _)]
  · rw [Nat.min_eq_right (by omega), List.drop_length, List.drop_of_length_le (by omega), List.take_nil]
theorem w_slL {K : PySem.W.Frag} {H : Hp} {Q : VK} {p : Addr} {xs : List V} {lo hi : Option Int} (h : H p = some (.lst xs)) (q : ∀ q' H', H q' = none → Same H H' → H' q' = some (.lst (cutV xs lo hi)) → Q (.ref q') H') : rSlL K (.ref p) lo hi H Q := ⟨p, xs, rfl, SqL.of h, fun l hl => q l _ hl (same_upd hl) upd_same⟩
def tTruth (K : PySem.W.Frag) (ta : TE) : TT := fun σ H Q => ta σ H fun x H' => ∃ k, TruV K x H' k ∧ Q k H'
theorem pt_tru {X : Cx} {a : Expr} {ta : TE} (ha : PE X a ta) (he : ∀ whole, isTrue a X.env whole = (do let v ← whole; standAt a.pos; holding [v] (truthy v))) : PT X a (tTruth X.K ta) := pt_truth ha he
theorem w_tru {K : PySem.W.Frag} {ta : TE} {σ : L2.St} {H : Hp} {Q : Bool → Hp → Prop} (h : ta σ H fun x H' => ∃ k, TruV K x H' k ∧ Q k H') : tTruth K ta σ H Q := h
theorem tru_lst {K : PySem.W.Frag} {H : Hp} {p : Addr} {xs : List V} {R : Bool → Prop} (h : H p = some (.lst xs)) (q : R (!xs.isEmpty)) : ∃ k, TruV K (.ref p) H k ∧ R k := ⟨_, .inl ⟨xs, SqL.of h, rfl⟩, q⟩
theorem acc_take {α : Type} {P : Hp → V → α → Prop} {H : Hp} {xs : List V} {as : List α} {n k : Nat} (h : Acc P H xs as n) (hl : n = as.length) : Acc P H (xs.take k) (as.take k) (as.take k).length := by
  refine ⟨by rw [List.length_take, List.length_take, h.1, hl], fun j x a h1 h2 => ?_⟩
  rw [List.getElem?_take] at h1 h2
  by_cases e : j < k
  · rw [if_pos e] at h1 h2
    exact h.2 j x a h1 h2
  · rw [if_neg e] at h1
    cases h1
theorem acc_drop {α : Type} {P : Hp → V → α → Prop} {H : Hp} {xs : List V} {as : List α} {n k : Nat} (h : Acc P H xs as n) (hl : n = as.length) : Acc P H (xs.drop k) (as.drop k) (as.drop k).length := by
  refine ⟨by rw [List.length_drop, List.length_drop, h.1, hl], fun j x a h1 h2 => ?_⟩
  rw [List.getElem?_drop] at h1 h2
  exact h.2 _ x a h1 h2
theorem acc_cat {α : Type} {P : Hp → V → α → Prop} {H : Hp} {xs ys : List V} {as bs : List α} (h : Acc P H xs as as.length) (h2 : Acc P H ys bs bs.length) : Acc P H (xs ++ ys) (as ++ bs) (as ++ bs).length := by
  refine ⟨by rw [List.length_append, List.length_append, h.1, h2.1], fun j x a e1 e2 => ?_⟩
  by_cases e : j < as.length
  · rw [List.getElem?_append_left (by rw [h.1]; exact e)] at e1
    rw [List.getElem?_append_left e] at e2
    exact h.2 j x a e1 e2
  · rw [List.getElem?_append_right (by rw [h.1]; omega), h.1] at e1
    rw [List.getElem?_append_right (by omega)] at e2
    exact h2.2 _ x a e1 e2
theorem acc_one {α : Type} {P : Hp → V → α → Prop} {H : Hp} {v : V} {a : α} (h : P H v a) : Acc P H [v] [a] [a].length := ⟨rfl, fun j x b e1 e2 => by
  cases j with
  | zero => cases e1; cases e2; exact h
  | succ j => simp at e1⟩
theorem erase_cut {α : Type} (xs : List α) (k : Nat) : xs.take k ++ xs.drop (k + 1) = xs.eraseIdx k := (List.eraseIdx_eq_take_drop_succ ..).symm
theorem gt_int {r : List Int} {j : Nat} (hj : j < r.length) : atI (r.map V.int) (j : Int) = some (.int (gt r j)) := by
  refine atI_nat ?_
  rw [List.getElem?_map, List.getElem?_eq_getElem hj]
  unfold gt
  rw [List.getD_eq_getElem?_getD, List.getElem?_eq_getElem hj]
  rfl
theorem gcdL_take {r : List Int} {i : Nat} (hi : i < r.length) : gcdL (r.take (i + 1)) = (Int.gcd (gcdL (r.take i)) r[i] : Int) := by
  unfold gcdL
  rw [List.take_add_one, List.getElem?_eq_getElem hi, Option.toList_some, List.foldl_append]
  rfl
theorem gcdL_le {r : List Int} {b : Nat} (h : gcdL r ≠ 0) (hb : ∀ x ∈ r, x.natAbs < 2 ^ b) : (gcdL r).natAbs < 2 ^ b := by
  have : ∃ x ∈ r, x ≠ 0 := Classical.byContradiction fun z => h (by
    have h0 : ∀ x ∈ r, (0 : Int) ∣ x := fun x hx => by
      have : x = 0 := Classical.byContradiction fun y => z ⟨x, hx, y⟩
      rw [this]
      exact Int.dvd_refl 0
    exact Int.zero_dvd.mp (gcdL_dvd.2 0 h0))
  obtain ⟨x, hx, hne⟩ := this
  obtain ⟨q, hq⟩ := gcdL_dvd.1 x hx
  have hq0 : q ≠ 0 := fun z => hne (by rw [hq, z, Int.mul_zero])
  refine Nat.lt_of_le_of_lt ?_ (hb x hx)
  rw [hq, Int.natAbs_mul]
  exact Nat.le_mul_of_pos_right _ (by omega)
theorem natAbs_mem {r : List Int} {b : Nat} (h : ∀ x, (gt r x).natAbs < 2 ^ b) : ∀ x ∈ r, x.natAbs < 2 ^ b := fun x hx => by
  obtain ⟨i, hi, rfl⟩ := List.mem_iff_getElem.mp hx
  have := h i
  unfold gt at this
  rw [List.getD_eq_getElem?_getD, List.getElem?_eq_getElem hi] at this
  exact this
theorem ing_abs {g : Int} {r : List Int} (hg : g = 0 ∨ Gr5 g) (h : InG g r) (z : g ≠ 0) (x : Nat) : (gt r x).natAbs < 2 ^ 4 := by
  obtain ⟨h1, h2⟩ := h z x
  have h5 := hg.resolve_left z
  unfold Gr5 at h5
  omega
end Fm
namespace Fm
open PySem PySem.Spec PyProof.Rows L2
theorem acc_imp {α : Type} {P P' : Hp → V → α → Prop} {H H' : Hp} {ys : List V} {as : List α} {i : Nat} (h : Acc P H ys as i) (f : ∀ x a, P H x a → P' H' x a) : Acc P' H' ys as i := ⟨h.1, fun j x a h1 h2 => f x a (h.2 j x a h1 h2)⟩
end Fm
namespace Fm
/-- what lowest wants -/
theorem lowP {g u d : Int} {k : Nat} (hg : g = 0 ∨ Gr5 g) (hd : d ≠ 0) (h1 : g ≠ 0 → d.fmod g ≠ 0) (hu : u.natAbs < 2 ^ k) (hb : d.natAbs < 2 ^ k) (hk : k ≤ 8500) : (g = 0 ∧ d ≠ 0 ∧ d.natAbs < 2 ^ 8500) ∨ (3 ≤ g ∧ u.natAbs < 2 ^ 50000 ∧ ∃ k : Int, 1 ≤ k ∧ k ≤ 13 ∧ (k * d).fmod g = 1) := by
  rcases hg with e | h5
  · exact .inl ⟨e, hd, Nat.lt_of_lt_of_le hb (Nat.pow_le_pow_right (by decide) hk)⟩
  · have g3 : 3 ≤ g := by unfold Gr5 at h5; omega
    exact .inr ⟨g3, Nat.lt_of_lt_of_le hu (Nat.pow_le_pow_right (by decide) (by omega)), inv_of h5 (h1 (by omega))⟩
end Fm
namespace Fm
open Lean.Grind Fr Fd
theorem fst_head {g : Int} {F : Type} [CommRing F] {V : GV g F} (hg : g = 0 ∨ Gr5 g) {m n : Nat} {orig rows : List (List Int)} {h : List Nat} (f : Fst V m n orig rows h) {i : Nat} {r : List Int} (hi : i < h.length) (hr : rows[i]? = some r) : hdF r ≠ 0 ∧ (g ≠ 0 → (hdF r).fmod g ≠ 0) ∧ ∃ x, hdF r = gt r x := by
  obtain ⟨A, hA, hAr⟩ := f.piv
  have ea : A[i]? = some (A[i]'(by rw [hA.len]; exact hi)) := List.getElem?_eq_getElem _
  have eh : h[i]? = some h[i] := List.getElem?_eq_getElem hi
  obtain ⟨hn, hx⟩ := hAr i _ r _ ea hr eh
  have ing := f.ing r (List.mem_of_getElem? hr)
  have hne : gt r h[i] ≠ 0 := fun z => hn (by rw [z, V.i0])
  have hd0 : hdF r = gt r h[i] := hd_at (fun j hj => V.iz ing (by rw [hx j, hA.ahead i _ _ j ea eh hj]; grind)) hne
  refine ⟨by rw [hd0]; exact hne, fun z => ?_, _, hd0⟩
  have h5 := hg.resolve_left z
  have g0 : 0 < g := by unfold Gr5 at h5; omega
  obtain ⟨q1, q2⟩ := ing z h[i]
  rw [hd0, fmod_pos _ g0, Int.emod_eq_of_lt q1 q2]
  exact hne
theorem plain_abs {r : List Int} {A : Nat} (h : ∀ y ∈ r, y.natAbs ≤ A) (x : Nat) : (gt (plainF 0 r) x).natAbs ≤ A := by
  obtain ⟨s, hs, e, _⟩ := plain_zero (r := r)
  have h1 : (gt r x).natAbs ≤ A := by
    by_cases z : gt r x = 0
    · rw [z]; exact Nat.zero_le _
    · exact h _ (gt_mem z)
  have h2 := congrArg Int.natAbs (e x)
  rw [Int.natAbs_mul] at h2
  refine Nat.le_trans ?_ h1
  rw [← h2]
  exact Nat.le_mul_of_pos_left _ (by omega)
end Fm

namespace Fd
/-! ### minors bordered twice; what rows span is told by columns -/
/-- two sums of the rows that are the same at the columns are the same -/
theorem dt_ext {P : List (List Int)} {c : List Nat} (hl : P.length = c.length) (hD : dt P c ≠ 0) {f g : Nat → Int} (β γ : Nat → Int) (hf : ∀ x, f x = S (fun i => β i * ent P i x) P.length) (hg : ∀ x, g x = S (fun i => γ i * ent P i x) P.length) (he : ∀ k ∈ c, f k = g k) : ∀ x, f x = g x := by
  have key : ∀ x, f x - g x = S (fun i => (β i - γ i) * ent P i x) P.length := fun x => by
    have e : S (fun i => (β i - γ i) * ent P i x) P.length = S (fun i => 1 * (β i * ent P i x) - 1 * (γ i * ent P i x)) P.length := S_congr fun i _ => by grind
    rw [e, S_lin, hf, hg]
    omega
  have z := indep c P (fun i => β i - γ i) hl hD fun k hk => by
    rw [← key k, he k hk]
    omega
  intro x
  have h2 := key x
  rw [S_congr (g := fun _ => 0) fun i hi => by rw [z i hi, Int.zero_mul], S_zero] at h2
  omega
/-- a row and others, bordered by one row and column more -/
theorem dt_syl {P : List (List Int)} {c : List Nat} (hl : P.length = c.length) {o h : List Int} {k : Nat} (hD : dt (h :: P) (k :: c) ≠ 0) (x : Nat) :
    dt P c * dt (o :: h :: P) (x :: k :: c) = dt (o :: P) (x :: c) * dt (h :: P) (k :: c) - dt (o :: P) (k :: c) * dt (h :: P) (x :: c) := by
  have hl' : (h :: P).length = (k :: c).length := by rw [List.length_cons, List.length_cons, hl]
  have e1 : ∀ x, dt (o :: h :: P) (x :: k :: c) = dt (h :: P) (k :: c) * gt o x + S (fun i => sg (i + 1) * dt ((o :: h :: P).eraseIdx (i + 1)) (k :: c) * ent (h :: P) i x) (h :: P).length := fun x => dt_front o (h :: P) (k :: c) x
  have e2 : ∀ x, dt (o :: P) (x :: c) = dt P c * gt o x + S (fun i => sg (i + 1) * dt ((o :: P).eraseIdx (i + 1)) c * ent P i x) P.length := fun x => dt_front o P c x
  have e3 : ∀ x, dt (h :: P) (x :: c) = dt P c * gt h x + S (fun i => sg (i + 1) * dt ((h :: P).eraseIdx (i + 1)) c * ent P i x) P.length := fun x => dt_front h P c x
  have hh := dt_ext hl' hD (f := fun x => dt P c * dt (o :: h :: P) (x :: k :: c) - dt P c * dt (h :: P) (k :: c) * gt o x) (g := fun x => dt (o :: P) (x :: c) * dt (h :: P) (k :: c) - dt (o :: P) (k :: c) * dt (h :: P) (x :: c) - dt P c * dt (h :: P) (k :: c) * gt o x)
    (fun i => dt P c * (sg (i + 1) * dt ((o :: h :: P).eraseIdx (i + 1)) (k :: c)))
    (fun i => match i with | 0 => -(dt (o :: P) (k :: c) * dt P c) | i + 1 => dt (h :: P) (k :: c) * (sg (i + 1) * dt ((o :: P).eraseIdx (i + 1)) c) - dt (o :: P) (k :: c) * (sg (i + 1) * dt ((h :: P).eraseIdx (i + 1)) c))
    (fun x => by
      have e : S (fun i => dt P c * (sg (i + 1) * dt ((o :: h :: P).eraseIdx (i + 1)) (k :: c)) * ent (h :: P) i x) (h :: P).length = dt P c * S (fun i => sg (i + 1) * dt ((o :: h :: P).eraseIdx (i + 1)) (k :: c) * ent (h :: P) i x) (h :: P).length := by
        rw [← S_mul]
        exact S_congr fun i _ => by grind
      rw [e]
      have := e1 x
      grind)
    (fun x => by
      show _ = S _ (P.length + 1)
      rw [S_front]
      have e : S (fun i => (dt (h :: P) (k :: c) * (sg (i + 1) * dt ((o :: P).eraseIdx (i + 1)) c) - dt (o :: P) (k :: c) * (sg (i + 1) * dt ((h :: P).eraseIdx (i + 1)) c)) * ent P i x) P.length = dt (h :: P) (k :: c) * S (fun i => sg (i + 1) * dt ((o :: P).eraseIdx (i + 1)) c * ent P i x) P.length - dt (o :: P) (k :: c) * S (fun i => sg (i + 1) * dt ((h :: P).eraseIdx (i + 1)) c * ent P i x) P.length := by
        rw [← S_lin]
        exact S_congr fun i _ => by grind
      show _ = -(dt (o :: P) (k :: c) * dt P c) * gt h x + S (fun i => (dt (h :: P) (k :: c) * (sg (i + 1) * dt ((o :: P).eraseIdx (i + 1)) c) - dt (o :: P) (k :: c) * (sg (i + 1) * dt ((h :: P).eraseIdx (i + 1)) c)) * ent P i x) P.length
      rw [e]
      have h2 := e2 x
      have h3 := e3 x
      grind)
    (fun m hm => by
      have z1 : dt (o :: h :: P) (m :: k :: c) = 0 := dt_twice m (k :: c) _ hm
      show dt P c * dt (o :: h :: P) (m :: k :: c) - _ = _
      rw [z1]
      rcases List.mem_cons.mp hm with rfl | hm'
      · grind
      · rw [dt_twice m c (o :: P) hm', dt_twice m c (h :: P) hm']
        grind) x
  have hh' : dt P c * dt (o :: h :: P) (x :: k :: c) - dt P c * dt (h :: P) (k :: c) * gt o x = dt (o :: P) (x :: c) * dt (h :: P) (k :: c) - dt (o :: P) (k :: c) * dt (h :: P) (x :: c) - dt P c * dt (h :: P) (k :: c) * gt o x := hh
  omega
/-- the pivots' rows, with one row and column more -/
theorem dt_piv {P : List (List Int)} {c : List Nat} (hl : P.length = c.length) {h : List Int} {k j m : Nat} (hj : c[j]? = some m) (hD : dt (h :: P) (k :: c) ≠ 0) (x : Nat) :
    dt P c * dt (h :: P) (x :: k :: c.eraseIdx j) = -(dt P (x :: c.eraseIdx j) * dt (h :: P) (k :: c) - dt P (k :: c.eraseIdx j) * dt (h :: P) (x :: c)) := by
  have hl' : (h :: P).length = (k :: c).length := by rw [List.length_cons, List.length_cons, hl]
  have mv := dt_move c P j m hj
  have mvh := dt_move (k :: c) (h :: P) (j + 1) m hj
  have mvh' : dt (h :: P) (m :: k :: c.eraseIdx j) = sg (j + 1) * dt (h :: P) (k :: c) := mvh
  have e3 : ∀ x, dt (h :: P) (x :: c) = dt P c * gt h x + S (fun i => sg (i + 1) * dt ((h :: P).eraseIdx (i + 1)) c * ent P i x) P.length := fun x => dt_front h P c x
  refine dt_ext hl' hD (f := fun x => dt P c * dt (h :: P) (x :: k :: c.eraseIdx j)) (g := fun x => -(dt P (x :: c.eraseIdx j) * dt (h :: P) (k :: c) - dt P (k :: c.eraseIdx j) * dt (h :: P) (x :: c)))
    (fun i => dt P c * (sg i * dt ((h :: P).eraseIdx i) (k :: c.eraseIdx j)))
    (fun i => match i with | 0 => dt P (k :: c.eraseIdx j) * dt P c | i + 1 => -(dt (h :: P) (k :: c) * (sg i * dt (P.eraseIdx i) (c.eraseIdx j))) + dt P (k :: c.eraseIdx j) * (sg (i + 1) * dt ((h :: P).eraseIdx (i + 1)) c))
    (fun x => ?_) (fun x => ?_) (fun y hy => ?_) x
  · show dt P c * dt (h :: P) (x :: k :: c.eraseIdx j) = _
    rw [dt_rows (h :: P) (k :: c.eraseIdx j) x, ← S_mul]
    exact S_congr fun i _ => by grind
  · show _ = S _ (P.length + 1)
    rw [S_front]
    have e : S (fun i => (-(dt (h :: P) (k :: c) * (sg i * dt (P.eraseIdx i) (c.eraseIdx j))) + dt P (k :: c.eraseIdx j) * (sg (i + 1) * dt ((h :: P).eraseIdx (i + 1)) c)) * ent P i x) P.length = dt P (k :: c.eraseIdx j) * S (fun i => sg (i + 1) * dt ((h :: P).eraseIdx (i + 1)) c * ent P i x) P.length - dt (h :: P) (k :: c) * S (fun i => sg i * dt (P.eraseIdx i) (c.eraseIdx j) * ent P i x) P.length := by
      rw [← S_lin]
      exact S_congr fun i _ => by grind
    show _ = dt P (k :: c.eraseIdx j) * dt P c * gt h x + S (fun i => (-(dt (h :: P) (k :: c) * (sg i * dt (P.eraseIdx i) (c.eraseIdx j))) + dt P (k :: c.eraseIdx j) * (sg (i + 1) * dt ((h :: P).eraseIdx (i + 1)) c)) * ent P i x) P.length
    rw [e, ← dt_rows]
    have h3 := e3 x
    grind
  · show dt P c * dt (h :: P) (y :: k :: c.eraseIdx j) = -(dt P (y :: c.eraseIdx j) * dt (h :: P) (k :: c) - dt P (k :: c.eraseIdx j) * dt (h :: P) (y :: c))
    rcases List.mem_cons.mp hy with rfl | hy'
    · rw [dt_twice y (y :: c.eraseIdx j) (h :: P) List.mem_cons_self]
      grind
    · rw [dt_twice y c (h :: P) hy']
      obtain ⟨i, hi⟩ := List.getElem?_of_mem hy'
      by_cases e : i = j
      · subst e
        have : y = m := Option.some.inj (hi.symm.trans hj)
        subst this
        rw [mv, mvh', sg_succ]
        grind
      · have hm2 : y ∈ c.eraseIdx j := List.mem_eraseIdx_iff_getElem?.mpr ⟨i, e, hi⟩
        rw [dt_twice y (c.eraseIdx j) P hm2, dt_twice y (k :: c.eraseIdx j) (h :: P) (List.mem_cons_of_mem _ hm2)]
        grind
end Fd
namespace Fr
open Lean.Grind
variable {F : Type} [CommRing F]
/-! ### how many rows: none of rows that the others don't span more than rows that span them -/
theorem InS.mono {L M : List (Row F)} {v : Row F} (h : InS L v) (hs : ∀ r ∈ L, r ∈ M) : InS M v := h.trans fun r hr => InS.mem (hs r hr)
theorem InS.split {l : Row F} {L : List (Row F)} {v : Row F} (h : InS (l :: L) v) : ∃ (a : F) (u : Row F), InS L u ∧ v = fun j => a * l j + u j := by
  refine h (fun v => ∃ (a : F) (u : Row F), InS L u ∧ v = fun j => a * l j + u j) ⟨⟨0, fun _ => 0, (InS.spc L).zero, funext fun j => by grind⟩, fun u v hu hv => ?_, fun c u hu => ?_⟩ fun r hr => ?_
  · obtain ⟨a, u', h1, rfl⟩ := hu
    obtain ⟨b, v', h2, rfl⟩ := hv
    exact ⟨a + b, _, (InS.spc L).add _ _ h1 h2, funext fun j => by grind⟩
  · obtain ⟨a, u', h1, rfl⟩ := hu
    exact ⟨c * a, _, (InS.spc L).mul c _ h1, funext fun j => by grind⟩
  · rcases List.mem_cons.mp hr with rfl | hr
    · exact ⟨1, fun _ => 0, (InS.spc L).zero, funext fun j => by grind⟩
    · exact ⟨0, r, InS.mem hr, funext fun j => by grind⟩
theorem exch (inv : ∀ x : F, x ≠ 0 → ∃ y, x * y = 1) : ∀ (L2 L1 : List (Row F)) (v : Row F), InS (L1 ++ L2) v → ¬ InS L1 v → ∃ X l Y, L2 = X ++ l :: Y ∧ InS (v :: (L1 ++ (X ++ Y))) l
  | [], L1, v, h, hn => absurd (by rw [List.append_nil] at h; exact h) hn
  | l :: L2, L1, v, h, hn => by
    by_cases h2 : InS (L1 ++ L2) v
    · obtain ⟨X, l', Y, e, hi⟩ := exch inv L2 L1 v h2 hn
      refine ⟨l :: X, l', Y, by rw [e]; rfl, hi.mono fun r hr => ?_⟩
      rcases List.mem_cons.mp hr with z | z
      · rw [z]
        exact List.mem_cons_self
      · refine List.mem_cons_of_mem _ ?_
        rcases List.mem_append.mp z with z | z
        · exact List.mem_append_left _ z
        · exact List.mem_append_right _ (List.mem_cons_of_mem _ z)
    · have h3 : InS (l :: (L1 ++ L2)) v := h.mono fun r hr => by
        rcases List.mem_append.mp hr with z | z
        · exact List.mem_cons_of_mem _ (List.mem_append_left _ z)
        · rcases List.mem_cons.mp z with z | z
          · rw [z]
            exact List.mem_cons_self
          · exact List.mem_cons_of_mem _ (List.mem_append_right _ z)
      obtain ⟨a, u, hu, e⟩ := h3.split
      have ha : a ≠ 0 := fun z => h2 (by
        have : v = u := by
          rw [e]
          funext j
          rw [z]
          grind
        rw [this]
        exact hu)
      obtain ⟨y, hy⟩ := inv a ha
      refine ⟨[], l, L2, rfl, ?_⟩
      have el : l = fun j => y * (v j + (-1) * u j) := by
        funext j
        rw [e]
        grind
      have s := InS.spc (v :: (L1 ++ ([] ++ L2)))
      rw [el]
      exact s.mul y _ (s.add _ _ (InS.mem List.mem_cons_self) (s.mul (-1) _ (hu.mono fun r hr => List.mem_cons_of_mem _ hr)))
/-- none is spanned by those behind it -/
def Ind : List (Row F) → Prop
  | [] => True
  | v :: M => ¬ InS M v ∧ Ind M
theorem steinitz (inv : ∀ x : F, x ≠ 0 → ∃ y, x * y = 1) : ∀ (M L : List (Row F)), Ind M → (∀ v ∈ M, InS L v) → ∃ R : List (Row F), R.length + M.length = L.length ∧ ∀ r ∈ L, InS (M ++ R) r
  | [], L, _, _ => ⟨L, rfl, fun r hr => InS.mem hr⟩
  | v :: M, L, hi, hs => by
    obtain ⟨R, hl, hR⟩ := steinitz inv M L hi.2 fun u hu => hs u (List.mem_cons_of_mem _ hu)
    have hv : InS (M ++ R) v := (hs v List.mem_cons_self).trans hR
    obtain ⟨X, l, Y, e, hx⟩ := exch inv R M v hv hi.1
    refine ⟨X ++ Y, ?_, fun r hr => (hR r hr).trans fun u hu => ?_⟩
    · rw [e, List.length_append, List.length_cons] at hl
      rw [List.length_append, List.length_cons]
      omega
    · rcases List.mem_append.mp hu with z | z
      · exact InS.mem (List.mem_cons_of_mem _ (List.mem_append_left _ z))
      · rw [e] at z
        rcases List.mem_append.mp z with z | z
        · exact InS.mem (List.mem_cons_of_mem _ (List.mem_append_right _ (List.mem_append_left _ z)))
        · rcases List.mem_cons.mp z with z | z
          · rw [z]
            exact hx
          · exact InS.mem (List.mem_cons_of_mem _ (List.mem_append_right _ (List.mem_append_right _ z)))
theorem ind_le (inv : ∀ x : F, x ≠ 0 → ∃ y, x * y = 1) {M L : List (Row F)} (hi : Ind M) (hs : ∀ v ∈ M, InS L v) : M.length ≤ L.length := by
  obtain ⟨R, h, _⟩ := steinitz inv M L hi hs
  omega
/-- by a place for each row where it isn't nought and those behind it are -/
theorem ind_of : ∀ (M : List (Row F)), (∀ (i : Nat) (v : Row F), M[i]? = some v → ∃ p, v p ≠ 0 ∧ ∀ (k : Nat) (u : Row F), i < k → M[k]? = some u → u p = 0) → Ind M
  | [], _ => trivial
  | v :: M, h => by
    refine ⟨fun hv => ?_, ind_of M fun i u hu => ?_⟩
    · obtain ⟨p, hp, hz⟩ := h 0 v rfl
      refine hp (hv (fun u => u p = 0) ⟨rfl, fun a b ha hb => ?_, fun c a ha => ?_⟩ fun r hr => ?_)
      · show a p + b p = 0
        rw [ha, hb]
        grind
      · show c * a p = 0
        rw [ha]
        grind
      · obtain ⟨k, hk⟩ := List.getElem?_of_mem hr
        exact hz (k + 1) r (Nat.succ_pos _) hk
    · obtain ⟨p, hp, hz⟩ := h (i + 1) u hu
      exact ⟨p, hp, fun k w hk hw => hz (k + 1) w (Nat.succ_lt_succ hk) hw⟩
theorem Rr.ind (n1 : (1 : F) ≠ 0) {A : List (Row F)} {h : List Nat} (R : Rr A h) : Ind A := by
  refine ind_of A fun i v hv => ?_
  have hi := (List.getElem?_eq_some_iff.mp hv).1
  have hp : h[i]? = some (h[i]'(by rw [← R.len]; exact hi)) := List.getElem?_eq_getElem _
  exact ⟨_, by rw [R.one i v _ hv hp]; exact n1, fun k u hk hu => R.nul k i u _ hu hp (by omega)⟩
end Fr

namespace Fm
open Lean.Grind PySem L2 Fr Fd
/-! ### least rows made of numbers one head after another, and how great these numbers are -/
abbrev ga (r : List (Int × Int)) (j : Nat) : Int × Int := r.getD j (0, 1)
def lheadF (g : Int) (j : Nat) (r : List (Int × Int)) : List (Int × Int) := r.map fun x => timesF g x (ovrF g (1, 1) (ga r j))
def lclrF (g : Int) (j : Nat) (h r : List (Int × Int)) : List (Int × Int) := List.zipWith (plusF g) r (h.map fun x => timesF g x (minusF g (ga r j)))
theorem red_le {a : Int × Int} {d n : Int} (h : Red a) (hd : d ≠ 0) (e : a.1 * d = a.2 * n) : a.1.natAbs ≤ n.natAbs ∧ a.2.natAbs ≤ d.natAbs := by
  have h2 : a.2 ≠ 0 := by have := h.1; omega
  obtain ⟨q, hq⟩ := dvd_cop h.2 ⟨n, e⟩
  have q0 : q ≠ 0 := fun z => hd (by rw [hq, z, Int.mul_zero])
  have hn : a.1 * q = n := by
    refine Int.eq_of_mul_eq_mul_left h2 ?_
    rw [← e, hq]
    grind
  refine ⟨?_, ?_⟩
  · rw [← hn, Int.natAbs_mul]
    exact Nat.le_mul_of_pos_right _ (by omega)
  · rw [hq, Int.natAbs_mul]
    exact Nat.le_mul_of_pos_right _ (by omega)
section
variable {g : Int} {F : Type} [CommRing F]
/-- the rows by minors: P the heads' own rows, c their columns -/
structure LSz (V : GV g F) (A : Nat) (P : List (List Int)) (c : List Nat) (found left : List (List (Int × Int))) : Prop where
  lc : P.length = c.length
  det : dt P c ≠ 0
  bP : ∀ i x, (ent P i x).natAbs ≤ A
  fnd : ∀ v ∈ found, ∃ j m, c[j]? = some m ∧ ∀ x, er V v x * V.i (sg j * dt P c) = V.i (dt P (x :: c.eraseIdx j))
  lft : ∀ v ∈ left, ∃ (o : List Int) (b : Int), b ≠ 0 ∧ b.natAbs ≤ A ∧ (∀ x, (gt o x).natAbs ≤ A) ∧ ∀ x, er V v x * V.i (b * dt P c) = V.i (dt (o :: P) (x :: c))
variable {V : GV g F}
theorem sg_ne (j : Nat) : sg j ≠ 0 := fun z => by
  have := sg_sq j
  rw [z] at this
  cases this
theorem sg_one (j : Nat) : (sg j).natAbs = 1 := by
  unfold sg
  split <;> rfl
theorem red_of (hg0 : g = 0) {k : Nat} {a : Int × Int} (h : TN g k a) : Red a := by
  subst hg0
  exact h.red
theorem ei_z (hg0 : g = 0) {a b : Int} (h : V.i a = V.i b) : a = b := by
  have : V.i (a - b) = 0 := by rw [V.isub, h]; grind
  have := (V.ker _ this).1 hg0
  omega
/-- a number out of two whole ones in the field: its parts are no greater -/
theorem tn_by (hg : g = 0 ∨ Gr5 g) (hg0 : g = 0) {k : Nat} {a : Int × Int} (h : TN g k a) {d n : Int} (hd : d ≠ 0) (e : V.e a * V.i d = V.i n) : a.1.natAbs ≤ n.natAbs ∧ a.2.natAbs ≤ d.natAbs := by
  refine red_le (red_of hg0 h) hd (ei_z (V := V) hg0 ?_)
  obtain ⟨e1, n1⟩ := V.tn hg h
  rw [V.imul, V.imul, ← e1, ← e]
  grind
theorem LSz.bound (hg : g = 0 ∨ Gr5 g) (hg0 : g = 0) {A k n : Nat} {P : List (List Int)} {c : List Nat} {found left : List (List (Int × Int))} (z : LSz V A P c found left) (hc : c.length ≤ n) (hA : 1 ≤ A) :
    ∀ v ∈ found ++ left, (∀ a ∈ v, TN g k a) → ∀ a ∈ v, a.1.natAbs ≤ A * ((n + 1) * A) ^ (n + 1) ∧ a.2.natAbs ≤ A * ((n + 1) * A) ^ (n + 1) := fun v hv ht a ha => by
  obtain ⟨x, hx, rfl⟩ := List.mem_iff_getElem.mp ha
  have ta := ht _ (List.getElem_mem hx)
  have hD : ∀ (Q : List (List Int)) (cs : List Nat), Q.length = cs.length → cs.length ≤ n + 1 → (∀ i y, (ent Q i y).natAbs ≤ A) → (dt Q cs).natAbs ≤ ((n + 1) * A) ^ (n + 1) := fun Q cs h1 h2 h3 => Nat.le_trans (dt_abs cs Q h1 h3) (pow_mono h2 (Nat.mul_le_mul (show 1 ≤ n + 1 by omega) hA))
  have hB : ((n + 1) * A) ^ (n + 1) ≤ A * ((n + 1) * A) ^ (n + 1) := Nat.le_mul_of_pos_left _ hA
  rcases List.mem_append.mp hv with h | h
  · obtain ⟨j, m, hj, e⟩ := z.fnd v h
    have hjl := (List.getElem?_eq_some_iff.mp hj).1
    have e1 := e x
    rw [er_at hx] at e1
    have hl : P.length = (x :: c.eraseIdx j).length := by
      rw [List.length_cons, List.length_eraseIdx_of_lt hjl, z.lc]
      omega
    obtain ⟨b1, b2⟩ := tn_by hg hg0 ta (Int.mul_ne_zero (sg_ne j) z.det) e1
    rw [Int.natAbs_mul, sg_one, Nat.one_mul] at b2
    have d1 := hD P c z.lc (by omega) z.bP
    have d2 := hD P _ hl (by rw [← hl, z.lc]; omega) z.bP
    exact ⟨by omega, by omega⟩
  · obtain ⟨o, b, hb, hbA, ho, e⟩ := z.lft v h
    have e1 := e x
    rw [er_at hx] at e1
    obtain ⟨b1, b2⟩ := tn_by hg hg0 ta (Int.mul_ne_zero hb z.det) e1
    have d1 := hD P c z.lc (by omega) z.bP
    have d2 := hD (o :: P) (x :: c) (by rw [List.length_cons, List.length_cons, z.lc]) (by rw [List.length_cons]; omega) fun i y => by
      cases i with
      | zero => rw [ent_zero]; exact ho y
      | succ i => rw [ent_succ]; exact z.bP i y
    refine ⟨by omega, Nat.le_trans b2 ?_⟩
    rw [Int.natAbs_mul]
    exact Nat.mul_le_mul hbA d1
theorem LSz.start (hg : g = 0 ∨ Gr5 g) {A k : Nat} {t : List (List (Int × Int))} (ht : ∀ r ∈ t, ∀ a ∈ r, TN g k a) (hA : ∀ r ∈ t, (wrB r).natAbs ≤ A ∧ ∀ y ∈ wrT r, y.natAbs ≤ A) : LSz V A [] [] [] t := by
  refine ⟨rfl, by show (1 : Int) ≠ 0; decide, fun i x => ?_, fun v hv => (by cases hv), fun v hv => ⟨wrT v, wrB v, ?_, (hA v hv).1, fun x => ?_, fun x => ?_⟩⟩
  · have : ([] : List (List Int)).getD i [] = [] := by simp
    show (gt (([] : List (List Int)).getD i []) x).natAbs ≤ A
    rw [this]
    exact Nat.zero_le _
  · have := (wrB_spec fun x hx => (ht v hv x hx).pos).1
    omega
  · by_cases e : gt (wrT v) x = 0
    · rw [e]
      exact Nat.zero_le _
    · exact (hA v hv).2 _ (gt_mem e)
  · have e := (wr_fr (V := V) hg (ht v hv)).2 x
    have e1 : dt [wrT v] [x] = gt (wrT v) x := by
      show 0 + sg 0 * gt (wrT v) x * 1 = _
      show 0 + 1 * gt (wrT v) x * 1 = _
      omega
    rw [e1, e]
    show er V v x * V.i (wrB v * 1) = _
    rw [Int.mul_one]
    grind
theorem LSz.step (hg0 : g = 0) {A k : Nat} {P : List (List Int)} {c : List Nat} {found left : List (List (Int × Int))} (z : LSz V A P c found left) {v0 head : List (Int × Int)} (hv0 : v0 ∈ left) (hne : er V v0 k ≠ 0) (hh : ∀ x, er V head x * er V v0 k = er V v0 x) {f : List (Int × Int) → List (Int × Int)} (hf : ∀ r ∈ found ++ left, er V (f r) = clr k (er V head) (er V r)) :
    ∃ P' c', c'.length = c.length + 1 ∧ LSz V A P' c' (found.map f ++ [head]) (left.map f) := by
  obtain ⟨o, b, hb, hbA, ho, e0⟩ := z.lft v0 hv0
  have vD : V.i (dt P c) ≠ 0 := V.ine z.det fun h => absurd hg0 h
  have vb : V.i b ≠ 0 := V.ine hb fun h => absurd hg0 h
  have hbD : V.i (b * dt P c) ≠ 0 := V.ine (Int.mul_ne_zero hb z.det) fun h => absurd hg0 h
  have hN : V.i (dt (o :: P) (k :: c)) ≠ 0 := fun q => by
    have := e0 k
    rw [q] at this
    exact hbD (V.dom this hne)
  have hD' : dt (o :: P) (k :: c) ≠ 0 := fun q => hN (by rw [q, V.i0])
  -- the head's row by minors
  have hhead : ∀ x, er V head x * V.i (dt (o :: P) (k :: c)) = V.i (dt (o :: P) (x :: c)) := fun x => by
    rw [← e0 x, ← e0 k, ← hh x]
    grind
  refine ⟨o :: P, k :: c, rfl, ?_, hD', fun i x => ?_, fun v hv => ?_, fun v hv => ?_⟩
  · rw [List.length_cons, List.length_cons, z.lc]
  · cases i with
    | zero => rw [ent_zero]; exact ho x
    | succ i => rw [ent_succ]; exact z.bP i x
  · rcases List.mem_append.mp hv with h | h
    · obtain ⟨r, hr, rfl⟩ := List.mem_map.mp h
      obtain ⟨j, m, hj, e⟩ := z.fnd r hr
      refine ⟨j + 1, m, hj, fun x => ?_⟩
      rw [hf r (List.mem_append_left _ hr)]
      show (er V r x + -(er V r k) * er V head x) * V.i (sg (j + 1) * dt (o :: P) (k :: c)) = V.i (dt (o :: P) (x :: k :: c.eraseIdx j))
      refine V.cancel (z := V.i (dt P c)) ?_ vD
      have hs := congrArg V.i (dt_piv z.lc (h := o) (k := k) hj hD' x)
      rw [V.ineg, V.isub, V.imul, V.imul, V.imul] at hs
      have ex := e x
      have ek := e k
      rw [V.imul] at ex ek
      have hx := hhead x
      rw [sg_succ, V.imul, V.ineg]
      grind
    · rw [List.mem_singleton.mp h]
      refine ⟨0, k, rfl, fun x => ?_⟩
      show er V head x * V.i (1 * dt (o :: P) (k :: c)) = V.i (dt (o :: P) (x :: c))
      rw [Int.one_mul]
      exact hhead x
  · obtain ⟨r, hr, rfl⟩ := List.mem_map.mp hv
    obtain ⟨o1, b1, hb1, hbA1, ho1, e⟩ := z.lft r hr
    refine ⟨o1, b1, hb1, hbA1, ho1, fun x => ?_⟩
    rw [hf r (List.mem_append_right _ hr)]
    show (er V r x + -(er V r k) * er V head x) * V.i (b1 * dt (o :: P) (k :: c)) = V.i (dt (o1 :: o :: P) (x :: k :: c))
    refine V.cancel (z := V.i (dt P c)) ?_ vD
    have hs := congrArg V.i (dt_syl z.lc (o := o1) (h := o) (k := k) hD' x)
    rw [V.isub, V.imul, V.imul, V.imul] at hs
    have ex := e x
    have ek := e k
    rw [V.imul] at ex ek
    have hx := hhead x
    rw [V.imul]
    grind
/-- the law's loop in the field -/
structure Lst (V : GV g F) (k j n : Nat) (t found left : List (List (Int × Int))) (h : List Nat) : Prop where
  fr : ∀ r ∈ found, r.length = n ∧ ∀ a ∈ r, TN g k a
  lr : ∀ r ∈ left, r.length = n ∧ ∀ a ∈ r, TN g k a
  rr : Rr (found.map (er V)) h
  hd : ∀ p ∈ h, p < j
  hl : h.length ≤ j
  nul : ∀ r ∈ left, ∀ x, x < j → er V r x = 0
  sp1 : ∀ r ∈ found ++ left, InS (t.map (er V)) (er V r)
  sp2 : ∀ r ∈ t, InS ((found ++ left).map (er V)) (er V r)
theorem Lst.start {k n : Nat} {t : List (List (Int × Int))} (ht : ∀ r ∈ t, r.length = n ∧ ∀ a ∈ r, TN g k a) : Lst V k 0 n t [] t [] :=
  ⟨fun r hr => (by cases hr), ht, rr_nil, fun p hp => (by cases hp), Nat.le_refl _, fun r hr x hx => absurd hx (Nat.not_lt_zero _), fun r hr => InS.mem (List.mem_map.mpr ⟨r, hr, rfl⟩), fun r hr => InS.mem (List.mem_map.mpr ⟨r, hr, rfl⟩)⟩
theorem ga_at {r : List (Int × Int)} {j : Nat} (hj : j < r.length) : ga r j = r[j] := by
  unfold ga
  rw [List.getD_eq_getElem?_getD, List.getElem?_eq_getElem hj]
  rfl
theorem Lst.skip (hg : g = 0 ∨ Gr5 g) {k j n : Nat} {t found left : List (List (Int × Int))} {h : List Nat} (s : Lst V k j n t found left h) (hz : ∀ r ∈ left, ga r j = (0, 1)) : Lst V k (j + 1) n t found left h :=
  ⟨s.fr, s.lr, s.rr, fun p hp => Nat.lt_succ_of_lt (s.hd p hp), Nat.le_succ_of_le s.hl, fun r hr x hx => by
    by_cases e : x = j
    · subst e
      show V.e (ga r x) = 0
      rw [hz r hr]
      exact V.zero
    · exact s.nul r hr x (by omega), s.sp1, s.sp2⟩
theorem er_ga (r : List (Int × Int)) (j : Nat) : er V r j = V.e (ga r j) := rfl
theorem lhead_er (hg : g = 0 ∨ Gr5 g) {k j n : Nat} {r : List (Int × Int)} (hr : r.length = n ∧ ∀ a ∈ r, TN g k a) (hj : j < n) (hk : 4 ≤ k) (hne : ga r j ≠ (0, 1)) :
    er V r j ≠ 0 ∧ (∀ x, er V (lheadF g j r) x * er V r j = er V r x) ∧ (lheadF g j r).length = n ∧ ∀ a ∈ lheadF g j r, TN g (k + (4 + k)) a := by
  have hjl : j < r.length := by rw [hr.1]; exact hj
  have ta : TN g k (ga r j) := by rw [ga_at hjl]; exact hr.2 _ (List.getElem_mem hjl)
  have h1 : (ga r j).1 ≠ 0 := fun z => hne (V.inj hg ta (tn_zero hg) (by
    rw [V.zero]
    obtain ⟨e1, n1⟩ := V.tn hg ta
    rw [z, V.i0] at e1
    have e2 : V.i (ga r j).2 * V.e (ga r j) = 0 := by rw [← e1]; grind
    exact V.dom e2 n1))
  have ho : V.e (ovrF g (1, 1) (ga r j)) * V.e (ga r j) = 1 := by
    have := V.over hg (tn_one hg) ta h1
    rw [V.one] at this
    exact this
  have to := tn_ovr hg (tn_one hg) ta (Nat.le_refl 4) h1
  have hn : er V r j ≠ 0 := fun z => by
    rw [er_ga] at z
    rw [z] at ho
    exact V.ne (by rw [← ho]; grind)
  refine ⟨hn, fun x => ?_, by unfold lheadF; rw [List.length_map]; exact hr.1, fun a ha => ?_⟩
  · by_cases hx : x < r.length
    · have hx' : x < (lheadF g j r).length := by unfold lheadF; rw [List.length_map]; exact hx
      have e1 : (lheadF g j r)[x] = timesF g r[x] (ovrF g (1, 1) (ga r j)) := List.getElem_map ..
      rw [er_at hx', er_at hx, e1, V.times hg (hr.2 _ (List.getElem_mem hx)) to, er_ga]
      grind
    · rw [er_out (r := r) (j := x) (by omega), er_out (r := lheadF g j r) (j := x) (by unfold lheadF; rw [List.length_map]; omega)]
      grind
  · obtain ⟨x, hx, rfl⟩ := List.mem_map.mp ha
    exact tn_times hg (hr.2 x hx) to hk
theorem lclr_er (hg : g = 0 ∨ Gr5 g) {k l j n : Nat} {h r : List (Int × Int)} (hr : r.length = n ∧ ∀ a ∈ r, TN g k a) (hh : h.length = n ∧ ∀ a ∈ h, TN g l a) (hj : j < n) (hk : 4 ≤ k) (hl : 4 ≤ l) :
    er V (lclrF g j h r) = clr j (er V h) (er V r) ∧ (lclrF g j h r).length = n ∧ ∀ a ∈ lclrF g j h r, TN g (k + (l + k) + 1) a := by
  have hjl : j < r.length := by rw [hr.1]; exact hj
  have ta : TN g k (ga r j) := by rw [ga_at hjl]; exact hr.2 _ (List.getElem_mem hjl)
  have tm := tn_minus hg ta hk
  have hlen : (lclrF g j h r).length = n := by
    unfold lclrF
    rw [List.length_zipWith, List.length_map, hr.1, hh.1]
    omega
  have hget : ∀ x (hx : x < n), (lclrF g j h r)[x]'(by omega) = plusF g (r[x]'(by omega)) (timesF g (h[x]'(by omega)) (minusF g (ga r j))) := fun x hx => by
    unfold lclrF
    rw [List.getElem_zipWith, List.getElem_map]
  refine ⟨funext fun x => ?_, hlen, fun a ha => ?_⟩
  · unfold clr
    by_cases hx : x < n
    · have h1 : x < r.length := by omega
      have h2 : x < h.length := by omega
      have tr := hr.2 _ (List.getElem_mem h1)
      have th := hh.2 _ (List.getElem_mem h2)
      rw [er_at (show x < (lclrF g j h r).length by omega), hget x hx, er_at h1, er_at h2, V.plus hg tr (tn_times hg th tm hl), V.times hg th tm, V.minus hg ta, er_ga]
      grind
    · rw [er_out (show (lclrF g j h r).length ≤ x by omega), er_out (show r.length ≤ x by omega), er_out (show h.length ≤ x by omega)]
      grind
  · obtain ⟨x, hx, rfl⟩ := List.mem_iff_getElem.mp ha
    rw [hget x (by omega)]
    exact tn_plus hg (hr.2 _ (List.getElem_mem _)) (tn_times hg (hh.2 _ (List.getElem_mem _)) tm hl) hk
/-- a number of the ground by its parts -/
theorem tn_small (hg : g = 0 ∨ Gr5 g) {k l : Nat} {a : Int × Int} (h : TN g l a) (hk : 4 ≤ k) (hz : g = 0 → a.1.natAbs < 2 ^ k ∧ a.2.natAbs < 2 ^ k) : TN g k a := by
  rcases hg with e | h5
  · exact ⟨h.1, hz e⟩
  · have g0 : g ≠ 0 := by unfold Gr5 at h5; omega
    have h16 : 2 ^ 4 ≤ 2 ^ k := Nat.pow_le_pow_right (by decide) hk
    rcases h.1 with ⟨e, _⟩ | ⟨_, h1, h2, h3⟩
    · exact absurd e g0
    · refine ⟨h.1, ?_, ?_⟩
      · unfold Gr5 at h5
        have : a.1.natAbs < 16 := by omega
        omega
      · rw [h3]
        show 1 < 2 ^ k
        omega
theorem Lst.step (hg : g = 0 ∨ Gr5 g) {A k j n : Nat} {t found left : List (List (Int × Int))} {h : List Nat} (s : Lst V k j n t found left h) (hj : j < n) (hk : 4 ≤ k) (z : g = 0 → ∃ P c, c.length = h.length ∧ LSz V A P c found left) (hB : g = 0 → 1 ≤ A ∧ A * ((n + 1) * A) ^ (n + 1) < 2 ^ k) {v0 : List (Int × Int)} (hv0 : v0 ∈ left) (hne : ga v0 j ≠ (0, 1)) :
    (∀ a ∈ lheadF g j v0, TN g k a) ∧ Lst V k (j + 1) n t (found.map (lclrF g j (lheadF g j v0)) ++ [lheadF g j v0]) (left.map (lclrF g j (lheadF g j v0))) (h ++ [j]) ∧
    (g = 0 → ∃ P c, c.length = (h ++ [j]).length ∧ LSz V A P c (found.map (lclrF g j (lheadF g j v0)) ++ [lheadF g j v0]) (left.map (lclrF g j (lheadF g j v0)))) := by
  obtain ⟨hn0, hh, hhl, htH⟩ := lhead_er (V := V) hg (s.lr v0 hv0) hj hk hne
  generalize hH : lheadF g j v0 = H at *
  have all : ∀ r ∈ found ++ left, r.length = n ∧ ∀ a ∈ r, TN g k a := fun r hr => (List.mem_append.mp hr).elim (s.fr r) (s.lr r)
  have hf : ∀ r ∈ found ++ left, er V (lclrF g j H r) = clr j (er V H) (er V r) ∧ (lclrF g j H r).length = n ∧ ∀ a ∈ lclrF g j H r, TN g (k + (k + (4 + k) + k) + 1) a := fun r hr => lclr_er hg (all r hr) ⟨hhl, htH⟩ hj hk (by omega)
  have z' : g = 0 → ∃ P c, c.length = (h ++ [j]).length ∧ LSz V A P c (found.map (lclrF g j H) ++ [H]) (left.map (lclrF g j H)) := fun e => by
    obtain ⟨P, c, hc, zz⟩ := z e
    obtain ⟨P', c', hc', z2⟩ := zz.step e hv0 hn0 hh fun r hr => (hf r hr).1
    exact ⟨P', c', by rw [hc', hc, List.length_append]; rfl, z2⟩
  have big : ∀ r ∈ (found.map (lclrF g j H) ++ [H]) ++ left.map (lclrF g j H), ∀ a ∈ r, TN g (k + (k + (4 + k) + k) + 1) a := fun r hr => by
    rcases List.mem_append.mp hr with q | q
    · rcases List.mem_append.mp q with q | q
      · obtain ⟨u, hu, rfl⟩ := List.mem_map.mp q
        exact (hf u (List.mem_append_left _ hu)).2.2
      · rw [List.mem_singleton.mp q]
        exact fun a ha => (htH a ha).mono (by omega)
    · obtain ⟨u, hu, rfl⟩ := List.mem_map.mp q
      exact (hf u (List.mem_append_right _ hu)).2.2
  have sm : ∀ r ∈ (found.map (lclrF g j H) ++ [H]) ++ left.map (lclrF g j H), ∀ a ∈ r, TN g k a := fun r hr a ha => by
    refine tn_small hg (big r hr a ha) hk fun e => ?_
    obtain ⟨P, c, hc, zz⟩ := z' e
    obtain ⟨hA, hb⟩ := hB e
    have hcn : c.length ≤ n := by
      rw [hc, List.length_append]
      have := s.hl
      show h.length + 1 ≤ n
      omega
    have := zz.bound hg e hcn hA r hr (big r hr) a ha
    omega
  have hb1 : er V H j = 1 := by
    refine V.cancel (z := er V v0 j) ?_ hn0
    rw [hh j]
    grind
  have hb0 : ∀ x, x < j → er V H x = 0 := fun x hx => by
    refine V.dom (x := er V v0 j) ?_ hn0
    have := hh x
    rw [s.nul v0 hv0 x hx] at this
    rw [← this]
    grind
  have hR := s.rr.step (k := j) (b := er V H) s.hd hb1 hb0
  have hmap : (found.map (lclrF g j H) ++ [H]).map (er V) = (found.map (er V)).map (clr j (er V H)) ++ [er V H] := by
    rw [List.map_append, List.map_map, List.map_map]
    congr 1
    exact List.map_congr_left fun r hr => (hf r (List.mem_append_left _ hr)).1
  have hH1 : InS (t.map (er V)) (er V H) := by
    obtain ⟨y, hy⟩ := V.inv _ hn0
    have e : er V H = fun x => y * er V v0 x := funext fun x => by
      rw [← hh x]
      grind
    rw [e]
    exact (InS.spc _).mul y _ (s.sp1 v0 (List.mem_append_right _ hv0))
  refine ⟨fun a ha => sm H (List.mem_append_left _ (List.mem_append_right _ (List.mem_singleton.mpr rfl))) a ha, ⟨fun r hr => ⟨?_, sm r (List.mem_append_left _ hr)⟩, fun r hr => ⟨?_, sm r (List.mem_append_right _ hr)⟩, by rw [hmap]; exact hR, fun p hp => ?_, ?_, fun r hr x hx => ?_, fun r hr => ?_, fun r hr => ?_⟩, z'⟩
  · rcases List.mem_append.mp hr with q | q
    · obtain ⟨u, hu, rfl⟩ := List.mem_map.mp q
      exact (hf u (List.mem_append_left _ hu)).2.1
    · rw [List.mem_singleton.mp q]
      exact hhl
  · obtain ⟨u, hu, rfl⟩ := List.mem_map.mp hr
    exact (hf u (List.mem_append_right _ hu)).2.1
  · rcases List.mem_append.mp hp with q | q
    · exact Nat.lt_succ_of_lt (s.hd p q)
    · rw [List.mem_singleton.mp q]
      exact Nat.lt_succ_self _
  · rw [List.length_append]
    have := s.hl
    show h.length + 1 ≤ j + 1
    omega
  · obtain ⟨u, hu, rfl⟩ := List.mem_map.mp hr
    rw [(hf u (List.mem_append_right _ hu)).1]
    by_cases e : x = j
    · subst e
      exact clr_at hb1
    · rw [clr_nul (hb0 x (by omega))]
      exact s.nul u hu x (by omega)
  · rcases List.mem_append.mp hr with q | q
    · rcases List.mem_append.mp q with q | q
      · obtain ⟨u, hu, rfl⟩ := List.mem_map.mp q
        rw [(hf u (List.mem_append_left _ hu)).1]
        exact clr_span (L := []) hH1 (s.sp1 u (List.mem_append_left _ hu))
      · rw [List.mem_singleton.mp q]
        exact hH1
    · obtain ⟨u, hu, rfl⟩ := List.mem_map.mp q
      rw [(hf u (List.mem_append_right _ hu)).1]
      exact clr_span (L := []) hH1 (s.sp1 u (List.mem_append_right _ hu))
  · refine (s.sp2 r hr).trans fun v hv => ?_
    obtain ⟨u, hu, rfl⟩ := List.mem_map.mp hv
    have hHm : InS (((found.map (lclrF g j H) ++ [H]) ++ left.map (lclrF g j H)).map (er V)) (er V H) := InS.mem (List.mem_map.mpr ⟨H, List.mem_append_left _ (List.mem_append_right _ (List.mem_singleton.mpr rfl)), rfl⟩)
    refine clr_back (k := j) hHm ?_
    rw [← (hf u hu).1]
    refine InS.mem (List.mem_map.mpr ⟨lclrF g j H u, ?_, rfl⟩)
    rcases List.mem_append.mp hu with q | q
    · exact List.mem_append_left _ (List.mem_append_left _ (List.mem_map.mpr ⟨u, q, rfl⟩))
    · exact List.mem_append_right _ (List.mem_map.mpr ⟨u, q, rfl⟩)
theorem Lst.done {k n : Nat} {t found left : List (List (Int × Int))} {h : List Nat} (s : Lst V k n n t found left h) : LeastR V n k t found := by
  refine ⟨s.fr, ⟨h, s.rr, s.hd⟩, fun r hr => s.sp1 r (List.mem_append_left _ hr), fun r hr => ?_⟩
  have h1 := s.sp2 r hr
  rw [List.map_append] at h1
  refine ins_nought h1 fun u hu => ?_
  obtain ⟨v, hv, rfl⟩ := List.mem_map.mp hu
  funext x
  by_cases hx : x < n
  · exact s.nul v hv x hx
  · exact er_out (by rw [(s.lr v hv).1]; omega)
end
end Fm

namespace Fm
open Lean.Grind PySem L2 Fr Fd
/-! ### rows beside ones; nought rows -/
def besF (t : List (List (Int × Int))) : List (List (Int × Int)) := List.zipWith (· ++ ·) t (onesF t.length)
section
variable {g : Int} {F : Type} [CommRing F]
/-- rows that are least ones, of numbers below 2^k -/
def LeastS (V : GV g F) (n k : Nat) (T : List (List (Int × Int))) : Prop := (∀ r ∈ T, r.length = n ∧ ∀ a ∈ r, TN g k a) ∧ ∃ h, Rr (T.map (er V)) h ∧ ∀ p ∈ h, p < n
theorem LeastR.ls {V : GV g F} {n k : Nat} {t T : List (List (Int × Int))} (h : LeastR V n k t T) : LeastS V n k T := ⟨h.row, h.rr⟩
/-- the same, told by the numbers alone -/
structure LeastN (n : Nat) (T : List (List (Int × Int))) (h : List Nat) : Prop where
  len : T.length = h.length
  row : ∀ r ∈ T, r.length = n
  inc : ∀ (i k p q : Nat), h[i]? = some p → h[k]? = some q → i < k → p < q
  lt : ∀ p ∈ h, p < n
  one : ∀ (i : Nat) (a : List (Int × Int)) (p : Nat), T[i]? = some a → h[i]? = some p → ga a p = (1, 1)
  nul : ∀ (i k : Nat) (a : List (Int × Int)) (p : Nat), T[i]? = some a → h[k]? = some p → i ≠ k → ga a p = (0, 1)
  ahead : ∀ (i : Nat) (a : List (Int × Int)) (p j : Nat), T[i]? = some a → h[i]? = some p → j < p → ga a j = (0, 1)
variable {V : GV g F}
theorem ga_tn (hg : g = 0 ∨ Gr5 g) {n k : Nat} {r : List (Int × Int)} (hr : ∀ a ∈ r, TN g k a) (hk : 4 ≤ k) (j : Nat) : TN g k (ga r j) := by
  by_cases hj : j < r.length
  · rw [ga_at hj]
    exact hr _ (List.getElem_mem hj)
  · have : ga r j = (0, 1) := by
      unfold ga
      rw [List.getD_eq_getElem?_getD, List.getElem?_eq_none (by omega)]
      rfl
    rw [this]
    exact (tn_zero hg).mono hk
theorem LeastS.num (hg : g = 0 ∨ Gr5 g) {n k : Nat} {T : List (List (Int × Int))} (h : LeastS V n k T) (hk : 4 ≤ k) : ∃ h, LeastN n T h := by
  obtain ⟨hrow, h, R, hlt⟩ := h
  have look : ∀ (i : Nat) (a : List (Int × Int)), T[i]? = some a → (T.map (er V))[i]? = some (er V a) ∧ a ∈ T := fun i a e => ⟨by rw [List.getElem?_map, e]; rfl, List.mem_of_getElem? e⟩
  refine ⟨h, by have := R.len; rw [List.length_map] at this; exact this, fun r hr => (hrow r hr).1, R.inc, hlt, fun i a p ha hp => ?_, fun i q a p ha hp hne => ?_, fun i a p j ha hp hj => ?_⟩
  · obtain ⟨h1, h2⟩ := look i a ha
    refine V.inj hg (ga_tn hg (n := n) (hrow a h2).2 hk p) (tn_one hg) ?_
    rw [V.one]
    exact R.one i _ p h1 hp
  · obtain ⟨h1, h2⟩ := look i a ha
    refine V.inj hg (ga_tn hg (n := n) (hrow a h2).2 hk p) (tn_zero hg) ?_
    rw [V.zero]
    exact R.nul i q _ p h1 hp hne
  · obtain ⟨h1, h2⟩ := look i a ha
    refine V.inj hg (ga_tn hg (n := n) (hrow a h2).2 hk j) (tn_zero hg) ?_
    rw [V.zero]
    exact R.ahead i _ p j h1 hp hj
theorem ones_get {m i : Nat} (hi : i < m) : (onesF m)[i]? = some ((List.range m).map fun j => (if i = j then 1 else 0, 1)) := by
  unfold onesF
  rw [List.getElem?_map, List.getElem?_range hi]
  rfl
theorem bes_len (t : List (List (Int × Int))) : (besF t).length = t.length := by
  unfold besF onesF
  rw [List.length_zipWith, List.length_map, List.length_range]
  omega
theorem bes_get {t : List (List (Int × Int))} {i : Nat} {r : List (Int × Int)} (h : t[i]? = some r) : (besF t)[i]? = some (r ++ (List.range t.length).map fun j => (if i = j then 1 else 0, 1)) := by
  have hi := (List.getElem?_eq_some_iff.mp h).1
  unfold besF
  rw [List.getElem?_zipWith, h, ones_get hi]
theorem bes_mem {t : List (List (Int × Int))} {u : List (Int × Int)} (h : u ∈ besF t) : ∃ i r, t[i]? = some r ∧ i < t.length ∧ u = r ++ (List.range t.length).map fun j => (if i = j then 1 else 0, 1) := by
  obtain ⟨i, hi⟩ := List.getElem?_of_mem h
  have hl := (List.getElem?_eq_some_iff.mp hi).1
  rw [bes_len] at hl
  have ht : t[i]? = some t[i] := List.getElem?_eq_getElem hl
  rw [bes_get ht] at hi
  exact ⟨i, _, ht, hl, (Option.some.inj hi).symm⟩
theorem ga_left {r s : List (Int × Int)} {x : Nat} (h : x < r.length) : ga (r ++ s) x = ga r x := by
  unfold ga
  rw [List.getD_eq_getElem?_getD, List.getD_eq_getElem?_getD, List.getElem?_append_left h]
theorem ga_right {r s : List (Int × Int)} {n x : Nat} (h : r.length = n) : ga (r ++ s) (n + x) = ga s x := by
  unfold ga
  rw [List.getD_eq_getElem?_getD, List.getD_eq_getElem?_getD, List.getElem?_append_right (by omega), h, Nat.add_sub_cancel_left]
theorem ga_ones {m i x : Nat} (hx : x < m) : ga ((List.range m).map fun j => ((if i = j then 1 else 0 : Int), (1 : Int))) x = (if i = x then 1 else 0, 1) := by
  unfold ga
  rw [List.getD_eq_getElem?_getD, List.getElem?_map, List.getElem?_range hx]
  rfl
theorem er_ones {m i x : Nat} (hx : x < m) : er V ((List.range m).map fun j => ((if i = j then 1 else 0 : Int), (1 : Int))) x = if i = x then 1 else 0 := by
  rw [er_ga, ga_ones hx]
  split
  · exact V.one
  · exact V.zero
theorem er_take {r : List (Int × Int)} {n x : Nat} (h : x < n) : er V (r.take n) x = er V r x := by
  rw [er_ga, er_ga]
  unfold ga
  rw [List.getD_eq_getElem?_getD, List.getD_eq_getElem?_getD, List.getElem?_take, if_pos h]
theorem er_takeO {r : List (Int × Int)} {n x : Nat} (h : n ≤ x) : er V (r.take n) x = 0 := er_out (by rw [List.length_take]; omega)
theorem er_drop {r : List (Int × Int)} {n x : Nat} : er V (r.drop n) x = er V r (n + x) := by
  rw [er_ga, er_ga]
  unfold ga
  rw [List.getD_eq_getElem?_getD, List.getD_eq_getElem?_getD, List.getElem?_drop]
/-- a row's first n places -/
def rst (n : Nat) (u : Row F) : Row F := fun x => if x < n then u x else 0
theorem rst_er {r : List (Int × Int)} {n : Nat} : rst n (er V r) = er V (r.take n) := by
  funext x
  unfold rst
  split
  · rename_i h
    exact (er_take h).symm
  · rename_i h
    exact (er_takeO (by omega)).symm
theorem rst_spc {n : Nat} {L : List (Row F)} : Spc fun u => InS L (rst n u) := by
  have s := InS.spc L
  refine ⟨?_, fun u v hu hv => ?_, fun c u hu => ?_⟩
  · have e : rst n (fun _ => (0 : F)) = fun _ => 0 := by funext x; unfold rst; split <;> rfl
    show InS L (rst n fun _ => 0)
    rw [e]
    exact s.zero
  · have e : rst n (fun j => u j + v j) = fun j => rst n u j + rst n v j := by
      funext x
      unfold rst
      split
      · rfl
      · grind
    show InS L (rst n fun j => u j + v j)
    rw [e]
    exact s.add _ _ hu hv
  · have e : rst n (fun j => c * u j) = fun j => c * rst n u j := by
      funext x
      unfold rst
      split
      · rfl
      · grind
    show InS L (rst n fun j => c * u j)
    rw [e]
    exact s.mul c _ hu
/-- heads ahead of a column come first -/
theorem cut_heads (n : Nat) : ∀ (h : List Nat), (∀ (i k p q : Nat), h[i]? = some p → h[k]? = some q → i < k → p < q) → ∃ s, s ≤ h.length ∧ ∀ (i p : Nat), h[i]? = some p → (i < s ↔ p < n)
  | [], _ => ⟨0, Nat.le_refl _, fun i p e => by simp at e⟩
  | p :: h, hi => by
    by_cases hp : p < n
    · obtain ⟨s, hs, hx⟩ := cut_heads n h fun i k a b ha hb hik => hi (i + 1) (k + 1) a b ha hb (by omega)
      refine ⟨s + 1, by rw [List.length_cons]; omega, fun i q e => ?_⟩
      cases i with
      | zero =>
        have : p = q := Option.some.inj e
        subst this
        exact ⟨fun _ => hp, fun _ => Nat.succ_pos _⟩
      | succ i =>
        have := hx i q e
        omega
    · refine ⟨0, Nat.zero_le _, fun i q e => ⟨fun z => absurd z (Nat.not_lt_zero _), fun z => ?_⟩⟩
      cases i with
      | zero =>
        have : p = q := Option.some.inj e
        omega
      | succ i =>
        have := hi 0 (i + 1) p q rfl e (by omega)
        omega
/-- the least rows of rows beside ones -/
theorem bes_least (hg : g = 0 ∨ Gr5 g) {n k : Nat} {t T : List (List (Int × Int))} (ht : ∀ r ∈ t, r.length = n) (L : LeastR V (n + t.length) k (besF t) T) :
    T.length = t.length ∧ ∃ s, s ≤ T.length ∧ (∀ (i : Nat) (r : List (Int × Int)), T[i]? = some r → (s ≤ i ↔ ∀ x, x < n → er V r x = 0)) ∧ LeastR V n k t ((T.take s).map fun r => r.take n) ∧ LeastS V t.length k ((T.drop s).map fun r => r.drop n) ∧
    ∀ r ∈ (T.drop s).map (fun r => r.drop n), ∀ x, x < n → lin (r.map V.e) (t.map (er V)) x = 0 := by
  obtain ⟨h, R, hlt⟩ := L.rr
  have hTl : T.length = h.length := by
    have := R.len
    rw [List.length_map] at this
    exact this
  have eL : ∀ (i : Nat) (r : List (Int × Int)), t[i]? = some r → ∀ x, x < n → er V (r ++ (List.range t.length).map fun j => (if i = j then 1 else 0, 1)) x = er V r x := fun i r hr x hx => by
    rw [er_ga, ga_left (by rw [ht r (List.mem_of_getElem? hr)]; exact hx), er_ga]
  have eR : ∀ (i : Nat) (r : List (Int × Int)), t[i]? = some r → ∀ x, x < t.length → er V (r ++ (List.range t.length).map fun j => (if i = j then 1 else 0, 1)) (n + x) = if i = x then 1 else 0 := fun i r hr x hx => by
    rw [er_ga, ga_right (ht r (List.mem_of_getElem? hr)), ← er_ga, er_ones hx]
  -- as many as rows
  have hT : T.length = t.length := by
    refine Nat.le_antisymm ?_ ?_
    · have := ind_le V.inv (R.ind V.ne) (L := (besF t).map (er V)) fun v hv => by
        obtain ⟨r, hr, rfl⟩ := List.mem_map.mp hv
        exact L.s1 r hr
      rw [List.length_map, List.length_map, bes_len] at this
      exact this
    · have hi : Ind ((besF t).map (er V)) := ind_of _ fun i v hv => by
        have hi2 := (List.getElem?_eq_some_iff.mp hv).1
        rw [List.length_map, bes_len] at hi2
        have e1 := bes_get (List.getElem?_eq_getElem hi2)
        rw [List.getElem?_map, e1] at hv
        have hv' := (Option.some.inj hv).symm
        refine ⟨n + i, ?_, fun q u hq hu => ?_⟩
        · rw [hv', eR i _ (List.getElem?_eq_getElem hi2) i hi2, if_pos rfl]
          exact V.ne
        · have hq2 := (List.getElem?_eq_some_iff.mp hu).1
          rw [List.length_map, bes_len] at hq2
          have e2 := bes_get (List.getElem?_eq_getElem hq2)
          rw [List.getElem?_map, e2] at hu
          rw [(Option.some.inj hu).symm, eR q _ (List.getElem?_eq_getElem hq2) i hi2, if_neg (by omega)]
      have := ind_le V.inv hi (L := T.map (er V)) fun v hv => by
        obtain ⟨r, hr, rfl⟩ := List.mem_map.mp hv
        exact L.s2 r hr
      rw [List.length_map, List.length_map, bes_len] at this
      exact this
  obtain ⟨s, hs, hcut⟩ := cut_heads n h R.inc
  have hget : ∀ (i : Nat) (r : List (Int × Int)), T[i]? = some r → (T.map (er V))[i]? = some (er V r) ∧ ∃ p, h[i]? = some p ∧ p < n + t.length := fun i r e => by
    have hi := (List.getElem?_eq_some_iff.mp e).1
    have hp : h[i]? = some (h[i]'(by omega)) := List.getElem?_eq_getElem _
    exact ⟨by rw [List.getElem?_map, e]; rfl, _, hp, hlt _ (List.mem_of_getElem? hp)⟩
  have hiff : ∀ (i : Nat) (r : List (Int × Int)), T[i]? = some r → (s ≤ i ↔ ∀ x, x < n → er V r x = 0) := fun i r e => by
    obtain ⟨e1, p, hp, hpl⟩ := hget i r e
    have hc := hcut i p hp
    constructor
    · intro hsi x hx
      exact R.ahead i _ p x e1 hp (by omega)
    · intro hz
      refine Nat.le_of_not_lt fun hlt' => ?_
      have := hz p (hc.mp hlt')
      rw [R.one i _ p e1 hp] at this
      exact V.ne this
  have hdrop : ∀ r ∈ T.drop s, r ∈ T ∧ ∀ x, x < n → er V r x = 0 := fun r hr => by
    obtain ⟨i, hi⟩ := List.getElem?_of_mem hr
    rw [List.getElem?_drop] at hi
    exact ⟨List.mem_of_getElem? hi, (hiff _ r hi).mp (by omega)⟩
  refine ⟨hT, s, by omega, hiff, ⟨fun r hr => ?_, ⟨h.take s, ⟨?_, fun i q a b ha hb hiq => ?_, fun i a p ha hp => ?_, fun i q a p ha hp hne => ?_, fun i a p j ha hp hj => ?_⟩, fun p hp => ?_⟩, fun r hr => ?_, fun r hr => ?_⟩, ⟨fun r hr => ?_, (h.drop s).map (fun p => p - n), ⟨?_, fun i q a b ha hb hiq => ?_, fun i a p ha hp => ?_, fun i q a p ha hp hne => ?_, fun i a p j ha hp hj => ?_⟩, fun p hp => ?_⟩, fun r hr x hx => ?_⟩
  · obtain ⟨u, hu, rfl⟩ := List.mem_map.mp hr
    have := L.row u (List.mem_of_mem_take hu)
    exact ⟨by rw [List.length_take, this.1]; omega, fun a ha => this.2 a (List.mem_of_mem_take ha)⟩
  · rw [List.length_map, List.length_map, List.length_take, List.length_take]
    omega
  · rw [List.getElem?_take] at ha hb
    split at ha
    · split at hb
      · exact R.inc i q a b ha hb hiq
      · cases hb
    · cases ha
  · rw [List.getElem?_map, List.getElem?_map] at ha
    rw [List.getElem?_take] at hp
    split at hp
    · rename_i hi
      rw [List.getElem?_take, if_pos hi] at ha
      cases e : T[i]? with
      | none => rw [e] at ha; cases ha
      | some r =>
        rw [e] at ha
        have ea : a = er V (r.take n) := (Option.some.inj ha).symm
        rw [ea, er_take ((hcut i p hp).mp hi)]
        exact R.one i _ p (hget i r e).1 hp
    · cases hp
  · rw [List.getElem?_map, List.getElem?_map] at ha
    rw [List.getElem?_take] at hp
    split at hp
    · rename_i hq
      cases e : (T.take s)[i]? with
      | none => rw [e] at ha; cases ha
      | some r =>
        rw [e] at ha
        have ea : a = er V (r.take n) := (Option.some.inj ha).symm
        rw [List.getElem?_take] at e
        split at e
        · rw [ea, er_take ((hcut q p hp).mp hq)]
          exact R.nul i q _ p (hget i r e).1 hp hne
        · cases e
    · cases hp
  · rw [List.getElem?_map, List.getElem?_map] at ha
    rw [List.getElem?_take] at hp
    split at hp
    · rename_i hi
      rw [List.getElem?_take, if_pos hi] at ha
      cases e : T[i]? with
      | none => rw [e] at ha; cases ha
      | some r =>
        rw [e] at ha
        have ea : a = er V (r.take n) := (Option.some.inj ha).symm
        have := (hcut i p hp).mp hi
        rw [ea, er_take (by omega)]
        exact R.ahead i _ p j (hget i r e).1 hp hj
    · cases hp
  · obtain ⟨i, hi⟩ := List.getElem?_of_mem hp
    rw [List.getElem?_take] at hi
    split at hi
    · rename_i h1
      exact (hcut i p hi).mp h1
    · cases hi
  · obtain ⟨u, hu, rfl⟩ := List.mem_map.mp hr
    have h1 := L.s1 u (List.mem_of_mem_take hu) _ (rst_spc (n := n) (L := t.map (er V))) fun v hv => by
      obtain ⟨w, hw, rfl⟩ := List.mem_map.mp hv
      obtain ⟨i, r, hr, hi, rfl⟩ := bes_mem hw
      have e : rst n (er V (r ++ (List.range t.length).map fun j => (if i = j then 1 else 0, 1))) = er V r := by
        funext x
        unfold rst
        split
        · rename_i hx
          exact eL i r hr x hx
        · exact (er_out (by rw [ht r (List.mem_of_getElem? hr)]; omega)).symm
      rw [e]
      exact InS.mem (List.mem_map.mpr ⟨r, List.mem_of_getElem? hr, rfl⟩)
    rw [rst_er] at h1
    exact h1
  · obtain ⟨i, hi⟩ := List.getElem?_of_mem hr
    have hil := (List.getElem?_eq_some_iff.mp hi).1
    have h1 := L.s2 _ (List.mem_of_getElem? (bes_get hi)) _ (rst_spc (n := n) (L := ((T.take s).map fun r => r.take n).map (er V))) fun v hv => by
      obtain ⟨w, hw, rfl⟩ := List.mem_map.mp hv
      rw [rst_er]
      rw [← List.take_append_drop s T] at hw
      rcases List.mem_append.mp hw with q | q
      · exact InS.mem (List.mem_map.mpr ⟨_, List.mem_map.mpr ⟨w, q, rfl⟩, rfl⟩)
      · have e : er V (w.take n) = fun _ => 0 := by
          funext x
          by_cases hx : x < n
          · rw [er_take hx]
            exact (hdrop w q).2 x hx
          · exact er_takeO (by omega)
        rw [e]
        exact (InS.spc _).zero
    have e : rst n (er V (r ++ (List.range t.length).map fun j => (if i = j then 1 else 0, 1))) = er V r := by
      funext x
      unfold rst
      split
      · rename_i hx
        exact eL i r hi x hx
      · exact (er_out (by rw [ht r hr]; omega)).symm
    rw [e] at h1
    exact h1
  · obtain ⟨u, hu, rfl⟩ := List.mem_map.mp hr
    have := L.row u (List.mem_of_mem_drop hu)
    exact ⟨by rw [List.length_drop, this.1]; omega, fun a ha => this.2 a (List.mem_of_mem_drop ha)⟩
  · rw [List.length_map, List.length_map, List.length_map, List.length_drop, List.length_drop]
    omega
  · rw [List.getElem?_map, List.getElem?_drop] at ha hb
    cases e1 : h[s + i]? with
    | none => rw [e1] at ha; cases ha
    | some p =>
      cases e2 : h[s + q]? with
      | none => rw [e2] at hb; cases hb
      | some p' =>
        rw [e1] at ha
        rw [e2] at hb
        have ea := (Option.some.inj ha)
        have eb := (Option.some.inj hb)
        have := R.inc _ _ p p' e1 e2 (by omega)
        have := hcut _ p e1
        have := hcut _ p' e2
        simp only at ea eb
        omega
  · rw [List.getElem?_map, List.getElem?_map, List.getElem?_drop] at ha
    rw [List.getElem?_map, List.getElem?_drop] at hp
    cases e1 : h[s + i]? with
    | none => rw [e1] at hp; cases hp
    | some p' =>
      cases e2 : T[s + i]? with
      | none => rw [e2] at ha; cases ha
      | some r =>
        rw [e1] at hp
        rw [e2] at ha
        have ea : a = er V (r.drop n) := (Option.some.inj ha).symm
        have ep : p' - n = p := Option.some.inj hp
        have := hcut _ p' e1
        rw [ea, er_drop, show n + p = p' by omega]
        exact R.one _ _ p' (hget _ r e2).1 e1
  · rw [List.getElem?_map, List.getElem?_map, List.getElem?_drop] at ha
    rw [List.getElem?_map, List.getElem?_drop] at hp
    cases e1 : h[s + q]? with
    | none => rw [e1] at hp; cases hp
    | some p' =>
      cases e2 : T[s + i]? with
      | none => rw [e2] at ha; cases ha
      | some r =>
        rw [e1] at hp
        rw [e2] at ha
        have ea : a = er V (r.drop n) := (Option.some.inj ha).symm
        have ep : p' - n = p := Option.some.inj hp
        have := hcut _ p' e1
        rw [ea, er_drop, show n + p = p' by omega]
        exact R.nul _ _ _ p' (hget _ r e2).1 e1 (by omega)
  · rw [List.getElem?_map, List.getElem?_map, List.getElem?_drop] at ha
    rw [List.getElem?_map, List.getElem?_drop] at hp
    cases e1 : h[s + i]? with
    | none => rw [e1] at hp; cases hp
    | some p' =>
      cases e2 : T[s + i]? with
      | none => rw [e2] at ha; cases ha
      | some r =>
        rw [e1] at hp
        rw [e2] at ha
        have ea : a = er V (r.drop n) := (Option.some.inj ha).symm
        have ep : p' - n = p := Option.some.inj hp
        have := hcut _ p' e1
        rw [ea, er_drop]
        exact R.ahead _ _ p' _ (hget _ r e2).1 e1 (by omega)
  · obtain ⟨q, hq, rfl⟩ := List.mem_map.mp hp
    obtain ⟨i, hi⟩ := List.getElem?_of_mem hq
    rw [List.getElem?_drop] at hi
    have := hcut _ q hi
    have := hlt q (List.mem_of_getElem? hi)
    show q - n < t.length
    omega
  · obtain ⟨u, hu, rfl⟩ := List.mem_map.mp hr
    obtain ⟨huT, hz⟩ := hdrop u hu
    have hul := (L.row u huT).1
    have h1 := L.s1 u huT (fun w => ∀ x, x < n → w x = lin ((List.range t.length).map fun i => w (n + i)) (t.map (er V)) x) ⟨fun x _ => ?_, fun a b ha hb x hx => ?_, fun c a ha x hx => ?_⟩ fun v hv => ?_
    · have h2 := h1 x hx
      rw [hz x hx] at h2
      have e : (u.drop n).map V.e = (List.range t.length).map fun i => er V u (n + i) := by
        refine List.ext_getElem? fun i => ?_
        rw [List.getElem?_map, List.getElem?_map, List.getElem?_drop]
        by_cases hi : i < t.length
        · rw [List.getElem?_range hi]
          show Option.map V.e u[n + i]? = some (er V u (n + i))
          rw [List.getElem?_eq_getElem (show n + i < u.length by omega), er_at (show n + i < u.length by omega)]
          rfl
        · rw [List.getElem?_eq_none (by omega), List.getElem?_eq_none (by rw [List.length_range]; omega)]
          rfl
      rw [e]
      exact h2.symm
    · have := lin_zero (F := F) (List.range t.length) (t.map (er V))
      rw [this]
    · have := lin_add (fun i => a (n + i)) (fun i => b (n + i)) (List.range t.length) (t.map (er V))
      rw [this]
      show a x + b x = _ + _
      rw [← ha x hx, ← hb x hx]
    · have := lin_mul c (fun i => a (n + i)) (List.range t.length) (t.map (er V))
      rw [this]
      show c * a x = c * _
      rw [← ha x hx]
    · obtain ⟨w, hw, rfl⟩ := List.mem_map.mp hv
      obtain ⟨i, r, hr, hi, rfl⟩ := bes_mem hw
      intro x hx
      rw [eL i r hr x hx]
      have := lin_unit i (t.map (er V)) (List.range t.length) (fun j => er V (r ++ (List.range t.length).map fun j => (if i = j then 1 else 0, 1)) (n + j)) (er V r) (by rw [List.length_map, List.length_range]) (by rw [List.getElem?_map, hr]; rfl) (fun q p hq hne => ?_) (fun p hp => ?_)
      · rw [this]
      · have hq2 := (List.getElem?_eq_some_iff.mp hq).1
        rw [List.length_range] at hq2
        rw [List.getElem?_range hq2] at hq
        have : q = p := Option.some.inj hq
        subst this
        show er V _ (n + q) = 0
        rw [eR i r hr q hq2, if_neg (fun z => hne z.symm)]
      · rw [List.getElem?_range hi] at hp
        have : i = p := Option.some.inj hp
        subst this
        show er V _ (n + i) = 1
        rw [eR i r hr i hi, if_pos rfl]
end
end Fm

namespace L2
open PySem PySem.Spec PyProof.Rows
/-! ### len(set(xs)) of whole numbers none of which is there twice -/
theorem met_nodup {ns : List Int} (h : ns.Nodup) : ∀ i, i ≤ ns.length → firstMet (fun i => ns.getD i 0) i = ns.take i
  | 0, _ => rfl
  | i + 1, hi => by
    have ih := met_nodup h i (by omega)
    rw [firstMet_succ, ih]
    have hg : ns.getD i 0 = ns[i]'(by omega) := by rw [List.getD_eq_getElem?_getD, List.getElem?_eq_getElem (by omega)]; rfl
    unfold step_dedup
    rw [if_neg, hg, List.take_add_one, List.getElem?_eq_getElem (by omega)]
    · rfl
    · intro z
      obtain ⟨x, hx, e⟩ := List.any_eq_true.mp z
      have e' : x = ns[i]'(by omega) := by rw [← hg]; exact eq_of_beq e
      obtain ⟨j, hj, ej⟩ := List.mem_iff_getElem.mp hx
      rw [List.length_take] at hj
      rw [List.getElem_take] at ej
      have := (List.getElem_inj h).mp (ej.trans e')
      omega
def tLenSetI (K : PySem.W.Frag) (ta : TE) : TE := fun σ H Q => ta σ H fun x H1 => ∃ (l : Addr) (ns : List Int), x = .ref l ∧ SqL K H1 l (ns.map V.int) ∧ ns.Nodup ∧ ns.length ≤ 1000 ∧ Q (.int (ns.length : Int)) H1
section
variable {X : Cx}
theorem pe_lenSetI {a : Expr} {ta : TE} {p p2 q pos : Pos} (hc : X.calm = true) (hg : Gl X "len") (hm : X.mg "len" = none) (hg2 : Gl X "set") (hm2 : X.mg "set" = none) (ha : PE X a ta)
    (na : starEach [a] X.env = (false, eval a X.env) :: starEach [] X.env := by rfl) : PE X (.Call (.Name "len" p) [.Call (.Name "set" p2) [a] [] q] [] pos) (tLenSetI X.K ta) := by
  refine ⟨fun pins s σ H Q I h => ?_⟩
  refine Call_ (ld_blt I hg hm boot_len ?_)
  refine PyProof.Rows.callWith_builtin1 (PyProof.Rows.args_cons ?_ rfl) rfl rfl
  refine Call_ (ld_blt I hg2 hm2 boot_set ?_)
  refine PyProof.Rows.callWith_type1 (PyProof.Rows.args_cons (thn (ha.run pins s σ H _ I h) fun v s1 ⟨x, H1, I1, r1, q1⟩ => PyProof.Rows.args_nil ?_) na) na rfl
  obtain ⟨l, ns, rfl, hq, hnd, hl, q1⟩ := q1
  cases r1
  obtain ⟨its, r, pl, hz⟩ := I1.list hq
  have hi : IntsAre its.toArray.toList ns := by
    have : its.toArray.toList = its := by simp
    rw [this]
    exact ints_of_vals r
  have hsz : its.toArray.size = ns.length := by rw [List.size_toArray, ← r.length, List.length_map]
  refine PySem.call_set_list (I1.ok.hd hc) pl.isList hi (by rw [hsz]; unfold scanBound; omega) fun h' tk hS hk => ?_
  refine PyProof.Rows.args_nil ?_
  rw [hsz, met_nodup hnd ns.length (Nat.le_refl _), List.take_length] at hS
  obtain ⟨o, es, ep, t, ho, hex, hd, _, _, _, hf, hn⟩ := hS
  have I2 : Inv X pins σ H1 { s1 with heap := h', toks := tk } := I1.kept fun b o e => hk b o (Heap.lt_size e) e
  refine call_len_set ho hex hd hf (by rw [hn] <;> omega) ⟨.int ns.length, H1, I2.tok _, ⟨_, by rw [hn]⟩, q1⟩
/-- a method's call where the written part is told by K -/
theorem pe_bmK {K : PySem.W.Frag} {T : String} {name : Str} {id : String} {r : V → List V → Hp → VK → Prop} {o e : Expr} {es : List Expr} {to : TE} {t : TA} {apos cpos : Pos} (hK : X.K = K) (pa : PlainAttrs T) (slot : Slot T name id) (hty : typeOf (.builtin id) = pure (.type "method_descriptor")) (hm : MtR X id r) (ho : PE X o to) (ha : PA X (e :: es) t)
    (hbase : attributeBase o name X.env (eval o X.env) = eval o X.env := by rfl)
    (hfew : ((backTo cpos (starEach (e :: es) X.env)).all (fun x => !x.1) && (backToKw cpos (keywordEach [] X.env)).all (fun x => x.1.isSome)
      && decide ((e :: es).length + ([] : List Keyword).length + (if ([] : List Keyword).isEmpty then 0 else 1) < 30)) = true := by rfl)
    (hline : (apos.endLine == cpos.line) = true := by rfl) (hs : starEach (e :: es) X.env = (false, eval e X.env) :: starEach es X.env := by rfl) (hplain : (backTo cpos (starEach es X.env)).any (·.1) = false := by rfl) :
    PE X (.Call (.Attribute o name apos) (e :: es) [] cpos) (tBM K T r to t) := by
  subst hK
  exact pe_bm pa slot hty hm ho ha hbase hfew hline hs hplain
end
end L2
namespace Fm
open L2
theorem w_lenSetI {K : PySem.W.Frag} {ta : TE} {σ : L2.St} {H : Hp} {Q : VK} (h : ta σ H fun x H1 => ∃ (l : PySem.Addr) (ns : List Int), x = .ref l ∧ SqL K H1 l (ns.map V.int) ∧ ns.Nodup ∧ ns.length ≤ 1000 ∧ Q (.int (ns.length : Int)) H1) : tLenSetI K ta σ H Q := h
end Fm

namespace Fm
open Lean.Grind PySem PySem.Spec PyProof.Rows L2 Fr Fd
/-! ### words for the law of least rows -/
theorem w_eqTab {K : PySem.W.Frag} {H : Hp} {Q : VK} {v v' : V} {t t' : List (List (Int × Int))} (h1 : TabV H v t) (h2 : TabV H v' t') (e : t = t') (q : Q (.bl true) H) : rEqD K v v' H Q := by
  subst e
  have l := lay_row t
  have c : PyData.canLay0 (.tuple (t.map rowD)) = true := by rw [PyData.canLay0]; exact l.1
  have d : PyData.depth (.tuple (t.map rowD)) ≤ 64 := by rw [PyData.depth]; have := l.2; omega
  refine ⟨_, _, TabV.dp h1, TabV.dp h2, shaped_of c d, shaped_of c d, ?_⟩
  rw [SeqAt.eqv_refl _ c]
  exact q
/-- a table and () -/
theorem w_eqTabNil {K : PySem.W.Frag} {H : Hp} {Q : VK} {v v' : V} {t : List (List (Int × Int))} (h1 : TabV H v t) (h2 : TabV H v' []) (q : Q (.bl (decide (t = []))) H) : rEqD K v v' H Q := by
  have l := lay_row t
  have c : PyData.canLay0 (.tuple (t.map rowD)) = true := by rw [PyData.canLay0]; exact l.1
  have d : PyData.depth (.tuple (t.map rowD)) ≤ 64 := by rw [PyData.depth]; have := l.2; omega
  refine ⟨_, _, TabV.dp h1, TabV.dp h2, shaped_of c d, shaped_of (by simp [PyData.canLay0, PyData.canLayAll0]) (by simp [PyData.depth, PyData.depthAll]), ?_⟩
  have e : PyData.eqv (.tuple (t.map rowD)) (.tuple (([] : List (List (Int × Int))).map rowD)) = decide (t = []) := by
    rw [PyData.eqv]
    cases t with
    | nil => simp [PyData.eqvAll]
    | cons a t => simp [PyData.eqvAll]
  rw [e]
  exact q
/-- the program's row over its head, over one bottom -/
theorem head_wr {w : List Int} (hd : hdF w ≠ 0) {k : Nat} (hb : ∀ x, (gt w x).natAbs < 2 ^ k) (hbh : (hdF w).natAbs < 2 ^ k) (hk : 4 ≤ k) : ∀ y ∈ wrT (headF 0 w), y.natAbs ≤ 2 ^ k := fun y hy => by
  have red : ∀ x : Int, x.natAbs < 2 ^ k → Red (lowF 0 x (hdF w)) ∧ (lowF 0 x (hdF w)).1 * hdF w = (lowF 0 x (hdF w)).2 * x := fun x hx => by
    have ht := tn_low (g := 0) (.inl rfl) hd (fun z => absurd rfl z) hk hx hbh
    refine ⟨ht.red, ei_z (V := gvQ) rfl ?_⟩
    have e1 := (gvQ.tn (.inl rfl) ht).1
    have e2 := gvQ.low (u := x) (.inl rfl) hd (fun z => absurd rfl z)
    rw [gvQ.imul, gvQ.imul, ← e1, ← e2]
    grind
  have hall : ∀ a ∈ headF 0 w, ∃ x, (∃ j, gt w j = x) ∧ a = lowF 0 x (hdF w) := fun a ha => by
    obtain ⟨x, hx, rfl⟩ := List.mem_map.mp ha
    obtain ⟨j, hj, e⟩ := List.mem_iff_getElem.mp hx
    exact ⟨x, ⟨j, by unfold gt; rw [List.getD_eq_getElem?_getD, List.getElem?_eq_getElem hj]; exact e⟩, rfl⟩
  have hpos : ∀ a ∈ headF 0 w, 0 < a.2 := fun a ha => by
    obtain ⟨x, ⟨j, rfl⟩, rfl⟩ := hall a ha
    exact (red _ (hb j)).1.1
  have hdv : wrB (headF 0 w) ∣ hdF w := (wrB_spec hpos).2.2 _ fun a ha => by
    obtain ⟨x, ⟨j, rfl⟩, rfl⟩ := hall a ha
    obtain ⟨h1, h2⟩ := red _ (hb j)
    exact dvd_cop h1.2 ⟨_, h2⟩
  obtain ⟨a, ha, rfl⟩ := List.mem_map.mp hy
  obtain ⟨q, hq⟩ := (wrB_spec hpos).2.1 a ha
  have ap := hpos a ha
  obtain ⟨x, ⟨j, rfl⟩, e⟩ := hall a ha
  obtain ⟨h1, h2⟩ := red _ (hb j)
  rw [← e] at h2
  have f1 : (wrB (headF 0 w)).fdiv a.2 = q := by
    rw [hq]
    exact Int.mul_fdiv_cancel_left _ (by omega)
  show (a.1 * (wrB (headF 0 w)).fdiv a.2).natAbs ≤ 2 ^ k
  rw [f1]
  -- (a.1 * q) * hd = wrB * x
  have e3 : a.1 * q * hdF w = wrB (headF 0 w) * gt w j := by
    rw [hq]
    have : a.1 * q * hdF w = q * (a.1 * hdF w) := by grind
    rw [this, h2]
    grind
  obtain ⟨c, hc⟩ := hdv
  have hB : wrB (headF 0 w) ≠ 0 := by have := (wrB_spec hpos).1; omega
  have e4 : a.1 * q * c = gt w j := by
    refine Int.eq_of_mul_eq_mul_left hB ?_
    have h5 : a.1 * q * hdF w = a.1 * q * (wrB (headF 0 w) * c) := by rw [← hc]
    rw [h5] at e3
    rw [← e3]
    grind
  have c0 : c ≠ 0 := fun z => hd (by rw [hc, z, Int.mul_zero])
  have h6 := congrArg Int.natAbs e4
  rw [Int.natAbs_mul] at h6
  have h7 : (a.1 * q).natAbs ≤ (a.1 * q).natAbs * c.natAbs := Nat.le_mul_of_pos_right _ (by omega)
  have := hb j
  omega

theorem w_catX {K : PySem.W.Frag} {H : Hp} {Q : VK} {p r : Addr} {xs ys : List V} (hp : H p = some (.tup xs)) (hr : H r = some (.tup ys)) (hz : xs.length + ys.length ≤ 1000) (q : ∀ q' H', Same H H' → H' q' = some (.tup (xs ++ ys)) → Q (.ref q') H') : rCatA K (.ref p) (.ref r) H Q :=
  ⟨p, r, xs, ys, rfl, rfl, SqT.of hp, SqT.of hr, Nat.le_of_lt (small1000 hz), fun e => q r H (Same.refl H) (by rw [e]; exact hr), fun _ e => q p H (Same.refl H) (by rw [e, List.append_nil]; exact hp), fun _ _ l hl => q l _ (same_upd hl) upd_same⟩
theorem w_slX {K : PySem.W.Frag} {H : Hp} {Q : VK} {p : Addr} {xs : List V} {lo hi : Option Int} (hp : H p = some (.tup xs)) (q : ∀ q' H', Same H H' → H' q' = some (.tup (cutV xs lo hi)) → Q (.ref q') H') : rSlA K (.ref p) lo hi H Q :=
  ⟨p, xs, rfl, SqT.of hp, fun e => q p H (Same.refl H) (by
    have : cutV xs lo hi = xs := by
      unfold cutV
      rw [e.1, e.2, List.drop_zero, Nat.sub_zero, List.take_length]
    rw [this]
    exact hp), fun _ l hl => q l _ (same_upd hl) upd_same⟩
theorem sqv_acc {α : Type} {P : Hp → V → α → Prop} {H : Hp} {v : V} {as : List α} (h : SqV P H v as) : ∃ p xs, v = .ref p ∧ H p = some (.tup xs) ∧ xs.length = as.length ∧ Acc P H xs as as.length := by
  obtain ⟨p, xs, e, hp, hl, hx⟩ := h
  exact ⟨p, xs, e, hp, hl, hl, hx⟩
theorem acc_sqv {α : Type} {P : Hp → V → α → Prop} {H : Hp} {p : Addr} {xs : List V} {as : List α} (hp : H p = some (.tup xs)) (h : Acc P H xs as as.length) : SqV P H (.ref p) as := ⟨p, xs, rfl, hp, h.1, h.2⟩
theorem filter_drop {α : Type} {p : α → Bool} {T : List α} {s : Nat} (h : ∀ (i : Nat) (r : α), T[i]? = some r → (p r = true ↔ s ≤ i)) : T.filter p = T.drop s := by
  have e : T.filter p = (T.take s).filter p ++ (T.drop s).filter p := by rw [← List.filter_append, List.take_append_drop]
  rw [e]
  have e1 : (T.take s).filter p = [] := List.filter_eq_nil_iff.mpr fun r hr hp => by
    obtain ⟨i, hi⟩ := List.getElem?_of_mem hr
    rw [List.getElem?_take] at hi
    split at hi
    · have := (h i r hi).mp hp
      omega
    · cases hi
  have e2 : (T.drop s).filter p = T.drop s := List.filter_eq_self.mpr fun r hr => by
    obtain ⟨i, hi⟩ := List.getElem?_of_mem hr
    rw [List.getElem?_drop] at hi
    exact (h _ r hi).mpr (by omega)
  rw [e1, e2]
  rfl
def nghtR (r : List (Int × Int)) : Bool := r.all fun a => decide (a.1 = 0)
theorem e_zero {g : Int} {F : Type} [CommRing F] {V : GV g F} (hg : g = 0 ∨ Gr5 g) {k : Nat} {a : Int × Int} (h : TN g k a) : V.e a = 0 ↔ a.1 = 0 := by
  obtain ⟨e1, n1⟩ := V.tn hg h
  constructor
  · intro z
    have : a = (0, 1) := V.inj hg h (tn_zero hg) (by rw [z, V.zero])
    rw [this]
  · intro z
    rw [z, V.i0] at e1
    refine V.dom (x := V.i a.2) ?_ n1
    rw [← e1]
    grind
theorem nght_iff {g : Int} {F : Type} [CommRing F] {V : GV g F} (hg : g = 0 ∨ Gr5 g) {n k m : Nat} {r : List (Int × Int)} (hr : r.length = n + m) (h : ∀ a ∈ r, TN g k a) : nghtR (r.take n) = true ↔ ∀ x, x < n → er V r x = 0 := by
  unfold nghtR
  rw [List.all_eq_true]
  constructor
  · intro z x hx
    have hx' : x < r.length := by omega
    rw [er_at hx']
    have hm : r[x] ∈ r.take n := by
      have : (r.take n)[x]? = some r[x] := by rw [List.getElem?_take, if_pos hx, List.getElem?_eq_getElem hx']
      exact List.mem_of_getElem? this
    exact (e_zero hg (h _ (List.getElem_mem hx'))).mpr (of_decide_eq_true (z _ hm))
  · intro z a ha
    obtain ⟨x, hx⟩ := List.getElem?_of_mem ha
    rw [List.getElem?_take] at hx
    split at hx
    · rename_i hxn
      have hx' := (List.getElem?_eq_some_iff.mp hx).1
      have e := z x hxn
      rw [er_at hx', (List.getElem?_eq_some_iff.mp hx).2] at e
      exact decide_eq_true ((e_zero hg (h a (List.mem_of_getElem? hx))).mp e)
    · cases hx
theorem inc_len {n : Nat} : ∀ {h : List Nat} {b : Nat}, (∀ (i k p q : Nat), h[i]? = some p → h[k]? = some q → i < k → p < q) → (∀ p ∈ h, b ≤ p ∧ p < n) → b ≤ n → h.length + b ≤ n
  | [], b, _, _, hb => by rw [List.length_nil]; omega
  | p :: h, b, hi, hl, hb => by
    have hp := hl p List.mem_cons_self
    have := inc_len (n := n) (h := h) (b := p + 1) (fun i k a c ha hc hik => hi (i + 1) (k + 1) a c ha hc (by omega)) (fun q hq => by
      obtain ⟨i, e⟩ := List.getElem?_of_mem hq
      have := hi 0 (i + 1) p q rfl e (by omega)
      exact ⟨this, (hl q (List.mem_cons_of_mem _ hq)).2⟩) (by omega)
    rw [List.length_cons]
    omega
theorem LeastN.le {n : Nat} {T : List (List (Int × Int))} {h : List Nat} (L : LeastN n T h) : T.length ≤ n := by
  have := inc_len (n := n) (h := h) (b := 0) L.inc (fun p hp => ⟨Nat.zero_le _, L.lt p hp⟩) (Nat.zero_le _)
  rw [L.len]
  omega
theorem bes_ok {g : Int} (hg : g = 0 ∨ Gr5 g) {n k : Nat} {t : List (List (Int × Int))} (hk : 4 ≤ k) (ht : ∀ r ∈ t, r.length = n ∧ ∀ a ∈ r, TN g k a) : ∀ u ∈ besF t, u.length = n + t.length ∧ ∀ a ∈ u, TN g k a := fun u hu => by
  obtain ⟨i, r, hr, hi, rfl⟩ := bes_mem hu
  have := ht r (List.mem_of_getElem? hr)
  refine ⟨by rw [List.length_append, List.length_map, List.length_range, this.1], fun a ha => ?_⟩
  rcases List.mem_append.mp ha with z | z
  · exact this.2 a z
  · obtain ⟨j, _, rfl⟩ := List.mem_map.mp z
    split
    · exact (tn_one hg).mono hk
    · exact (tn_zero hg).mono hk
/-! drawn numbers -/
def AA : Nat := 82575360
theorem ng_wr {r : List (Int × Int)} (h : ∀ a ∈ r, NG 0 9 a) : (wrB r).natAbs ≤ AA ∧ ∀ y ∈ wrT r, y.natAbs ≤ AA := by
  have hpos : ∀ a ∈ r, 0 < a.2 := fun a ha => (h a ha).1
  obtain ⟨h0, h1, h2⟩ := wrB_spec hpos
  obtain ⟨c, hc⟩ := h2 2520 fun a ha => (h a ha).2.1
  have hB : (wrB r).natAbs ≤ 2520 := Nat.le_of_dvd (by decide) (by
    have := Int.natAbs_dvd_natAbs.mpr ⟨c, hc⟩
    exact this)
  refine ⟨by unfold AA; omega, fun y hy => ?_⟩
  obtain ⟨a, ha, rfl⟩ := List.mem_map.mp hy
  obtain ⟨q, hq⟩ := h1 a ha
  have ap := hpos a ha
  have f1 : (wrB r).fdiv a.2 = q := by
    rw [hq]
    exact Int.mul_fdiv_cancel_left _ (by omega)
  rw [f1, Int.natAbs_mul]
  have h3 := (h a ha).2.2.1
  have h4 : a.2.natAbs * q.natAbs = (wrB r).natAbs := by rw [hq, Int.natAbs_mul]
  calc a.1.natAbs * q.natAbs ≤ 64 * 2 ^ 9 * a.2.natAbs * q.natAbs := Nat.mul_le_mul_right _ h3
    _ = 64 * 2 ^ 9 * (wrB r).natAbs := by rw [Nat.mul_assoc, h4]
    _ ≤ 64 * 2 ^ 9 * 2520 := Nat.mul_le_mul_left _ hB
    _ = AA := by unfold AA; decide
theorem ng_bes {t : List (List (Int × Int))} (h : ∀ r ∈ t, ∀ a ∈ r, NG 0 9 a) : ∀ r ∈ besF t, ∀ y ∈ wrT r, y.natAbs ≤ AA := fun u hu => by
  obtain ⟨i, r, hr, hi, rfl⟩ := bes_mem hu
  refine (ng_wr fun a ha => ?_).2
  rcases List.mem_append.mp ha with z | z
  · exact h r (List.mem_of_getElem? hr) a z
  · obtain ⟨j, _, rfl⟩ := List.mem_map.mp z
    split
    · exact ⟨by decide, by decide, by decide, .inl rfl⟩
    · exact ⟨by decide, by decide, by decide, .inl rfl⟩
theorem ng_tn {g : Int} (hg : g = 0 ∨ Gr5 g) {k : Nat} {a : Int × Int} (h : NG g 9 a) (ht : TN g k a) : TN g 27 a := by
  refine tn_small hg ht (by decide) fun e => ?_
  have h1 := h.2.2.1
  have h2 : a.2.natAbs ≤ 2520 := Nat.le_of_dvd (by decide) (Int.natAbs_dvd_natAbs.mpr h.2.1)
  have h3 : 64 * 2 ^ 9 * a.2.natAbs ≤ 64 * 2 ^ 9 * 2520 := Nat.mul_le_mul_left _ h2
  exact ⟨by omega, by omega⟩

theorem lay_ints : ∀ (ns : List Int), PyData.canLayAll0 (ns.map PyData.int) = true ∧ PyData.depthAll (ns.map PyData.int) ≤ 0
  | [] => ⟨by simp [PyData.canLayAll0], by simp [PyData.depthAll]⟩
  | a :: r => by
    have ih := lay_ints r
    refine ⟨?_, ?_⟩
    · rw [List.map_cons, PyData.canLayAll0, ih.1]
      simp [PyData.canLay0]
    · rw [List.map_cons, PyData.depthAll]
      have : (PyData.int a).depth ≤ 0 := by simp [PyData.depth]
      have := ih.2
      omega
theorem w_neInts {K : PySem.W.Frag} {H : Hp} {Q : VK} {p r : Addr} {ns : List Int} (hp : H p = some (.lst (ns.map V.int))) (hr : H r = some (.lst (ns.map V.int))) (q : Q (.bl false) H) : rNeD K (.ref p) (.ref r) H Q := by
  have l := lay_ints ns
  have c : PyData.canLay0 (.list (ns.map PyData.int)) = true := by rw [PyData.canLay0]; exact l.1
  have d : PyData.depth (.list (ns.map PyData.int)) ≤ 64 := by rw [PyData.depth]; have := l.2; omega
  have dp : DpAll K H (ns.map V.int) (ns.map PyData.int) := dpAll_of (by rw [List.length_map]) fun i x a e1 e2 => by
    rw [List.getElem?_map, e2] at e1
    cases Option.some.inj e1
    exact .int a
  refine ⟨_, _, .lst (SqL.of hp) dp, .lst (SqL.of hr) dp, shaped_of c d, shaped_of c d, ?_⟩
  rw [SeqAt.eqv_refl _ c]
  exact q
theorem sort_same {h : List Nat} (hi : ∀ (i k p q : Nat), h[i]? = some p → h[k]? = some q → i < k → p < q) {ns : List Int} (hp : ns.Perm (h.map fun p : Nat => (p : Int))) (hs : ns.Pairwise (· ≤ ·)) : ns = h.map fun p : Nat => (p : Int) := by
  refine hp.eq_of_pairwise (fun a b _ _ h1 h2 => Int.le_antisymm h1 h2) hs ?_
  rw [List.pairwise_map, List.pairwise_iff_getElem]
  intro i j h1 h2 hij
  have := hi i j _ _ (List.getElem?_eq_getElem h1) (List.getElem?_eq_getElem h2) hij
  omega
theorem heads_nodup {h : List Nat} (hi : ∀ (i k p q : Nat), h[i]? = some p → h[k]? = some q → i < k → p < q) : (h.map fun p : Nat => (p : Int)).Nodup := by
  unfold List.Nodup
  rw [List.pairwise_map, List.pairwise_iff_getElem]
  intro i j h1 h2 hij
  have := hi i j _ _ (List.getElem?_eq_getElem h1) (List.getElem?_eq_getElem h2) hij
  omega
theorem heads_in {h : List Nat} {n : Nat} (hl : ∀ p ∈ h, p < n) : inV (.int (n : Int)) ((h.map fun p : Nat => (p : Int)).map V.int) = false := by
  unfold inV
  rw [List.any_eq_false]
  intro x hx
  obtain ⟨a, ha, rfl⟩ := List.mem_map.mp hx
  obtain ⟨p, hp, rfl⟩ := List.mem_map.mp ha
  have := hl p hp
  show ¬ ((p : Int) == (n : Int)) = true
  rw [beq_iff_eq]
  omega
theorem flat_ints (ns : List Int) : (ns.map V.int).all flatV = true := by
  rw [List.all_eq_true]
  intro x hx
  obtain ⟨a, _, rfl⟩ := List.mem_map.mp hx
  rfl
theorem w_enum {K : PySem.W.Frag} {ta : TA} {σ : L2.St} {H : Hp} {R : It → Hp → Prop} (h : ta σ H fun vs H1 => ∃ a xs, vs = [.ref a] ∧ SqL K H1 a xs ∧ R (Ite K a) H1) : iEnum K ta σ H R := h

theorem red12 : TN 0 4 (-1, 2) := ⟨.inl ⟨rfl, by decide, by decide⟩, by decide, by decide⟩
theorem red2 : TN 0 4 (2, 1) := ⟨.inl ⟨rfl, by decide, by decide⟩, by decide, by decide⟩
theorem two_noughts {F : Type} [CommRing F] {W : GV 0 F} {k : Nat} (hk : 4 ≤ k) {Z B : List (List (Int × Int))} (hZ : LeastS W 2 k Z) (hB : LeastR W 1 k [[(1, 1)], [(2, 1)]] B) (hl : B.length + Z.length = 2) (hlin : ∀ r ∈ Z, ∀ x, x < 1 → lin (r.map W.e) ([[((1 : Int), (1 : Int))], [(2, 1)]].map (er W)) x = 0) : Z = [[(1, 1), (-1, 2)]] := by
  have hg : (0 : Int) = 0 ∨ Gr5 0 := .inl rfl
  have e1 : er W [((1 : Int), (1 : Int))] 0 = 1 := W.one
  have e2 : er W [((2 : Int), (1 : Int))] 0 = W.i 2 := by
    have := (W.tn hg red2).1
    show W.e (2, 1) = _
    rw [show ((2 : Int), (1 : Int)).2 = 1 from rfl, W.i1] at this
    rw [← this]
    grind
  have i2 : W.i 2 ≠ 0 := W.ine (by decide) fun z => absurd rfl z
  have hT : LeastR W 1 4 [[(1, 1)], [(2, 1)]] [[(1, 1)]] := by
    refine ⟨fun r hr => ?_, ⟨[0], ⟨rfl, fun i q a b ha hb hiq => ?_, fun i a p ha hp => ?_, fun i q a p ha hp hne => ?_, fun i a p j ha hp hj => ?_⟩, fun p hp => ?_⟩, fun r hr => ?_, fun r hr => ?_⟩
    · rw [List.mem_singleton.mp hr]
      refine ⟨rfl, fun a ha => ?_⟩
      rw [List.mem_singleton.mp ha]
      exact tn_one hg
    · have h1 := (List.getElem?_eq_some_iff.mp ha).1
      have h2 := (List.getElem?_eq_some_iff.mp hb).1
      simp at h1 h2
      omega
    · have h1 := (List.getElem?_eq_some_iff.mp hp).1
      have : i = 0 := by simp at h1; omega
      subst this
      have ea : er W [(1, 1)] = a := Option.some.inj ha
      have ep : 0 = p := Option.some.inj hp
      subst ea ep
      exact e1
    · have h1 := (List.getElem?_eq_some_iff.mp ha).1
      have h2 := (List.getElem?_eq_some_iff.mp hp).1
      simp at h1 h2
      omega
    · have h1 := (List.getElem?_eq_some_iff.mp hp).1
      have : i = 0 := by simp at h1; omega
      subst this
      have ep : 0 = p := Option.some.inj hp
      omega
    · rw [List.mem_singleton.mp hp]
      decide
    · rw [List.mem_singleton.mp hr]
      exact InS.mem (List.mem_map.mpr ⟨_, List.mem_cons_self, rfl⟩)
    · rcases List.mem_cons.mp hr with rfl | hr
      · exact InS.mem (List.mem_map.mpr ⟨_, List.mem_singleton.mpr rfl, rfl⟩)
      · rw [List.mem_singleton.mp hr]
        have e : er W [((2 : Int), (1 : Int))] = fun j => W.i 2 * er W [((1 : Int), (1 : Int))] j := by
          funext j
          cases j with
          | zero => rw [e1, e2]; grind
          | succ j =>
            rw [er_out (show ([((2 : Int), (1 : Int))]).length ≤ j + 1 by simp), er_out (show ([((1 : Int), (1 : Int))]).length ≤ j + 1 by simp)]
            grind
        rw [e]
        exact (InS.spc _).mul _ _ (InS.mem (List.mem_map.mpr ⟨_, List.mem_singleton.mpr rfl, rfl⟩))
  have eB := hB.uniq hg hT (fun r hr => InS.mem (List.mem_map.mpr ⟨r, hr, rfl⟩)) (fun r hr => InS.mem (List.mem_map.mpr ⟨r, hr, rfl⟩))
  rw [eB] at hl
  have hZ1 : Z.length = 1 := by
    have : 1 + Z.length = 2 := hl
    omega
  obtain ⟨h, hN⟩ := hZ.num hg hk
  have hrow := hZ.1
  match Z, hZ1 with
  | [r], _ =>
    have hr := hrow r (List.mem_singleton.mpr rfl)
    have hlr := hlin r (List.mem_singleton.mpr rfl) 0 (by decide)
    have hh1 : h.length = 1 := hN.len.symm
    match r, hr, hlr with
    | [a, b], hr, hlr =>
      have ta := hr.2 a (List.mem_cons_self)
      have tb := hr.2 b (List.mem_cons_of_mem _ (List.mem_singleton.mpr rfl))
      have hs : W.e a * 1 + (W.e b * W.i 2 + 0) = 0 := by
        have : W.e a * er W [((1 : Int), (1 : Int))] 0 + (W.e b * er W [((2 : Int), (1 : Int))] 0 + 0) = 0 := hlr
        rw [e1, e2] at this
        exact this
      match h, hh1 with
      | [p], _ =>
        have hp := hN.lt p (List.mem_singleton.mpr rfl)
        rcases (by omega : p = 0 ∨ p = 1) with rfl | rfl
        · have ha : a = (1, 1) := hN.one 0 _ 0 rfl rfl
          subst ha
          rw [W.one] at hs
          have hb : b = (-1, 2) := by
            refine W.inj hg tb red12 ?_
            refine W.cancel (z := W.i 2) ?_ i2
            have e3 := (W.tn hg red12).1
            rw [show ((-1 : Int), (2 : Int)).2 = 2 from rfl, show ((-1 : Int), (2 : Int)).1 = -1 from rfl, W.ineg, W.i1] at e3
            rw [e3]
            grind
          rw [hb]
        · have ha : a = (0, 1) := hN.ahead 0 _ 1 0 rfl rfl (by decide)
          have hb : b = (1, 1) := hN.one 0 _ 1 rfl rfl
          subst ha hb
          rw [W.zero, W.one] at hs
          exact absurd (by grind) i2

theorem numV_one {H : Hp} {v : V} {a c : Int × Int} (h1 : NumV H v a) (h2 : NumV H v c) : a = c := by
  obtain ⟨p, rfl, hp⟩ := h1
  obtain ⟨p', e, hp'⟩ := h2
  cases e
  have e := HO.tup.inj (Option.some.inj (hp.symm.trans hp'))
  have e1 : V.int a.1 = V.int c.1 := (List.cons.inj e).1
  have e2 : V.int a.2 = V.int c.2 := (List.cons.inj (List.cons.inj e).2).1
  exact Prod.ext (V.int.inj e1) (V.int.inj e2)
theorem rowV_uniq {H : Hp} {v : V} {r s : List (Int × Int)} (h1 : RowV H v r) (h2 : RowV H v s) : r = s := by
  obtain ⟨p, xs, rfl, hp, hl, hx⟩ := h1
  obtain ⟨p', xs', e, hp', hl', hx'⟩ := h2
  cases e
  cases HO.tup.inj (Option.some.inj (hp.symm.trans hp'))
  refine List.ext_getElem (by omega) fun i i1 i2 => ?_
  have gx : xs[i]? = some (xs[i]'(by omega)) := List.getElem?_eq_getElem _
  exact numV_one (hx i _ _ gx (List.getElem?_eq_getElem i1)) (hx' i _ _ gx (List.getElem?_eq_getElem i2))
end Fm

namespace Fm
open PySem PySem.Spec PyProof.Rows L2 Fd Fr
def topS (i : Nat) : Stmt := PySem.Challenge.pw_fewmirrors_k06_least_rows.main.body.getD i (.Pass ⟨0, 0, 0, 0⟩)
local macro_rules | `(tactic| walk_at "s1") => `(tactic| first
  | with_reducible refine w_seq ?_ | with_reducible refine w_asg ?_ | with_reducible refine w_ret ?_ | with_reducible refine w_drop ?_ | with_reducible refine w_ifs ?_ | with_reducible refine w_next ?_
  | with_reducible refine w_op ?_ | with_reducible refine w_un ?_ | with_reducible refine w_c ?_ | ((with_reducible refine' w_var ?h ?_); (case h => exact rfl)) | with_reducible refine w_name ?_ | with_reducible refine w_sub ?_
  | with_reducible refine w_test ?_ | with_reducible refine w_B ?_ | with_reducible refine w_exb ?_ | with_reducible refine w_and ?_ | with_reducible refine w_or ?_ | with_reducible refine w_not ?_
  | with_reducible refine w_andV ?_ | with_reducible refine w_orV ?_ | with_reducible refine w_notV ?_ | with_reducible refine w_if ?_
  | with_reducible refine w_I0 ?_ | with_reducible refine w_U ?_ | with_reducible refine w_eqI ?_ | with_reducible refine w_neI ?_
  | with_reducible refine w_nil ?_ | with_reducible refine w_cons ?_ | with_reducible refine w_tup ?_ | with_reducible refine w_lst ?_ | with_reducible refine w_cb ?_ | with_reducible refine w_call ?_
  | ((with_reducible refine' w_ixL ?h ?e ?_); (case h => assumption); (case e => exact rfl)) | ((with_reducible refine' w_ixT ?h ?e ?_); (case h => assumption); (case e => exact rfl))
  | with_reducible refine w_par ?_ | with_reducible refine w_ex2 ?_ | with_reducible refine w_t ?_ | with_reducible refine w_f ?_ | with_reducible refine w_for ?_ | with_reducible refine w_sl ?_ | with_reducible refine w_part ?_ | with_reducible refine w_nopart ?_ | with_reducible refine w_exi ?_ | with_reducible refine w_chain ?_ | with_reducible refine w_rng2 ?_ | with_reducible refine w_bm ?_ | with_reducible refine w_revL ?_ | with_reducible refine w_js ?_ | with_reducible refine w_js0 ?_ | with_reducible refine w_fmt ?_ | with_reducible refine w_lc ?_ | with_reducible refine w_yes ?_ | with_reducible refine w_zipA ?_ | with_reducible refine w_itup ?_ | with_reducible refine w_ilist ?_ | with_reducible refine w_gcons ?_ | with_reducible refine w_gnil ?_
  | ((with_reducible refine' w_gtup ?h ?e ?_); (case h => assumption); (case e => exact rfl)) | ((with_reducible refine' w_glst ?h ?e ?_); (case h => assumption); (case e => exact rfl)) | with_reducible refine w_tru ?_ | with_reducible refine w_rng1 ?_ | with_reducible refine w_e1 ?_ | with_reducible refine w_e2 ?_ | with_reducible refine w_bits ?_ | with_reducible refine w_step2 ?_ | with_reducible refine w_lenSetI ?_ | with_reducible refine w_enum ?_ | with_reducible refine w_par3 ?_ | with_reducible refine w_ex3 ?_)
local macro_rules | `(tactic| walk_at "go") => `(tactic| repeat (walk_at "s1"))
local macro_rules | `(tactic| walk_at "tr") => `(tactic| repeat (first | assumption | (refine TB.kd (Kd.of (by assumption)) ?_) | (refine TB.kd (by assumption) ?_)))


abbrev s_common_divisor : Stmt := topS 1
theorem sc_common_divisor : FnScope ["a", "b"] ["a", "b"] (defScope s_common_divisor) := ⟨rfl, rfl, rfl, by decide +kernel, rfl, by decide +kernel, by decide +kernel⟩

abbrev s_wheel_back : Stmt := topS 4
theorem sc_wheel_back : FnScope ["wheel", "whole", "found"] ["wheel", "whole"] (defScope s_wheel_back) := ⟨rfl, rfl, rfl, by decide +kernel, rfl, by decide +kernel, by decide +kernel⟩

abbrev s_head_place : Stmt := topS 7
theorem sc_head_place : FnScope ["rows", "begin", "at", "place"] ["rows", "begin", "at"] (defScope s_head_place) := ⟨rfl, rfl, rfl, by decide +kernel, rfl, by decide +kernel, by decide +kernel⟩

abbrev s_table_of_ones : Stmt := topS 10
theorem sc_table_of_ones : FnScope ["many", "place", "at"] ["many"] (defScope s_table_of_ones) := ⟨rfl, rfl, rfl, by decide +kernel, rfl, by decide +kernel, by decide +kernel⟩

abbrev s_is_all_nought : Stmt := topS 11
theorem sc_is_all_nought : FnScope ["row", "x"] ["row"] (defScope s_is_all_nought) := ⟨rfl, rfl, rfl, by decide +kernel, rfl, by decide +kernel, by decide +kernel⟩

abbrev s__law_is_whole : Stmt := topS 20
theorem sc__law_is_whole : FnScope ["_law_thing"] ["_law_thing"] (defScope s__law_is_whole) := ⟨rfl, rfl, rfl, by decide +kernel, rfl, by decide +kernel, by decide +kernel⟩

abbrev s__law_shared : Stmt := topS 21
theorem sc__law_shared : FnScope ["_law_one", "_law_other"] ["_law_one", "_law_other"] (defScope s__law_shared) := ⟨rfl, rfl, rfl, by decide +kernel, rfl, by decide +kernel, by decide +kernel⟩

abbrev s__law_bag : Stmt := topS 31
theorem sc__law_bag : FnScope ["_law_script", "_law_at", "_law_cell", "_law_great", "_law_primes", "_law_mixed_here"] ["_law_script", "_law_at"] (defScope s__law_bag) := ⟨rfl, rfl, rfl, by decide +kernel, rfl, by decide +kernel, by decide +kernel⟩

abbrev s__law_take : Stmt := topS 33
theorem sc__law_take : FnScope ["_law_bag_here", "_law_many", "_law_digit"] ["_law_bag_here", "_law_many"] (defScope s__law_take) := ⟨rfl, rfl, rfl, by decide +kernel, rfl, by decide +kernel, by decide +kernel⟩

abbrev s__law_head : Stmt := topS 38
theorem sc__law_head : FnScope ["_law_row_here", "_law_found"] ["_law_row_here"] (defScope s__law_head) := ⟨rfl, rfl, rfl, by decide +kernel, rfl, by decide +kernel, by decide +kernel⟩

abbrev s_lowest : Stmt := topS 3
theorem sc_lowest : FnScope ["ground", "top", "bottom", "shared"] ["ground", "top", "bottom"] (defScope s_lowest) := ⟨rfl, rfl, rfl, by decide +kernel, rfl, by decide +kernel, by decide +kernel⟩

abbrev s_whole_row : Stmt := topS 6
theorem sc_whole_row : FnScope ["row", "bottom", "x"] ["row"] (defScope s_whole_row) := ⟨rfl, rfl, rfl, by decide +kernel, rfl, by decide +kernel, by decide +kernel⟩

abbrev s_plain : Stmt := topS 15
theorem sc_plain : FnScope ["ground", "row", "x", "shared"] ["ground", "row"] (defScope s_plain) := ⟨rfl, rfl, rfl, by decide +kernel, rfl, by decide +kernel, by decide +kernel⟩

abbrev s__law_is_number : Stmt := topS 19
theorem sc__law_is_number : FnScope ["_law_g", "_law_thing", "_law_one"] ["_law_g", "_law_thing"] (defScope s__law_is_number) := ⟨rfl, rfl, rfl, by decide +kernel, rfl, by decide +kernel, by decide +kernel⟩

abbrev s__law_low : Stmt := topS 25
theorem sc__law_low : FnScope ["_law_g", "_law_up", "_law_down", "_law_one", "_law_common"] ["_law_g", "_law_up", "_law_down"] (defScope s__law_low) := ⟨rfl, rfl, rfl, by decide +kernel, rfl, by decide +kernel, by decide +kernel⟩

abbrev s__law_ground : Stmt := topS 32
theorem sc__law_ground : FnScope ["_law_bag_here"] ["_law_bag_here"] (defScope s__law_ground) := ⟨rfl, rfl, rfl, by decide +kernel, rfl, by decide +kernel, by decide +kernel⟩

abbrev s__law_mixed : Stmt := topS 37
theorem sc__law_mixed : FnScope ["_law_bag_here", "_law_row_here", "_law_rest", "_law_thing"] ["_law_bag_here", "_law_row_here"] (defScope s__law_mixed) := ⟨rfl, rfl, rfl, by decide +kernel, rfl, by decide +kernel, by decide +kernel⟩

abbrev s_cleared : Stmt := topS 14
theorem sc_cleared : FnScope ["ground", "row", "head", "at", "x", "y"] ["ground", "row", "head", "at"] (defScope s_cleared) := ⟨rfl, rfl, rfl, by decide +kernel, rfl, by decide +kernel, by decide +kernel⟩

abbrev s_headed : Stmt := topS 16
theorem sc_headed : FnScope ["ground", "row", "head", "x"] ["ground", "row"] (defScope s_headed) := ⟨rfl, rfl, rfl, by decide +kernel, rfl, by decide +kernel, by decide +kernel⟩

abbrev s__law_is_row : Stmt := topS 18
theorem sc__law_is_row : FnScope ["_law_g", "_law_thing", "_law_many", "_law_one"] ["_law_g", "_law_thing", "_law_many"] (defScope s__law_is_row) := ⟨rfl, rfl, rfl, by decide +kernel, rfl, by decide +kernel, by decide +kernel⟩

abbrev s__law_times : Stmt := topS 24
theorem sc__law_times : FnScope ["_law_g", "_law_x", "_law_y"] ["_law_g", "_law_x", "_law_y"] (defScope s__law_times) := ⟨rfl, rfl, rfl, by decide +kernel, rfl, by decide +kernel, by decide +kernel⟩

abbrev s__law_over : Stmt := topS 26
theorem sc__law_over : FnScope ["_law_g", "_law_x", "_law_y"] ["_law_g", "_law_x", "_law_y"] (defScope s__law_over) := ⟨rfl, rfl, rfl, by decide +kernel, rfl, by decide +kernel, by decide +kernel⟩

abbrev s__law_plus : Stmt := topS 28
theorem sc__law_plus : FnScope ["_law_g", "_law_x", "_law_y"] ["_law_g", "_law_x", "_law_y"] (defScope s__law_plus) := ⟨rfl, rfl, rfl, by decide +kernel, rfl, by decide +kernel, by decide +kernel⟩

abbrev s__law_minus : Stmt := topS 29
theorem sc__law_minus : FnScope ["_law_g", "_law_x"] ["_law_g", "_law_x"] (defScope s__law_minus) := ⟨rfl, rfl, rfl, by decide +kernel, rfl, by decide +kernel, by decide +kernel⟩

abbrev s__law_number : Stmt := topS 36
theorem sc__law_number : FnScope ["_law_bag_here", "_law_g", "_law_wide", "_law_down"] ["_law_bag_here", "_law_g"] (defScope s__law_number) := ⟨rfl, rfl, rfl, by decide +kernel, rfl, by decide +kernel, by decide +kernel⟩

abbrev s_least_wholes : Stmt := topS 13
theorem sc_least_wholes : FnScope ["ground", "rows", "many", "wide", "at", "place", "head", "others", "row"] ["ground", "rows"] (defScope s_least_wholes) := ⟨rfl, rfl, rfl, by decide +kernel, rfl, by decide +kernel, by decide +kernel⟩

abbrev s__law_scaled : Stmt := topS 23
theorem sc__law_scaled : FnScope ["_law_g", "_law_row_here", "_law_x", "_law_one"] ["_law_g", "_law_row_here", "_law_x"] (defScope s__law_scaled) := ⟨rfl, rfl, rfl, by decide +kernel, rfl, by decide +kernel, by decide +kernel⟩

abbrev s__law_added : Stmt := topS 27
theorem sc__law_added : FnScope ["_law_g", "_law_row_here", "_law_other", "_law_one", "_law_two"] ["_law_g", "_law_row_here", "_law_other"] (defScope s__law_added) := ⟨rfl, rfl, rfl, by decide +kernel, rfl, by decide +kernel, by decide +kernel⟩

abbrev s__law_row : Stmt := topS 35
theorem sc__law_row : FnScope ["_law_bag_here", "_law_g", "_law_many", "_law_k"] ["_law_bag_here", "_law_g", "_law_many"] (defScope s__law_row) := ⟨rfl, rfl, rfl, by decide +kernel, rfl, by decide +kernel, by decide +kernel⟩

abbrev s__law_are_least : Stmt := topS 39
theorem sc__law_are_least : FnScope ["_law_g", "_law_rows_here", "_law_wide", "_law_heads", "_law_k", "_law_head_here", "_law_row_here"] ["_law_g", "_law_rows_here", "_law_wide"] (defScope s__law_are_least) := ⟨rfl, rfl, rfl, by decide +kernel, rfl, by decide +kernel, by decide +kernel⟩

abbrev s_least_rows : Stmt := topS 12
theorem sc_least_rows : FnScope ["ground", "rows", "wholes", "row"] ["ground", "rows"] (defScope s_least_rows) := ⟨rfl, rfl, rfl, by decide +kernel, rfl, by decide +kernel, by decide +kernel⟩

abbrev s__law_least : Stmt := topS 22
theorem sc__law_least : FnScope ["_law_g", "_law_rows_here", "_law_left", "_law_found", "_law_many", "_law_k", "_law_some", "_law_head_here", "_law_row_here"] ["_law_g", "_law_rows_here"] (defScope s__law_least) := ⟨rfl, rfl, rfl, by decide +kernel, rfl, by decide +kernel, by decide +kernel⟩

abbrev s__law_through : Stmt := topS 30
theorem sc__law_through : FnScope ["_law_g", "_law_row_here", "_law_table", "_law_found", "_law_x", "_law_one"] ["_law_g", "_law_row_here", "_law_table"] (defScope s__law_through) := ⟨rfl, rfl, rfl, by decide +kernel, rfl, by decide +kernel, by decide +kernel⟩

abbrev s__law_rows : Stmt := topS 34
theorem sc__law_rows : FnScope ["_law_bag_here", "_law_g", "_law_high", "_law_wide", "_law_found", "_law_k", "_law_row_here", "_law_way"] ["_law_bag_here", "_law_g", "_law_high", "_law_wide"] (defScope s__law_rows) := ⟨rfl, rfl, rfl, by decide +kernel, rfl, by decide +kernel, by decide +kernel⟩

abbrev s_beside_ones : Stmt := topS 9
theorem sc_beside_ones : FnScope ["ground", "table", "ones", "row", "one"] ["ground", "table"] (defScope s_beside_ones) := ⟨rfl, rfl, rfl, by decide +kernel, rfl, by decide +kernel, by decide +kernel⟩

abbrev s_nought_rows : Stmt := topS 8
theorem sc_nought_rows : FnScope ["ground", "table", "wide", "rows", "row"] ["ground", "table"] (defScope s_nought_rows) := ⟨rfl, rfl, rfl, by decide +kernel, rfl, by decide +kernel, by decide +kernel⟩

abbrev s__law_is_told : Stmt := topS 40
theorem sc__law_is_told : FnScope ["_law_g", "_law_rows_here", "_law_wide", "_law_told", "_law_left", "_law_row_here"] ["_law_g", "_law_rows_here", "_law_wide"] (defScope s__law_is_told) := ⟨rfl, rfl, rfl, by decide +kernel, rfl, by decide +kernel, by decide +kernel⟩

abbrev s_law : Stmt := topS 41
theorem sc_law : FnScope ["_law_script", "_law_k", "_law_bag_here", "_law_g", "_law_size", "_law_wide", "_law_rows_here", "_law_others", "_law_due"] ["_law_script"] (defScope s_law) := ⟨rfl, rfl, rfl, by decide +kernel, rfl, by decide +kernel, by decide +kernel⟩


variable {P : Program} {w : World} {K : PySem.W.Frag} {mg : Str → Option Value} {base : Heap} {T : List (Addr × Str)}
def sp_common_divisor (K : PySem.W.Frag) : Sp := fun vs H Q _ => ∃ (a c : Int), vs = [.int a, .int c] ∧ Q (.int (Int.gcd a c : Int)) H

def sp_wheel_back (K : PySem.W.Frag) : Sp := fun vs H Q _ => ∃ (g w k : Int), vs = [.int g, .int w] ∧ 3 ≤ g ∧ 1 ≤ k ∧ k ≤ 13 ∧ (k * w).fmod g = 1 ∧ ∀ f : Int, 1 ≤ f → f ≤ 13 → (f * w).fmod g = 1 → Q (.int f) H

def sp_head_place (K : PySem.W.Frag) : Sp := fun vs H Q _ => ∃ (v : V) (rows : List (List Int)) (b a : Nat), vs = [v, .int (b : Int), .int (a : Int)] ∧ ILs H v rows ∧ (∀ r ∈ rows, a < r.length) ∧ rows.length ≤ 100 ∧ b ≤ 100 ∧
  ((∀ (i : Nat) (r : List Int), b ≤ i → rows[i]? = some r → gt r a = 0) → Q .non H) ∧ ∀ (i : Nat) (r : List Int), b ≤ i → rows[i]? = some r → gt r a ≠ 0 → Q (.int (i : Int)) H

def sp_table_of_ones (K : PySem.W.Frag) : Sp := fun vs H Q _ => ∃ (m : Nat), vs = [.int (m : Int)] ∧ m ≤ 20 ∧ ∀ (v : V) (H' : Hp), Same H H' → TabV H' v (onesF m) → Q v H'

def sp_is_all_nought (K : PySem.W.Frag) : Sp := fun vs H Q _ => ∃ (v : V) (r : List (Int × Int)), vs = [v] ∧ RowV H v r ∧ r.length ≤ 100 ∧ ∀ H', Same H H' → Q (.bl (nghtR r)) H'

def sp__law_is_whole (K : PySem.W.Frag) : Sp := fun vs H Q _ => ∃ (v : V), vs = [v] ∧ Tv H v ∧ Q (.bl (wholeB v)) H

def sp__law_shared (K : PySem.W.Frag) : Sp := fun vs H Q _ => ∃ (a c : Int), vs = [.int a, .int c] ∧ Q (.int (Int.gcd a c : Int)) H
theorem abs_nat (a : Int) : (if a < 0 then -a else a) = ((a.natAbs : Nat) : Int) := by
  split <;> omega

def sp__law_bag (K : PySem.W.Frag) : Sp := fun vs H Q _ => ∃ (a : Addr) (ns : List Int) (k : Int), vs = [.ref a, .int k] ∧ SqL K H a (ns.map V.int) ∧ 0 ≤ k ∧ k < 64 ∧ ∀ (p : Addr) (H' : Hp), H p = none → Same H H' → Bag H' p → Q (.ref p) H'
theorem bag_primes {i : Int} (h0 : 0 ≤ i) (h8 : i < 8) : ∃ m : Int, atI [V.int 2147483647, V.int 2147483629, V.int 2147483587, V.int 2147483579, V.int 2147483563, V.int 2147483549, V.int 2147483543, V.int 2147483497] i = some (.int m) ∧ 0 < m ∧ m ≤ 2147483647 := by
  rcases (by omega : i = 0 ∨ i = 1 ∨ i = 2 ∨ i = 3 ∨ i = 4 ∨ i = 5 ∨ i = 6 ∨ i = 7) with rfl | rfl | rfl | rfl | rfl | rfl | rfl | rfl <;> exact ⟨_, rfl, by decide, by decide⟩

def sp__law_take (K : PySem.W.Frag) : Sp := fun vs H Q _ => ∃ (b : Addr) (m : Int), vs = [.ref b, .int m] ∧ 0 < m ∧ m < 1073741824 ∧ Bag H b ∧ ∀ (H' : Hp) (d : Int), 0 ≤ d → d < m → Mv b H H' → Bag H' b → Q (.int d) H'

def sp__law_head (K : PySem.W.Frag) : Sp := fun vs H Q _ => ∃ (v : V) (r : List (Int × Int)) (p : Nat), vs = [v] ∧ RowV H v r ∧ r.length ≤ 100 ∧ p < r.length ∧ (∀ j, j < p → ga r j = (0, 1)) ∧ ga r p ≠ (0, 1) ∧ ∀ H', Same H H' → Q (.int (p : Int)) H'

def sp_lowest (K : PySem.W.Frag) : Sp := fun vs H Q _ => ∃ (g u d : Int), vs = [.int g, .int u, .int d] ∧ ((g = 0 ∧ d ≠ 0 ∧ d.natAbs < 2 ^ 8500) ∨ (3 ≤ g ∧ u.natAbs < 2 ^ 50000 ∧ ∃ k : Int, 1 ≤ k ∧ k ≤ 13 ∧ (k * d).fmod g = 1)) ∧ ∀ (p : Addr) (H' : Hp), H p = none → Same H H' → H' p = some (.tup [.int (lowF g u d).1, .int (lowF g u d).2]) → Q (.ref p) H'

def sp_whole_row (K : PySem.W.Frag) : Sp := fun vs H Q _ => ∃ (v : V) (r : List (Int × Int)) (g : Int) (k : Nat), vs = [v] ∧ RowV H v r ∧ (∀ x ∈ r, OkN g k x) ∧ 0 < k ∧ k ≤ 400 ∧ r.length ≤ 20 ∧ ∀ (p L : Addr) (H' : Hp), Same H H' → H L = none → H' p = some (.tup [.ref L, .int (wrB r)]) → H' L = some (.lst ((wrT r).map V.int)) → Q (.ref p) H'

def sp_plain (K : PySem.W.Frag) : Sp := fun vs H Q _ => ∃ (g : Int) (v : V) (r : List Int) (b : Nat), vs = [.int g, v] ∧ (g = 0 ∨ Gr5 g) ∧ IL H v r ∧ (g = 0 → ∀ x ∈ r, x.natAbs < 2 ^ b) ∧ 0 < b ∧ b ≤ 9000 ∧ r.length ≤ 100 ∧ ∀ (p' : Addr) (H' : Hp), Same H H' → H' p' = some (.lst ((plainF g r).map V.int)) → (v = .ref p' ∨ H p' = none) → Q (.ref p') H'

def sp__law_is_number (K : PySem.W.Frag) : Sp := fun vs H Q _ => ∃ (g : Int) (v : V) (kb nb : Nat), vs = [.int g, v] ∧ 0 ≤ g ∧ TB kb (nb + 1) H v ∧ ∀ H', Same H H' → Q (.bl (numOf H g v)) H'

def sp__law_low (K : PySem.W.Frag) : Sp := fun vs H Q _ => ∃ (g u d : Int), vs = [.int g, .int u, .int d] ∧ 0 ≤ g ∧ g ≤ 13 ∧ d ≠ 0 ∧ d.natAbs < 2 ^ 8000 ∧ ∀ (p : Addr) (H' : Hp), H p = none → Same H H' → H' p = some (.tup [.int (lowF g u d).1, .int (lowF g u d).2]) → Q (.ref p) H'
theorem lowI_some {g u d : Int} {i : Nat} (hi : i < g.toNat) (h : ((i : Int) * d).fmod g = u.fmod g) (hn : ∀ j : Nat, j < i → ¬ ((j : Int) * d).fmod g = u.fmod g) : lowI g u d = some i := by
  unfold lowI
  rw [if_pos (by omega)]
  refine List.find?_range_eq_some.mpr ⟨decide_eq_true h, List.mem_range.mpr hi, fun j hj => ?_⟩
  rw [decide_eq_false (hn j hj)]
  rfl
theorem lowI_none {g u d : Int} (hn : ∀ j : Nat, j < g.toNat → ¬ ((j : Int) * d).fmod g = u.fmod g) : lowI g u d = none := by
  unfold lowI
  split
  · refine List.find?_range_eq_none.mpr fun j hj => ?_
    rw [decide_eq_false (hn j hj)]
    rfl
  · rfl
theorem low_sign (d : Int) : atI [V.int 1, V.int (-1)] (if decide (d < 0) = true then 1 else 0) = some (.int (if d < 0 then -1 else 1)) := by
  by_cases h : d < 0
  · rw [decide_eq_true h, if_pos h]; rfl
  · rw [decide_eq_false h, if_neg h]; rfl
theorem low_cb {u d : Int} (hd : d ≠ 0) (hz : d.natAbs < 2 ^ 8000) (i : Int) : CDivZ i ((Int.gcd u d : Int) * (if d < 0 then -1 else 1)) :=
  divZ_of (b := 8000) (lowC_ne hd) (Nat.lt_of_le_of_lt (lowC_le hd) hz) (by decide) (by decide)

def Gr (g : Int) : Prop := g = 0 ∨ g = 3 ∨ g = 5 ∨ g = 7 ∨ g = 11 ∨ g = 13
def sp__law_ground (K : PySem.W.Frag) : Sp := fun vs H Q _ => ∃ (b : Addr), vs = [.ref b] ∧ Bag H b ∧ ∀ (H' : Hp) (g : Int), Gr g → Mv b H H' → Bag H' b → Q (.int g) H'
theorem gr_three {i : Int} (h0 : 0 ≤ i) (h3 : i < 3) : ∃ m : Int, atI [V.int 7, V.int 11, V.int 13] i = some (.int m) ∧ Gr m := by
  rcases (by omega : i = 0 ∨ i = 1 ∨ i = 2) with rfl | rfl | rfl <;> exact ⟨_, rfl, by unfold Gr; decide⟩
theorem gr_eight {i m : Int} (h0 : 0 ≤ i) (h8 : i < 8) (hm : Gr m) : ∃ g : Int, atI [V.int 0, V.int 0, V.int 0, V.int 0, V.int 3, V.int 3, V.int 5, V.int m] i = some (.int g) ∧ Gr g := by
  rcases (by omega : i = 0 ∨ i = 1 ∨ i = 2 ∨ i = 3 ∨ i = 4 ∨ i = 5 ∨ i = 6 ∨ i = 7) with rfl | rfl | rfl | rfl | rfl | rfl | rfl | rfl
  · exact ⟨_, rfl, by unfold Gr; decide⟩
  · exact ⟨_, rfl, by unfold Gr; decide⟩
  · exact ⟨_, rfl, by unfold Gr; decide⟩
  · exact ⟨_, rfl, by unfold Gr; decide⟩
  · exact ⟨_, rfl, by unfold Gr; decide⟩
  · exact ⟨_, rfl, by unfold Gr; decide⟩
  · exact ⟨_, rfl, by unfold Gr; decide⟩
  · exact ⟨_, rfl, hm⟩

def sp__law_mixed (K : PySem.W.Frag) : Sp := fun vs H Q _ => ∃ (b p : Addr) (xs : List V), vs = [.ref b, .ref p] ∧ Bag H b ∧ H p = some (.lst xs) ∧ p ≠ b ∧ xs.length ≤ 20 ∧ ∀ (q' : Addr) (H' : Hp) (ys : List V), Mv b H H' → Bag H' b → H' q' = some (.lst ys) → H q' = none → ys.length = xs.length → (∀ y, y ∈ ys ↔ y ∈ xs) → Q (.ref q') H'
theorem erase_mem {α : Type} {xs : List α} {k : Nat} {y : α} (h : xs[k]? = some y) (z : α) : z ∈ xs ↔ z = y ∨ z ∈ xs.eraseIdx k := by
  constructor
  · intro hz
    obtain ⟨i, hi⟩ := List.getElem?_of_mem hz
    by_cases e : i = k
    · subst e
      exact .inl (Option.some.inj (hi.symm.trans h))
    · exact .inr (List.mem_eraseIdx_iff_getElem?.mpr ⟨i, e, hi⟩)
  · rintro (rfl | hz)
    · exact List.mem_of_getElem? h
    · exact List.mem_of_mem_eraseIdx hz
theorem sq_ix {d : Int} {n : Nat} (h0 : 0 ≤ d) (h1 : d < n) : PySem.seqIndex? d n = some d.toNat := by
  unfold PySem.seqIndex?
  simp
  omega

def sp_cleared (K : PySem.W.Frag) : Sp := fun vs H Q _ => ∃ (g : Int) (vr vh : V) (r h : List Int) (a b : Nat), vs = [.int g, vr, vh, .int (a : Int)] ∧ (g = 0 ∨ Gr5 g) ∧ IL H vr r ∧ IL H vh h ∧ r.length = h.length ∧ a < r.length ∧ r.length ≤ 100 ∧ (∀ x, (gt r x).natAbs < 2 ^ b) ∧ (∀ x, (gt h x).natAbs < 2 ^ b) ∧ 0 < b ∧ b ≤ 4400 ∧
  ∀ (p' : Addr) (H' : Hp), Same H H' → H' p' = some (.lst ((clearF g a h r).map V.int)) → (vr = .ref p' ∨ H p' = none) → Q (.ref p') H'
theorem mul2_lt {u v x y : Int} {b : Nat} (h1 : u.natAbs < 2 ^ b) (h2 : v.natAbs < 2 ^ b) (h3 : x.natAbs < 2 ^ b) (h4 : y.natAbs < 2 ^ b) : (u * v - x * y).natAbs < 2 ^ (b + b + 1) := dif_lt (wide_lt h1 h2) (wide_lt h3 h4)

def sp_headed (K : PySem.W.Frag) : Sp := fun vs H Q _ => ∃ (g : Int) (v : V) (r : List Int) (k : Nat), vs = [.int g, v] ∧ (g = 0 ∨ Gr5 g) ∧ IL H v r ∧ hdF r ≠ 0 ∧ (g ≠ 0 → (hdF r).fmod g ≠ 0) ∧ (∀ x ∈ r, x.natAbs < 2 ^ k) ∧ (hdF r).natAbs < 2 ^ k ∧ k ≤ 8500 ∧ r.length ≤ 100 ∧ ∀ (v' : V) (H' : Hp), Same H H' → RowV H' v' (headF g r) → Q v' H'

def sp__law_is_row (K : PySem.W.Frag) : Sp := fun vs H Q _ => ∃ (g : Int) (v : V) (m : Int) (kb nb : Nat), vs = [.int g, v, .int m] ∧ 0 ≤ g ∧ TB kb (nb + 2) H v ∧ ∀ H', Same H H' → Q (.bl (rowOf H g m v)) H'

def sp__law_times (K : PySem.W.Frag) : Sp := fun vs H Q _ => ∃ (g : Int) (x y : V) (a c : Int × Int), vs = [.int g, x, y] ∧ 0 ≤ g ∧ g ≤ 13 ∧ NumV H x a ∧ NumV H y c ∧ PBd a ∧ PBd c ∧ ∀ (p : Addr) (H' : Hp), H p = none → Same H H' → H' p = some (.tup [.int (timesF g a c).1, .int (timesF g a c).2]) → Q (.ref p) H'

def sp__law_over (K : PySem.W.Frag) : Sp := fun vs H Q _ => ∃ (g : Int) (x y : V) (a c : Int × Int), vs = [.int g, x, y] ∧ 0 ≤ g ∧ g ≤ 13 ∧ NumV H x a ∧ NumV H y c ∧ PBd a ∧ PBd c ∧ c.1 ≠ 0 ∧ ∀ (p : Addr) (H' : Hp), H p = none → Same H H' → H' p = some (.tup [.int (ovrF g a c).1, .int (ovrF g a c).2]) → Q (.ref p) H'

def sp__law_plus (K : PySem.W.Frag) : Sp := fun vs H Q _ => ∃ (g : Int) (x y : V) (a c : Int × Int), vs = [.int g, x, y] ∧ 0 ≤ g ∧ g ≤ 13 ∧ NumV H x a ∧ NumV H y c ∧ PBd a ∧ PBd c ∧ ∀ (p : Addr) (H' : Hp), H p = none → Same H H' → H' p = some (.tup [.int (plusF g a c).1, .int (plusF g a c).2]) → Q (.ref p) H'

def sp__law_minus (K : PySem.W.Frag) : Sp := fun vs H Q _ => ∃ (g : Int) (x : V) (a : Int × Int), vs = [.int g, x] ∧ 0 ≤ g ∧ g ≤ 13 ∧ NumV H x a ∧ a.2.natAbs < 2 ^ 8000 ∧ a.2 ≠ 0 ∧ ∀ (p : Addr) (H' : Hp), H p = none → Same H H' → H' p = some (.tup [.int (minusF g a).1, .int (minusF g a).2]) → Q (.ref p) H'

def sp__law_number (K : PySem.W.Frag) : Sp := fun vs H Q _ => ∃ (b : Addr) (g : Int), vs = [.ref b, .int g] ∧ Gr g ∧ Bag H b ∧ ∀ (H' : Hp) (v : V) (a : Int × Int), NumV H' v a → NG g 0 a → TN g 7 a → Mv b H H' → Bag H' b → Q v H'
theorem nu_six {i : Int} (h0 : 0 ≤ i) (h6 : i < 6) : ∃ m : Int, atI [V.int 3, V.int 5, V.int 5, V.int 9, V.int 19, V.int 99] i = some (.int m) ∧ 3 ≤ m ∧ m ≤ 99 := by
  rcases (by omega : i = 0 ∨ i = 1 ∨ i = 2 ∨ i = 3 ∨ i = 4 ∨ i = 5) with rfl | rfl | rfl | rfl | rfl | rfl <;> exact ⟨_, rfl, by decide, by decide⟩
theorem nu_four {i d : Int} (h0 : 0 ≤ i) (h4 : i < 4) (d0 : 0 ≤ d) (d8 : d < 8) : ∃ m : Int, atI [V.int 1, V.int 1, V.int 1, V.int (2 + d)] i = some (.int m) ∧ 1 ≤ m ∧ m ≤ 9 := by
  rcases (by omega : i = 0 ∨ i = 1 ∨ i = 2 ∨ i = 3) with rfl | rfl | rfl | rfl
  · exact ⟨_, rfl, by decide, by decide⟩
  · exact ⟨_, rfl, by decide, by decide⟩
  · exact ⟨_, rfl, by decide, by decide⟩
  · exact ⟨_, rfl, by omega, by omega⟩
theorem Gr.two {g : Int} (h : Gr g) : g = 0 ∨ Gr5 g := by
  unfold Gr at h
  unfold Gr5
  omega
theorem Gr.bd {g : Int} (h : Gr g) : 0 ≤ g ∧ g ≤ 13 := by
  unfold Gr at h
  omega
theorem Gr.three {g : Int} (h : Gr g) : g = 0 ∨ (3 ≤ g ∧ g ≤ 13) := by
  unfold Gr at h
  omega

theorem fst_nil {g : Int} {F : Type} [Lean.Grind.CommRing F] {V : GV g F} (m n : Nat) : Fst V m n [] [] [] :=
  ⟨Nat.le_refl _, fun p hp => (by cases hp), ⟨[], rr_nil, fun i a r p h => by simp at h⟩, fun i r _ h => by simp at h, fun r hr => (by cases hr), fun r hr => (by cases hr), fun r hr => (by cases hr), fun r hr => (by cases hr)⟩
def sp_least_wholes (K : PySem.W.Frag) : Sp := fun vs H Q _ => ∃ (g : Int) (v : V) (rows : List (List Int)) (n k A : Nat) (F : Type) (R : Lean.Grind.CommRing F) (W : GV g F), vs = [.int g, v] ∧ (g = 0 ∨ Gr5 g) ∧ ILs H v rows ∧ (∀ r ∈ rows, r.length = n) ∧ n ≤ 60 ∧ rows.length ≤ 60 ∧ (∀ r ∈ rows, InG g r) ∧
  (g = 0 → (∀ r ∈ rows, Prim r ∨ Nul r) ∧ (∀ r ∈ rows, ∀ x, (gt r x).natAbs ≤ A) ∧ 1 ≤ A ∧ (rows.length * A) ^ rows.length < 2 ^ k) ∧ 4 ≤ k ∧ k ≤ 4400 ∧
  ∀ (v' : V) (H' : Hp) (rows' : List (List Int)) (h : List Nat), Same H H' → ILs H' v' (rows'.take h.length) → Fst W n n rows rows' h → rows'.length = rows.length → (∀ r ∈ rows', ∀ x, (gt r x).natAbs < 2 ^ k) → Q v' H'

def sp__law_scaled (K : PySem.W.Frag) : Sp := fun vs H Q _ => ∃ (g : Int) (x y : V) (r : List (Int × Int)) (c : Int × Int), vs = [.int g, x, y] ∧ 0 ≤ g ∧ g ≤ 13 ∧ RowV H x r ∧ NumV H y c ∧ r.length ≤ 100 ∧ (∀ a ∈ r, PBd a) ∧ PBd c ∧ ∀ (v : V) (H' : Hp), Same H H' → RowV H' v (r.map fun a => timesF g a c) → Q v H'

def sp__law_added (K : PySem.W.Frag) : Sp := fun vs H Q _ => ∃ (g : Int) (x y : V) (r s : List (Int × Int)), vs = [.int g, x, y] ∧ 0 ≤ g ∧ g ≤ 13 ∧ RowV H x r ∧ RowV H y s ∧ r.length = s.length ∧ r.length ≤ 100 ∧ (∀ a ∈ r, PBd a) ∧ (∀ a ∈ s, PBd a) ∧ ∀ (v : V) (H' : Hp), Same H H' → RowV H' v (List.zipWith (plusF g) r s) → Q v H'

def sp__law_row (K : PySem.W.Frag) : Sp := fun vs H Q _ => ∃ (b : Addr) (g m : Int), vs = [.ref b, .int g, .int m] ∧ Gr g ∧ 0 ≤ m ∧ m ≤ 10 ∧ Bag H b ∧ ∀ (H' : Hp) (v : V) (r : List (Int × Int)), RowV H' v r → r.length = m.toNat → (∀ a ∈ r, NG g 0 a ∧ TN g 7 a) → Mv b H H' → Bag H' b → Q v H'

def sp__law_are_least (K : PySem.W.Frag) : Sp := fun vs H Q _ => ∃ (g : Int) (v : V) (T : List (List (Int × Int))) (n k : Nat) (F : Type) (R : Lean.Grind.CommRing F) (W : GV g F), vs = [.int g, v, .int (n : Int)] ∧ (g = 0 ∨ Gr5 g) ∧ TabV H v T ∧ LeastS W n k T ∧ 4 ≤ k ∧ n ≤ 50 ∧ ∀ H', Same H H' → Q (.bl true) H'

def sp_least_rows (K : PySem.W.Frag) : Sp := fun vs H Q _ => ∃ (g : Int) (v : V) (t : List (List (Int × Int))) (n k kb A : Nat) (F : Type) (R : Lean.Grind.CommRing F) (W : GV g F), vs = [.int g, v] ∧ (g = 0 ∨ Gr5 g) ∧ TabV H v t ∧ (∀ r ∈ t, r.length = n ∧ ∀ a ∈ r, TN g kb a) ∧ 0 < kb ∧ kb ≤ 400 ∧ n ≤ 20 ∧ t.length ≤ 60 ∧
  (g = 0 → (∀ r ∈ t, ∀ y ∈ wrT r, y.natAbs ≤ A) ∧ 1 ≤ A ∧ (t.length * A) ^ t.length < 2 ^ k) ∧ 4 ≤ k ∧ k ≤ 4400 ∧
  ∀ (v' : V) (H' : Hp) (T : List (List (Int × Int))), Same H H' → TabV H' v' T → LeastR W n k t T → (g = 0 → ∀ r ∈ T, ∀ y ∈ wrT r, y.natAbs ≤ 2 ^ k) → Q v' H'
theorem le_pow_self {m A : Nat} (h : 0 < m) (hA : 1 ≤ A) : A ≤ (m * A) ^ m := by
  have h1 : A ≤ m * A := Nat.le_mul_of_pos_left A h
  have h2 : (m * A) ^ 1 ≤ (m * A) ^ m := Nat.pow_le_pow_right (by omega) h
  rw [Nat.pow_one] at h2
  omega

def sp__law_least (K : PySem.W.Frag) : Sp := fun vs H Q _ => ∃ (g : Int) (v : V) (t : List (List (Int × Int))) (n k A : Nat) (F : Type) (R : Lean.Grind.CommRing F) (W : GV g F), vs = [.int g, v] ∧ (g = 0 ∨ Gr5 g) ∧ TabV H v t ∧ (∀ r ∈ t, r.length = n ∧ ∀ a ∈ r, TN g k a) ∧ n ≤ 20 ∧ t.length ≤ 20 ∧
  (g = 0 → (∀ r ∈ t, (wrB r).natAbs ≤ A ∧ ∀ y ∈ wrT r, y.natAbs ≤ A) ∧ 1 ≤ A ∧ A * ((n + 1) * A) ^ (n + 1) < 2 ^ k) ∧ 4 ≤ k ∧ k ≤ 900 ∧
  ∀ (v' : V) (H' : Hp) (T : List (List (Int × Int))), Same H H' → TabV H' v' T → LeastR W n k t T → Q v' H'

theorem lin_snoc {F : Type} [Lean.Grind.CommRing F] {c : F} {a : Row F} : ∀ (cs : List F) (A : List (Row F)), cs.length = A.length → lin (cs ++ [c]) (A ++ [a]) = fun j => lin cs A j + c * a j
  | [], [], _ => by
    funext j
    show c * a j + 0 = 0 + c * a j
    grind
  | d :: cs, e :: A, h => by
    funext j
    have ih := lin_snoc (c := c) (a := a) cs A (Nat.succ.inj h)
    show d * e j + lin (cs ++ [c]) (A ++ [a]) j = d * e j + lin cs A j + c * a j
    rw [ih]
    grind
  | [], _ :: _, h => by cases h
  | _ :: _, [], h => by cases h
def sp__law_through (K : PySem.W.Frag) : Sp := fun vs H Q _ => ∃ (g : Int) (x y : V) (r : List (Int × Int)) (t : List (List (Int × Int))) (n k l : Nat) (F : Type) (R : Lean.Grind.CommRing F) (W : GV g F), vs = [.int g, x, y] ∧ (g = 0 ∨ Gr5 g) ∧ RowV H x r ∧ TabV H y t ∧ r.length = t.length ∧ t ≠ [] ∧ t.length ≤ 20 ∧ n ≤ 20 ∧ (∀ a ∈ r, TN g k a) ∧ (∀ s ∈ t, s.length = n ∧ ∀ a ∈ s, TN g l a) ∧ 4 ≤ k ∧ 4 ≤ l ∧ k ≤ 1000 ∧ l ≤ 1000 ∧ (t.length - 1) * (l + k + 1) ≤ 2996 ∧
  ∀ (v : V) (H' : Hp) (w : List (Int × Int)), Same H H' → RowV H' v w → w.length = n → (∀ a ∈ w, TN g (4 + t.length * (l + k + 1)) a) → (∀ j, j < n → er W w j = lin (r.map W.e) (t.map (er W)) j) → Q v H'

def sp__law_rows (K : PySem.W.Frag) : Sp := fun vs H Q _ => ∃ (b : Addr) (g hi wi : Int), vs = [.ref b, .int g, .int hi, .int wi] ∧ Gr g ∧ 1 ≤ hi ∧ hi ≤ 9 ∧ 1 ≤ wi ∧ wi ≤ 10 ∧ Bag H b ∧ ∀ (H' : Hp) (v : V) (t : List (List (Int × Int))), TabV H' v t → t.length = hi.toNat → (∀ r ∈ t, r.length = wi.toNat ∧ ∀ a ∈ r, NG g 9 a ∧ TN g 40 a) → Mv b H H' → Bag H' b → Q v H'
theorem nt_plus {g : Int} (hg : g = 0 ∨ Gr5 g) {i : Nat} {a c : Int × Int} (hi : i ≤ 9) (h1 : NG g i a ∧ TN g 40 a) (h2 : NG g i c ∧ TN g 40 c) : NG g (i + 1) (plusF g a c) ∧ TN g 40 (plusF g a c) := by
  have n := ng_plus h1.1 h2.1
  have o := n.ok (by omega)
  exact ⟨n, tn_small hg (tn_plus hg h1.2 h2.2 (by decide)) (by decide) fun _ => ⟨o.1, o.2.1⟩⟩
theorem rep_one {u : V} (m : Nat) : (List.replicate m [u]).flatten = List.replicate m u := by
  induction m with
  | zero => rfl
  | succ m ih => rw [List.replicate_succ, List.flatten_cons, ih, List.replicate_succ]; rfl
theorem row_zeros {H : Hp} {u l : Addr} {m : Nat} (hu : H u = some (.tup [.int 0, .int 1])) (hl : H l = some (.tup (List.replicate m [V.ref u]).flatten)) : RowV H (.ref l) (List.replicate m (0, 1)) := by
  rw [rep_one] at hl
  refine ⟨l, _, rfl, hl, by rw [List.length_replicate, List.length_replicate], fun i x a h1 h2 => ?_⟩
  have e1 := List.eq_of_mem_replicate (List.mem_of_getElem? h1)
  have e2 := List.eq_of_mem_replicate (List.mem_of_getElem? h2)
  subst e1 e2
  exact ⟨u, rfl, hu⟩
theorem nt_zero {g : Int} (hg : g = 0 ∨ (3 ≤ g ∧ g ≤ 13)) (h2 : g = 0 ∨ Gr5 g) {i : Nat} : NG g i (0, 1) ∧ TN g 40 (0, 1) :=
  ⟨⟨by decide, by decide, Nat.zero_le _, hg.imp id fun h => ⟨h.1, h.2, rfl⟩⟩, (tn_zero h2).mono (by decide)⟩

def sp_beside_ones (K : PySem.W.Frag) : Sp := fun vs H Q _ => ∃ (g : Int) (v : V) (t : List (List (Int × Int))) (n k kb A : Nat) (F : Type) (R : Lean.Grind.CommRing F) (W : GV g F), vs = [.int g, v] ∧ (g = 0 ∨ Gr5 g) ∧ TabV H v t ∧ (∀ r ∈ t, r.length = n ∧ ∀ a ∈ r, TN g kb a) ∧ 4 ≤ kb ∧ kb ≤ 400 ∧ n + t.length ≤ 20 ∧
  (g = 0 → (∀ r ∈ besF t, ∀ y ∈ wrT r, y.natAbs ≤ A) ∧ 1 ≤ A ∧ (t.length * A) ^ t.length < 2 ^ k) ∧ 4 ≤ k ∧ k ≤ 4400 ∧
  ∀ (v' : V) (H' : Hp) (T : List (List (Int × Int))), Same H H' → TabV H' v' T → LeastR W (n + t.length) k (besF t) T → Q v' H'

def sp_nought_rows (K : PySem.W.Frag) : Sp := fun vs H Q _ => ∃ (g : Int) (v : V) (t : List (List (Int × Int))) (n k kb A : Nat) (F : Type) (R : Lean.Grind.CommRing F) (W : GV g F), vs = [.int g, v] ∧ (g = 0 ∨ Gr5 g) ∧ TabV H v t ∧ (∀ r ∈ t, r.length = n ∧ ∀ a ∈ r, TN g kb a) ∧ t ≠ [] ∧ 4 ≤ kb ∧ kb ≤ 400 ∧ n + t.length ≤ 20 ∧
  (g = 0 → (∀ r ∈ besF t, ∀ y ∈ wrT r, y.natAbs ≤ A) ∧ 1 ≤ A ∧ (t.length * A) ^ t.length < 2 ^ k) ∧ 4 ≤ k ∧ k ≤ 4400 ∧
  ∀ (v' : V) (H' : Hp) (Z B : List (List (Int × Int))), Same H H' → TabV H' v' Z → LeastS W t.length k Z → LeastR W n k t B → B.length + Z.length = t.length → (∀ r ∈ Z, ∀ x, x < n → lin (r.map W.e) (t.map (er W)) x = 0) → Q v' H'

def sp__law_is_told (K : PySem.W.Frag) : Sp := fun vs H Q _ => ∃ (g : Int) (v : V) (t : List (List (Int × Int))) (n : Nat), vs = [.int g, v, .int (n : Int)] ∧ Gr g ∧ TabV H v t ∧ (∀ r ∈ t, r.length = n ∧ ∀ a ∈ r, NG g 9 a ∧ TN g 40 a) ∧ n ≤ 9 ∧ t.length ≤ 10 ∧ ∀ H', Same H H' → Q (.bl true) H'
theorem aa_rows {m : Nat} (h : m ≤ 10) : (m * AA) ^ m < 2 ^ 300 := Nat.lt_of_le_of_lt (pow_mono h (by decide)) (by decide +kernel)
theorem aa_law {n : Nat} (h : n ≤ 9) : AA * ((n + 1) * AA) ^ (n + 1) < 2 ^ 400 := Nat.lt_of_le_of_lt (Nat.mul_le_mul_left _ (pow_mono (show n + 1 ≤ 10 by omega) (by decide))) (by decide +kernel)
theorem least_nil {g : Int} {F : Type} [Lean.Grind.CommRing F] (W : GV g F) (n k : Nat) : LeastR W n k [] [] := ⟨fun r hr => (by cases hr), ⟨[], rr_nil, fun p hp => (by cases hp)⟩, fun r hr => (by cases hr), fun r hr => (by cases hr)⟩

def sp_law (K : PySem.W.Frag) : Sp := fun vs H Q _ => ∃ (a : Addr) (ns : List Int), vs = [.ref a] ∧ SqL K H a (ns.map V.int) ∧ ∀ H', Q (.bl true) H'
theorem pick59 {i : Int} (h : i = 0 ∨ i = 1) : ∃ m : Int, atI [V.int 5, V.int 9] i = some (.int m) ∧ 5 ≤ m ∧ m ≤ 9 := by
  rcases h with rfl | rfl <;> exact ⟨_, rfl, by decide, by decide⟩
theorem tab_mem {H : Hp} {xs ys : List V} {t : List (List (Int × Int))} (h : Acc RowV H xs t t.length) (hm : ∀ y ∈ ys, y ∈ xs) : ∃ u, Acc RowV H ys u u.length ∧ u.length = ys.length ∧ (∀ r ∈ u, r ∈ t) ∧ ∀ (x : V) (r : List (Int × Int)), x ∈ ys → RowV H x r → r ∈ u := by
  induction ys with
  | nil => exact ⟨[], Acc.nil, rfl, fun r hr => (by cases hr), fun x r hx => (by cases hx)⟩
  | cons y ys ih =>
    obtain ⟨u, h1, h2, h3, h4⟩ := ih fun z hz => hm z (List.mem_cons_of_mem _ hz)
    obtain ⟨i, hi⟩ := List.getElem?_of_mem (hm y List.mem_cons_self)
    have hl := (List.getElem?_eq_some_iff.mp hi).1
    rw [h.1] at hl
    have gt1 : t[i]? = some t[i] := List.getElem?_eq_getElem hl
    have hy := h.2 i y _ hi gt1
    refine ⟨t[i] :: u, ⟨by rw [List.length_cons, List.length_cons, h1.1], fun j x a e1 e2 => ?_⟩, by rw [List.length_cons, List.length_cons, h2], fun r hr => ?_, fun x r hx hr => ?_⟩
    · cases j with
      | zero =>
        cases Option.some.inj e1
        cases Option.some.inj e2
        exact hy
      | succ j => exact h1.2 j x a e1 e2
    · rcases List.mem_cons.mp hr with rfl | hr
      · exact List.getElem_mem hl
      · exact h3 r hr
    · rcases List.mem_cons.mp hx with rfl | hx
      · rw [rowV_uniq hr hy]
        exact List.mem_cons_self
      · exact List.mem_cons_of_mem _ (h4 x r hx hr)
theorem aa_due {m : Nat} (h : m ≤ 9) : (m * 2 ^ 300) ^ m < 2 ^ 2800 := Nat.lt_of_le_of_lt (pow_mono h (by decide +kernel)) (by decide +kernel)

theorem ok_common_divisor {f : Addr} {fd : FuncData} (F : FnP K "common_divisor" s_common_divisor f fd) (m_abs : mg "abs" = none) :
    FnOk P w K mg base CX0 1 f fd ["a", "b"] (sp_common_divisor K) := by
  refine F.ok sc_common_divisor (fun vs H Q E h => ?_) (fun cdv A outer s H vs Q E hr h => ?_)
  · obtain ⟨a, c, rfl, q⟩ := h
    rfl
  · obtain ⟨a, c, rfl, q⟩ := h
    refine ⟨_, PSs.nox (pss_cons (ps_while PassesOwn.never (pt_cmpR op_ne (pv 1) pe_int (nomark _)) (pss_one (ps_par (i := 0) (j := 1) (by rfl) sc_common_divisor.nd rfl rfl (by decide) rfl rfl (pa_cons (pv 1) (pa_cons (pe_op op_modN (pv 0) (pv 1)) pa_nil)) (by rfl))))
        (pss_one (ps_ret (pe_callB call_abs (by rfl) m_abs (by decide +kernel) (pa_cons (pv 0) pa_nil))))), ?_⟩
    walk_at "go"
    refine while_by (fun σ H' => ∃ x y : Int, σ = [some (.int x), some (.int y)] ∧ Int.gcd x y = Int.gcd a c ∧ H' = H) (fun σ _ => match σ with | [_, some (.int y)] => y.natAbs | _ => 0) ⟨a, c, rfl, rfl, rfl⟩ (fun σ H' hP => ?_) (fun σ H' Q1 Q2 f h => ?_)
    · obtain ⟨x, y, rfl, e, rfl⟩ := hP
      walk_at "go"
      refine w_iteN (fun hc => ?_) (fun hc => ?_)
      · walk_at "go"
        refine w_I hc ?_
        walk_at "go"
        exact ⟨⟨y, x.fmod y, rfl, by rw [gcd_fmod]; exact e, rfl⟩, fmod_small x hc⟩
      · walk_at "go"
        subst hc
        rw [Int.gcd_zero_right] at e
        rw [← e] at q
        have e2 : (if x < 0 then -x else x) = ((x.natAbs : Nat) : Int) := by split <;> omega
        rw [e2]
        exact q
    · obtain ⟨v, hv, e1, k, ek, qq⟩ := h
      exact ⟨v, hv, e1, k, ek, f _ _ qq⟩
theorem ok_wheel_back {f : Addr} {fd : FuncData} (F : FnP K "wheel_back" s_wheel_back f fd) :
    FnOk P w K mg base CX0 1 f fd ["wheel", "whole"] (sp_wheel_back K) := by
  refine F.ok sc_wheel_back (fun vs H Q E h => ?_) (fun cdv A outer s H vs Q E hr h => ?_)
  · obtain ⟨g, w, k, rfl, hg, hk1, hk, hw, q⟩ := h
    rfl
  · obtain ⟨g, w, k, rfl, hg, hk1, hk, hw, q⟩ := h
    refine ⟨_, PSs.nox (pss_cons (ps_set (i := 2) sc_wheel_back.nd rfl (.inl rfl) pe_int)
        (pss_cons (ps_while PassesOwn.never (pt_cmpR op_ne (pe_op op_modN (pe_op op_mul (pv 2) (pv 1)) (pv 0)) pe_int (nomark _)) (pss_one (ps_aug (i := 2) sc_wheel_back.nd rfl (.inl rfl) pe_int ip_add)))
        (pss_one (ps_ret (pv 2))))), ?_⟩
    walk_at "go"
    refine while_by (fun σ H' => ∃ f : Int, σ = [some (.int g), some (.int w), some (.int f)] ∧ 1 ≤ f ∧ f ≤ k ∧ H' = H) (fun σ _ => match σ with | [_, _, some (.int f)] => (k - f).toNat | _ => 0) ⟨1, rfl, by decide, hk1, rfl⟩ (fun σ H' hP => ?_) (fun σ H' Q1 Q2 f h => ?_)
    · obtain ⟨f, rfl, hf1, hf, rfl⟩ := hP
      walk_at "go"
      refine w_I (.inl ⟨by omega, by omega⟩) ?_
      walk_at "go"
      refine w_I (by omega) ?_
      walk_at "go"
      refine w_iteN (fun hc => ?_) (fun hc => ?_)
      · have hne : f ≠ k := fun e => hc (by rw [e]; exact hw)
        refine w_aug rfl ?_
        walk_at "go"
        refine ⟨f, 1, rfl, rfl, ⟨f + 1, rfl, by omega, by omega, rfl⟩, ?_⟩
        show (k - (f + 1)).toNat < (k - f).toNat
        omega
      · walk_at "go"
        exact q f hf1 (by omega) hc
    · obtain ⟨v1, h1, v2, h2, i, j, e1, e2, c1, v3, h3, i2, j2, e3, e4, c2, sc, b, eb, qq⟩ := h
      exact ⟨v1, h1, v2, h2, i, j, e1, e2, c1, v3, h3, i2, j2, e3, e4, c2, sc, b, eb, f _ _ qq⟩
theorem ok_head_place {f : Addr} {fd : FuncData} (F : FnP K "head_place" s_head_place f fd) (m_range : mg "range" = none) (m_len : mg "len" = none) :
    FnOk P w K mg base CX0 1 f fd ["rows", "begin", "at"] (sp_head_place K) := by
  refine F.ok sc_head_place (fun vs H Q E h => ?_) (fun cdv A outer s H vs Q E hr h => ?_)
  · obtain ⟨v, rows, b, a, rfl, hv, ha, hl, hbl, q1, q2⟩ := h
    rfl
  · obtain ⟨v, rows, b, a, rfl, hv, ha, hl, hbl, q1, q2⟩ := h
    refine ⟨_, PSs.nox (pss_cons (ps_for PassesOwn.never rfl (pi_range2 (by rfl) m_range (pa_cons (pv 1) (pa_cons (pe_callB call_len_seq (by rfl) m_len (by decide +kernel) (pa_cons (pv 0) pa_nil)) pa_nil))) (pg_name (i := 3) sc_head_place.nd rfl (.inl rfl)) (pss_one (ps_if (pt_cmpR op_ne (pe_ix ix_list (pe_ix ix_list (pv 0) (pv 3) (fun _ _ => rfl)) (pv 2) (fun _ _ => rfl)) pe_int (nomark _)) (pss_one (ps_ret (pv 3))) pss_nil)))
        (pss_one (ps_ret pe_non))), ?_⟩
    obtain ⟨p, xs, rfl, hp, hacc⟩ := hv
    have hlx : xs.length = rows.length := hacc.1
    walk_at "go"
    refine ⟨p, xs, rfl, .inl (SqL.of hp), ?_⟩
    walk_at "go"
    refine ⟨⟨by omega, by omega, by omega, by omega⟩, ?_⟩
    refine for_range (fun i σ H' => H' = H ∧ (∃ y, σ = [some (.ref p), some (.int (b : Int)), some (.int (a : Int)), y]) ∧ ∀ (j : Nat) (r : List Int), b ≤ j → j < b + i → rows[j]? = some r → gt r a = 0) ⟨rfl, ⟨_, rfl⟩, fun j r h1 h2 => absurd h2 (by omega)⟩ (fun i σ H' hi hP => ?_) (fun σ H' hP => ?_)
    · obtain ⟨rfl, ⟨y, rfl⟩, hz⟩ := hP
      have hbi : b + i < rows.length := by omega
      have hri : rows[b + i]? = some rows[b + i] := List.getElem?_eq_getElem hbi
      have hxi : xs[b + i]? = some (xs[b + i]'(by omega)) := List.getElem?_eq_getElem _
      obtain ⟨pr, e1, hpr⟩ := hacc.2 _ _ _ hxi hri
      walk_at "go"
      have e2 : atI xs ((b : Int) + (i : Int)) = some (.ref pr) := by
        have := atI_nat hxi
        rw [e1, show ((b + i : Nat) : Int) = (b : Int) + (i : Int) by omega] at this
        exact this
      refine w_ixL hp e2 ?_
      walk_at "go"
      refine w_ixL hpr (gt_int (ha _ (List.getElem_mem hbi))) ?_
      walk_at "go"
      refine w_iteN (fun hc => ?_) (fun hc => ?_)
      · walk_at "go"
        have := q2 (b + i) _ (by omega) hri hc
        rw [show ((b + i : Nat) : Int) = (b : Int) + (i : Int) by omega] at this
        exact this
      · walk_at "go"
        refine ⟨rfl, ⟨_, rfl⟩, fun j r h1 h2 h3 => ?_⟩
        by_cases e : j = b + i
        · subst e
          rw [hri] at h3
          cases h3
          exact hc
        · exact hz j r h1 (by omega) h3
    · obtain ⟨rfl, ⟨y, rfl⟩, hz⟩ := hP
      walk_at "go"
      refine q1 fun i r h1 h2 => hz i r h1 ?_ h2
      have := (List.getElem?_eq_some_iff.mp h2).1
      omega
theorem ok_table_of_ones {f : Addr} {fd : FuncData} (F : FnP K "table_of_ones" s_table_of_ones f fd) (m_tuple : mg "tuple" = none) (m_range : mg "range" = none) :
    FnOk P w K mg base CX0 1 f fd ["many"] (sp_table_of_ones K) := by
  refine F.ok sc_table_of_ones (fun vs H Q E h => ?_) (fun cdv A outer s H vs Q E hr h => ?_)
  · obtain ⟨m, rfl, hm, q⟩ := h
    rfl
  · obtain ⟨m, rfl, hm, q⟩ := h
    refine ⟨_, PSs.nox (pss_one (ps_ret (pe_callTy call_tuple_of (by rfl) m_tuple (by decide +kernel) (pa_cons (pe_lc (own := [("place", 1)]) (g := gName 1) (tt := tYes) (by rfl) sc_table_of_ones.nd (pi_range1 (by rfl) m_range (pa_cons (pv 0) pa_nil)) (blkOk_by (own := [("place", 1)]) (N := ["many", "place", "at"]) (sc := defScope s_table_of_ones) (by decide +kernel)) (fun _ _ _ _ _ => (pg_name (i := 1) sc_table_of_ones.nd rfl (.inr rfl))) (fun _ _ _ _ _ => pts_nil) (fun _ _ _ _ _ => (pe_callTy (r := rTupOf K) call_tupOf (by rfl) m_tuple (by decide +kernel) (pa_cons (pe_lc (own := [("at", 2)]) (g := gName 2) (tt := tYes) (wi := iRng1 (tCons (tVar 0) tNil)) (by rfl) sc_table_of_ones.nd (pi_range1 (by rfl) m_range (pa_cons (pv 0) pa_nil)) (blkOk_by (own := [("at", 2)]) (N := ["many", "place", "at"]) (sc := ({ kind := PySem.ScopeKind.function, names := [ (PySem.Str.ofString ".0", PySem.NameKind.local), (PySem.Str.ofString "place", PySem.NameKind.cell), (PySem.Str.ofString "tuple", PySem.NameKind.globalImplicit), (PySem.Str.ofString "range", PySem.NameKind.globalImplicit), (PySem.Str.ofString "many", PySem.NameKind.cell)], isGenerator := false, isCoroutine := false, more := [] } : Scope)) (by decide +kernel)) (fun _ _ _ _ _ => (pg_name (i := 2) sc_table_of_ones.nd rfl (.inl rfl))) (fun _ _ _ _ _ => pts_nil) (fun _ _ _ _ _ => (pe_ifExp (pt_cmpR op_eq (pv 2) (pv 1) (nomark _)) (pe_tup (pa_cons pe_int (pa_cons pe_int pa_nil))) (pe_tup (pa_cons pe_int (pa_cons pe_int pa_nil)))))) pa_nil)))) pa_nil)))), ?_⟩
    walk_at "go"
    refine ⟨by omega, by omega, fun D hD => ?_⟩
    refine lc_range (fun i H' => Same H H' ∧ ∃ ys, H' D = some (.lst ys) ∧ Acc RowV H' ys (onesF m) i) ⟨Same.updD (Same.refl H) hD, [], upd_same, Acc.nil⟩ (fun i H' hi hP => ?_) (fun H' hP => ?_)
    · obtain ⟨sm, ys, hD', hacc⟩ := hP
      have hi' : i < m := by omega
      walk_at "go"
      refine ⟨rfl, ?_⟩
      walk_at "go"
      refine ⟨by omega, by omega, fun D2 hD2 => ?_⟩
      have nD : D ≠ D2 := fresh_of hD' hD2
      refine lc_range (fun j H'' => Same H' H'' ∧ ∃ zs, H'' D2 = some (.lst zs) ∧ Acc NumV H'' zs ((List.range m).map fun j => ((if i = j then 1 else 0 : Int), (1 : Int))) j) ⟨Same.updD (Same.refl H') hD2, [], upd_same, Acc.nil⟩ (fun j H'' hj hP => ?_) (fun H'' hP => ?_)
      · obtain ⟨sm2, zs, hD2', hacc2⟩ := hP
        have hj' : j < m := by omega
        have fin : ∀ (p3 : Addr) (H3 : Hp), Same H'' H3 → H3 p3 = some (.tup [.int (if i = j then 1 else 0), .int 1]) → ∃ acc, H3 D2 = some (.lst acc) ∧ acc.length < sizeLine ∧ Same H' (upd H3 D2 (.lst (acc ++ [V.ref p3]))) ∧ ∃ zs, (upd H3 D2 (.lst (acc ++ [V.ref p3]))) D2 = some (.lst zs) ∧ Acc NumV (upd H3 D2 (.lst (acc ++ [V.ref p3]))) zs ((List.range m).map fun j => ((if i = j then 1 else 0 : Int), (1 : Int))) (j + 1) := fun p3 H3 s3 h3 => by
          have h3D := s3 _ _ hD2'
          have kt : Kt H'' (upd H3 D2 (.lst (zs ++ [V.ref p3]))) := (Kt.of s3).trans (Kt.updL h3D)
          refine ⟨zs, h3D, small1000 (by rw [hacc2.1]; omega), Same.updD (sm2.trans s3) hD2, _, upd_same, ?_⟩
          exact (hacc2.mono fun x a h => NumV.kt h kt).snoc (a := ((if i = j then 1 else 0 : Int), (1 : Int))) (by rw [List.getElem?_map, List.getElem?_range hj']; rfl) ⟨p3, rfl, Kt.updL h3D _ _ h3⟩
        walk_at "go"
        refine ⟨rfl, ?_⟩
        walk_at "go"
        refine w_ite (fun hc => ?_) (fun hc => ?_)
        · walk_at "go"
          refine w_new (by simp) fun p3 H3 hp3 s3 h3 => ?_
          refine fin p3 H3 s3 ?_
          rw [if_pos (show i = j by omega)]
          exact h3
        · walk_at "go"
          refine w_new (by simp) fun p3 H3 hp3 s3 h3 => ?_
          refine fin p3 H3 s3 ?_
          rw [if_neg (show ¬ i = j by omega)]
          exact h3
      · obtain ⟨sm2, zs, hD2', hacc2⟩ := hP
        walk_at "go"
        refine ⟨_, _, rfl, .inl ⟨SqL.of hD2', fun l hl => ?_⟩⟩
        have s4 := same_upd (o := HO.tup zs) hl
        have h4D := s4 _ _ (sm2 _ _ hD')
        have kt : Kt H' (upd (upd H'' l (.tup zs)) D (.lst (ys ++ [V.ref l]))) := (Kt.of (sm2.trans s4)).trans (Kt.updL h4D)
        refine ⟨ys, h4D, small1000 (by rw [hacc.1]; omega), Same.updD (sm.trans (sm2.trans s4)) hD, _, upd_same, ?_⟩
        refine (hacc.mono fun x a h => RowV.kt h kt).snoc (a := (List.range m).map fun j => ((if i = j then 1 else 0 : Int), (1 : Int))) (by unfold onesF; rw [List.getElem?_map, List.getElem?_range hi']; rfl) ?_
        refine RowV.kt ((hacc2.mono fun x a h => NumV.kt h (Kt.of s4)).sq (p := l) ?_ upd_same) (Kt.updL h4D)
        rw [List.length_map, List.length_range]
        omega
    · obtain ⟨sm, ys, hD', hacc⟩ := hP
      walk_at "go"
      refine ⟨_, _, rfl, .inl ⟨SqL.of hD', fun l hl => ?_⟩⟩
      refine q _ _ (sm.trans (same_upd hl)) ((hacc.mono fun x a h => RowV.kt h (Kt.of (same_upd hl))).sq ?_ upd_same)
      unfold onesF
      rw [List.length_map, List.length_range]
      omega
theorem ok_is_all_nought {f : Addr} {fd : FuncData} (F : FnP K "is_all_nought" s_is_all_nought f fd) (m_all : mg "all" = none) :
    FnOk P w K mg base CX0 1 f fd ["row"] (sp_is_all_nought K) := by
  refine F.ok sc_is_all_nought (fun vs H Q E h => ?_) (fun cdv A outer s H vs Q E hr h => ?_)
  · obtain ⟨v, r, rfl, hv, hl, q⟩ := h
    rfl
  · obtain ⟨v, r, rfl, hv, hl, q⟩ := h
    refine ⟨_, PSs.nox (pss_one (ps_ret (pe_callB (cr_all rfl) (by rfl) m_all (by decide +kernel) (pa_cons (pe_lc (own := [("x", 1)]) (g := gName 1) (tt := tYes) (by rfl) sc_is_all_nought.nd (pi_tup (pv 0)) (blkOk_by (own := [("x", 1)]) (N := ["row", "x"]) (sc := defScope s_is_all_nought) (by decide +kernel)) (fun _ _ _ _ _ => (pg_name (i := 1) sc_is_all_nought.nd rfl (.inl rfl))) (fun _ _ _ _ _ => pts_nil) (fun _ _ _ _ _ => (pe_cmpR op_eq (pe_ix (r := rIxT K) ix_tup (pv 1) pe_int (fun _ _ => rfl)) pe_int (nomark _)))) pa_nil)))), ?_⟩
    obtain ⟨p, xs, rfl, hp, hlx, hx⟩ := hv
    walk_at "go"
    refine ⟨p, rfl, ⟨xs, SqT.of hp⟩, fun D hD => ?_⟩
    refine lc_tup (xs := xs) (fun i H' => Same H H' ∧ H' D = some (.lst (((r.map fun a => decide (a.1 = 0)).take i).map V.bl))) ⟨Same.updD (Same.refl H) hD, upd_same⟩ (fun i H' _ hP => SqT.of (hP.1 _ _ hp)) (fun i x H' hxi hP => ?_) (fun H' hP => ?_)
    · obtain ⟨sm, hD'⟩ := hP
      have hi : i < r.length := by
        have := (List.getElem?_eq_some_iff.mp hxi).1
        omega
      have hri : r[i]? = some r[i] := List.getElem?_eq_getElem hi
      obtain ⟨px, rfl, hpx⟩ := hx i x _ hxi hri
      have hpx' := sm _ _ hpx
      walk_at "go"
      refine ⟨rfl, ?_⟩
      walk_at "go"
      refine ⟨_, hD', ?_, Same.updD sm hD, ?_⟩
      · rw [List.length_map, List.length_take]
        exact small1000 (by rw [List.length_map]; omega)
      · rw [upd_same, List.take_add_one, List.getElem?_map, hri, List.map_append]
        rfl
    · obtain ⟨sm, hD'⟩ := hP
      rw [List.take_of_length_le (by rw [List.length_map]; omega)] at hD'
      walk_at "go"
      refine ⟨D, _, rfl, SqL.of hD', ?_⟩
      have e : (r.map fun a => decide (a.1 = 0)).all id = nghtR r := by
        unfold nghtR
        rw [List.all_map]
        rfl
      rw [e]
      exact q _ sm
theorem ok__law_is_whole {f : Addr} {fd : FuncData} (F : FnP K "_law_is_whole" s__law_is_whole f fd) (m_isinstance : mg "isinstance" = none) (m_int : mg "int" = none) (m_bool : mg "bool" = none) :
    FnOk P w K mg base CX0 1 f fd ["_law_thing"] (sp__law_is_whole K) := by
  refine F.ok sc__law_is_whole (fun vs H Q E h => ?_) (fun cdv A outer s H vs Q E hr h => ?_)
  · obtain ⟨v, rfl, hv, q⟩ := h
    rfl
  · obtain ⟨v, rfl, hv, q⟩ := h
    refine ⟨_, PSs.nox (pss_one (ps_ret (pe_and (pe_callB call_isi (by rfl) m_isinstance (by decide +kernel) (pa_cons (pv 0) (pa_cons (pe_bltn (v := .ty "int") (by rfl) m_int (by decide +kernel) rfl) pa_nil))) (pe_one (pe_not (pe_callB call_isi (by rfl) m_isinstance (by decide +kernel) (pa_cons (pv 0) (pa_cons (pe_bltn (v := .ty "bool") (by rfl) m_bool (by decide +kernel) rfl) pa_nil)))))))), ?_⟩
    have e := whole_eq v
    walk_at "go"
    refine tv_int hv ?_
    walk_at "go"
    refine w_iteB (fun hi => ?_) (fun hi => ?_)
    · walk_at "go"
      refine tv_bool hv ?_
      walk_at "go"
      rw [e, hi] at q
      exact q
    · rw [e, hi] at q
      exact q
theorem ok__law_shared {f : Addr} {fd : FuncData} (F : FnP K "_law_shared" s__law_shared f fd) (m_abs : mg "abs" = none) :
    FnOk P w K mg base CX0 1 f fd ["_law_one", "_law_other"] (sp__law_shared K) := by
  refine F.ok sc__law_shared (fun vs H Q E h => ?_) (fun cdv A outer s H vs Q E hr h => ?_)
  · obtain ⟨a, c, rfl, q⟩ := h
    rfl
  · obtain ⟨a, c, rfl, q⟩ := h
    refine ⟨_, PSs.nox (pss_cons (ps_par (i := 0) (j := 1) (by rfl) sc__law_shared.nd rfl rfl (by decide) rfl rfl (pa_cons (pe_callB call_abs (by rfl) m_abs (by decide +kernel) (pa_cons (pv 0) pa_nil)) (pa_cons (pe_callB call_abs (by rfl) m_abs (by decide +kernel) (pa_cons (pv 1) pa_nil)) pa_nil)) (by rfl))
        (pss_cons (ps_while PassesOwn.never (pt_cmpR op_gt (pv 1) pe_int (nomark _)) (pss_one (ps_par (i := 0) (j := 1) (by rfl) sc__law_shared.nd rfl rfl (by decide) rfl rfl (pa_cons (pv 1) (pa_cons (pe_op op_modN (pv 0) (pv 1)) pa_nil)) (by rfl))))
        (pss_one (ps_ret (pv 0))))), ?_⟩
    walk_at "go"
    rw [abs_nat, abs_nat]
    refine while_by (fun σ H' => ∃ x y : Nat, σ = [some (.int (x : Int)), some (.int (y : Int))] ∧ Nat.gcd x y = Int.gcd a c ∧ H' = H) (fun σ _ => match σ with | [_, some (.int y)] => y.toNat | _ => 0) ⟨a.natAbs, c.natAbs, rfl, rfl, rfl⟩ (fun σ H' hP => ?_) (fun σ H' Q1 Q2 f h => ?_)
    · obtain ⟨x, y, rfl, e, rfl⟩ := hP
      walk_at "go"
      refine w_ite (fun hc => ?_) (fun hc => ?_)
      · walk_at "go"
        refine w_I (by omega) ?_
        walk_at "go"
        have e1 : (x : Int).fmod (y : Int) = ((x % y : Nat) : Int) := by
          rw [fmod_pos _ hc]
          rfl
        rw [e1]
        refine ⟨⟨y, x % y, rfl, ?_, rfl⟩, ?_⟩
        · rw [← e, Nat.gcd_comm y, ← Nat.gcd_rec, Nat.gcd_comm]
        · show ((x % y : Nat) : Int).toNat < ((y : Nat) : Int).toNat
          have := Nat.mod_lt x (by omega : y > 0)
          omega
      · walk_at "go"
        have e0 : y = 0 := by omega
        subst e0
        rw [Nat.gcd_zero_right] at e
        rw [e]
        exact q
    · obtain ⟨v, hv, i, j, e1, e2, k, ek, qq⟩ := h
      exact ⟨v, hv, i, j, e1, e2, k, ek, f _ _ qq⟩
theorem ok__law_bag {f : Addr} {fd : FuncData} (F : FnP K "_law_bag" s__law_bag f fd) (m_len : mg "len" = none) (m_abs : mg "abs" = none) :
    FnOk P w K mg base CX0 1 f fd ["_law_script", "_law_at"] (sp__law_bag K) := by
  refine F.ok sc__law_bag (fun vs H Q E h => ?_) (fun cdv A outer s H vs Q E hr h => ?_)
  · obtain ⟨a, ns, k, rfl, hS, hk0, hk, q⟩ := h
    rfl
  · obtain ⟨a, ns, k, rfl, hS, hk0, hk, q⟩ := h
    refine ⟨_, PSs.nox (pss_cons (ps_set (i := 2) sc__law_bag.nd rfl (.inl rfl) pe_int)
        (pss_cons (ps_if (pt_cmpR op_lt (pv 1) (pe_callB call_len_seq (by rfl) m_len (by decide +kernel) (pa_cons (pv 0) pa_nil)) (nomark _)) (pss_one (ps_set (i := 2) sc__law_bag.nd rfl (.inl rfl) (pe_ix ix_list (pv 0) (pv 1) (fun _ _ => rfl)))) pss_nil)
        (pss_cons (ps_set (i := 3) sc__law_bag.nd rfl (.inl rfl) pe_int)
        (pss_cons (ps_if (pt_cmpR op_ge (pe_callB call_abs (by rfl) m_abs (by decide +kernel) (pa_cons (pv 2) pa_nil)) (pe_op op_pow pe_int pe_int) (nomark _)) (pss_one (ps_set (i := 3) sc__law_bag.nd rfl (.inl rfl) (pe_callB call_abs (by rfl) m_abs (by decide +kernel) (pa_cons (pv 2) pa_nil)))) pss_nil)
        (pss_cons (ps_set (i := 4) sc__law_bag.nd rfl (.inl rfl) (pe_lst (pa_cons pe_int (pa_cons pe_int (pa_cons pe_int (pa_cons pe_int (pa_cons pe_int (pa_cons pe_int (pa_cons pe_int (pa_cons pe_int pa_nil))))))))))
        (pss_cons (ps_set (i := 5) sc__law_bag.nd rfl (.inl rfl) (pe_op op_add (pe_op op_add (pe_op op_add (pe_op op_mul (pe_op op_modN (pv 2) pe_int) pe_int) (pe_op op_mul (pe_op op_mul pe_int (pv 1)) (pv 1))) (pe_op op_mul pe_int (pv 1))) pe_int))
        (pss_one (ps_ret (pe_lst (pa_cons (pv 3) (pa_cons (pe_op op_modN (pv 5) (pe_ix ix_list (pv 4) (pe_op op_modN (pv 1) pe_int) (fun _ _ => rfl))) pa_nil))))))))))), ?_⟩
    walk_at "go"
    refine ⟨a, _, rfl, .inl hS, ?_⟩
    walk_at "go"
    refine w_ite (fun hc => ?a) (fun hc => ?b)
    case' a =>
      have hlt : k.toNat < ns.length := by
        rw [List.length_map] at hc
        omega
      obtain ⟨cl, hcl⟩ : ∃ cl, ns[k.toNat]? = some cl := ⟨_, List.getElem?_eq_getElem hlt⟩
      have hat : atI (ns.map V.int) ((k.toNat : Nat) : Int) = some (.int cl) := atI_nat (by rw [List.getElem?_map, hcl]; rfl)
      rw [show ((k.toNat : Nat) : Int) = k by omega] at hat
      walk_at "go"
      refine w_ixLs hS hat ?_
    all_goals
      walk_at "go"
      refine w_Iv ⟨by decide, by decide, by decide⟩ rfl ?_
      walk_at "go"
      refine w_ite (fun hc2 => ?_) (fun hc2 => ?_)
    all_goals
      walk_at "go"
      refine w_new (by simp) fun p1 H1 hp1 s1 h1 => ?_
      walk_at "go"
      refine w_I (by decide) ?_
      walk_at "go"
      refine w_I (.inr ⟨by decide, by decide⟩) ?_
      walk_at "go"
      refine w_I (.inl ⟨by decide, by decide⟩) ?_
      walk_at "go"
      refine w_I (.inr ⟨by omega, by omega⟩) ?_
      walk_at "go"
      refine w_I (.inl ⟨by decide, by decide⟩) ?_
      walk_at "go"
      refine w_I (by decide) ?_
      obtain ⟨m, em, hm0, hm1⟩ := bag_primes (i := k.fmod 8) (by rw [fmod_pos _ (by decide)]; exact Int.emod_nonneg _ (by decide)) (by rw [fmod_pos _ (by decide)]; exact Int.emod_lt_of_pos _ (by decide))
      refine w_ixL h1 em ?_
      refine w_I (by omega) ?_
      walk_at "go"
      refine w_new (by simp) fun p2 H2 hp2 s2 h2 => ?_
      refine q p2 H2 (s1.free hp2) (s1.trans s2) ⟨_, _, h2, ?_, ?_, ?_⟩
      · first | decide | omega
      · rw [fmod_pos _ hm0]
        exact Int.emod_nonneg _ (by omega)
      · rw [fmod_pos _ hm0]
        exact Int.lt_of_lt_of_le (Int.emod_lt_of_pos _ hm0) hm1
theorem ok__law_take {f : Addr} {fd : FuncData} (F : FnP K "_law_take" s__law_take f fd) :
    FnOk P w K mg base CX0 1 f fd ["_law_bag_here", "_law_many"] (sp__law_take K) := by
  refine F.ok sc__law_take (fun vs H Q E h => ?_) (fun cdv A outer s H vs Q E hr h => ?_)
  · obtain ⟨b, m, rfl, hm, hm2, hb, q⟩ := h
    rfl
  · obtain ⟨b, m, rfl, hm, hm2, hb, q⟩ := h
    refine ⟨_, PSs.nox (pss_cons (ps_if (pt_cmpR op_gt (pe_ix ix_list (pv 0) pe_int (fun _ _ => rfl)) pe_int (nomark _)) (pss_cons (ps_set (i := 2) sc__law_take.nd rfl (.inl rfl) (pe_op op_modN (pe_ix ix_list (pv 0) pe_int (fun _ _ => rfl)) (pv 1)))
        (pss_cons (ps_asg (pe_op op_fdivZ (pe_ix ix_list (pv 0) pe_int (fun _ _ => rfl)) (pv 1)) (pg_sub (pv 0) pe_int set_list))
        (pss_one (ps_ret (pv 2))))) pss_nil)
        (pss_cons (ps_asg (pe_op op_modN (pe_op op_add (pe_op op_mul (pe_ix ix_list (pv 0) pe_int (fun _ _ => rfl)) pe_int) pe_int) pe_int) (pg_sub (pv 0) pe_int set_list))
        (pss_one (ps_ret (pe_op op_modN (pe_op op_fdivZ (pe_op op_modN (pe_op op_pow (pe_ix ix_list (pv 0) pe_int (fun _ _ => rfl)) pe_int) pe_int) pe_int) (pv 1)))))), ?_⟩
    obtain ⟨A, B, hb, hA, hB, hB2⟩ := hb
    walk_at "go"
    refine w_ite (fun hc => ?_) (fun hc => ?_)
    · walk_at "go"
      refine w_I (by omega) ?_
      walk_at "go"
      refine w_I (divZ_small hm (by omega)) ?_
      walk_at "go"
      refine w_setL hb rfl ?_
      walk_at "go"
      refine q _ _ ?_ ?_ Mv.upd ⟨_, _, upd_same, ?_, hB, hB2⟩
      · rw [fmod_pos _ hm]
        exact Int.emod_nonneg _ (by omega)
      · rw [fmod_pos _ hm]
        exact Int.emod_lt_of_pos _ hm
      · rw [fdiv_pos _ hm]
        exact Int.ediv_nonneg hA (by omega)
    · walk_at "go"
      refine w_I (.inr ⟨by decide, by decide⟩) ?_
      walk_at "go"
      refine w_I (by decide) ?_
      walk_at "go"
      refine w_setL hb rfl ?_
      walk_at "go"
      have hb' : (upd H b (.lst ([V.int A, V.int B].set 1 (V.int ((B * 48271 + 2531011).fmod 2147483647))))) b = some (.lst [.int A, .int ((B * 48271 + 2531011).fmod 2147483647)]) := upd_same
      have hx : 0 ≤ (B * 48271 + 2531011).fmod 2147483647 ∧ (B * 48271 + 2531011).fmod 2147483647 < 2147483647 := by
        rw [fmod_pos _ (by decide)]
        exact ⟨Int.emod_nonneg _ (by decide), Int.emod_lt_of_pos _ (by decide)⟩
      generalize (B * 48271 + 2531011).fmod 2147483647 = x at hb' hx ⊢
      refine w_ixL hb' rfl ?_
      walk_at "go"
      refine w_I ⟨by decide, by decide, by omega⟩ ?_
      walk_at "go"
      refine w_I (by decide) ?_
      walk_at "go"
      refine w_I (divZ_small (by decide) (by decide)) ?_
      walk_at "go"
      refine w_I (by omega) ?_
      refine q _ _ ?_ ?_ Mv.upd ⟨_, _, hb', hA, hx.1, hx.2⟩
      · rw [fmod_pos _ hm]
        exact Int.emod_nonneg _ (by omega)
      · rw [fmod_pos _ hm]
        exact Int.emod_lt_of_pos _ hm
theorem ok__law_head {f : Addr} {fd : FuncData} (F : FnP K "_law_head" s__law_head f fd) (m_len : mg "len" = none) :
    FnOk P w K mg base CX0 1 f fd ["_law_row_here"] (sp__law_head K) := by
  refine F.ok sc__law_head (fun vs H Q E h => ?_) (fun cdv A outer s H vs Q E hr h => ?_)
  · obtain ⟨v, r, p, rfl, hv, hl, hp, hz, hne, q⟩ := h
    rfl
  · obtain ⟨v, r, p, rfl, hv, hl, hp, hz, hne, q⟩ := h
    refine ⟨_, PSs.nox (pss_cons (ps_set (i := 1) sc__law_head.nd rfl (.inl rfl) pe_int)
        (pss_cons (ps_while PassesOwn.never (PW.pt (pw_and (pt_cmpR op_lt (pv 1) (pe_callB call_len_seq (by rfl) m_len (by decide +kernel) (pa_cons (pv 0) pa_nil)) (nomark _)) (pw_and1 (pt_cmpR (op_eqD hr.units) (pe_ix ix_tup (pv 0) (pv 1) (fun _ _ => rfl)) (pe_tup (pa_cons pe_int (pa_cons pe_int pa_nil))) (nomark _))))) (pss_one (ps_set (i := 1) sc__law_head.nd rfl (.inl rfl) (pe_op op_add (pv 1) pe_int))))
        (pss_one (ps_ret (pv 1))))), ?_⟩
    have hv0 := hv
    obtain ⟨pr, xs, rfl, hpr, hlx, hxs⟩ := hv
    walk_at "go"
    refine while_by (fun σ H' => ∃ i : Nat, σ = [some (.ref pr), some (.int (i : Int))] ∧ i ≤ p ∧ Same H H') (fun σ _ => match σ with | [_, some (.int i)] => (p - i.toNat) | _ => 0) ⟨0, rfl, Nat.zero_le _, Same.refl _⟩ (fun σ H' hP => ?_) (fun σ H' Q1 Q2 f h => ?_)
    · obtain ⟨i, rfl, hi, sm⟩ := hP
      have gx : xs[i]? = some (xs[i]'(by omega)) := List.getElem?_eq_getElem _
      have gr : r[i]? = some (r[i]'(by omega)) := List.getElem?_eq_getElem _
      have hpr' := sm _ _ hpr
      have hn := (hxs i _ _ gx gr).kt (Kt.of sm)
      have hga : ga r i = r[i]'(by omega) := ga_at (by omega)
      walk_at "go"
      refine ⟨pr, xs, rfl, .inr (SqT.of hpr'), ?_⟩
      walk_at "go"
      refine w_ite (fun hc => ?_) (fun hc => ?_)
      · walk_at "go"
        refine w_ixT hpr' (atI_nat gx) ?_
        walk_at "go"
        refine w_new (by simp) fun p1 H1 hp1 s1 h1 => ?_
        refine w_eqNum (b := (0, 1)) (hn.kt (Kt.of s1)) ⟨p1, rfl, h1⟩ ?_
        by_cases e : i = p
        · subst e
          rw [decide_eq_false (by rw [← hga]; exact hne)]
          walk_at "go"
          exact q _ (sm.trans s1)
        · rw [decide_eq_true (by rw [← hga]; exact hz i (by omega))]
          walk_at "go"
          exact ⟨⟨i + 1, rfl, by omega, sm.trans s1⟩, by show p - ((i : Int) + 1).toNat < p - (i : Int).toNat; omega⟩
      · exact absurd (show (i : Int) < (xs.length : Int) by omega) hc
    · obtain ⟨v1, hv1, v0, hv0', p', ys, e1, e2, i, j, e3, e4, k, e5, h2⟩ := h
      refine ⟨v1, hv1, v0, hv0', p', ys, e1, e2, i, j, e3, e4, k, e5, ?_⟩
      cases k with
      | false =>
        rw [if_neg Bool.false_ne_true] at h2 ⊢
        exact f _ _ h2
      | true =>
        rw [if_pos rfl] at h2 ⊢
        obtain ⟨v2, hv2, v3, hv3, a4, xs4, i4, y4, e6, e7, e8, e9, e10, h3⟩ := h2
        refine ⟨v2, hv2, v3, hv3, a4, xs4, i4, y4, e6, e7, e8, e9, e10, fun p5 hp5 => ?_⟩
        obtain ⟨d, e, w1, w2, w3, w4, k, e11, h4⟩ := h3 p5 hp5
        exact ⟨d, e, w1, w2, w3, w4, k, e11, f _ _ h4⟩
theorem ok_lowest {f : Addr} {fd : FuncData} (F : FnP K "lowest" s_lowest f fd)
    {f_common_divisor : Addr} {fd_common_divisor : FuncData} (F_common_divisor : FnP K "common_divisor" s_common_divisor f_common_divisor fd_common_divisor) (b_common_divisor : Binds K fd_common_divisor ["a", "b"] []) (g_common_divisor : mg "common_divisor" = some (.ref f_common_divisor)) (G_common_divisor : FnOk P w K mg base CX0 1 f_common_divisor fd_common_divisor ["a", "b"] (sp_common_divisor K))
    {f_wheel_back : Addr} {fd_wheel_back : FuncData} (F_wheel_back : FnP K "wheel_back" s_wheel_back f_wheel_back fd_wheel_back) (b_wheel_back : Binds K fd_wheel_back ["wheel", "whole"] []) (g_wheel_back : mg "wheel_back" = some (.ref f_wheel_back)) (G_wheel_back : FnOk P w K mg base CX0 1 f_wheel_back fd_wheel_back ["wheel", "whole"] (sp_wheel_back K)) :
    FnOk P w K mg base CX0 2 f fd ["ground", "top", "bottom"] (sp_lowest K) := by
  refine F.ok sc_lowest (fun vs H Q E h => ?_) (fun cdv A outer s H vs Q E hr h => ?_)
  · obtain ⟨g, u, d, rfl, hh, q⟩ := h
    rfl
  · obtain ⟨g, u, d, rfl, hh, q⟩ := h
    refine ⟨_, PSs.nox (pss_cons (ps_if (pt_cmpR op_ne (pv 0) pe_int (nomark _)) (pss_one (ps_ret (pe_tup (pa_cons (pe_op op_modN (pe_op op_mulW (pv 1) (pe_call G_wheel_back hr (by rfl) g_wheel_back F_wheel_back.kp b_wheel_back .nil pass0 (pa_cons (pv 0) (pa_cons (pv 2) pa_nil)))) (pv 0)) (pa_cons pe_int pa_nil))))) pss_nil)
        (pss_cons (ps_set (i := 3) sc_lowest.nd rfl (.inl rfl) (pe_call G_common_divisor hr (by rfl) g_common_divisor F_common_divisor.kp b_common_divisor .nil pass0 (pa_cons (pv 1) (pa_cons (pv 2) pa_nil))))
        (pss_cons (ps_if (pt_cmpR op_lt (pv 2) pe_int (nomark _)) (pss_one (ps_set (i := 3) sc_lowest.nd rfl (.inl rfl) (pe_un un_neg (pv 3)))) pss_nil)
        (pss_one (ps_ret (pe_tup (pa_cons (pe_op op_fdivZ (pv 1) (pv 3)) (pa_cons (pe_op op_fdivZ (pv 2) (pv 3)) pa_nil)))))))), ?_⟩
    walk_at "go"
    refine w_iteN (fun hc => ?_) (fun hc => ?_)
    · rcases hh with ⟨h0, _⟩ | ⟨hg, hu, k, hk1, hk, hkd⟩
      · exact absurd h0 hc
      · walk_at "go"
        refine ⟨g, d, k, rfl, hg, hk1, hk, hkd, fun f hf1 hf hfd => ?_⟩
        refine w_I (wide_mul (b := 5) hu (show f.natAbs < 2 ^ 5 by omega) (by decide) (by decide) (by decide)) ?_
        walk_at "go"
        refine w_I (by omega) ?_
        walk_at "go"
        refine w_new (by simp) fun p1 H1 hp1 s1 h1 => ?_
        refine q p1 H1 hp1 s1 ?_
        rw [low_inv (by omega) hfd]
        exact h1
    · subst hc
      rcases hh with ⟨_, hd, hz⟩ | ⟨hg, _⟩
      · have hI : lowI 0 u d = none := by
          unfold lowI
          rw [if_neg (by decide)]
        have e : lowF 0 u d = (u.fdiv (lowC u d), d.fdiv (lowC u d)) := by
          unfold lowF
          rw [hI]
        have hcz : ∀ i : Int, CDivZ i (lowC u d) := fun i => divZ_of (b := 8500) (lowC_ne hd) (Nat.lt_of_le_of_lt (lowC_le hd) hz) (by decide) (by decide)
        rw [e] at q
        walk_at "go"
        refine ⟨u, d, rfl, ?_⟩
        walk_at "go"
        refine w_ite (fun hn => ?_) (fun hn => ?_)
        · walk_at "go"
          have ec : lowC u d = -(Int.gcd u d : Int) := by
            unfold lowC
            rw [if_pos hn, Int.mul_neg, Int.mul_one]
          rw [← ec]
          refine w_I (hcz _) ?_
          walk_at "go"
          refine w_I (hcz _) ?_
          walk_at "go"
          refine w_new (by simp) fun p1 H1 hp1 s1 h1 => ?_
          exact q p1 H1 hp1 s1 h1
        · walk_at "go"
          have ec : lowC u d = (Int.gcd u d : Int) := by
            unfold lowC
            rw [if_neg hn, Int.mul_one]
          rw [← ec]
          refine w_I (hcz _) ?_
          walk_at "go"
          refine w_I (hcz _) ?_
          walk_at "go"
          refine w_new (by simp) fun p1 H1 hp1 s1 h1 => ?_
          exact q p1 H1 hp1 s1 h1
      · exact absurd hg (by decide)
theorem ok_whole_row {f : Addr} {fd : FuncData} (F : FnP K "whole_row" s_whole_row f fd)
    {f_common_divisor : Addr} {fd_common_divisor : FuncData} (F_common_divisor : FnP K "common_divisor" s_common_divisor f_common_divisor fd_common_divisor) (b_common_divisor : Binds K fd_common_divisor ["a", "b"] []) (g_common_divisor : mg "common_divisor" = some (.ref f_common_divisor)) (G_common_divisor : FnOk P w K mg base CX0 1 f_common_divisor fd_common_divisor ["a", "b"] (sp_common_divisor K)) :
    FnOk P w K mg base CX0 2 f fd ["row"] (sp_whole_row K) := by
  refine F.ok sc_whole_row (fun vs H Q E h => ?_) (fun cdv A outer s H vs Q E hr h => ?_)
  · obtain ⟨v, r, g, k, rfl, hv, hok, hk0, hk, hlr, q⟩ := h
    rfl
  · obtain ⟨v, r, g, k, rfl, hv, hok, hk0, hk, hlr, q⟩ := h
    refine ⟨_, PSs.nox (pss_cons (ps_set (i := 1) sc_whole_row.nd rfl (.inr rfl) pe_int)
        (pss_cons (ps_for PassesOwn.never rfl (pi_tup (pv 0)) (pg_name (i := 2) sc_whole_row.nd rfl (.inl rfl)) (pss_one (ps_set (i := 1) sc_whole_row.nd rfl (.inr rfl) (pe_op op_mulW (pe_op op_fdivZ (pv 1) (pe_call G_common_divisor hr (by rfl) g_common_divisor F_common_divisor.kp b_common_divisor .nil pass0 (pa_cons (pv 1) (pa_cons (pe_ix ix_tup (pv 2) pe_int (fun _ _ => rfl)) pa_nil)))) (pe_ix ix_tup (pv 2) pe_int (fun _ _ => rfl))))))
        (pss_one (ps_ret (pe_tup (pa_cons (pe_lc (own := [("x", 2)]) (g := gName 2) (tt := tYes) (by rfl) sc_whole_row.nd (pi_tup (pv 0)) (blkOk_by (own := [("x", 2)]) (N := ["row", "bottom", "x"]) (sc := defScope s_whole_row) (by decide +kernel)) (fun _ _ _ _ _ => (pg_name (i := 2) sc_whole_row.nd rfl (.inl rfl))) (fun _ _ _ _ _ => pts_nil) (fun _ _ _ _ _ => (pe_op op_mulW (pe_ix (r := rIxT K) ix_tup (pv 2) pe_int (fun _ _ => rfl)) (pe_op op_fdivZ (pv 1) (pe_ix (r := rIxT K) ix_tup (pv 2) pe_int (fun _ _ => rfl)))))) (pa_cons (pv 1) pa_nil))))))), ?_⟩
    obtain ⟨p, xs, rfl, hp, hlx, hx⟩ := hv
    have hpos : ∀ x ∈ r, 0 < x.2 := fun x h => (hok x h).pos
    have hbd : ∀ i, 0 < wrB (r.take i) ∧ (wrB (r.take i)).natAbs ≤ 2 ^ (k * r.length) := fun i => by
      have hsub : ∀ x ∈ r.take i, x ∈ r := fun x h => List.mem_of_mem_take h
      refine ⟨(wrB_spec fun x h => hpos x (hsub x h)).1, Nat.le_trans (wrB_bd (k := k) fun x h => ⟨hpos x (hsub x h), (hok x (hsub x h)).2.1⟩) ?_⟩
      refine Nat.pow_le_pow_right (by decide) (Nat.mul_le_mul_left k ?_)
      rw [List.length_take]
      exact Nat.min_le_right _ _
    have hkl : k * r.length ≤ 8000 := Nat.mul_le_mul hk hlr
    walk_at "go"
    refine ⟨p, rfl, ⟨xs, SqT.of hp⟩, ?_⟩
    refine for_tup (xs := xs) (fun i σ H' => H' = H ∧ ∃ y, σ = [some (.ref p), some (.int (wrB (r.take i))), y]) ⟨rfl, none, rfl⟩ (fun i σ H' _ hP => by obtain ⟨rfl, _⟩ := hP; exact SqT.of hp) (fun i x σ H' hxi hP => ?_) (fun σ H' hP => ?_)
    · obtain ⟨rfl, y, rfl⟩ := hP
      have hi : i < r.length := by
        have := (List.getElem?_eq_some_iff.mp hxi).1
        omega
      have hri : r[i]? = some r[i] := List.getElem?_eq_getElem hi
      obtain ⟨px, rfl, hpx⟩ := hx i x _ hxi hri
      have hmem := List.getElem_mem hi
      have st := step_le (hbd i).1 (hpos _ hmem) (hbd i).2 (hok _ hmem).2.1
      walk_at "go"
      refine ⟨_, _, rfl, ?_⟩
      refine w_I (divZ_of (b := k) st.2.2.1 st.2.2.2 hk0 (by omega)) ?_
      walk_at "go"
      refine w_I (mulW_le st.2.1 (Nat.le_of_lt (hok _ hmem).2.1) (by omega)) ?_
      walk_at "go"
      refine ⟨rfl, some (.ref px), ?_⟩
      rw [wrB_take hri]
      rfl
    · obtain ⟨rfl, y, rfl⟩ := hP
      have e : r.take xs.length = r := List.take_of_length_le (by omega)
      rw [e]
      have hB := hbd r.length
      rw [List.take_length] at hB
      walk_at "go"
      refine ⟨p, rfl, ⟨xs, SqT.of hp⟩, fun D hD => ?_⟩
      refine lc_tup (xs := xs) (fun i H'' => Same H' H'' ∧ H'' D = some (.lst (((wrT r).take i).map V.int))) ⟨Same.updD (Same.refl H') hD, upd_same⟩ (fun i H'' _ hP => SqT.of (hP.1 _ _ hp)) (fun i x H'' hxi hP => ?_) (fun H'' hP => ?_)
      · obtain ⟨sm, hD'⟩ := hP
        have hi : i < r.length := by
          have := (List.getElem?_eq_some_iff.mp hxi).1
          omega
        have hri : r[i]? = some r[i] := List.getElem?_eq_getElem hi
        obtain ⟨px, rfl, hpx⟩ := hx i x _ hxi hri
        have hpx' := sm _ _ hpx
        have hmem := List.getElem_mem hi
        have hp2 := hpos _ hmem
        walk_at "go"
        refine ⟨rfl, ?_⟩
        walk_at "go"
        refine w_I (divZ_of (b := k) (by omega) (hok _ hmem).2.1 hk0 (by omega)) ?_
        have htm : (r[i].1 * (wrB r).fdiv r[i].2) ∈ wrT r := List.mem_map.mpr ⟨_, hmem, rfl⟩
        have hq : ((wrB r).fdiv r[i].2).natAbs ≤ 2 ^ (k * r.length) := by
          obtain ⟨q', e'⟩ := (wrB_spec hpos).2.1 _ hmem
          have f1 : (wrB r).fdiv r[i].2 = q' := by
            rw [e']
            exact Int.mul_fdiv_cancel_left _ (by omega)
          rw [f1]
          have h2 := natAbs_fac (c := r[i].2) (q := q') (by omega)
          rw [← e'] at h2
          exact Nat.le_trans h2 hB.2
        refine w_I (mulW_le (Nat.le_of_lt (hok _ hmem).1) hq (by omega)) ?_
        refine ⟨_, hD', ?_, Same.updD sm hD, ?_⟩
        · rw [List.length_map, List.length_take]
          exact small1000 (by unfold wrT; rw [List.length_map]; omega)
        · have gz : (wrT r)[i]? = some (r[i].1 * (wrB r).fdiv r[i].2) := by
            unfold wrT
            rw [List.getElem?_map, hri]
            rfl
          rw [upd_same, List.take_add_one, gz, List.map_append]
          rfl
      · obtain ⟨sm, hD'⟩ := hP
        have e2 : (wrT r).take xs.length = wrT r := List.take_of_length_le (by unfold wrT; rw [List.length_map]; omega)
        rw [e2] at hD'
        walk_at "go"
        refine w_new (by simp) fun p1 H1 hp1 s1 h1 => ?_
        exact q p1 D _ (sm.trans s1) hD h1 (s1 _ _ hD')
theorem ok_plain {f : Addr} {fd : FuncData} (F : FnP K "plain" s_plain f fd)
    {f_common_divisor : Addr} {fd_common_divisor : FuncData} (F_common_divisor : FnP K "common_divisor" s_common_divisor f_common_divisor fd_common_divisor) (b_common_divisor : Binds K fd_common_divisor ["a", "b"] []) (g_common_divisor : mg "common_divisor" = some (.ref f_common_divisor)) (G_common_divisor : FnOk P w K mg base CX0 1 f_common_divisor fd_common_divisor ["a", "b"] (sp_common_divisor K)) :
    FnOk P w K mg base CX0 2 f fd ["ground", "row"] (sp_plain K) := by
  refine F.ok sc_plain (fun vs H Q E h => ?_) (fun cdv A outer s H vs Q E hr h => ?_)
  · obtain ⟨g, v, r, b, rfl, hg, hv, hb, hb0, hb9, hl, q⟩ := h
    rfl
  · obtain ⟨g, v, r, b, rfl, hg, hv, hb, hb0, hb9, hl, q⟩ := h
    refine ⟨_, PSs.nox (pss_cons (ps_if (pt_cmpR op_ne (pv 0) pe_int (nomark _)) (pss_one (ps_ret (pe_lc (own := [("x", 2)]) (g := gName 2) (tt := tYes) (by rfl) sc_plain.nd (pi_list (pv 1)) (blkOk_by (own := [("x", 2)]) (N := ["ground", "row", "x", "shared"]) (sc := defScope s_plain) (by decide +kernel)) (fun _ _ _ _ _ => (pg_name (i := 2) sc_plain.nd rfl (.inl rfl))) (fun _ _ _ _ _ => pts_nil) (fun _ _ _ _ _ => (pe_op op_modN (pv 2) (pv 0)))))) pss_nil)
        (pss_cons (ps_set (i := 3) sc_plain.nd rfl (.inr rfl) pe_int)
        (pss_cons (ps_for PassesOwn.never rfl (pi_list (pv 1)) (pg_name (i := 2) sc_plain.nd rfl (.inl rfl)) (pss_one (ps_set (i := 3) sc_plain.nd rfl (.inr rfl) (pe_call G_common_divisor hr (by rfl) g_common_divisor F_common_divisor.kp b_common_divisor .nil pass0 (pa_cons (pv 3) (pa_cons (pv 2) pa_nil))))))
        (pss_cons (ps_if (pt_cmpR op_eq (pv 3) pe_int (nomark _)) (pss_one (ps_ret (pv 1))) pss_nil)
        (pss_one (ps_ret (pe_lc (own := [("x", 2)]) (g := gName 2) (tt := tYes) (by rfl) sc_plain.nd (pi_list (pv 1)) (blkOk_by (own := [("x", 2)]) (N := ["ground", "row", "x", "shared"]) (sc := defScope s_plain) (by decide +kernel)) (fun _ _ _ _ _ => (pg_name (i := 2) sc_plain.nd rfl (.inl rfl))) (fun _ _ _ _ _ => pts_nil) (fun _ _ _ _ _ => (pe_op op_fdivZ (pv 2) (pv 3)))))))))), ?_⟩
    obtain ⟨p, rfl, hp⟩ := hv
    walk_at "go"
    refine w_iteN (fun hc => ?_) (fun hc => ?_)
    · walk_at "go"
      refine ⟨p, rfl, ⟨_, SqL.of hp⟩, fun D hD => ?_⟩
      refine lc_list (xs := r.map V.int) (fun i H' => Same H H' ∧ H' D = some (.lst (((r.map fun x => x.fmod g).take i).map V.int))) ⟨Same.updD (Same.refl H) hD, upd_same⟩ (fun i H' _ hP => SqL.of (hP.1 _ _ hp)) (fun i x H' hxi hP => ?_) (fun H' hP => ?_)
      · obtain ⟨sm, hD'⟩ := hP
        have hi : i < r.length := by
          have := (List.getElem?_eq_some_iff.mp hxi).1
          rw [List.length_map] at this
          exact this
        have hx : x = .int r[i] := by
          rw [List.getElem?_map, List.getElem?_eq_getElem hi] at hxi
          exact (Option.some.inj hxi).symm
        subst hx
        walk_at "go"
        refine ⟨rfl, ?_⟩
        walk_at "go"
        refine w_I hc ?_
        refine ⟨_, hD', ?_, Same.updD sm hD, ?_⟩
        · rw [List.length_map, List.length_take]
          exact small1000 (by rw [List.length_map]; omega)
        · rw [upd_same, List.take_add_one, List.getElem?_map, List.getElem?_eq_getElem hi, List.map_append]
          rfl
      · obtain ⟨sm, hD'⟩ := hP
        rw [List.take_of_length_le (by rw [List.length_map, List.length_map]; exact Nat.le_refl _)] at hD'
        walk_at "go"
        refine q D H' sm ?_ (.inr hD)
        have e : plainF g r = r.map fun x => x.fmod g := by unfold plainF; rw [if_pos hc]
        rw [e]
        exact hD'
    · subst hc
      walk_at "go"
      refine ⟨p, rfl, ⟨_, SqL.of hp⟩, ?_⟩
      refine for_list (xs := r.map V.int) (fun i σ H' => H' = H ∧ ∃ y, σ = [some (.int 0), some (.ref p), y, some (.int (gcdL (r.take i)))]) ⟨rfl, none, rfl⟩ (fun i σ H' _ hP => by obtain ⟨rfl, _⟩ := hP; exact SqL.of hp) (fun i x σ H' hxi hP => ?_) (fun σ H' hP => ?_)
      · obtain ⟨rfl, y, rfl⟩ := hP
        have hi : i < r.length := by
          have := (List.getElem?_eq_some_iff.mp hxi).1
          rw [List.length_map] at this
          exact this
        have hx : x = .int r[i] := by
          rw [List.getElem?_map, List.getElem?_eq_getElem hi] at hxi
          exact (Option.some.inj hxi).symm
        subst hx
        walk_at "go"
        refine ⟨_, _, rfl, ?_⟩
        walk_at "go"
        refine ⟨rfl, some (.int r[i]), ?_⟩
        rw [gcdL_take hi]
        rfl
      · obtain ⟨rfl, y, rfl⟩ := hP
        rw [List.take_of_length_le (by rw [List.length_map]; exact Nat.le_refl _)]
        walk_at "go"
        refine w_ite (fun hc => ?_) (fun hc => ?_)
        · walk_at "go"
          refine q p H' (Same.refl _) ?_ (.inl rfl)
          have e : plainF 0 r = r := by unfold plainF; rw [if_neg (by decide), if_pos hc]
          rw [e]
          exact hp
        · walk_at "go"
          refine ⟨p, rfl, ⟨_, SqL.of hp⟩, fun D hD => ?_⟩
          refine lc_list (xs := r.map V.int) (fun i H'' => Same H' H'' ∧ H'' D = some (.lst (((r.map fun x => x.fdiv (gcdL r)).take i).map V.int))) ⟨Same.updD (Same.refl H') hD, upd_same⟩ (fun i H'' _ hP => SqL.of (hP.1 _ _ hp)) (fun i x H'' hxi hP => ?_) (fun H'' hP => ?_)
          · obtain ⟨sm, hD'⟩ := hP
            have hi : i < r.length := by
              have := (List.getElem?_eq_some_iff.mp hxi).1
              rw [List.length_map] at this
              exact this
            have hx : x = .int r[i] := by
              rw [List.getElem?_map, List.getElem?_eq_getElem hi] at hxi
              exact (Option.some.inj hxi).symm
            subst hx
            walk_at "go"
            refine ⟨rfl, ?_⟩
            walk_at "go"
            refine w_I (divZ_of hc (gcdL_le hc (hb rfl)) hb0 hb9) ?_
            refine ⟨_, hD', ?_, Same.updD sm hD, ?_⟩
            · rw [List.length_map, List.length_take]
              exact small1000 (by rw [List.length_map]; omega)
            · rw [upd_same, List.take_add_one, List.getElem?_map, List.getElem?_eq_getElem hi, List.map_append]
              rfl
          · obtain ⟨sm, hD'⟩ := hP
            rw [List.take_of_length_le (by rw [List.length_map, List.length_map]; exact Nat.le_refl _)] at hD'
            walk_at "go"
            refine q D H'' sm ?_ (.inr hD)
            have e : plainF 0 r = r.map fun x => x.fdiv (gcdL r) := by unfold plainF; rw [if_neg (by decide), if_neg hc]
            rw [e]
            exact hD'
theorem ok__law_is_number {f : Addr} {fd : FuncData} (F : FnP K "_law_is_number" s__law_is_number f fd)
    {f__law_shared : Addr} {fd__law_shared : FuncData} (F__law_shared : FnP K "_law_shared" s__law_shared f__law_shared fd__law_shared) (b__law_shared : Binds K fd__law_shared ["_law_one", "_law_other"] []) (g__law_shared : mg "_law_shared" = some (.ref f__law_shared)) (G__law_shared : FnOk P w K mg base CX0 1 f__law_shared fd__law_shared ["_law_one", "_law_other"] (sp__law_shared K))
    {f__law_is_whole : Addr} {fd__law_is_whole : FuncData} (F__law_is_whole : FnP K "_law_is_whole" s__law_is_whole f__law_is_whole fd__law_is_whole) (b__law_is_whole : Binds K fd__law_is_whole ["_law_thing"] []) (g__law_is_whole : mg "_law_is_whole" = some (.ref f__law_is_whole)) (G__law_is_whole : FnOk P w K mg base CX0 1 f__law_is_whole fd__law_is_whole ["_law_thing"] (sp__law_is_whole K)) (m_isinstance : mg "isinstance" = none) (m_tuple : mg "tuple" = none) (m_len : mg "len" = none) (m_all : mg "all" = none) :
    FnOk P w K mg base CX0 2 f fd ["_law_g", "_law_thing"] (sp__law_is_number K) := by
  refine F.ok sc__law_is_number (fun vs H Q E h => ?_) (fun cdv A outer s H vs Q E hr h => ?_)
  · obtain ⟨g, v, kb, nb, rfl, hg0, hv, q⟩ := h
    rfl
  · obtain ⟨g, v, kb, nb, rfl, hg0, hv, q⟩ := h
    refine ⟨_, PSs.nox (pss_cons (ps_if (PW.pt (pw_or (pt_not (pt_val (pe_callB call_isi (by rfl) m_isinstance (by decide +kernel) (pa_cons (pv 1) (pa_cons (pe_bltn (v := .ty "tuple") (by rfl) m_tuple (by decide +kernel) rfl) pa_nil))))) (pw_or (pt_cmpR op_ne (pe_callB call_len_seq (by rfl) m_len (by decide +kernel) (pa_cons (pv 1) pa_nil)) pe_int (nomark _)) (pw_or1 (pt_not (pt_val (pe_callB (cr_all rfl) (by rfl) m_all (by decide +kernel) (pa_cons (pe_lc (own := [("_law_one", 2)]) (g := gName 2) (tt := tYes) (by rfl) sc__law_is_number.nd (pi_tup (pv 1)) (blkOk_by (own := [("_law_one", 2)]) (N := ["_law_g", "_law_thing", "_law_one"]) (sc := defScope s__law_is_number) (by decide +kernel)) (fun _ _ _ _ _ => (pg_name (i := 2) sc__law_is_number.nd rfl (.inl rfl))) (fun _ _ _ _ _ => pts_nil) (fun _ _ _ _ _ => (pe_call G__law_is_whole hr (by rfl) g__law_is_whole F__law_is_whole.kp b__law_is_whole .nil pass0 (pa_cons (pv 2) pa_nil)))) pa_nil)))))))) (pss_one (ps_ret pe_bl)) pss_nil)
        (pss_cons (ps_if (pt_cmpR op_gt (pv 0) pe_int (nomark _)) (pss_one (ps_ret (pe_and (pe_chain op_le op_lt pe_int (pe_ix ix_tup (pv 1) pe_int (fun _ _ => rfl)) (pv 0)) (pe_one (pe_cmpR op_eq (pe_ix ix_tup (pv 1) pe_int (fun _ _ => rfl)) pe_int (nomark _)))))) pss_nil)
        (pss_one (ps_ret (pe_and (pe_cmpR op_gt (pe_ix ix_tup (pv 1) pe_int (fun _ _ => rfl)) pe_int (nomark _)) (pe_one (pe_cmpR op_eq (pe_call G__law_shared hr (by rfl) g__law_shared F__law_shared.kp b__law_shared .nil pass0 (pa_cons (pe_ix ix_tup (pv 1) pe_int (fun _ _ => rfl)) (pa_cons (pe_ix ix_tup (pv 1) pe_int (fun _ _ => rfl)) pa_nil))) pe_int (nomark _)))))))), ?_⟩
    walk_at "go"
    refine tb_tup hv (fun p xs e hp hz hx => ?_) (fun hn => ?_)
    · subst e
      rw [numOf_tup hp] at q
      walk_at "go"
      refine iteF ?_
      walk_at "go"
      refine ⟨p, xs, rfl, .inr (SqT.of hp), ?_⟩
      walk_at "go"
      refine w_iteN (fun hl => ?_) (fun hl => ?_)
      · walk_at "go"
        rw [numOk_len (by omega)] at q
        exact q _ (Same.refl _)
      · obtain ⟨t, b, rfl⟩ : ∃ t b, xs = [t, b] := by
          match xs, hl with
          | [t, b], _ => exact ⟨t, b, rfl⟩
          | [], h => simp at h
          | [_], h => simp at h
          | _ :: _ :: _ :: _, h => simp at h; omega
        walk_at "go"
        refine ⟨p, rfl, ⟨_, SqT.of hp⟩, fun D hD => ?_⟩
        refine lc_tup (xs := [t, b]) (fun i H' => Same H H' ∧ H' D = some (.lst (([wholeB t, wholeB b].take i).map V.bl))) ⟨Same.updD (Same.refl H) hD, upd_same⟩ (fun i H' _ hP => SqT.of (hP.1 _ _ hp)) (fun i x H' hxi hP => ?_) (fun H' hP => ?_)
        · obtain ⟨sm, hD'⟩ := hP
          have hi : i < 2 := (List.getElem?_eq_some_iff.mp hxi).1
          walk_at "go"
          refine ⟨rfl, ?_⟩
          walk_at "go"
          refine ⟨x, rfl, ((hx x (List.mem_of_getElem? hxi)).kd (Kd.of sm)).tv, ?_⟩
          refine ⟨_, hD', ?_, Same.updD sm hD, ?_⟩
          · rw [List.length_map, List.length_take]
            exact small1000 (by omega)
          · rw [upd_same]
            match i, hi, hxi with
            | 0, _, hxi =>
              cases Option.some.inj hxi
              rfl
            | 1, _, hxi =>
              cases Option.some.inj hxi
              rfl
        · obtain ⟨sm, hD'⟩ := hP
          walk_at "go"
          refine ⟨D, [wholeB t, wholeB b], rfl, SqL.of hD', ?_⟩
          have ea : [wholeB t, wholeB b].all id = (wholeB t && wholeB b) := by
            show (wholeB t && (wholeB b && true)) = _
            rw [Bool.and_true]
          rw [ea]
          walk_at "go"
          refine w_iteBN (fun hw => ?_) (fun hw => ?_)
          · walk_at "go"
            have ef : numOk g [t, b] = false := by
              cases h : wholeB t with
              | false => exact numOk_l h
              | true =>
                rw [h] at hw
                exact numOk_r hw
            rw [ef] at q
            exact q _ sm
          · rw [Bool.and_eq_true] at hw
            obtain ⟨t, rfl⟩ := whole_int hw.1
            obtain ⟨b, rfl⟩ := whole_int hw.2
            have hp' := sm _ _ hp
            walk_at "go"
            refine w_ite (fun hg => ?_) (fun hg => ?_)
            · rw [numOk_g (by omega)] at q
              walk_at "go"
              refine w_ite (fun h0 => ?_) (fun h0 => ?_)
              · walk_at "go"
                refine w_ite (fun h1 => ?_) (fun h1 => ?_)
                · walk_at "go"
                  rw [decide_eq_true h0, decide_eq_true h1] at q
                  exact q _ sm
                · rw [decide_eq_true h0, decide_eq_false h1] at q
                  exact q _ sm
              · walk_at "go"
                rw [decide_eq_false h0] at q
                exact q _ sm
            · have e0 : g = 0 := by omega
              subst e0
              rw [numOk_0] at q
              walk_at "go"
              refine w_ite (fun hb => ?_) (fun hb => ?_)
              · walk_at "go"
                refine ⟨t, b, rfl, ?_⟩
                walk_at "go"
                rw [decide_eq_true (show 1 ≤ b by omega)] at q
                exact q _ sm
              · rw [decide_eq_false (show ¬ 1 ≤ b by omega)] at q
                exact q _ sm
    · rw [numOf_no hn] at q
      walk_at "go"
      refine iteT ?_
      walk_at "go"
      exact q _ (Same.refl _)
theorem ok__law_low {f : Addr} {fd : FuncData} (F : FnP K "_law_low" s__law_low f fd)
    {f__law_shared : Addr} {fd__law_shared : FuncData} (F__law_shared : FnP K "_law_shared" s__law_shared f__law_shared fd__law_shared) (b__law_shared : Binds K fd__law_shared ["_law_one", "_law_other"] []) (g__law_shared : mg "_law_shared" = some (.ref f__law_shared)) (G__law_shared : FnOk P w K mg base CX0 1 f__law_shared fd__law_shared ["_law_one", "_law_other"] (sp__law_shared K)) (m_range : mg "range" = none) (m_int : mg "int" = none) :
    FnOk P w K mg base CX0 2 f fd ["_law_g", "_law_up", "_law_down"] (sp__law_low K) := by
  refine F.ok sc__law_low (fun vs H Q E h => ?_) (fun cdv A outer s H vs Q E hr h => ?_)
  · obtain ⟨g, u, d, rfl, hg0, hg, hd, hz, q⟩ := h
    rfl
  · obtain ⟨g, u, d, rfl, hg0, hg, hd, hz, q⟩ := h
    refine ⟨_, PSs.nox (pss_cons (ps_if (pt_cmpR op_gt (pv 0) pe_int (nomark _)) (pss_one (ps_for PassesOwn.never rfl (pi_range1 (by rfl) m_range (pa_cons (pv 0) pa_nil)) (pg_name (i := 3) sc__law_low.nd rfl (.inl rfl)) (pss_one (ps_if (pt_cmpR op_eq (pe_op op_modN (pe_op op_mul (pv 3) (pv 2)) (pv 0)) (pe_op op_modN (pv 1) (pv 0)) (nomark _)) (pss_one (ps_ret (pe_tup (pa_cons (pv 3) (pa_cons pe_int pa_nil))))) pss_nil)))) pss_nil)
        (pss_cons (ps_set (i := 4) sc__law_low.nd rfl (.inl rfl) (pe_op op_mul (pe_call G__law_shared hr (by rfl) g__law_shared F__law_shared.kp b__law_shared .nil pass0 (pa_cons (pv 1) (pa_cons (pv 2) pa_nil))) (pe_ix ix_list (pe_lst (pa_cons pe_int (pa_cons (pe_un un_neg pe_int) pa_nil))) (pe_callTy call_int1 (by rfl) m_int (by decide +kernel) (pa_cons (pe_cmpR op_lt (pv 2) pe_int (nomark _)) pa_nil)) (fun _ _ => rfl))))
        (pss_one (ps_ret (pe_tup (pa_cons (pe_op op_fdivZ (pv 1) (pv 4)) (pa_cons (pe_op op_fdivZ (pv 2) (pv 4)) pa_nil))))))), ?_⟩
    walk_at "go"
    refine w_ite (fun hc => ?a) (fun hc => ?b)
    case' a =>
      walk_at "go"
      refine ⟨by omega, by omega, ?_⟩
      refine for_range (fun i σ H' => H' = H ∧ (∃ y y2, σ = [some (.int g), some (.int u), some (.int d), y, y2]) ∧ ∀ j : Nat, j < i → ¬ ((j : Int) * d).fmod g = u.fmod g) ⟨rfl, ⟨none, none, rfl⟩, fun j hj => absurd hj (Nat.not_lt_zero _)⟩ (fun i σ H' hi hP => ?s1) (fun σ H' hP => ?s2)
    case' s1 =>
      obtain ⟨rfl, ⟨y, y2, rfl⟩, hn⟩ := hP
      walk_at "go"
      rw [Int.zero_add]
      refine w_I (.inl ⟨by omega, by omega⟩) ?_
      walk_at "go"
      refine w_I (by omega) ?_
      walk_at "go"
      refine w_I (by omega) ?_
      walk_at "go"
      refine w_ite (fun hc2 => ?_) (fun hc2 => ?_)
      · walk_at "go"
        refine w_new (by simp) fun p1 H1 hp1 s1 h1 => ?_
        refine q p1 H1 hp1 s1 ?_
        have e : lowF g u d = ((i : Int), 1) := by
          unfold lowF
          rw [lowI_some hi hc2 hn]
        rw [e]
        exact h1
      · walk_at "go"
        refine ⟨rfl, ⟨_, _, rfl⟩, fun j hj => ?_⟩
        by_cases e : j = i
        · rw [e]; exact hc2
        · exact hn j (by omega)
    case' s2 =>
      obtain ⟨rfl, ⟨y, y2, rfl⟩, hn⟩ := hP
      have hI : lowI g u d = none := lowI_none hn
    case' b =>
      have hI : lowI g u d = none := lowI_none (fun j hj => by omega)
    all_goals
      walk_at "go"
      refine ⟨u, d, rfl, ?_⟩
      walk_at "go"
      refine w_new (by simp) fun p1 H1 hp1 s1 h1 => ?_
      walk_at "go"
      refine .inr ⟨_, rfl, ?_⟩
      refine w_ixL h1 (low_sign d) ?_
      refine w_I (.inr (by split <;> decide)) ?_
      walk_at "go"
      refine w_I (low_cb hd hz _) ?_
      walk_at "go"
      refine w_I (low_cb hd hz _) ?_
      walk_at "go"
      refine w_new (by simp) fun p2 H2 hp2 s2 h2 => ?_
      refine q p2 H2 (s1.free hp2) (s1.trans s2) ?_
      have e : lowF g u d = (u.fdiv (lowC u d), d.fdiv (lowC u d)) := by
        unfold lowF
        rw [hI]
      rw [e]
      exact h2
theorem ok__law_ground {f : Addr} {fd : FuncData} (F : FnP K "_law_ground" s__law_ground f fd)
    {f__law_take : Addr} {fd__law_take : FuncData} (F__law_take : FnP K "_law_take" s__law_take f__law_take fd__law_take) (b__law_take : Binds K fd__law_take ["_law_bag_here", "_law_many"] []) (g__law_take : mg "_law_take" = some (.ref f__law_take)) (G__law_take : FnOk P w K mg base CX0 1 f__law_take fd__law_take ["_law_bag_here", "_law_many"] (sp__law_take K)) :
    FnOk P w K mg base CX0 2 f fd ["_law_bag_here"] (sp__law_ground K) := by
  refine F.ok sc__law_ground (fun vs H Q E h => ?_) (fun cdv A outer s H vs Q E hr h => ?_)
  · obtain ⟨b, rfl, hb, q⟩ := h
    rfl
  · obtain ⟨b, rfl, hb, q⟩ := h
    refine ⟨_, PSs.nox (pss_one (ps_ret (pe_ix ix_list (pe_lst (pa_cons pe_int (pa_cons pe_int (pa_cons pe_int (pa_cons pe_int (pa_cons pe_int (pa_cons pe_int (pa_cons pe_int (pa_cons (pe_ix ix_list (pe_lst (pa_cons pe_int (pa_cons pe_int (pa_cons pe_int pa_nil)))) (pe_call G__law_take hr (by rfl) g__law_take F__law_take.kp b__law_take .nil pass0 (pa_cons (pv 0) (pa_cons pe_int pa_nil))) (fun _ _ => rfl)) pa_nil))))))))) (pe_call G__law_take hr (by rfl) g__law_take F__law_take.kp b__law_take .nil pass0 (pa_cons (pv 0) (pa_cons pe_int pa_nil))) (fun _ _ => rfl)))), ?_⟩
    walk_at "go"
    refine w_new (by simp) fun p1 H1 hp1 s1 h1 => ?_
    walk_at "go"
    refine ⟨b, 3, rfl, by decide, by decide, hb.same s1, fun H2 d hd0 hd1 mv2 hb2 => ?_⟩
    obtain ⟨m, em, hm⟩ := gr_three hd0 hd1
    have n1 : p1 ≠ b := fun e => by
      subst e
      obtain ⟨A, B, h2, _⟩ := hb
      rw [hp1] at h2
      cases h2
    refine w_ixL (mv2 _ _ n1 h1) em ?_
    walk_at "go"
    refine w_new (by simp) fun p3 H3 hp3 s3 h3 => ?_
    walk_at "go"
    refine ⟨b, 8, rfl, by decide, by decide, hb2.same s3, fun H4 e he0 he1 mv4 hb4 => ?_⟩
    obtain ⟨g, eg, hg⟩ := gr_eight he0 he1 hm
    have n3 : p3 ≠ b := fun e => by
      subst e
      obtain ⟨A, B, h2, _⟩ := hb2
      rw [hp3] at h2
      cases h2
    refine w_ixL (mv4 _ _ n3 h3) eg ?_
    exact q _ _ hg ((Mv.same s1).trans (mv2.trans ((Mv.same s3).trans mv4))) hb4
theorem ok__law_mixed {f : Addr} {fd : FuncData} (F : FnP K "_law_mixed" s__law_mixed f fd)
    {f__law_take : Addr} {fd__law_take : FuncData} (F__law_take : FnP K "_law_take" s__law_take f__law_take fd__law_take) (b__law_take : Binds K fd__law_take ["_law_bag_here", "_law_many"] []) (g__law_take : mg "_law_take" = some (.ref f__law_take)) (G__law_take : FnOk P w K mg base CX0 1 f__law_take fd__law_take ["_law_bag_here", "_law_many"] (sp__law_take K)) (m_list : mg "list" = none) (m_len : mg "len" = none) :
    FnOk P w K mg base CX0 2 f fd ["_law_bag_here", "_law_row_here"] (sp__law_mixed K) := by
  refine F.ok sc__law_mixed (fun vs H Q E h => ?_) (fun cdv A outer s H vs Q E hr h => ?_)
  · obtain ⟨b, p, xs, rfl, hb, hp, hpb, hl, q⟩ := h
    rfl
  · obtain ⟨b, p, xs, rfl, hb, hp, hpb, hl, q⟩ := h
    refine ⟨_, PSs.nox (pss_cons (ps_set (i := 2) sc__law_mixed.nd rfl (.inr rfl) (pe_callTy call_list_of (by rfl) m_list (by decide +kernel) (pa_cons (pv 1) pa_nil)))
        (pss_one (ps_ret (pe_lc (own := [("_law_thing", 3)]) (g := gName 3) (tt := tYes) (by rfl) sc__law_mixed.nd (pi_list (pv 1)) (blkOk_by (own := [("_law_thing", 3)]) (N := ["_law_bag_here", "_law_row_here", "_law_rest", "_law_thing"]) (sc := defScope s__law_mixed) (by decide +kernel)) (fun _ _ _ _ _ => (pg_name (i := 3) sc__law_mixed.nd rfl (.inl rfl))) (fun _ _ _ _ _ => pts_nil) (fun _ _ _ _ _ => (pe_bmK (K := K) (r := rPopAt) rfl PySem.F.plainAttrs_list PySem.F.slot_list_pop PySem.F.type_list_pop mt_popAt (pv 2) (pa_cons (pe_call G__law_take hr (by rfl) g__law_take F__law_take.kp b__law_take .nil pass0 (pa_cons (pv 0) (pa_cons (pe_callB (r := fun xs H Q => ∃ p ys, xs = [V.ref p] ∧ (SqL K H p ys ∨ SqT K H p ys) ∧ Q (V.int ((ys.length : Nat) : Int)) H) call_len_seq (by rfl) m_len (by decide +kernel) (pa_cons (pv 2) pa_nil)) pa_nil))) pa_nil))))))), ?_⟩
    walk_at "go"
    refine ⟨_, _, rfl, .inl (SqL.of hp), fun R hR => ?_⟩
    have s1 := same_upd (o := HO.lst xs) hR
    have h1 : (upd H R (.lst xs)) R = some (.lst xs) := upd_same
    generalize upd H R (.lst xs) = H1 at s1 h1 ⊢
    have nR := bag_ne hb hR
    walk_at "go"
    refine ⟨p, rfl, ⟨xs, SqL.of (s1 _ _ hp)⟩, fun D hD => ?_⟩
    have hD0 : H D = none := s1.free hD
    have nD := bag_ne hb hD0
    have nRD : R ≠ D := fresh_of h1 hD
    refine lc_list (xs := xs) (fun i H' => Mv b H H' ∧ Bag H' b ∧ ∃ rest ys : List V, H' R = some (.lst rest) ∧ H' D = some (.lst ys) ∧ ys.length = i ∧ rest.length + i = xs.length ∧ ∀ y, y ∈ xs ↔ y ∈ ys ∨ y ∈ rest) ⟨(Mv.same s1).updD hD0, (hb.same s1).upd nD, xs, [], by rw [upd_ne nRD]; exact h1, upd_same, rfl, rfl, fun y => ⟨fun z => .inr z, fun z => z.elim (fun w => nomatch w) id⟩⟩ (fun i H' _ hP => SqL.of (hP.1 _ _ hpb hp)) (fun i x H' hxi hP => ?_) (fun H' hP => ?_)
    · obtain ⟨mv, hbi, rest, ys, hR', hD', hly, hlr, hmem⟩ := hP
      have hi : i < xs.length := (List.getElem?_eq_some_iff.mp hxi).1
      walk_at "go"
      refine ⟨rfl, ?_⟩
      walk_at "go"
      refine ⟨.inl ⟨rfl, _, SqL.of hR'⟩, ?_⟩
      walk_at "go"
      refine ⟨R, rest, rfl, .inl (SqL.of hR'), ?_⟩
      walk_at "go"
      refine ⟨b, rest.length, rfl, by omega, by omega, hbi, fun H2 d h20 h21 m2 hb2 => ?_⟩
      have hR2 := m2 _ _ nR hR'
      have hD2 := m2 _ _ nD hD'
      obtain ⟨y, hy⟩ : ∃ y, rest[d.toNat]? = some y := ⟨_, List.getElem?_eq_getElem (by omega)⟩
      refine ⟨R, rest, d, d.toNat, y, rfl, rfl, hR2, by omega, by omega, sq_ix h20 h21, hy, ?_⟩
      have hD3 : (upd H2 R (.lst (rest.eraseIdx d.toNat))) D = some (.lst ys) := by rw [upd_ne (Ne.symm nRD)]; exact hD2
      refine ⟨ys, hD3, small1000 (by omega), (((mv.trans m2).updD hR).updD hD0), ((hb2.upd nR).upd nD), rest.eraseIdx d.toNat, ys ++ [y], by rw [upd_ne nRD, upd_same], upd_same, by rw [List.length_append, hly]; rfl, ?_, fun z => ?_⟩
      · rw [List.length_eraseIdx_of_lt (by omega)]
        omega
      · rw [hmem z, erase_mem hy z, List.mem_append, List.mem_singleton]
        constructor
        · rintro (h | h | h)
          · exact .inl (.inl h)
          · exact .inl (.inr h)
          · exact .inr h
        · rintro ((h | h) | h)
          · exact .inl h
          · exact .inr (.inl h)
          · exact .inr (.inr h)
    · obtain ⟨mv, hbi, rest, ys, hR', hD', hly, hlr, hmem⟩ := hP
      have hr0 : rest = [] := List.length_eq_zero_iff.mp (by omega)
      subst hr0
      walk_at "go"
      exact q D H' ys mv hbi hD' hD0 hly fun y => by
        rw [hmem y]
        exact ⟨.inl, fun z => z.elim id fun w => nomatch w⟩
theorem ok_cleared {f : Addr} {fd : FuncData} (F : FnP K "cleared" s_cleared f fd)
    {f_plain : Addr} {fd_plain : FuncData} (F_plain : FnP K "plain" s_plain f_plain fd_plain) (b_plain : Binds K fd_plain ["ground", "row"] []) (g_plain : mg "plain" = some (.ref f_plain)) (G_plain : FnOk P w K mg base CX0 2 f_plain fd_plain ["ground", "row"] (sp_plain K)) (m_zip : mg "zip" = none) :
    FnOk P w K mg base CX0 3 f fd ["ground", "row", "head", "at"] (sp_cleared K) := by
  refine F.ok sc_cleared (fun vs H Q E h => ?_) (fun cdv A outer s H vs Q E hr h => ?_)
  · obtain ⟨g, vr, vh, r, h, a, b, rfl, hg, hvr, hvh, hlh, ha, hl, hbr, hbh, hb0, hb, q⟩ := h
    rfl
  · obtain ⟨g, vr, vh, r, h, a, b, rfl, hg, hvr, hvh, hlh, ha, hl, hbr, hbh, hb0, hb, q⟩ := h
    refine ⟨_, PSs.nox (pss_cons (ps_if (pt_cmpR op_eq (pe_ix ix_list (pv 1) (pv 3) (fun _ _ => rfl)) pe_int (nomark _)) (pss_one (ps_ret (pv 1))) pss_nil)
        (pss_one (ps_ret (pe_call G_plain hr (by rfl) g_plain F_plain.kp b_plain .nil pass0 (pa_cons (pv 0) (pa_cons (pe_lc (own := [("x", 4), ("y", 5)]) (g := gTup K 2 (gCons (gName 4) (gCons (gName 5) (gNil)))) (tt := tYes) (by rfl) sc_cleared.nd (RZ.pi_zipA (by rfl) m_zip (pa_cons (pv 1) (pa_cons (pv 2) pa_nil))) (blkOk_by (own := [("x", 4), ("y", 5)]) (N := ["ground", "row", "head", "at", "x", "y"]) (sc := defScope s_cleared) (by decide +kernel)) (fun _ _ _ _ _ => (pg_tup rfl (pgs_cons (pg_name (i := 4) sc_cleared.nd rfl (.inl rfl)) (pgs_cons (pg_name (i := 5) sc_cleared.nd rfl (.inl rfl)) pgs_nil)))) (fun _ _ _ _ _ => pts_nil) (fun _ _ _ _ _ => (pe_op op_sub (pe_op op_mulW (pv 4) (pe_ix (r := rIxL K) ix_list (pv 2) (pv 3) (fun _ _ => rfl))) (pe_op op_mulW (pv 5) (pe_ix (r := rIxL K) ix_list (pv 1) (pv 3) (fun _ _ => rfl)))))) pa_nil)))))), ?_⟩
    obtain ⟨pr, rfl, hpr⟩ := hvr
    obtain ⟨ph, rfl, hph⟩ := hvh
    have ia := gt_int ha
    have ih := gt_int (r := h) (j := a) (by omega)
    walk_at "go"
    refine w_ixL hpr ia ?_
    walk_at "go"
    refine w_ite (fun hc => ?_) (fun hc => ?_)
    · walk_at "go"
      refine q pr H (Same.refl _) ?_ (.inl rfl)
      have e : clearF g a h r = r := by unfold clearF; rw [if_pos hc]
      rw [e]
      exact hpr
    · walk_at "go"
      refine ⟨pr, ph, _, _, rfl, .inl ⟨SqL.of hpr, SqL.of hph, fun D hD => ?_⟩⟩
      refine lc_it (walk_zip (xs := r.map V.int) (ys := h.map V.int) (n := r.length) (by rw [List.length_map, List.length_map]; omega)) (fun i H' => Same H H' ∧ H' D = some (.lst (((List.zipWith (fun x y => x * gt h a - y * gt r a) r h).take i).map V.int))) ⟨Same.updD (Same.refl H) hD, upd_same⟩ (fun i H' _ hP => ⟨SqL.of (hP.1 _ _ hpr), SqL.of (hP.1 _ _ hph)⟩) (fun i v H1 H2 hi hP hY => ?_) (fun H' hP => ?_)
      · obtain ⟨sm, hD'⟩ := hP
        obtain ⟨T, u, v', rfl, hT, rfl, hu, hv⟩ := hY
        have g1 : (r.map V.int)[i]? = some (.int r[i]) := by rw [List.getElem?_map, List.getElem?_eq_getElem hi]; rfl
        have g2 : (h.map V.int)[i]? = some (.int (h[i]'(by omega))) := by rw [List.getElem?_map, List.getElem?_eq_getElem (by omega)]; rfl
        cases Option.some.inj (hu.symm.trans g1)
        cases Option.some.inj (hv.symm.trans g2)
        have s2 := same_upd (o := .tup [V.int r[i], V.int (h[i]'(by omega))]) hT
        have hTT : (upd H1 T (.tup [V.int r[i], V.int (h[i]'(by omega))])) T = some (.tup [V.int r[i], V.int (h[i]'(by omega))]) := upd_same
        generalize upd H1 T (.tup [V.int r[i], V.int (h[i]'(by omega))]) = H2 at s2 hTT ⊢
        have bx := natAbs_mem hbr _ (List.getElem_mem hi)
        have by' := natAbs_mem hbh _ (List.getElem_mem (show i < h.length by omega))
        walk_at "go"
        refine ⟨rfl, ?_⟩
        walk_at "go"
        refine w_ixL (s2 _ _ (sm _ _ hph)) ih ?_
        refine w_I (wide_mul bx (hbh a) hb0 hb0 (by omega)) ?_
        walk_at "go"
        refine w_ixL (s2 _ _ (sm _ _ hpr)) ia ?_
        refine w_I (wide_mul by' (hbr a) hb0 hb0 (by omega)) ?_
        walk_at "go"
        refine ⟨_, s2 _ _ hD', ?_, Same.updD (sm.trans s2) hD, ?_⟩
        · rw [List.length_map, List.length_take]
          exact small1000 (by rw [List.length_zipWith]; omega)
        · have gz : (List.zipWith (fun x y => x * gt h a - y * gt r a) r h)[i]? = some (r[i] * gt h a - h[i]'(by omega) * gt r a) := by
            rw [List.getElem?_zipWith, List.getElem?_eq_getElem hi, List.getElem?_eq_getElem (by omega)]
          rw [upd_same, List.take_add_one, gz, List.map_append]
          rfl
      · obtain ⟨sm, hD'⟩ := hP
        rw [List.take_of_length_le (by rw [List.length_zipWith]; omega)] at hD'
        walk_at "go"
        refine ⟨g, .ref D, _, b + b + 1, rfl, hg, ⟨D, rfl, hD'⟩, fun _ x hx => ?_, by omega, by omega, by rw [List.length_zipWith]; omega, fun p' H2 s2 h2 h3 => ?_⟩
        · obtain ⟨i, hi, rfl⟩ := List.mem_iff_getElem.mp hx
          rw [List.length_zipWith] at hi
          rw [List.getElem_zipWith]
          exact mul2_lt (natAbs_mem hbr _ (List.getElem_mem (by omega))) (hbh a) (natAbs_mem hbh _ (List.getElem_mem (by omega))) (hbr a)
        · have e : clearF g a h r = plainF g (List.zipWith (fun x y => x * gt h a - y * gt r a) r h) := by unfold clearF; rw [if_neg hc]
          refine q p' H2 (sm.trans s2) (by rw [e]; exact h2) (.inr ?_)
          rcases h3 with z | z
          · cases z
            exact hD
          · exact sm.free z
theorem ok_headed {f : Addr} {fd : FuncData} (F : FnP K "headed" s_headed f fd)
    {f_lowest : Addr} {fd_lowest : FuncData} (F_lowest : FnP K "lowest" s_lowest f_lowest fd_lowest) (b_lowest : Binds K fd_lowest ["ground", "top", "bottom"] []) (g_lowest : mg "lowest" = some (.ref f_lowest)) (G_lowest : FnOk P w K mg base CX0 2 f_lowest fd_lowest ["ground", "top", "bottom"] (sp_lowest K)) (m_tuple : mg "tuple" = none) :
    FnOk P w K mg base CX0 3 f fd ["ground", "row"] (sp_headed K) := by
  refine F.ok sc_headed (fun vs H Q E h => ?_) (fun cdv A outer s H vs Q E hr h => ?_)
  · obtain ⟨g, v, r, k, rfl, hg, hv, hne, hfm, hb, hbh, hk, hl, q⟩ := h
    rfl
  · obtain ⟨g, v, r, k, rfl, hg, hv, hne, hfm, hb, hbh, hk, hl, q⟩ := h
    refine ⟨_, PSs.nox (pss_cons (ps_set (i := 2) sc_headed.nd rfl (.inr rfl) (pe_ix ix_list (pe_lc (own := [("x", 3)]) (g := gName 3) (by rfl) sc_headed.nd (pi_list (pv 1)) (blkOk_by (own := [("x", 3)]) (N := ["ground", "row", "head", "x"]) (sc := defScope s_headed) (by decide +kernel)) (fun _ _ _ _ _ => (pg_name (i := 3) sc_headed.nd rfl (.inl rfl))) (fun _ _ _ _ _ => (pts_one (pt_cmpR op_ne (pv 3) pe_int (nomark _)))) (fun _ _ _ _ _ => (pv 3))) pe_int (fun _ _ => rfl)))
        (pss_one (ps_ret (pe_callTy call_tuple_of (by rfl) m_tuple (by decide +kernel) (pa_cons (pe_lc (own := [("x", 3)]) (g := gName 3) (tt := tYes) (by rfl) sc_headed.nd (pi_list (pv 1)) (blkOk_by (own := [("x", 3)]) (N := ["ground", "row", "head", "x"]) (sc := defScope s_headed) (by decide +kernel)) (fun _ _ _ _ _ => (pg_name (i := 3) sc_headed.nd rfl (.inl rfl))) (fun _ _ _ _ _ => pts_nil) (fun _ _ _ _ _ => (pe_call G_lowest hr (by rfl) g_lowest F_lowest.kp b_lowest .nil pass0 (pa_cons (pv 0) (pa_cons (pv 3) (pa_cons (pv 2) pa_nil)))))) pa_nil))))), ?_⟩
    obtain ⟨p, rfl, hp⟩ := hv
    walk_at "go"
    refine ⟨p, rfl, ⟨_, SqL.of hp⟩, fun D hD => ?_⟩
    refine lc_list (xs := r.map V.int) (fun i H' => Same H H' ∧ H' D = some (.lst (((r.take i).filter fun x => decide (x ≠ 0)).map V.int))) ⟨Same.updD (Same.refl H) hD, upd_same⟩ (fun i H' _ hP => SqL.of (hP.1 _ _ hp)) (fun i x H' hxi hP => ?_) (fun H1 hP => ?_)
    · obtain ⟨sm, hD'⟩ := hP
      have hi : i < r.length := by
        have := (List.getElem?_eq_some_iff.mp hxi).1
        rw [List.length_map] at this
        exact this
      have hx : x = .int r[i] := by
        rw [List.getElem?_map, List.getElem?_eq_getElem hi] at hxi
        exact (Option.some.inj hxi).symm
      subst hx
      walk_at "go"
      refine ⟨rfl, ?_⟩
      walk_at "go"
      refine w_iteN (fun hc => ?_) (fun hc => ?_)
      · walk_at "go"
        refine ⟨_, hD', ?_, Same.updD sm hD, ?_⟩
        · rw [List.length_map]
          exact small1000 (Nat.le_trans (List.length_filter_le _ _) (by rw [List.length_take]; omega))
        · rw [upd_same, List.take_add_one, List.getElem?_eq_getElem hi, Option.toList_some, List.filter_append, List.filter_cons, if_pos (decide_eq_true hc), List.filter_nil, List.map_append]
          rfl
      · refine ⟨sm, ?_⟩
        rw [hD', List.take_add_one, List.getElem?_eq_getElem hi, Option.toList_some, List.filter_append, List.filter_cons, if_neg (by rw [decide_eq_false (fun z => z hc)]; exact Bool.false_ne_true), List.filter_nil, List.append_nil]
    · obtain ⟨sm, hD'⟩ := hP
      rw [List.take_of_length_le (by rw [List.length_map]; exact Nat.le_refl _)] at hD'
      walk_at "go"
      have hh : atI ((r.filter fun x => decide (x ≠ 0)).map V.int) 0 = some (.int (hdF r)) := by
        refine atI_nat (j := 0) ?_
        unfold hdF at hne ⊢
        cases e : (r.filter fun x => decide (x ≠ 0)) with
        | nil => rw [e] at hne; exact absurd rfl hne
        | cons a l => rfl
      refine w_ixL hD' hh ?_
      walk_at "go"
      refine ⟨p, rfl, ⟨_, SqL.of (sm _ _ hp)⟩, fun D2 hD2 => ?_⟩
      refine lc_list (xs := r.map V.int) (fun i H' => Same H1 H' ∧ ∃ ys, H' D2 = some (.lst ys) ∧ Acc NumV H' ys (headF g r) i) ⟨Same.updD (Same.refl H1) hD2, [], upd_same, Acc.nil⟩ (fun i H' _ hP => SqL.of (hP.1 _ _ (sm _ _ hp))) (fun i x H' hxi hP => ?_) (fun H' hP => ?_)
      · obtain ⟨sm2, ys, hD2', hacc⟩ := hP
        have hi : i < r.length := by
          have := (List.getElem?_eq_some_iff.mp hxi).1
          rw [List.length_map] at this
          exact this
        have hx : x = .int r[i] := by
          rw [List.getElem?_map, List.getElem?_eq_getElem hi] at hxi
          exact (Option.some.inj hxi).symm
        subst hx
        walk_at "go"
        refine ⟨rfl, ?_⟩
        walk_at "go"
        refine ⟨g, r[i], hdF r, rfl, lowP hg hne hfm (hb _ (List.getElem_mem hi)) hbh hk, fun p3 H3 hp3 s3 h3 => ?_⟩
        have h3D := s3 _ _ hD2'
        have kt : Kt H' (upd H3 D2 (.lst (ys ++ [V.ref p3]))) := (Kt.of s3).trans (Kt.updL h3D)
        refine ⟨ys, h3D, small1000 (by rw [hacc.1]; omega), Same.updD (sm2.trans s3) hD2, _, upd_same, ?_⟩
        exact (hacc.mono fun x a h => NumV.kt h kt).snoc (a := lowF g r[i] (hdF r)) (by unfold headF; rw [List.getElem?_map, List.getElem?_eq_getElem hi]; rfl) ⟨p3, rfl, Kt.updL h3D _ _ h3⟩
      · obtain ⟨sm2, ys, hD2', hacc⟩ := hP
        walk_at "go"
        refine ⟨_, _, rfl, .inl ⟨SqL.of hD2', fun m hm => ?_⟩⟩
        exact q _ _ (sm.trans (sm2.trans (same_upd hm))) ((hacc.mono fun x a h => NumV.kt h (Kt.of (same_upd hm))).sq (by unfold headF; rw [List.length_map, List.length_map]) upd_same)
theorem ok__law_is_row {f : Addr} {fd : FuncData} (F : FnP K "_law_is_row" s__law_is_row f fd)
    {f__law_is_number : Addr} {fd__law_is_number : FuncData} (F__law_is_number : FnP K "_law_is_number" s__law_is_number f__law_is_number fd__law_is_number) (b__law_is_number : Binds K fd__law_is_number ["_law_g", "_law_thing"] []) (g__law_is_number : mg "_law_is_number" = some (.ref f__law_is_number)) (G__law_is_number : FnOk P w K mg base CX0 2 f__law_is_number fd__law_is_number ["_law_g", "_law_thing"] (sp__law_is_number K)) (m_isinstance : mg "isinstance" = none) (m_tuple : mg "tuple" = none) (m_all : mg "all" = none) (m_len : mg "len" = none) :
    FnOk P w K mg base CX0 3 f fd ["_law_g", "_law_thing", "_law_many"] (sp__law_is_row K) := by
  refine F.ok sc__law_is_row (fun vs H Q E h => ?_) (fun cdv A outer s H vs Q E hr h => ?_)
  · obtain ⟨g, v, m, kb, nb, rfl, hg0, hv, q⟩ := h
    rfl
  · obtain ⟨g, v, m, kb, nb, rfl, hg0, hv, q⟩ := h
    refine ⟨_, PSs.nox (pss_one (ps_ret (pe_and (pe_callB call_isi (by rfl) m_isinstance (by decide +kernel) (pa_cons (pv 1) (pa_cons (pe_bltn (v := .ty "tuple") (by rfl) m_tuple (by decide +kernel) rfl) pa_nil))) (pe_and (pe_cmpR op_eq (pe_callB call_len_seq (by rfl) m_len (by decide +kernel) (pa_cons (pv 1) pa_nil)) (pv 2) (nomark _)) (pe_one (pe_callB (cr_all rfl) (by rfl) m_all (by decide +kernel) (pa_cons (pe_lc (own := [("_law_one", 3)]) (g := gName 3) (tt := tYes) (by rfl) sc__law_is_row.nd (pi_tup (pv 1)) (blkOk_by (own := [("_law_one", 3)]) (N := ["_law_g", "_law_thing", "_law_many", "_law_one"]) (sc := defScope s__law_is_row) (by decide +kernel)) (fun _ _ _ _ _ => (pg_name (i := 3) sc__law_is_row.nd rfl (.inl rfl))) (fun _ _ _ _ _ => pts_nil) (fun _ _ _ _ _ => (pe_call G__law_is_number hr (by rfl) g__law_is_number F__law_is_number.kp b__law_is_number .nil pass0 (pa_cons (pv 0) (pa_cons (pv 3) pa_nil))))) pa_nil))))))), ?_⟩
    walk_at "go"
    refine tb_tup hv (fun p xs e hp hz hx => ?_) (fun hn => ?_)
    · subst e
      rw [rowOf_tup hp] at q
      walk_at "go"
      refine ⟨p, xs, rfl, .inr (SqT.of hp), ?_⟩
      walk_at "go"
      refine w_ite (fun hl => ?_) (fun hl => ?_)
      · rw [decide_eq_true hl] at q
        walk_at "go"
        refine ⟨p, rfl, ⟨xs, SqT.of hp⟩, fun D hD => ?_⟩
        refine lc_tup (xs := xs) (fun i H' => Same H H' ∧ H' D = some (.lst (((xs.map (numOf H g)).take i).map V.bl))) ⟨Same.updD (Same.refl H) hD, upd_same⟩ (fun i H' _ hP => SqT.of (hP.1 _ _ hp)) (fun i x H' hxi hP => ?_) (fun H' hP => ?_)
        · obtain ⟨sm, hD'⟩ := hP
          have hmem := List.mem_of_getElem? hxi
          walk_at "go"
          refine ⟨rfl, ?_⟩
          walk_at "go"
          refine ⟨g, x, kb, nb, rfl, hg0, (hx x hmem).kd (Kd.of sm), fun H2 s2 => ?_⟩
          rw [numOf_tb (hx x hmem) (Kd.of sm)]
          refine ⟨_, s2 _ _ hD', ?_, Same.updD (sm.trans s2) hD, ?_⟩
          · rw [List.length_map]
            exact small1000 (Nat.le_trans (List.length_take_le' _ _) (by rw [List.length_map]; omega))
          · rw [upd_same, List.take_add_one, List.getElem?_map, hxi, List.map_append]
            rfl
        · obtain ⟨sm, hD'⟩ := hP
          walk_at "go"
          rw [List.take_of_length_le (by rw [List.length_map]; exact Nat.le_refl _)] at hD'
          refine ⟨D, _, rfl, SqL.of hD', ?_⟩
          rw [all_map]
          exact q _ sm
      · walk_at "go"
        rw [decide_eq_false hl] at q
        exact q _ (Same.refl _)
    · rw [rowOf_no hn] at q
      walk_at "go"
      exact q _ (Same.refl _)
theorem ok__law_times {f : Addr} {fd : FuncData} (F : FnP K "_law_times" s__law_times f fd)
    {f__law_low : Addr} {fd__law_low : FuncData} (F__law_low : FnP K "_law_low" s__law_low f__law_low fd__law_low) (b__law_low : Binds K fd__law_low ["_law_g", "_law_up", "_law_down"] []) (g__law_low : mg "_law_low" = some (.ref f__law_low)) (G__law_low : FnOk P w K mg base CX0 2 f__law_low fd__law_low ["_law_g", "_law_up", "_law_down"] (sp__law_low K)) :
    FnOk P w K mg base CX0 3 f fd ["_law_g", "_law_x", "_law_y"] (sp__law_times K) := by
  refine F.ok sc__law_times (fun vs H Q E h => ?_) (fun cdv A outer s H vs Q E hr h => ?_)
  · obtain ⟨g, x, y, a, c, rfl, hg0, hg, hx, hy, ha, hc, q⟩ := h
    rfl
  · obtain ⟨g, x, y, a, c, rfl, hg0, hg, hx, hy, ha, hc, q⟩ := h
    refine ⟨_, PSs.nox (pss_one (ps_ret (pe_call G__law_low hr (by rfl) g__law_low F__law_low.kp b__law_low .nil pass0 (pa_cons (pv 0) (pa_cons (pe_op op_mulW (pe_ix ix_tup (pv 1) pe_int (fun _ _ => rfl)) (pe_ix ix_tup (pv 2) pe_int (fun _ _ => rfl))) (pa_cons (pe_op op_mulW (pe_ix ix_tup (pv 1) pe_int (fun _ _ => rfl)) (pe_ix ix_tup (pv 2) pe_int (fun _ _ => rfl))) pa_nil)))))), ?_⟩
    obtain ⟨px, rfl, hpx⟩ := hx
    obtain ⟨py, rfl, hpy⟩ := hy
    have hW : ∀ {u v : Int}, u.natAbs < 2 ^ 3000 → v.natAbs < 2 ^ 3000 → CMulW u v := fun h1 h2 => wide_mul h1 h2 (by decide) (by decide) (by decide)
    have hD : (a.2 * c.2).natAbs < 2 ^ 8000 := Nat.lt_of_lt_of_le (wide_lt ha.2.1 hc.2.1) (Nat.pow_le_pow_right (by decide) (by decide))
    walk_at "go"
    refine w_I (hW ha.1 hc.1) ?_
    walk_at "go"
    refine w_I (hW ha.2.1 hc.2.1) ?_
    walk_at "go"
    exact ⟨g, _, _, rfl, hg0, hg, Int.mul_ne_zero ha.2.2 hc.2.2, hD, fun p H1 hp s1 h1 => q p H1 hp s1 h1⟩
theorem ok__law_over {f : Addr} {fd : FuncData} (F : FnP K "_law_over" s__law_over f fd)
    {f__law_low : Addr} {fd__law_low : FuncData} (F__law_low : FnP K "_law_low" s__law_low f__law_low fd__law_low) (b__law_low : Binds K fd__law_low ["_law_g", "_law_up", "_law_down"] []) (g__law_low : mg "_law_low" = some (.ref f__law_low)) (G__law_low : FnOk P w K mg base CX0 2 f__law_low fd__law_low ["_law_g", "_law_up", "_law_down"] (sp__law_low K)) :
    FnOk P w K mg base CX0 3 f fd ["_law_g", "_law_x", "_law_y"] (sp__law_over K) := by
  refine F.ok sc__law_over (fun vs H Q E h => ?_) (fun cdv A outer s H vs Q E hr h => ?_)
  · obtain ⟨g, x, y, a, c, rfl, hg0, hg, hx, hy, ha, hc, hz, q⟩ := h
    rfl
  · obtain ⟨g, x, y, a, c, rfl, hg0, hg, hx, hy, ha, hc, hz, q⟩ := h
    refine ⟨_, PSs.nox (pss_one (ps_ret (pe_call G__law_low hr (by rfl) g__law_low F__law_low.kp b__law_low .nil pass0 (pa_cons (pv 0) (pa_cons (pe_op op_mulW (pe_ix ix_tup (pv 1) pe_int (fun _ _ => rfl)) (pe_ix ix_tup (pv 2) pe_int (fun _ _ => rfl))) (pa_cons (pe_op op_mulW (pe_ix ix_tup (pv 1) pe_int (fun _ _ => rfl)) (pe_ix ix_tup (pv 2) pe_int (fun _ _ => rfl))) pa_nil)))))), ?_⟩
    obtain ⟨px, rfl, hpx⟩ := hx
    obtain ⟨py, rfl, hpy⟩ := hy
    have hW : ∀ {u v : Int}, u.natAbs < 2 ^ 3000 → v.natAbs < 2 ^ 3000 → CMulW u v := fun h1 h2 => wide_mul h1 h2 (by decide) (by decide) (by decide)
    have hD : (a.2 * c.1).natAbs < 2 ^ 8000 := Nat.lt_of_lt_of_le (wide_lt ha.2.1 hc.1) (Nat.pow_le_pow_right (by decide) (by decide))
    walk_at "go"
    refine w_I (hW ha.1 hc.2.1) ?_
    walk_at "go"
    refine w_I (hW ha.2.1 hc.1) ?_
    walk_at "go"
    exact ⟨g, _, _, rfl, hg0, hg, Int.mul_ne_zero ha.2.2 hz, hD, fun p H1 hp s1 h1 => q p H1 hp s1 h1⟩
theorem ok__law_plus {f : Addr} {fd : FuncData} (F : FnP K "_law_plus" s__law_plus f fd)
    {f__law_low : Addr} {fd__law_low : FuncData} (F__law_low : FnP K "_law_low" s__law_low f__law_low fd__law_low) (b__law_low : Binds K fd__law_low ["_law_g", "_law_up", "_law_down"] []) (g__law_low : mg "_law_low" = some (.ref f__law_low)) (G__law_low : FnOk P w K mg base CX0 2 f__law_low fd__law_low ["_law_g", "_law_up", "_law_down"] (sp__law_low K)) :
    FnOk P w K mg base CX0 3 f fd ["_law_g", "_law_x", "_law_y"] (sp__law_plus K) := by
  refine F.ok sc__law_plus (fun vs H Q E h => ?_) (fun cdv A outer s H vs Q E hr h => ?_)
  · obtain ⟨g, x, y, a, c, rfl, hg0, hg, hx, hy, ha, hc, q⟩ := h
    rfl
  · obtain ⟨g, x, y, a, c, rfl, hg0, hg, hx, hy, ha, hc, q⟩ := h
    refine ⟨_, PSs.nox (pss_one (ps_ret (pe_call G__law_low hr (by rfl) g__law_low F__law_low.kp b__law_low .nil pass0 (pa_cons (pv 0) (pa_cons (pe_op op_add (pe_op op_mulW (pe_ix ix_tup (pv 1) pe_int (fun _ _ => rfl)) (pe_ix ix_tup (pv 2) pe_int (fun _ _ => rfl))) (pe_op op_mulW (pe_ix ix_tup (pv 2) pe_int (fun _ _ => rfl)) (pe_ix ix_tup (pv 1) pe_int (fun _ _ => rfl)))) (pa_cons (pe_op op_mulW (pe_ix ix_tup (pv 1) pe_int (fun _ _ => rfl)) (pe_ix ix_tup (pv 2) pe_int (fun _ _ => rfl))) pa_nil)))))), ?_⟩
    obtain ⟨px, rfl, hpx⟩ := hx
    obtain ⟨py, rfl, hpy⟩ := hy
    have hW : ∀ {u v : Int}, u.natAbs < 2 ^ 3000 → v.natAbs < 2 ^ 3000 → CMulW u v := fun h1 h2 => wide_mul h1 h2 (by decide) (by decide) (by decide)
    have hD : (a.2 * c.2).natAbs < 2 ^ 8000 := Nat.lt_of_lt_of_le (wide_lt ha.2.1 hc.2.1) (Nat.pow_le_pow_right (by decide) (by decide))
    walk_at "go"
    refine w_I (hW ha.1 hc.2.1) ?_
    walk_at "go"
    refine w_I (hW hc.1 ha.2.1) ?_
    walk_at "go"
    refine w_I (hW ha.2.1 hc.2.1) ?_
    walk_at "go"
    exact ⟨g, _, _, rfl, hg0, hg, Int.mul_ne_zero ha.2.2 hc.2.2, hD, fun p H1 hp s1 h1 => q p H1 hp s1 h1⟩
theorem ok__law_minus {f : Addr} {fd : FuncData} (F : FnP K "_law_minus" s__law_minus f fd)
    {f__law_low : Addr} {fd__law_low : FuncData} (F__law_low : FnP K "_law_low" s__law_low f__law_low fd__law_low) (b__law_low : Binds K fd__law_low ["_law_g", "_law_up", "_law_down"] []) (g__law_low : mg "_law_low" = some (.ref f__law_low)) (G__law_low : FnOk P w K mg base CX0 2 f__law_low fd__law_low ["_law_g", "_law_up", "_law_down"] (sp__law_low K)) :
    FnOk P w K mg base CX0 3 f fd ["_law_g", "_law_x"] (sp__law_minus K) := by
  refine F.ok sc__law_minus (fun vs H Q E h => ?_) (fun cdv A outer s H vs Q E hr h => ?_)
  · obtain ⟨g, x, a, rfl, hg0, hg, hx, ha, ha2, q⟩ := h
    rfl
  · obtain ⟨g, x, a, rfl, hg0, hg, hx, ha, ha2, q⟩ := h
    refine ⟨_, PSs.nox (pss_one (ps_ret (pe_call G__law_low hr (by rfl) g__law_low F__law_low.kp b__law_low .nil pass0 (pa_cons (pv 0) (pa_cons (pe_op op_sub pe_int (pe_ix ix_tup (pv 1) pe_int (fun _ _ => rfl))) (pa_cons (pe_ix ix_tup (pv 1) pe_int (fun _ _ => rfl)) pa_nil)))))), ?_⟩
    obtain ⟨px, rfl, hpx⟩ := hx
    walk_at "go"
    exact ⟨g, _, _, rfl, hg0, hg, ha2, ha, fun p H1 hp s1 h1 => q p H1 hp s1 h1⟩
theorem ok__law_number {f : Addr} {fd : FuncData} (F : FnP K "_law_number" s__law_number f fd)
    {f__law_low : Addr} {fd__law_low : FuncData} (F__law_low : FnP K "_law_low" s__law_low f__law_low fd__law_low) (b__law_low : Binds K fd__law_low ["_law_g", "_law_up", "_law_down"] []) (g__law_low : mg "_law_low" = some (.ref f__law_low)) (G__law_low : FnOk P w K mg base CX0 2 f__law_low fd__law_low ["_law_g", "_law_up", "_law_down"] (sp__law_low K))
    {f__law_take : Addr} {fd__law_take : FuncData} (F__law_take : FnP K "_law_take" s__law_take f__law_take fd__law_take) (b__law_take : Binds K fd__law_take ["_law_bag_here", "_law_many"] []) (g__law_take : mg "_law_take" = some (.ref f__law_take)) (G__law_take : FnOk P w K mg base CX0 1 f__law_take fd__law_take ["_law_bag_here", "_law_many"] (sp__law_take K)) :
    FnOk P w K mg base CX0 3 f fd ["_law_bag_here", "_law_g"] (sp__law_number K) := by
  refine F.ok sc__law_number (fun vs H Q E h => ?_) (fun cdv A outer s H vs Q E hr h => ?_)
  · obtain ⟨b, g, rfl, hgr, hb, q⟩ := h
    rfl
  · obtain ⟨b, g, rfl, hgr, hb, q⟩ := h
    refine ⟨_, PSs.nox (pss_cons (ps_if (pt_cmpR op_gt (pv 1) pe_int (nomark _)) (pss_one (ps_ret (pe_tup (pa_cons (pe_call G__law_take (hr.mono (by decide)) (by rfl) g__law_take F__law_take.kp b__law_take .nil pass0 (pa_cons (pv 0) (pa_cons (pv 1) pa_nil))) (pa_cons pe_int pa_nil))))) pss_nil)
        (pss_cons (ps_set (i := 2) sc__law_number.nd rfl (.inl rfl) (pe_ix ix_list (pe_lst (pa_cons pe_int (pa_cons pe_int (pa_cons pe_int (pa_cons pe_int (pa_cons pe_int (pa_cons pe_int pa_nil))))))) (pe_call G__law_take (hr.mono (by decide)) (by rfl) g__law_take F__law_take.kp b__law_take .nil pass0 (pa_cons (pv 0) (pa_cons pe_int pa_nil))) (fun _ _ => rfl)))
        (pss_cons (ps_set (i := 3) sc__law_number.nd rfl (.inl rfl) (pe_ix ix_list (pe_lst (pa_cons pe_int (pa_cons pe_int (pa_cons pe_int (pa_cons (pe_op op_add pe_int (pe_call G__law_take (hr.mono (by decide)) (by rfl) g__law_take F__law_take.kp b__law_take .nil pass0 (pa_cons (pv 0) (pa_cons pe_int pa_nil)))) pa_nil))))) (pe_call G__law_take (hr.mono (by decide)) (by rfl) g__law_take F__law_take.kp b__law_take .nil pass0 (pa_cons (pv 0) (pa_cons pe_int pa_nil))) (fun _ _ => rfl)))
        (pss_one (ps_ret (pe_call G__law_low hr (by rfl) g__law_low F__law_low.kp b__law_low .nil pass0 (pa_cons pe_int (pa_cons (pe_op op_sub (pe_call G__law_take (hr.mono (by decide)) (by rfl) g__law_take F__law_take.kp b__law_take .nil pass0 (pa_cons (pv 0) (pa_cons (pv 2) pa_nil))) (pe_op op_fdivZ (pv 2) pe_int)) (pa_cons (pv 3) pa_nil))))))))), ?_⟩
    obtain ⟨hg0, hg⟩ := hgr.bd
    have hg3 := hgr.three
    walk_at "go"
    refine w_ite (fun hc => ?_) (fun hc => ?_)
    · walk_at "go"
      refine ⟨b, g, rfl, hc, by omega, hb, fun H1 d hd0 hd1 m1 hb1 => ?_⟩
      walk_at "go"
      refine w_new (by simp) fun p H2 hp s2 h2 => ?_
      refine q _ _ (d, 1) ⟨p, rfl, h2⟩ ⟨show (0 : Int) < 1 by decide, show (1 : Int) ∣ 2520 by decide, ?_, ?_⟩ ⟨.inr ⟨hc, hd0, hd1, rfl⟩, ?_, show (1 : Int).natAbs < 2 ^ 7 by decide⟩ (m1.trans (Mv.same s2)) (hb1.same s2)
      · show d.natAbs ≤ 64 * 2 ^ 0 * 1
        omega
      · exact .inr ⟨by omega, by omega, rfl⟩
      · show d.natAbs < 2 ^ 7
        omega
    · walk_at "go"
      refine w_new (by simp) fun p1 H1 hp1 s1 h1 => ?_
      walk_at "go"
      refine ⟨b, 6, rfl, by decide, by decide, hb.same s1, fun H2 d2 h20 h21 m2 hb2 => ?_⟩
      obtain ⟨wd, ew, hw0, hw1⟩ := nu_six h20 h21
      refine w_ixL (m2 _ _ (bag_ne hb hp1) h1) ew ?_
      walk_at "go"
      refine ⟨b, 8, rfl, by decide, by decide, hb2, fun H3 d3 h30 h31 m3 hb3 => ?_⟩
      walk_at "go"
      refine w_new (by simp) fun p4 H4 hp4 s4 h4 => ?_
      walk_at "go"
      refine ⟨b, 4, rfl, by decide, by decide, hb3.same s4, fun H5 d5 h50 h51 m5 hb5 => ?_⟩
      obtain ⟨dn, ed, hdn0, hdn1⟩ := nu_four h50 h51 h30 h31
      refine w_ixL (m5 _ _ (bag_ne hb3 hp4) h4) ed ?_
      walk_at "go"
      refine ⟨b, wd, rfl, by omega, by omega, hb5, fun H6 d6 h60 h61 m6 hb6 => ?_⟩
      walk_at "go"
      refine w_I (divZ_small (by decide) (by decide)) ?_
      walk_at "go"
      refine ⟨0, _, dn, rfl, by decide, by decide, by omega, Nat.lt_of_lt_of_le (show dn.natAbs < 2 ^ 7 by omega) (Nat.pow_le_pow_right (by decide) (by decide)), fun p H7 hp s7 h7 => ?_⟩
      have hu : (d6 - wd.fdiv 2).natAbs ≤ 64 := by
        rw [fdiv_pos _ (by decide)]
        omega
      have e0 : g = 0 := by omega
      subst e0
      exact q _ _ _ ⟨p, rfl, h7⟩ (ng_low hu hdn0 hdn1) (tn_low (.inl rfl) (by omega) (fun z => absurd rfl z) (by decide) (by omega) (by omega)) ((Mv.same s1).trans (m2.trans (m3.trans ((Mv.same s4).trans (m5.trans (m6.trans (Mv.same s7))))))) (hb6.same s7)
theorem ok_least_wholes {f : Addr} {fd : FuncData} (F : FnP K "least_wholes" s_least_wholes f fd)
    {f_head_place : Addr} {fd_head_place : FuncData} (F_head_place : FnP K "head_place" s_head_place f_head_place fd_head_place) (b_head_place : Binds K fd_head_place ["rows", "begin", "at"] []) (g_head_place : mg "head_place" = some (.ref f_head_place)) (G_head_place : FnOk P w K mg base CX0 1 f_head_place fd_head_place ["rows", "begin", "at"] (sp_head_place K))
    {f_cleared : Addr} {fd_cleared : FuncData} (F_cleared : FnP K "cleared" s_cleared f_cleared fd_cleared) (b_cleared : Binds K fd_cleared ["ground", "row", "head", "at"] []) (g_cleared : mg "cleared" = some (.ref f_cleared)) (G_cleared : FnOk P w K mg base CX0 3 f_cleared fd_cleared ["ground", "row", "head", "at"] (sp_cleared K)) (m_range : mg "range" = none) (m_len : mg "len" = none) :
    FnOk P w K mg base CX0 4 f fd ["ground", "rows"] (sp_least_wholes K) := by
  refine F.ok sc_least_wholes (fun vs H Q E h => ?_) (fun cdv A outer s H vs Q E hr h => ?_)
  · obtain ⟨g, v, rows, n, k, A, F', R, W, rfl, hg, hv, hlen, hn, hm, hing, hz, hk4, hk, q⟩ := h
    rfl
  · obtain ⟨g, v, rows, n, k, A, F', R, W, rfl, hg, hv, hlen, hn, hm, hing, hz, hk4, hk, q⟩ := h
    refine ⟨_, PSs.nox (pss_cons (ps_set (i := 2) sc_least_wholes.nd rfl (.inl rfl) pe_int)
        (pss_cons (ps_set (i := 3) sc_least_wholes.nd rfl (.inl rfl) (pe_ifExp (pt_tru (pv 1) (fun _ => rfl)) (pe_callB call_len_seq (by rfl) m_len (by decide +kernel) (pa_cons (pe_ix ix_list (pv 1) pe_int (fun _ _ => rfl)) pa_nil)) pe_int))
        (pss_cons (ps_for PassesOwn.never rfl (pi_range1 (by rfl) m_range (pa_cons (pv 3) pa_nil)) (pg_name (i := 4) sc_least_wholes.nd rfl (.inr rfl)) (pss_cons (ps_set (i := 5) sc_least_wholes.nd rfl (.inl rfl) (pe_call G_head_place (hr.mono (by decide)) (by rfl) g_head_place F_head_place.kp b_head_place .nil pass0 (pa_cons (pv 1) (pa_cons (pv 2) (pa_cons (pv 4) pa_nil)))))
        (pss_one (ps_if (pt_cmpR op_notN (pv 5) pe_non (nomark _)) (pss_cons (ps_set (i := 6) sc_least_wholes.nd rfl (.inr rfl) (pe_ix ix_list (pv 1) (pv 5) (fun _ _ => rfl)))
        (pss_cons (ps_setLc (i := 7) (own := [("row", 8)]) (g := gName 8) (tt := tYes) (by rfl) sc_least_wholes.nd rfl rfl (sw_true rfl rfl rfl (by decide +kernel)) (pi_list (pe_op op_cat (pe_slice sl_list (pv 1) po_none (po_some (pv 5))) (pe_slice sl_list (pv 1) (po_some (pe_op op_add (pv 5) pe_int)) po_none))) (blkOk_by (own := [("row", 8)]) (N := ["ground", "rows", "many", "wide", "at", "place", "head", "others", "row"]) (sc := defScope s_least_wholes) (by decide +kernel)) (fun _ _ _ _ _ => (pg_name (i := 8) sc_least_wholes.nd rfl (.inl rfl))) (fun _ _ _ _ _ => pts_nil) (fun _ _ _ _ _ => (pe_call G_cleared hr (by rfl) g_cleared F_cleared.kp b_cleared .nil pass0 (pa_cons (pv 0) (pa_cons (pv 8) (pa_cons (pv 6) (pa_cons (pv 4) pa_nil)))))))
        (pss_cons (ps_set (i := 1) sc_least_wholes.nd rfl (.inl rfl) (pe_op op_cat (pe_op op_cat (pe_slice sl_list (pv 7) po_none (po_some (pv 2))) (pe_lst (pa_cons (pv 6) pa_nil))) (pe_slice sl_list (pv 7) (po_some (pv 2)) po_none)))
        (pss_one (ps_aug (i := 2) sc_least_wholes.nd rfl (.inl rfl) pe_int ip_add))))) pss_nil))))
        (pss_one (ps_ret (pe_slice sl_list (pv 1) po_none (po_some (pv 2)))))))), ?_⟩
    obtain ⟨p, xs, rfl, hp, hacc⟩ := hv
    have hbd : ∀ (rows' : List (List Int)) (h : List Nat), rows'.length = rows.length → (∀ r ∈ rows', InG g r) → (g = 0 → ∃ P O c, P.length = h.length ∧ Sz A n P O c rows') → ∀ r ∈ rows', ∀ x, (gt r x).natAbs < 2 ^ k := fun rows' h hl hi hs r hr x => by
      by_cases e : g = 0
      · obtain ⟨P, O, c, _, z⟩ := hs e
        obtain ⟨_, _, hA, hB⟩ := hz e
        exact Nat.lt_of_le_of_lt (z.bound (m := rows.length) (by omega) hA r hr x) hB
      · exact Nat.lt_of_lt_of_le (ing_abs hg (hi r hr) e x) (Nat.pow_le_pow_right (by decide) hk4)
    walk_at "go"
    refine tru_lst hp ?_
    cases hxs : xs with
    | nil =>
      have hr0 : rows = [] := by
        have := hacc.1
        rw [hxs] at this
        exact List.length_eq_zero_iff.mp this.symm
      subst hr0
      rw [hxs] at hp
      rw [show (!(([] : List V).isEmpty)) = false from rfl]
      walk_at "go"
      refine ⟨by decide, by decide, ?_⟩
      refine for_range (fun i σ H' => H' = H ∧ ∃ y4 y5 y6 y7 y8, σ = [some (.int g), some (.ref p), some (.int 0), some (.int 0), y4, y5, y6, y7, y8]) ⟨rfl, _, _, _, _, _, rfl⟩ (fun i σ H' hi hP => absurd hi (Nat.not_lt_zero _)) (fun σ H' hP => ?_)
      obtain ⟨rfl, y4, y5, y6, y7, y8, rfl⟩ := hP
      walk_at "go"
      refine w_slL hp fun q' H1 hq' s1 h1 => ?_
      exact q _ _ [] [] s1 ⟨q', _, rfl, h1, rfl, fun j x a h1 => by simp [cutV] at h1⟩ (fst_nil n n) rfl fun r hr => by cases hr
    | cons x0 xs' =>
      rw [← hxs]
      have hx00 : xs[0]? = some x0 := by rw [hxs]; rfl
      have hlx : xs.length = rows.length := hacc.1
      have hpos : 0 < rows.length := by rw [← hlx, hxs]; exact Nat.succ_pos _
      have hr0 : rows[0]? = some rows[0] := List.getElem?_eq_getElem hpos
      obtain ⟨p0, e0, hp0⟩ := hacc.2 0 x0 _ hx00 hr0
      have hemp : (!(xs.isEmpty)) = true := by rw [hxs]; rfl
      rw [hemp]
      walk_at "go"
      subst e0
      refine w_ixL hp (atI_nat (j := 0) hx00) ?_
      walk_at "go"
      refine ⟨p0, _, rfl, .inl (SqL.of hp0), ?_⟩
      rw [List.length_map, hlen _ (List.getElem_mem hpos)]
      walk_at "go"
      refine ⟨by omega, by omega, ?_⟩
      rw [Int.toNat_natCast]
      refine for_range (fun i σ H' => ∃ (rv : V) (rows' : List (List Int)) (h : List Nat), (∃ y4 y5 y6 y7 y8, σ = [some (.int g), some rv, some (.int (h.length : Int)), some (.int (n : Int)), y4, y5, y6, y7, y8]) ∧ Same H H' ∧ ILs H' rv rows' ∧ Fst W i n rows rows' h ∧ rows'.length = rows.length ∧ (g = 0 → ∃ P O c, P.length = h.length ∧ Sz A n P O c rows'))
        ⟨.ref p, rows, [], ⟨_, _, _, _, _, rfl⟩, Same.refl H, ⟨p, xs, rfl, hp, hacc⟩, Fst.start W hing hlen, rfl, fun e => ⟨[], rows, [], rfl, Sz.start (hz e).2.1 (hz e).1⟩⟩ (fun i σ H' hi hP => ?_) (fun σ H' hP => ?_)
      · obtain ⟨rv, rows', h, ⟨y4, y5, y6, y7, y8, rfl⟩, sm, hIL, fst, hl', hsz⟩ := hP
        have hb' := hbd rows' h hl' fst.ing hsz
        have hlr := fst.lr
        walk_at "go"
        rw [Int.zero_add]
        refine ⟨rv, rows', h.length, i, rfl, hIL, fun r hr => by rw [fst.len r hr]; exact hi, by omega, by omega, fun hzz => ?_, fun place head hmp hh hne => ?_⟩
        · walk_at "go"
          refine ⟨rfl, ?_⟩
          walk_at "go"
          refine w_iteN (fun hc => absurd rfl hc) (fun _ => ?_)
          walk_at "go"
          exact ⟨rv, rows', h, ⟨_, _, _, _, _, rfl⟩, sm, hIL, fst.skip hzz, hl', hsz⟩
        · have hpl := (List.getElem?_eq_some_iff.mp hh).1
          have hmem := List.mem_of_getElem? hh
          obtain ⟨p1, xs1, rfl, hp1, hacc1⟩ := hIL
          have hlx1 : xs1.length = rows'.length := hacc1.1
          have hx1 : xs1[place]? = some (xs1[place]'(by omega)) := List.getElem?_eq_getElem _
          obtain ⟨ph, eh, hph⟩ := hacc1.2 place _ head hx1 hh
          rw [eh] at hx1
          walk_at "go"
          refine ⟨rfl, ?_⟩
          walk_at "go"
          refine w_iteN (fun _ => ?_) (fun hc => by cases hc)
          walk_at "go"
          refine w_ixL hp1 (atI_nat hx1) ?_
          walk_at "go"
          refine w_slL hp1 fun q1 H1 hq1 s1 h1 => ?_
          walk_at "go"
          refine w_slL (s1 _ _ hp1) fun q2 H2 hq2 s2 h2 => ?_
          rw [cut_take] at h1
          rw [show (place : Int) + 1 = ((place + 1 : Nat) : Int) by omega, cut_drop] at h2
          refine w_cat (s2 _ _ h1) h2 (by rw [List.length_take, List.length_drop]; omega) ?_
          refine w_newO fun q3 H3 hq3 s3 h3 => ?_
          rw [erase_cut] at h3
          have s03 := s1.trans (s2.trans s3)
          have hacc3 : Acc IL H3 (xs1.eraseIdx place) (rows'.eraseIdx place) (rows'.eraseIdx place).length := by
            refine ⟨by rw [List.length_eraseIdx_of_lt (by omega), List.length_eraseIdx_of_lt hpl, hlx1], fun j x a e1 e2 => ?_⟩
            rw [List.getElem?_eraseIdx] at e1 e2
            by_cases ej : j < place
            · rw [if_pos ej] at e1 e2
              exact (hacc1.2 j x a e1 e2).sm s03
            · rw [if_neg ej] at e1 e2
              exact (hacc1.2 _ x a e1 e2).sm s03
          have hle : (rows'.eraseIdx place).length = rows'.length - 1 := List.length_eraseIdx_of_lt hpl
          refine ⟨q3, rfl, ⟨_, SqL.of h3⟩, fun D hD => ?_⟩
          refine lc_list (xs := xs1.eraseIdx place) (fun j H' => Same H3 H' ∧ ∃ zs, H' D = some (.lst zs) ∧ Acc (ILn D) H' zs ((rows'.eraseIdx place).map (clearF g i head)) j) ⟨Same.updD (Same.refl H3) hD, [], upd_same, Acc.nil⟩ (fun j H' _ hP => SqL.of (hP.1 _ _ h3)) (fun j x H4 hxj hP => ?_) (fun H4 hP => ?_)
          · obtain ⟨sm4, zs, hD4, hacc4⟩ := hP
            have hj : j < (rows'.eraseIdx place).length := by
              have := (List.getElem?_eq_some_iff.mp hxj).1
              have := hacc3.1
              omega
            have hrj : (rows'.eraseIdx place)[j]? = some (rows'.eraseIdx place)[j] := List.getElem?_eq_getElem hj
            have hmj : (rows'.eraseIdx place)[j] ∈ rows' := List.mem_of_mem_eraseIdx (List.getElem_mem hj)
            obtain ⟨px, rfl, hpx⟩ := hacc3.2 j x _ hxj hrj
            walk_at "go"
            refine ⟨rfl, ?_⟩
            walk_at "go"
            refine ⟨g, .ref px, .ref ph, _, head, i, k, rfl, hg, ⟨px, rfl, sm4 _ _ hpx⟩, ⟨ph, rfl, sm4 _ _ (s03 _ _ hph)⟩, by rw [fst.len _ hmj, fst.len head hmem], by rw [fst.len _ hmj]; exact hi, by rw [fst.len _ hmj]; omega, hb' _ hmj, hb' head hmem, by omega, hk, fun p5 H5 s5 h5 hfr => ?_⟩
            have hD5 := s5 _ _ hD4
            have np : p5 ≠ D := by
              rcases hfr with z | z
              · cases z
                exact fresh_of hpx hD
              · exact fun e => by rw [e, hD4] at z; cases z
            refine ⟨zs, hD5, small1000 (by rw [hacc4.1]; omega), Same.updD (sm4.trans s5) hD, _, upd_same, ?_⟩
            exact (hacc4.mono fun x a h => (h.sm s5).upd).snoc (a := clearF g i head (rows'.eraseIdx place)[j]) (by rw [List.getElem?_map, hrj]; rfl) (ILn.upd ⟨p5, rfl, np, h5⟩)
          · obtain ⟨sm4, zs, hD4, hacc4⟩ := hP
            have hzl : zs.length = rows'.length - 1 := by rw [hacc4.1, hacc3.1, hle]
            have hacc5 : Acc IL H4 zs ((rows'.eraseIdx place).map (clearF g i head)) ((rows'.eraseIdx place).map (clearF g i head)).length := by
              rw [List.length_map, ← hacc3.1]
              exact acc_imp hacc4 fun x a h => ILn.il h
            walk_at "go"
            refine w_slL hD4 fun q5 H5 hq5 s5 h5 => ?_
            rw [cut_take] at h5
            walk_at "go"
            refine w_new (by simp) fun q6 H6 hq6 s6 h6 => ?_
            refine w_cat (s6 _ _ h5) h6 (by rw [List.length_take]; show _ + 1 ≤ _; omega) ?_
            refine w_newO fun q7 H7 hq7 s7 h7 => ?_
            walk_at "go"
            have s57 := s5.trans (s6.trans s7)
            refine w_slL (s57 _ _ hD4) fun q8 H8 hq8 s8 h8 => ?_
            rw [cut_drop] at h8
            refine w_cat (s8 _ _ h7) h8 (by rw [List.length_append, List.length_take, List.length_drop]; show _ + 1 + _ ≤ _; omega) ?_
            refine w_newO fun q9 H9 hq9 s9 h9 => ?_
            have s49 := s57.trans (s8.trans s9)
            have s09 := s03.trans (sm4.trans s49)
            walk_at "go"
            refine w_aug rfl ?_
            walk_at "go"
            refine ⟨_, _, rfl, rfl, ?_⟩
            refine ⟨.ref q9, stepF g i h.length place head rows', h ++ [i], ⟨_, _, _, _, _, by rw [List.length_append]; rfl⟩, sm.trans s09, ⟨q9, _, rfl, h9, ?_⟩, fst.step hg hmp hh hne, by rw [step_len hpl hmp, hl'], fun e => ?_⟩
            · unfold stepF
              have a9 := hacc5.mono fun x a h => IL.sm h s49
              exact acc_cat (acc_cat (acc_take a9 rfl) (acc_one ⟨ph, rfl, s09 _ _ hph⟩)) (acc_drop a9 rfl)
            · subst e
              obtain ⟨P, O, c, hPl, z⟩ := hsz rfl
              obtain ⟨o, O', z'⟩ := z.step (at_ := i) (by rw [hPl]; exact hmp) hh hne fun r hr => by rw [fst.len r hr, fst.len head hmem]
              rw [hPl] at z'
              exact ⟨o :: P, O', i :: c, by rw [List.length_cons, List.length_append, hPl]; rfl, z'⟩
      · obtain ⟨rv, rows', h, ⟨y4, y5, y6, y7, y8, rfl⟩, sm, hIL, fst, hl', hsz⟩ := hP
        obtain ⟨p1, xs1, rfl, hp1, hacc1⟩ := hIL
        walk_at "go"
        refine w_slL hp1 fun q1 H1 hq1 s1 h1 => ?_
        rw [cut_take] at h1
        exact q _ _ rows' h (sm.trans s1) ⟨q1, _, rfl, h1, (acc_take hacc1 rfl).mono fun x a h => IL.sm h s1⟩ fst hl' (hbd rows' h hl' fst.ing hsz)
theorem ok__law_scaled {f : Addr} {fd : FuncData} (F : FnP K "_law_scaled" s__law_scaled f fd)
    {f__law_times : Addr} {fd__law_times : FuncData} (F__law_times : FnP K "_law_times" s__law_times f__law_times fd__law_times) (b__law_times : Binds K fd__law_times ["_law_g", "_law_x", "_law_y"] []) (g__law_times : mg "_law_times" = some (.ref f__law_times)) (G__law_times : FnOk P w K mg base CX0 3 f__law_times fd__law_times ["_law_g", "_law_x", "_law_y"] (sp__law_times K)) (m_tuple : mg "tuple" = none) :
    FnOk P w K mg base CX0 4 f fd ["_law_g", "_law_row_here", "_law_x"] (sp__law_scaled K) := by
  refine F.ok sc__law_scaled (fun vs H Q E h => ?_) (fun cdv A outer s H vs Q E hr h => ?_)
  · obtain ⟨g, x, y, r, c, rfl, hg0, hg, hx, hy, hn, hgx, hgc, q⟩ := h
    rfl
  · obtain ⟨g, x, y, r, c, rfl, hg0, hg, hx, hy, hn, hgx, hgc, q⟩ := h
    refine ⟨_, PSs.nox (pss_one (ps_ret (pe_callTy call_tuple_of (by rfl) m_tuple (by decide +kernel) (pa_cons (pe_lc (own := [("_law_one", 3)]) (g := gName 3) (tt := tYes) (by rfl) sc__law_scaled.nd (pi_tup (pv 1)) (blkOk_by (own := [("_law_one", 3)]) (N := ["_law_g", "_law_row_here", "_law_x", "_law_one"]) (sc := defScope s__law_scaled) (by decide +kernel)) (fun _ _ _ _ _ => (pg_name (i := 3) sc__law_scaled.nd rfl (.inl rfl))) (fun _ _ _ _ _ => pts_nil) (fun _ _ _ _ _ => (pe_call G__law_times hr (by rfl) g__law_times F__law_times.kp b__law_times .nil pass0 (pa_cons (pv 0) (pa_cons (pv 3) (pa_cons (pv 2) pa_nil)))))) pa_nil)))), ?_⟩
    obtain ⟨px, xs, rfl, hpx, hlx, hxs⟩ := hx
    walk_at "go"
    refine ⟨px, rfl, ⟨xs, SqT.of hpx⟩, fun D hD => ?_⟩
    refine lc_tup (xs := xs) (fun i H' => Same H H' ∧ ∃ zs : List V, H' D = some (.lst zs) ∧ Acc NumV H' zs (r.map fun a => timesF g a c) i) ⟨Same.updD (Same.refl H) hD, [], upd_same, Acc.nil⟩ (fun i H' _ hP => SqT.of (hP.1 _ _ hpx)) (fun i x H1 hxi hP => ?_) (fun H' hP => ?_)
    · obtain ⟨sm, zs, hzs, hz⟩ := hP
      have hi : i < r.length := by
        have := (List.getElem?_eq_some_iff.mp hxi).1
        omega
      have gr : r[i]? = some r[i] := List.getElem?_eq_getElem hi
      walk_at "go"
      refine ⟨rfl, ?_⟩
      walk_at "go"
      refine ⟨g, x, y, _, c, rfl, hg0, hg, (hxs i x _ hxi gr).kt (Kt.of sm), hy.kt (Kt.of sm), hgx _ (List.getElem_mem hi), hgc, fun p3 H3 hp3 s3 h3 => ?_⟩
      have h3D := s3 _ _ hzs
      have kt : Kt H1 (upd H3 D (.lst (zs ++ [V.ref p3]))) := (Kt.of s3).trans (Kt.updL h3D)
      refine ⟨zs, h3D, small1000 (by rw [hz.1]; omega), Same.updD (sm.trans s3) hD, _, upd_same, ?_⟩
      exact (hz.mono fun x a h => NumV.kt h kt).snoc (a := timesF g r[i] c) (by rw [List.getElem?_map, gr]; rfl) ⟨p3, rfl, Kt.updL h3D _ _ h3⟩
    · obtain ⟨sm, zs, hzs, hz⟩ := hP
      walk_at "go"
      refine ⟨D, zs, rfl, .inl ⟨SqL.of hzs, fun l hl' => ?_⟩⟩
      exact q _ _ (sm.trans (same_upd hl')) ((hz.mono fun x a h => NumV.kt h (Kt.of (same_upd hl'))).sq (by rw [List.length_map]; exact hlx) upd_same)
theorem ok__law_added {f : Addr} {fd : FuncData} (F : FnP K "_law_added" s__law_added f fd)
    {f__law_plus : Addr} {fd__law_plus : FuncData} (F__law_plus : FnP K "_law_plus" s__law_plus f__law_plus fd__law_plus) (b__law_plus : Binds K fd__law_plus ["_law_g", "_law_x", "_law_y"] []) (g__law_plus : mg "_law_plus" = some (.ref f__law_plus)) (G__law_plus : FnOk P w K mg base CX0 3 f__law_plus fd__law_plus ["_law_g", "_law_x", "_law_y"] (sp__law_plus K)) (m_tuple : mg "tuple" = none) (m_zip : mg "zip" = none) :
    FnOk P w K mg base CX0 4 f fd ["_law_g", "_law_row_here", "_law_other"] (sp__law_added K) := by
  refine F.ok sc__law_added (fun vs H Q E h => ?_) (fun cdv A outer s H vs Q E hr h => ?_)
  · obtain ⟨g, x, y, rx, ry, rfl, hg0, hg, hx, hy, hl, hn, hgx, hgy, q⟩ := h
    rfl
  · obtain ⟨g, x, y, rx, ry, rfl, hg0, hg, hx, hy, hl, hn, hgx, hgy, q⟩ := h
    refine ⟨_, PSs.nox (pss_one (ps_ret (pe_callTy call_tuple_of (by rfl) m_tuple (by decide +kernel) (pa_cons (pe_lc (own := [("_law_one", 3), ("_law_two", 4)]) (g := gTup K 2 (gCons (gName 3) (gCons (gName 4) (gNil)))) (tt := tYes) (by rfl) sc__law_added.nd (RZ.pi_zipA (by rfl) m_zip (pa_cons (pv 1) (pa_cons (pv 2) pa_nil))) (blkOk_by (own := [("_law_one", 3), ("_law_two", 4)]) (N := ["_law_g", "_law_row_here", "_law_other", "_law_one", "_law_two"]) (sc := defScope s__law_added) (by decide +kernel)) (fun _ _ _ _ _ => (pg_tup rfl (pgs_cons (pg_name (i := 3) sc__law_added.nd rfl (.inl rfl)) (pgs_cons (pg_name (i := 4) sc__law_added.nd rfl (.inl rfl)) pgs_nil)))) (fun _ _ _ _ _ => pts_nil) (fun _ _ _ _ _ => (pe_call G__law_plus hr (by rfl) g__law_plus F__law_plus.kp b__law_plus .nil pass0 (pa_cons (pv 0) (pa_cons (pv 3) (pa_cons (pv 4) pa_nil)))))) pa_nil)))), ?_⟩
    obtain ⟨px, xs, rfl, hpx, hlx, hxs⟩ := hx
    obtain ⟨py, ys, rfl, hpy, hly, hys⟩ := hy
    walk_at "go"
    refine ⟨px, py, xs, ys, rfl, .inr ⟨SqT.of hpx, SqT.of hpy, fun D hD => ?_⟩⟩
    refine lc_it (walk_zipT (xs := xs) (ys := ys) (n := rx.length) (by omega)) (fun i H' => Same H H' ∧ ∃ zs : List V, H' D = some (.lst zs) ∧ Acc NumV H' zs (List.zipWith (plusF g) rx ry) i) ⟨Same.updD (Same.refl H) hD, [], upd_same, Acc.nil⟩ (fun i H' _ hP => ⟨SqT.of (hP.1 _ _ hpx), SqT.of (hP.1 _ _ hpy)⟩) (fun i v H1 H2 hi hP hY => ?_) (fun H' hP => ?_)
    · obtain ⟨sm, zs, hzs, hz⟩ := hP
      obtain ⟨T, u, v', rfl, hT, rfl, hu, hv⟩ := hY
      have s2 : Same H1 (upd H1 T (.tup [u, v'])) := same_upd hT
      have hTT : (upd H1 T (.tup [u, v'])) T = some (.tup [u, v']) := upd_same
      generalize upd H1 T (.tup [u, v']) = H2 at s2 hTT ⊢
      have ga : rx[i]? = some (rx[i]'(by omega)) := List.getElem?_eq_getElem (by omega)
      have gc : ry[i]? = some (ry[i]'(by omega)) := List.getElem?_eq_getElem (by omega)
      have na := hgx _ (List.getElem_mem (show i < rx.length by omega))
      have nc := hgy _ (List.getElem_mem (show i < ry.length by omega))
      walk_at "go"
      refine ⟨rfl, ?_⟩
      walk_at "go"
      have s02 := sm.trans s2
      refine ⟨g, u, v', _, _, rfl, hg0, hg, (hxs i u _ hu ga).kt (Kt.of s02), (hys i v' _ hv gc).kt (Kt.of s02), na, nc, fun p3 H3 hp3 s3 h3 => ?_⟩
      have h3D := s3 _ _ (s2 _ _ hzs)
      have kt : Kt H1 (upd H3 D (.lst (zs ++ [V.ref p3]))) := (Kt.of (s2.trans s3)).trans (Kt.updL h3D)
      refine ⟨zs, h3D, small1000 (by rw [hz.1]; omega), Same.updD (s02.trans s3) hD, _, upd_same, ?_⟩
      exact (hz.mono fun x a h => NumV.kt h kt).snoc (a := plusF g (rx[i]'(by omega)) (ry[i]'(by omega))) (by rw [List.getElem?_zipWith, ga, gc]) ⟨p3, rfl, Kt.updL h3D _ _ h3⟩
    · obtain ⟨sm, zs, hzs, hz⟩ := hP
      walk_at "go"
      refine ⟨D, zs, rfl, .inl ⟨SqL.of hzs, fun l hl' => ?_⟩⟩
      exact q _ _ (sm.trans (same_upd hl')) ((hz.mono fun x a h => NumV.kt h (Kt.of (same_upd hl'))).sq (by rw [List.length_zipWith]; omega) upd_same)
theorem ok__law_row {f : Addr} {fd : FuncData} (F : FnP K "_law_row" s__law_row f fd)
    {f__law_number : Addr} {fd__law_number : FuncData} (F__law_number : FnP K "_law_number" s__law_number f__law_number fd__law_number) (b__law_number : Binds K fd__law_number ["_law_bag_here", "_law_g"] []) (g__law_number : mg "_law_number" = some (.ref f__law_number)) (G__law_number : FnOk P w K mg base CX0 3 f__law_number fd__law_number ["_law_bag_here", "_law_g"] (sp__law_number K)) (m_tuple : mg "tuple" = none) (m_range : mg "range" = none) :
    FnOk P w K mg base CX0 4 f fd ["_law_bag_here", "_law_g", "_law_many"] (sp__law_row K) := by
  refine F.ok sc__law_row (fun vs H Q E h => ?_) (fun cdv A outer s H vs Q E hr h => ?_)
  · obtain ⟨b, g, m, rfl, hgr, hm0, hm, hb, q⟩ := h
    rfl
  · obtain ⟨b, g, m, rfl, hgr, hm0, hm, hb, q⟩ := h
    refine ⟨_, PSs.nox (pss_one (ps_ret (pe_callTy call_tuple_of (by rfl) m_tuple (by decide +kernel) (pa_cons (pe_lc (own := [("_law_k", 3)]) (g := gName 3) (tt := tYes) (by rfl) sc__law_row.nd (pi_range1 (by rfl) m_range (pa_cons (pv 2) pa_nil)) (blkOk_by (own := [("_law_k", 3)]) (N := ["_law_bag_here", "_law_g", "_law_many", "_law_k"]) (sc := defScope s__law_row) (by decide +kernel)) (fun _ _ _ _ _ => (pg_name (i := 3) sc__law_row.nd rfl (.inl rfl))) (fun _ _ _ _ _ => pts_nil) (fun _ _ _ _ _ => (pe_call G__law_number hr (by rfl) g__law_number F__law_number.kp b__law_number .nil pass0 (pa_cons (pv 0) (pa_cons (pv 1) pa_nil))))) pa_nil)))), ?_⟩
    walk_at "go"
    refine ⟨by omega, by omega, fun D hD => ?_⟩
    have nD := bag_ne hb hD
    refine lc_range (fun i H' => Mv b H H' ∧ Bag H' b ∧ ∃ (xs : List V) (r : List (Int × Int)), H' D = some (.lst xs) ∧ r.length = i ∧ Acc NumV H' xs r i ∧ ∀ a ∈ r, NG g 0 a ∧ TN g 7 a) ⟨(Mv.refl b H).updD hD, hb.upd nD, [], [], upd_same, rfl, Acc.nil, fun x hx => nomatch hx⟩ (fun i H' hi hP => ?_) (fun H' hP => ?_)
    · obtain ⟨mv, hbi, xs, r, hxs, hl, hx, ht⟩ := hP
      walk_at "go"
      refine ⟨rfl, ?_⟩
      walk_at "go"
      refine ⟨b, g, rfl, hgr, hbi, fun H2 v a hv hng ha m2 hb2 => ?_⟩
      have h2D := m2 _ _ nD hxs
      refine ⟨xs, h2D, small1000 (by rw [hx.1]; omega), (mv.trans m2).updD hD, hb2.upd nD, xs ++ [v], r ++ [a], upd_same, by rw [List.length_append, hl]; rfl, acc_app (hx.mono fun x a h => (h.kt (m2.kt hbi)).kt (Kt.updL h2D)) hl (hv.kt (Kt.updL h2D)), fun x hx' => ?_⟩
      rcases List.mem_append.mp hx' with h | h
      · exact ht x h
      · rw [List.mem_singleton.mp h]
        exact ⟨hng, ha⟩
    · obtain ⟨mv, hbi, xs, r, hxs, hl, hx, ht⟩ := hP
      walk_at "go"
      refine ⟨D, xs, rfl, .inl ⟨SqL.of hxs, fun l hl' => ?_⟩⟩
      exact q _ _ r ((hx.mono fun x a h => NumV.kt h (Kt.of (same_upd hl'))).sq hl.symm upd_same) hl ht (mv.trans (Mv.same (same_upd hl'))) (hbi.same (same_upd hl'))
theorem ok__law_are_least {f : Addr} {fd : FuncData} (F : FnP K "_law_are_least" s__law_are_least f fd)
    {f__law_head : Addr} {fd__law_head : FuncData} (F__law_head : FnP K "_law_head" s__law_head f__law_head fd__law_head) (b__law_head : Binds K fd__law_head ["_law_row_here"] []) (g__law_head : mg "_law_head" = some (.ref f__law_head)) (G__law_head : FnOk P w K mg base CX0 1 f__law_head fd__law_head ["_law_row_here"] (sp__law_head K))
    {f__law_is_row : Addr} {fd__law_is_row : FuncData} (F__law_is_row : FnP K "_law_is_row" s__law_is_row f__law_is_row fd__law_is_row) (b__law_is_row : Binds K fd__law_is_row ["_law_g", "_law_thing", "_law_many"] []) (g__law_is_row : mg "_law_is_row" = some (.ref f__law_is_row)) (G__law_is_row : FnOk P w K mg base CX0 3 f__law_is_row fd__law_is_row ["_law_g", "_law_thing", "_law_many"] (sp__law_is_row K)) (m_enumerate : mg "enumerate" = none) (m_isinstance : mg "isinstance" = none) (m_tuple : mg "tuple" = none) (m_all : mg "all" = none) (m_sorted : mg "sorted" = none) (m_len : mg "len" = none) (m_set : mg "set" = none) :
    FnOk P w K mg base CX0 4 f fd ["_law_g", "_law_rows_here", "_law_wide"] (sp__law_are_least K) := by
  refine F.ok sc__law_are_least (fun vs H Q E h => ?_) (fun cdv A outer s H vs Q E hr h => ?_)
  · obtain ⟨g, v, T, n, k, F', R, W, rfl, hg, hv, hL, hk4, hn, q⟩ := h
    rfl
  · obtain ⟨g, v, T, n, k, F', R, W, rfl, hg, hv, hL, hk4, hn, q⟩ := h
    refine ⟨_, PSs.nox (pss_cons (ps_if (PW.pt (pw_or (pt_not (pt_val (pe_callB call_isi (by rfl) m_isinstance (by decide +kernel) (pa_cons (pv 1) (pa_cons (pe_bltn (v := .ty "tuple") (by rfl) m_tuple (by decide +kernel) rfl) pa_nil))))) (pw_or1 (pt_not (pt_val (pe_callB (cr_all rfl) (by rfl) m_all (by decide +kernel) (pa_cons (pe_lc (own := [("_law_row_here", 6)]) (g := gName 6) (tt := tYes) (by rfl) sc__law_are_least.nd (pi_tup (pv 1)) (blkOk_by (own := [("_law_row_here", 6)]) (N := ["_law_g", "_law_rows_here", "_law_wide", "_law_heads", "_law_k", "_law_head_here", "_law_row_here"]) (sc := defScope s__law_are_least) (by decide +kernel)) (fun _ _ _ _ _ => (pg_name (i := 6) sc__law_are_least.nd rfl (.inl rfl))) (fun _ _ _ _ _ => pts_nil) (fun _ _ _ _ _ => (pe_call G__law_is_row hr (by rfl) g__law_is_row F__law_is_row.kp b__law_is_row .nil pass0 (pa_cons (pv 0) (pa_cons (pv 6) (pa_cons (pv 2) pa_nil)))))) pa_nil))))))) (pss_one (ps_ret pe_bl)) pss_nil)
        (pss_cons (ps_setLc (i := 3) (own := [("_law_row_here", 6)]) (g := gName 6) (tt := tYes) (by rfl) sc__law_are_least.nd rfl rfl (sw_true rfl rfl rfl (by decide +kernel)) (pi_tup (pv 1)) (blkOk_by (own := [("_law_row_here", 6)]) (N := ["_law_g", "_law_rows_here", "_law_wide", "_law_heads", "_law_k", "_law_head_here", "_law_row_here"]) (sc := defScope s__law_are_least) (by decide +kernel)) (fun _ _ _ _ _ => (pg_name (i := 6) sc__law_are_least.nd rfl (.inl rfl))) (fun _ _ _ _ _ => pts_nil) (fun _ _ _ _ _ => (pe_call G__law_head (hr.mono (by decide)) (by rfl) g__law_head F__law_head.kp b__law_head .nil pass0 (pa_cons (pv 6) pa_nil))))
        (pss_cons (ps_if (PW.pt (pw_or (pt_cmpR op_in_seq (pv 2) (pv 3) (by rfl)) (pw_or (pt_cmpR (op_neD hr.units) (pv 3) (pe_callB cr_sortedI (by rfl) m_sorted (by decide +kernel) (pa_cons (pv 3) pa_nil)) (nomark _)) (pw_or1 (pt_cmpR op_ne (pe_lenSetI (by rfl) (by rfl) m_len (by rfl) m_set (pv 3)) (pe_callB call_len_seq (by rfl) m_len (by decide +kernel) (pa_cons (pv 3) pa_nil)) (nomark _)))))) (pss_one (ps_ret pe_bl)) pss_nil)
        (pss_cons (ps_for PassesOwn.never rfl (pi_enum (by rfl) m_enumerate (pa_cons (pv 3) pa_nil)) (pg_tup rfl (pgs_cons (pg_name (i := 4) sc__law_are_least.nd rfl (.inl rfl)) (pgs_cons (pg_name (i := 5) sc__law_are_least.nd rfl (.inr rfl)) pgs_nil))) (pss_one (ps_if (PW.pt (pw_or (pt_cmpR (op_neD hr.units) (pe_ix ix_tup (pe_ix ix_tup (pv 1) (pv 4) (fun _ _ => rfl)) (pv 5) (fun _ _ => rfl)) (pe_tup (pa_cons pe_int (pa_cons pe_int pa_nil))) (nomark _)) (pw_or1 (pt_not (pt_val (pe_callB (cr_all rfl) (by rfl) m_all (by decide +kernel) (pa_cons (pe_lc (own := [("_law_row_here", 6)]) (g := gName 6) (tt := tYes) (by rfl) sc__law_are_least.nd (pi_tup (pe_slice sl_tupA (pv 1) po_none (po_some (pv 4)))) (blkOk_by (own := [("_law_row_here", 6)]) (N := ["_law_g", "_law_rows_here", "_law_wide", "_law_heads", "_law_k", "_law_head_here", "_law_row_here"]) (sc := defScope s__law_are_least) (by decide +kernel)) (fun _ _ _ _ _ => (pg_name (i := 6) sc__law_are_least.nd rfl (.inl rfl))) (fun _ _ _ _ _ => pts_nil) (fun _ _ _ _ _ => (pe_cmpR (r := rEqD K) (op_eqD hr.units) (pe_ix (r := rIxT K) ix_tup (pv 6) (pv 5) (fun _ _ => rfl)) (pe_tup (pa_cons pe_int (pa_cons pe_int pa_nil))) (nomark _)))) pa_nil))))))) (pss_one (ps_ret pe_bl)) pss_nil)))
        (pss_one (ps_ret pe_bl)))))), ?_⟩
    have ⟨hg0, hg13⟩ := grb hg
    obtain ⟨h, hN⟩ := hL.num hg hk4
    have hTn := hN.le
    have hrow := hL.1
    have tb := TabV.tb (k := k) hv (by omega) (fun r hr => ⟨by rw [(hrow r hr).1]; omega, fun a ha => ((hrow r hr).2 a ha).2⟩)
    have hv0 := hv
    obtain ⟨p, xs, rfl, hp, hlx, hxs⟩ := hv
    walk_at "go"
    refine tb_tup tb (fun p' xs' e hp' hz hx => ?_) (fun hn => ?_)
    case refine_2 => exact absurd hp (hn p xs rfl)
    cases e
    cases HO.tup.inj (Option.some.inj (hp'.symm.trans hp))
    walk_at "go"
    refine iteF ?_
    walk_at "go"
    refine ⟨p, rfl, ⟨_, SqT.of hp⟩, fun D hD => ?_⟩
    refine lc_tup (xs := xs) (fun i H' => Same H H' ∧ H' D = some (.lst ((List.replicate i true).map V.bl))) ⟨Same.updD (Same.refl H) hD, upd_same⟩ (fun i H' _ hP => SqT.of (hP.1 _ _ hp)) (fun i x H' hxi hP => ?_) (fun H1 hP => ?_)
    · obtain ⟨sm, hD'⟩ := hP
      have hi : i < T.length := by
        have := (List.getElem?_eq_some_iff.mp hxi).1
        omega
      have gt1 : T[i]? = some T[i] := List.getElem?_eq_getElem hi
      have hr := hrow _ (List.getElem_mem hi)
      have hx1 := RowV.kt (hxs i x _ hxi gt1) (Kt.of sm)
      walk_at "go"
      refine ⟨rfl, ?_⟩
      walk_at "go"
      refine ⟨g, x, (n : Int), k, 0, rfl, hg0, RowV.tb hx1 (by omega) (fun a ha => (hr.2 a ha).2), fun H2 s2 => ?_⟩
      rw [row_true hx1 (by omega) (fun a ha => (hr.2 a ha).num)]
      refine ⟨_, s2 _ _ hD', ?_, Same.updD (sm.trans s2) hD, ?_⟩
      · rw [List.length_map, List.length_replicate]
        exact small1000 (by omega)
      · rw [upd_same, List.replicate_succ', List.map_append]
        rfl
    obtain ⟨s1, hD1⟩ := hP
    walk_at "go"
    refine ⟨D, List.replicate xs.length true, rfl, SqL.of hD1, ?_⟩
    have ea : (List.replicate xs.length true).all id = true := by
      rw [List.all_eq_true]
      intro x hx
      rw [List.eq_of_mem_replicate hx]
      rfl
    rw [ea]
    walk_at "go"
    refine iteF ?_
    walk_at "go"
    refine ⟨p, rfl, ⟨_, SqT.of (s1 _ _ hp)⟩, fun D2 hD2 => ?_⟩
    refine lc_tup (xs := xs) (fun i H' => Same H1 H' ∧ H' D2 = some (.lst (((h.map fun p : Nat => (p : Int)).take i).map V.int))) ⟨Same.updD (Same.refl H1) hD2, upd_same⟩ (fun i H' _ hP => SqT.of (hP.1 _ _ (s1 _ _ hp))) (fun i x H' hxi hP => ?_) (fun H2 hP => ?_)
    · obtain ⟨sm, hD'⟩ := hP
      have hi : i < T.length := by
        have := (List.getElem?_eq_some_iff.mp hxi).1
        omega
      have gt1 : T[i]? = some T[i] := List.getElem?_eq_getElem hi
      have gh : h[i]? = some (h[i]'(by rw [← hN.len]; exact hi)) := List.getElem?_eq_getElem _
      have hr := hrow _ (List.getElem_mem hi)
      have hx1 := RowV.kt (hxs i x _ hxi gt1) (Kt.of (s1.trans sm))
      walk_at "go"
      refine ⟨rfl, ?_⟩
      walk_at "go"
      refine ⟨x, T[i], _, rfl, hx1, by omega, by rw [hr.1]; exact hN.lt _ (List.mem_of_getElem? gh), fun j hj => hN.ahead i _ _ j gt1 gh hj, by rw [hN.one i _ _ gt1 gh]; decide, fun H3 s3 => ?_⟩
      refine ⟨_, s3 _ _ hD', ?_, Same.updD (sm.trans s3) hD2, ?_⟩
      · rw [List.length_map, List.length_take]
        exact small1000 (by omega)
      · rw [upd_same, List.take_add_one, List.getElem?_map, gh, List.map_append]
        rfl
    obtain ⟨s2, hD2'⟩ := hP
    rw [List.take_of_length_le (by rw [List.length_map, ← hN.len]; omega)] at hD2'
    have hhl : (h.map fun p : Nat => (p : Int)).length = h.length := List.length_map ..
    walk_at "go"
    refine ⟨D2, _, rfl, .inl (SqL.of hD2'), rfl, flat_ints _, ?_⟩
    rw [heads_in hN.lt]
    walk_at "go"
    refine iteF ?_
    walk_at "go"
    refine ⟨D2, _, rfl, SqL.of hD2', fun ns' p3 hpm hps hp3 => ?_⟩
    cases sort_same hN.inc hpm hps
    have s3 := same_upd (o := HO.lst ((h.map fun p : Nat => (p : Int)).map V.int)) hp3
    have h3 : (upd H2 p3 (.lst ((h.map fun p : Nat => (p : Int)).map V.int))) p3 = some (.lst ((h.map fun p : Nat => (p : Int)).map V.int)) := upd_same
    generalize upd H2 p3 (.lst ((h.map fun p : Nat => (p : Int)).map V.int)) = H3 at s3 h3 ⊢
    have hD3 := s3 _ _ hD2'
    refine w_neInts hD3 h3 ?_
    walk_at "go"
    refine ⟨D2, _, rfl, SqL.of hD3, heads_nodup hN.inc, by rw [hhl, ← hN.len]; omega, ?_⟩
    walk_at "go"
    refine ⟨D2, _, rfl, .inl (SqL.of hD3), ?_⟩
    rw [List.length_map]
    walk_at "go"
    refine w_iteN (fun hc => absurd (by rw [List.length_map, List.length_map]) hc) (fun hc => ?_)
    have s03 := s1.trans (s2.trans s3)
    walk_at "go"
    refine ⟨D2, _, rfl, SqL.of hD3, ?_⟩
    refine for_it (walk_enum (xs := (h.map fun p : Nat => (p : Int)).map V.int)) (fun i σ H' => (∃ y4 y5 y6, σ = [some (.int g), some (.ref p), some (.int (n : Int)), some (.ref D2), y4, y5, y6]) ∧ Same H3 H') ⟨⟨_, _, _, rfl⟩, Same.refl _⟩ (fun i σ H' _ hP => SqL.of (hP.2 _ _ hD3)) (fun i v σ Ha Hb hi hP hY => ?_) (fun σ H' hP => ?_)
    · obtain ⟨⟨y4, y5, y6, rfl⟩, sm⟩ := hP
      obtain ⟨T0, u1, v1, rfl, hT0, rfl, hu1, hv1⟩ := hY
      rw [List.length_map, List.length_map] at hi
      have hiT : i < T.length := by rw [hN.len]; exact hi
      have gh : h[i]? = some h[i] := List.getElem?_eq_getElem hi
      have gt1 : T[i]? = some T[i] := List.getElem?_eq_getElem hiT
      have hv1' : ((h.map fun p : Nat => (p : Int)).map V.int)[i]? = some v1 := hv1
      rw [List.getElem?_map, List.getElem?_map, gh] at hv1'
      cases Option.some.inj hu1
      cases Option.some.inj hv1'
      have sT : Same Ha (upd Ha T0 (.tup [V.int (i : Nat), V.int (h[i] : Nat)])) := same_upd hT0
      have hTT : (upd Ha T0 (.tup [V.int (i : Nat), V.int (h[i] : Nat)])) T0 = some (.tup [V.int (i : Nat), V.int (h[i] : Nat)]) := upd_same
      generalize upd Ha T0 (.tup [V.int (i : Nat), V.int (h[i] : Nat)]) = H5 at sT hTT ⊢
      have s35 := sm.trans sT
      have s05 := s03.trans s35
      have gx : xs[i]? = some (xs[i]'(by omega)) := List.getElem?_eq_getElem _
      have hr := hrow _ (List.getElem_mem hiT)
      have hlt : h[i] < n := hN.lt _ (List.mem_of_getElem? gh)
      obtain ⟨pu, us, eu, hpu, hul, hua⟩ := sqv_acc (RowV.kt (hxs i _ _ gx gt1) (Kt.of s05))
      rw [eu] at gx
      have gu : us[h[i]]? = some (us[h[i]]'(by omega)) := List.getElem?_eq_getElem _
      have gr : T[i][h[i]]? = some (T[i][h[i]]'(by omega)) := List.getElem?_eq_getElem _
      have hnum := hua.2 _ _ _ gu gr
      have e1 : T[i][h[i]]'(by omega) = (1, 1) := by
        rw [← ga_at (r := T[i]) (j := h[i]) (by omega)]
        exact hN.one i _ _ gt1 gh
      rw [e1] at hnum
      walk_at "go"
      refine w_ixT (s05 _ _ hp) (atI_nat gx) ?_
      walk_at "go"
      refine w_ixT hpu (atI_nat gu) ?_
      walk_at "go"
      refine w_new (by simp) fun o6 H6 ho6 s6 h6 => ?_
      refine w_neNum (b := (1, 1)) (hnum.kt (Kt.of s6)) ⟨o6, rfl, h6⟩ ?_
      rw [decide_eq_true rfl, Bool.not_true]
      walk_at "go"
      have s06 := s05.trans s6
      refine w_slX (s06 _ _ hp) fun q7 H7 s7 h7 => ?_
      rw [cut_take] at h7
      have s07 := s06.trans s7
      walk_at "go"
      refine ⟨q7, rfl, ⟨_, SqT.of h7⟩, fun D8 hD8 => ?_⟩
      refine lc_tup (xs := xs.take i) (fun j H' => Same H7 H' ∧ H' D8 = some (.lst ((List.replicate j true).map V.bl))) ⟨Same.updD (Same.refl H7) hD8, upd_same⟩ (fun j H' _ hP => SqT.of (hP.1 _ _ h7)) (fun j x H' hxj hP => ?_) (fun H9 hP => ?_)
      · obtain ⟨sm8, hD'⟩ := hP
        have hji : j < i := by
          have := (List.getElem?_eq_some_iff.mp hxj).1
          rw [List.length_take] at this
          omega
        rw [List.getElem?_take, if_pos hji] at hxj
        have gtj : T[j]? = some (T[j]'(by omega)) := List.getElem?_eq_getElem _
        have hrj := hrow _ (List.mem_of_getElem? gtj)
        obtain ⟨pw, ws, rfl, hpw, hwl, hwa⟩ := sqv_acc (RowV.kt (hxs j x _ hxj gtj) (Kt.of (s07.trans sm8)))
        have gw : ws[h[i]]? = some (ws[h[i]]'(by omega)) := List.getElem?_eq_getElem _
        have gr2 : (T[j]'(by omega))[h[i]]? = some ((T[j]'(by omega))[h[i]]'(by omega)) := List.getElem?_eq_getElem _
        have hnum2 := hwa.2 _ _ _ gw gr2
        have e2 : (T[j]'(by omega))[h[i]]'(by omega) = (0, 1) := by
          rw [← ga_at (r := T[j]'(by omega)) (j := h[i]) (by omega)]
          exact hN.nul j i _ _ gtj gh (by omega)
        rw [e2] at hnum2
        walk_at "go"
        refine ⟨rfl, ?_⟩
        walk_at "go"
        refine w_ixT hpw (atI_nat gw) ?_
        walk_at "go"
        refine w_new (by simp) fun o9 H9 ho9 s9 h9 => ?_
        refine w_eqNum (b := (0, 1)) (hnum2.kt (Kt.of s9)) ⟨o9, rfl, h9⟩ ?_
        rw [decide_eq_true rfl]
        refine ⟨_, s9 _ _ hD', ?_, Same.updD (sm8.trans s9) hD8, ?_⟩
        · rw [List.length_map, List.length_replicate]
          exact small1000 (by omega)
        · rw [upd_same, List.replicate_succ', List.map_append]
          rfl
      · obtain ⟨sm8, hD'⟩ := hP
        walk_at "go"
        refine ⟨D8, List.replicate (xs.take i).length true, rfl, SqL.of hD', ?_⟩
        have ea2 : (List.replicate (xs.take i).length true).all id = true := by
          rw [List.all_eq_true]
          intro x hx
          rw [List.eq_of_mem_replicate hx]
          rfl
        rw [ea2]
        walk_at "go"
        refine iteF ?_
        walk_at "go"
        exact ⟨⟨_, _, _, rfl⟩, s35.trans (s6.trans (s7.trans sm8))⟩
    · obtain ⟨⟨y4, y5, y6, rfl⟩, sm⟩ := hP
      walk_at "go"
      exact q _ (s03.trans sm)
theorem ok_least_rows {f : Addr} {fd : FuncData} (F : FnP K "least_rows" s_least_rows f fd)
    {f_plain : Addr} {fd_plain : FuncData} (F_plain : FnP K "plain" s_plain f_plain fd_plain) (b_plain : Binds K fd_plain ["ground", "row"] []) (g_plain : mg "plain" = some (.ref f_plain)) (G_plain : FnOk P w K mg base CX0 2 f_plain fd_plain ["ground", "row"] (sp_plain K))
    {f_headed : Addr} {fd_headed : FuncData} (F_headed : FnP K "headed" s_headed f_headed fd_headed) (b_headed : Binds K fd_headed ["ground", "row"] []) (g_headed : mg "headed" = some (.ref f_headed)) (G_headed : FnOk P w K mg base CX0 3 f_headed fd_headed ["ground", "row"] (sp_headed K))
    {f_whole_row : Addr} {fd_whole_row : FuncData} (F_whole_row : FnP K "whole_row" s_whole_row f_whole_row fd_whole_row) (b_whole_row : Binds K fd_whole_row ["row"] []) (g_whole_row : mg "whole_row" = some (.ref f_whole_row)) (G_whole_row : FnOk P w K mg base CX0 2 f_whole_row fd_whole_row ["row"] (sp_whole_row K))
    {f_least_wholes : Addr} {fd_least_wholes : FuncData} (F_least_wholes : FnP K "least_wholes" s_least_wholes f_least_wholes fd_least_wholes) (b_least_wholes : Binds K fd_least_wholes ["ground", "rows"] []) (g_least_wholes : mg "least_wholes" = some (.ref f_least_wholes)) (G_least_wholes : FnOk P w K mg base CX0 4 f_least_wholes fd_least_wholes ["ground", "rows"] (sp_least_wholes K)) (m_tuple : mg "tuple" = none) :
    FnOk P w K mg base CX0 5 f fd ["ground", "rows"] (sp_least_rows K) := by
  refine F.ok sc_least_rows (fun vs H Q E h => ?_) (fun cdv A outer s H vs Q E hr h => ?_)
  · obtain ⟨g, v, t, n, k, kb, A, F', R, W, rfl, hg, hv, ht, hkb0, hkb, hn, htl, hz, hk4, hk, q⟩ := h
    rfl
  · obtain ⟨g, v, t, n, k, kb, A, F', R, W, rfl, hg, hv, ht, hkb0, hkb, hn, htl, hz, hk4, hk, q⟩ := h
    refine ⟨_, PSs.nox (pss_cons (ps_setLc (i := 2) (own := [("row", 3)]) (g := gName 3) (tt := tYes) (by rfl) sc_least_rows.nd rfl rfl (sw_true rfl rfl rfl (by decide +kernel)) (pi_tup (pv 1)) (blkOk_by (own := [("row", 3)]) (N := ["ground", "rows", "wholes", "row"]) (sc := defScope s_least_rows) (by decide +kernel)) (fun _ _ _ _ _ => (pg_name (i := 3) sc_least_rows.nd rfl (.inl rfl))) (fun _ _ _ _ _ => pts_nil) (fun _ _ _ _ _ => (pe_call G_plain (hr.mono (by decide)) (by rfl) g_plain F_plain.kp b_plain .nil pass0 (pa_cons (pv 0) (pa_cons (pe_ix (r := rIxT K) ix_tup (pe_call G_whole_row (hr.mono (by decide)) (by rfl) g_whole_row F_whole_row.kp b_whole_row .nil pass0 (pa_cons (pv 3) pa_nil)) pe_int (fun _ _ => rfl)) pa_nil)))))
        (pss_one (ps_ret (pe_callTy call_tuple_of (by rfl) m_tuple (by decide +kernel) (pa_cons (pe_lc (own := [("row", 3)]) (g := gName 3) (tt := tYes) (by rfl) sc_least_rows.nd (pi_list (pe_call G_least_wholes hr (by rfl) g_least_wholes F_least_wholes.kp b_least_wholes .nil pass0 (pa_cons (pv 0) (pa_cons (pv 2) pa_nil)))) (blkOk_by (own := [("row", 3)]) (N := ["ground", "rows", "wholes", "row"]) (sc := defScope s_least_rows) (by decide +kernel)) (fun _ _ _ _ _ => (pg_name (i := 3) sc_least_rows.nd rfl (.inl rfl))) (fun _ _ _ _ _ => pts_nil) (fun _ _ _ _ _ => (pe_call G_headed (hr.mono (by decide)) (by rfl) g_headed F_headed.kp b_headed .nil pass0 (pa_cons (pv 0) (pa_cons (pv 3) pa_nil))))) pa_nil))))), ?_⟩
    obtain ⟨p, xs, rfl, hp, hlx, hxs⟩ := hv
    walk_at "go"
    refine ⟨p, rfl, ⟨xs, SqT.of hp⟩, fun D hD => ?_⟩
    refine lc_tup (xs := xs) (fun i H' => Same H H' ∧ ∃ ys, H' D = some (.lst ys) ∧ Acc (ILn D) H' ys (t.map fun r => plainF g (wrT r)) i) ⟨Same.updD (Same.refl H) hD, [], upd_same, Acc.nil⟩ (fun i H' _ hP => SqT.of (hP.1 _ _ hp)) (fun i x H' hxi hP => ?_) (fun H1 hP => ?_)
    · obtain ⟨sm, ys, hD', hacc⟩ := hP
      have hi : i < t.length := by
        have := (List.getElem?_eq_some_iff.mp hxi).1
        omega
      have hti : t[i]? = some t[i] := List.getElem?_eq_getElem hi
      have hmem := List.getElem_mem hi
      walk_at "go"
      refine ⟨rfl, ?_⟩
      walk_at "go"
      refine ⟨x, t[i], g, kb, rfl, RowV.kt (hxs i x _ hxi hti) (Kt.of sm), fun a ha => ((ht _ hmem).2 a ha).okn hg, hkb0, hkb, by rw [(ht _ hmem).1]; exact hn, fun p2 L2 H2 s2 hL2 h2 h2L => ?_⟩
      walk_at "go"
      refine ⟨g, .ref L2, wrT t[i], k, rfl, hg, ⟨L2, rfl, h2L⟩, fun e y hy => ?_, by omega, by omega, by rw [wrT_len, (ht _ hmem).1]; omega, fun p3 H3 s3 h3 hfr => ?_⟩
      · obtain ⟨h1, h2, h3⟩ := hz e
        exact Nat.lt_of_le_of_lt (Nat.le_trans (h1 _ hmem y hy) (le_pow_self (by omega) h2)) h3
      · have hD3 := s3 _ _ (s2 _ _ hD')
        have np : p3 ≠ D := by
          rcases hfr with z | z
          · cases z
            exact fun e => by rw [e, hD'] at hL2; cases hL2
          · exact fun e => by rw [e, s2 _ _ hD'] at z; cases z
        refine ⟨ys, hD3, small1000 (by rw [hacc.1]; omega), Same.updD (sm.trans (s2.trans s3)) hD, _, upd_same, ?_⟩
        exact (hacc.mono fun x a h => (h.sm (s2.trans s3)).upd).snoc (a := plainF g (wrT t[i])) (by rw [List.getElem?_map, hti]; rfl) (ILn.upd ⟨p3, rfl, np, h3⟩)
    · obtain ⟨sm, ys, hD', hacc⟩ := hP
      have hol : (t.map fun r => plainF g (wrT r)).length = t.length := List.length_map ..
      walk_at "go"
      refine ⟨g, .ref D, t.map (fun r => plainF g (wrT r)), n, k, A, F', R, W, rfl, hg, ⟨D, ys, rfl, hD', ?_⟩, fun r hr => ?_, by omega, by omega, fun r hr => ?_, fun e => ?_, hk4, hk, fun v2 H2 rows' h s2 hIL fst hrl hb => ?_⟩
      · rw [hol, ← hlx]
        exact acc_imp hacc fun x a h => ILn.il h
      · obtain ⟨r0, hr0, rfl⟩ := List.mem_map.mp hr
        rw [plain_len, wrT_len, (ht r0 hr0).1]
      · obtain ⟨r0, hr0, rfl⟩ := List.mem_map.mp hr
        exact plain_ing hg _
      · subst e
        obtain ⟨h1, h2, h3⟩ := hz rfl
        refine ⟨fun r hr => ?_, fun r hr x => ?_, h2, by rw [hol]; exact h3⟩
        · obtain ⟨r0, hr0, rfl⟩ := List.mem_map.mp hr
          obtain ⟨_, _, _, hp⟩ := plain_zero (r := wrT r0)
          exact hp
        · obtain ⟨r0, hr0, rfl⟩ := List.mem_map.mp hr
          exact plain_abs (h1 r0 hr0) x
      · obtain ⟨p2, xs2, rfl, hp2, hacc2⟩ := hIL
        have hsp := start_span (V := W) hg fun r hr => (ht r hr).2
        have hL := fst.done hg hk4 hb hsp.1 hsp.2
        refine ⟨p2, rfl, ⟨_, SqL.of hp2⟩, fun D2 hD2 => ?_⟩
        refine lc_list (xs := xs2) (fun i H' => Same H2 H' ∧ ∃ zs, H' D2 = some (.lst zs) ∧ Acc RowV H' zs ((rows'.take h.length).map (headF g)) i) ⟨Same.updD (Same.refl H2) hD2, [], upd_same, Acc.nil⟩ (fun i H' _ hP => SqL.of (hP.1 _ _ hp2)) (fun i x H3 hxi hP => ?_) (fun H3 hP => ?_)
        · obtain ⟨sm3, zs, hD3, hacc3⟩ := hP
          have hi : i < (rows'.take h.length).length := by
            have := (List.getElem?_eq_some_iff.mp hxi).1
            have := hacc2.1
            omega
          have hri : (rows'.take h.length)[i]? = some (rows'.take h.length)[i] := List.getElem?_eq_getElem hi
          have hi2 : i < h.length := by rw [List.length_take] at hi; omega
          have hrr : rows'[i]? = some (rows'.take h.length)[i] := by
            rw [List.getElem?_take, if_pos hi2] at hri
            exact hri
          have hmem := List.mem_of_getElem? hrr
          obtain ⟨f1, f2, xx, f3⟩ := fst_head hg fst hi2 hrr
          walk_at "go"
          refine ⟨rfl, ?_⟩
          walk_at "go"
          refine ⟨g, x, _, k, rfl, hg, (hacc2.2 i x _ hxi hri).sm sm3, f1, f2, natAbs_mem (hb _ hmem), by rw [f3]; exact hb _ hmem xx, by omega, by rw [fst.len _ hmem]; omega, fun v4 H4 s4 h4 => ?_⟩
          have hD4 := s4 _ _ hD3
          have kt : Kt H3 (upd H4 D2 (.lst (zs ++ [v4]))) := (Kt.of s4).trans (Kt.updL hD4)
          refine ⟨zs, hD4, small1000 (by rw [hacc3.1]; rw [List.length_take] at hi; omega), Same.updD (sm3.trans s4) hD2, _, upd_same, ?_⟩
          exact (hacc3.mono fun x a h => RowV.kt h kt).snoc (a := headF g (rows'.take h.length)[i]) (by rw [List.getElem?_map, hri]; rfl) (RowV.kt h4 (Kt.updL hD4))
        · obtain ⟨sm3, zs, hD3, hacc3⟩ := hP
          walk_at "go"
          refine ⟨_, _, rfl, .inl ⟨SqL.of hD3, fun m hm => ?_⟩⟩
          refine q _ _ _ (sm.trans (s2.trans (sm3.trans (same_upd hm)))) ((hacc3.mono fun x a h => RowV.kt h (Kt.of (same_upd hm))).sq ?_ upd_same) hL ?_
          · rw [List.length_map]
            exact hacc2.1
          · intro e r hr
            subst e
            obtain ⟨w, hw, rfl⟩ := List.mem_map.mp hr
            obtain ⟨i, hi⟩ := List.getElem?_of_mem hw
            rw [List.getElem?_take] at hi
            split at hi
            · rename_i hi2
              obtain ⟨f1, f2, xx, f3⟩ := fst_head hg fst hi2 hi
              have hm := List.mem_of_getElem? hi
              exact head_wr f1 (hb w hm) (by rw [f3]; exact hb w hm xx) hk4
            · cases hi
theorem ok__law_least {f : Addr} {fd : FuncData} (F : FnP K "_law_least" s__law_least f fd)
    {f__law_scaled : Addr} {fd__law_scaled : FuncData} (F__law_scaled : FnP K "_law_scaled" s__law_scaled f__law_scaled fd__law_scaled) (b__law_scaled : Binds K fd__law_scaled ["_law_g", "_law_row_here", "_law_x"] []) (g__law_scaled : mg "_law_scaled" = some (.ref f__law_scaled)) (G__law_scaled : FnOk P w K mg base CX0 4 f__law_scaled fd__law_scaled ["_law_g", "_law_row_here", "_law_x"] (sp__law_scaled K))
    {f__law_over : Addr} {fd__law_over : FuncData} (F__law_over : FnP K "_law_over" s__law_over f__law_over fd__law_over) (b__law_over : Binds K fd__law_over ["_law_g", "_law_x", "_law_y"] []) (g__law_over : mg "_law_over" = some (.ref f__law_over)) (G__law_over : FnOk P w K mg base CX0 3 f__law_over fd__law_over ["_law_g", "_law_x", "_law_y"] (sp__law_over K))
    {f__law_added : Addr} {fd__law_added : FuncData} (F__law_added : FnP K "_law_added" s__law_added f__law_added fd__law_added) (b__law_added : Binds K fd__law_added ["_law_g", "_law_row_here", "_law_other"] []) (g__law_added : mg "_law_added" = some (.ref f__law_added)) (G__law_added : FnOk P w K mg base CX0 4 f__law_added fd__law_added ["_law_g", "_law_row_here", "_law_other"] (sp__law_added K))
    {f__law_minus : Addr} {fd__law_minus : FuncData} (F__law_minus : FnP K "_law_minus" s__law_minus f__law_minus fd__law_minus) (b__law_minus : Binds K fd__law_minus ["_law_g", "_law_x"] []) (g__law_minus : mg "_law_minus" = some (.ref f__law_minus)) (G__law_minus : FnOk P w K mg base CX0 3 f__law_minus fd__law_minus ["_law_g", "_law_x"] (sp__law_minus K)) (m_range : mg "range" = none) (m_tuple : mg "tuple" = none) (m_len : mg "len" = none) :
    FnOk P w K mg base CX0 5 f fd ["_law_g", "_law_rows_here"] (sp__law_least K) := by
  refine F.ok sc__law_least (fun vs H Q E h => ?_) (fun cdv A outer s H vs Q E hr h => ?_)
  · obtain ⟨g, v, t, n, k, A, F', R, W, rfl, hg, hv, ht, hn, htl, hz, hk4, hk, q⟩ := h
    rfl
  · obtain ⟨g, v, t, n, k, A, F', R, W, rfl, hg, hv, ht, hn, htl, hz, hk4, hk, q⟩ := h
    refine ⟨_, PSs.nox (pss_cons (ps_setLc (i := 2) (own := [("_law_row_here", 8)]) (g := gName 8) (tt := tYes) (by rfl) sc__law_least.nd rfl rfl (sw_true rfl rfl rfl (by decide +kernel)) (pi_tup (pv 1)) (blkOk_by (own := [("_law_row_here", 8)]) (N := ["_law_g", "_law_rows_here", "_law_left", "_law_found", "_law_many", "_law_k", "_law_some", "_law_head_here", "_law_row_here"]) (sc := defScope s__law_least) (by decide +kernel)) (fun _ _ _ _ _ => (pg_name (i := 8) sc__law_least.nd rfl (.inl rfl))) (fun _ _ _ _ _ => pts_nil) (fun _ _ _ _ _ => (pv 8)))
        (pss_cons (ps_set (i := 3) sc__law_least.nd rfl (.inl rfl) (pe_lst pa_nil))
        (pss_cons (ps_set (i := 4) sc__law_least.nd rfl (.inl rfl) (pe_ifExp (pt_cmpR (op_neD hr.units) (pv 2) (pe_lst pa_nil) (nomark _)) (pe_callB call_len_seq (by rfl) m_len (by decide +kernel) (pa_cons (pe_ix ix_list (pv 2) pe_int (fun _ _ => rfl)) pa_nil)) pe_int))
        (pss_cons (ps_for PassesOwn.never rfl (pi_range1 (by rfl) m_range (pa_cons (pv 4) pa_nil)) (pg_name (i := 5) sc__law_least.nd rfl (.inr rfl)) (pss_cons (ps_setLc (i := 6) (own := [("_law_row_here", 8)]) (g := gName 8) (by rfl) sc__law_least.nd rfl rfl (sw_true rfl rfl rfl (by decide +kernel)) (pi_list (pv 2)) (blkOk_by (own := [("_law_row_here", 8)]) (N := ["_law_g", "_law_rows_here", "_law_left", "_law_found", "_law_many", "_law_k", "_law_some", "_law_head_here", "_law_row_here"]) (sc := defScope s__law_least) (by decide +kernel)) (fun _ _ _ _ _ => (pg_name (i := 8) sc__law_least.nd rfl (.inl rfl))) (fun _ _ _ _ _ => (pts_one (pt_cmpR (r := rNeD K) (op_neD hr.units) (pe_ix (r := rIxT K) ix_tup (pv 8) (pv 5) (fun _ _ => rfl)) (pe_tup (pa_cons pe_int (pa_cons pe_int pa_nil))) (nomark _)))) (fun _ _ _ _ _ => (pv 8)))
        (pss_one (ps_if (pt_cmpR (op_neD hr.units) (pv 6) (pe_lst pa_nil) (nomark _)) (pss_cons (ps_set (i := 7) sc__law_least.nd rfl (.inr rfl) (pe_call G__law_scaled hr (by rfl) g__law_scaled F__law_scaled.kp b__law_scaled .nil pass0 (pa_cons (pv 0) (pa_cons (pe_ix ix_list (pv 6) pe_int (fun _ _ => rfl)) (pa_cons (pe_call G__law_over (hr.mono (by decide)) (by rfl) g__law_over F__law_over.kp b__law_over .nil pass0 (pa_cons (pv 0) (pa_cons (pe_tup (pa_cons pe_int (pa_cons pe_int pa_nil))) (pa_cons (pe_ix ix_tup (pe_ix ix_list (pv 6) pe_int (fun _ _ => rfl)) (pv 5) (fun _ _ => rfl)) pa_nil)))) pa_nil)))))
        (pss_cons (ps_setLc (i := 2) (own := [("_law_row_here", 8)]) (g := gName 8) (tt := tYes) (by rfl) sc__law_least.nd rfl rfl (sw_true rfl rfl rfl (by decide +kernel)) (pi_list (pv 2)) (blkOk_by (own := [("_law_row_here", 8)]) (N := ["_law_g", "_law_rows_here", "_law_left", "_law_found", "_law_many", "_law_k", "_law_some", "_law_head_here", "_law_row_here"]) (sc := defScope s__law_least) (by decide +kernel)) (fun _ _ _ _ _ => (pg_name (i := 8) sc__law_least.nd rfl (.inl rfl))) (fun _ _ _ _ _ => pts_nil) (fun _ _ _ _ _ => (pe_call G__law_added hr (by rfl) g__law_added F__law_added.kp b__law_added .nil pass0 (pa_cons (pv 0) (pa_cons (pv 8) (pa_cons (pe_call G__law_scaled hr (by rfl) g__law_scaled F__law_scaled.kp b__law_scaled .nil pass0 (pa_cons (pv 0) (pa_cons (pv 7) (pa_cons (pe_call G__law_minus (hr.mono (by decide)) (by rfl) g__law_minus F__law_minus.kp b__law_minus .nil pass0 (pa_cons (pv 0) (pa_cons (pe_ix (r := rIxT K) ix_tup (pv 8) (pv 5) (fun _ _ => rfl)) pa_nil))) pa_nil)))) pa_nil))))))
        (pss_one (ps_set (i := 3) sc__law_least.nd rfl (.inl rfl) (pe_op op_cat (pe_lc (own := [("_law_row_here", 8)]) (g := gName 8) (tt := tYes) (by rfl) sc__law_least.nd (pi_list (pv 3)) (blkOk_by (own := [("_law_row_here", 8)]) (N := ["_law_g", "_law_rows_here", "_law_left", "_law_found", "_law_many", "_law_k", "_law_some", "_law_head_here", "_law_row_here"]) (sc := defScope s__law_least) (by decide +kernel)) (fun _ _ _ _ _ => (pg_name (i := 8) sc__law_least.nd rfl (.inl rfl))) (fun _ _ _ _ _ => pts_nil) (fun _ _ _ _ _ => (pe_call G__law_added hr (by rfl) g__law_added F__law_added.kp b__law_added .nil pass0 (pa_cons (pv 0) (pa_cons (pv 8) (pa_cons (pe_call G__law_scaled hr (by rfl) g__law_scaled F__law_scaled.kp b__law_scaled .nil pass0 (pa_cons (pv 0) (pa_cons (pv 7) (pa_cons (pe_call G__law_minus (hr.mono (by decide)) (by rfl) g__law_minus F__law_minus.kp b__law_minus .nil pass0 (pa_cons (pv 0) (pa_cons (pe_ix (r := rIxT K) ix_tup (pv 8) (pv 5) (fun _ _ => rfl)) pa_nil))) pa_nil)))) pa_nil)))))) (pe_lst (pa_cons (pv 7) pa_nil))))))) pss_nil))))
        (pss_one (ps_ret (pe_callTy call_tuple_of (by rfl) m_tuple (by decide +kernel) (pa_cons (pv 3) pa_nil)))))))), ?_⟩
    have ⟨hg0, hg13⟩ := grb hg
    obtain ⟨p, xs, rfl, hp, hlx, hxs⟩ := hv
    have hB : g = 0 → 1 ≤ A ∧ A * ((n + 1) * A) ^ (n + 1) < 2 ^ k := fun e => (hz e).2
    have b8 : ∀ {a : Int × Int}, TN g k a → a.2.natAbs < 2 ^ 8000 := fun h => Nat.lt_of_lt_of_le h.2.2 (Nat.pow_le_pow_right (by decide) (by omega))
    walk_at "go"
    refine ⟨p, rfl, ⟨xs, SqT.of hp⟩, fun L hL => ?_⟩
    refine lc_tup (xs := xs) (fun i H' => Same H H' ∧ H' L = some (.lst (xs.take i))) ⟨Same.updD (Same.refl H) hL, upd_same⟩ (fun i H' _ hP => SqT.of (hP.1 _ _ hp)) (fun i x H' hxi hP => ?_) (fun H1 hP => ?_)
    · obtain ⟨sm, hD'⟩ := hP
      have hi := (List.getElem?_eq_some_iff.mp hxi).1
      walk_at "go"
      refine ⟨rfl, ?_⟩
      walk_at "go"
      refine ⟨_, hD', small1000 (by rw [List.length_take]; omega), Same.updD sm hL, ?_⟩
      rw [upd_same, List.take_add_one, hxi]
      rfl
    obtain ⟨s1, hL1⟩ := hP
    rw [List.take_length] at hL1
    have hacc1 : Acc RowV H1 xs t t.length := ⟨hlx, fun j x a h1 h2 => RowV.kt (hxs j x a h1 h2) (Kt.of s1)⟩
    walk_at "go"
    refine w_new (by simp) fun Fd0 H2 hFd s2 hF2 => ?_
    walk_at "go"
    refine w_new (by simp) fun N0 H3 hN0 s3 hN3 => ?_
    have s13 := s2.trans s3
    refine w_neNil (s13 _ _ hL1) hN3 (fun x h => by
      obtain ⟨j, hj⟩ := List.getElem?_of_mem h
      have hjl := (List.getElem?_eq_some_iff.mp hj).1
      exact RowV.dat (RowV.kt (hacc1.2 j x _ hj (List.getElem?_eq_getElem (by omega))) (Kt.of s13))) (by decide) ?_
    have s03 := s1.trans s13
    have acc3 : Acc RowV H3 xs t t.length := hacc1.mono fun x a h => RowV.kt h (Kt.of s13)
    walk_at "go"
    refine w_iteN (fun hne => ?_) (fun hne => ?_)
    · have hpos : 0 < t.length := by rw [← hlx]; exact List.length_pos_iff.mpr hne
      have gt0 : t[0]? = some t[0] := List.getElem?_eq_getElem hpos
      have gx0 : xs[0]? = some (xs[0]'(by omega)) := List.getElem?_eq_getElem _
      obtain ⟨p0, xs0, e0, hp0, hl0, _⟩ := acc3.2 0 _ _ gx0 gt0
      have hr0 := (ht _ (List.getElem_mem hpos)).1
      rw [e0] at gx0
      walk_at "go"
      refine w_ixL (s13 _ _ hL1) (atI_nat (j := 0) gx0) ?_
      walk_at "go"
      refine ⟨p0, xs0, rfl, .inr (SqT.of hp0), ?_⟩
      rw [show xs0.length = n by omega]
      walk_at "go"
      refine ⟨by omega, by omega, ?_⟩
      rw [Int.toNat_natCast]
      refine for_range (fun i σ H' => ∃ (Lv Fv : Addr) (xl xf : List V) (left found : List (List (Int × Int))) (h : List Nat), (∃ y5 y6 y7 y8, σ = [some (.int g), some (.ref p), some (.ref Lv), some (.ref Fv), some (.int (n : Int)), y5, y6, y7, y8]) ∧ Same H H' ∧ H' Lv = some (.lst xl) ∧ Acc RowV H' xl left left.length ∧ H' Fv = some (.lst xf) ∧ Acc RowV H' xf found found.length ∧ Lst W k i n t found left h ∧ left.length = t.length ∧ (g = 0 → ∃ P c, c.length = h.length ∧ LSz W A P c found left)) ⟨L, Fd0, xs, [], t, [], [], ⟨_, _, _, _, rfl⟩, s03, s13 _ _ hL1, acc3, s3 _ _ hF2, Acc.nil, Lst.start ht, rfl, fun e => ⟨[], [], rfl, LSz.start hg (fun r hr => (ht r hr).2) (hz e).1⟩⟩ (fun i σ H' hi hP => ?_) (fun σ H' hP => ?_)
      · obtain ⟨Lv, Fv, xl, xf, left, found, h, ⟨y5, y6, y7, y8, rfl⟩, sm, hLv, haccL, hFv, haccF, lst, hll, hsz⟩ := hP
        have hfl : found.length ≤ n := by
          have := lst.rr.len
          rw [List.length_map] at this
          have := lst.hl
          omega
        walk_at "go"
        refine ⟨Lv, rfl, ⟨xl, SqL.of hLv⟩, fun D hD => ?_⟩
        refine lc_list (xs := xl) (fun j H'' => Same H' H'' ∧ ∃ zs, H'' D = some (.lst zs) ∧ Acc RowV H'' zs ((left.take j).filter fun r => decide (ga r i ≠ (0, 1))) ((left.take j).filter fun r => decide (ga r i ≠ (0, 1))).length) ⟨Same.updD (Same.refl H') hD, [], upd_same, Acc.nil⟩ (fun j H'' _ hP => SqL.of (hP.1 _ _ hLv)) (fun j x H'' hxj hP => ?_) (fun H4 hP => ?_)
        · obtain ⟨sm2, zs, hD', hz2⟩ := hP
          have hj := (List.getElem?_eq_some_iff.mp hxj).1
          rw [haccL.1] at hj
          have gl : left[j]? = some left[j] := List.getElem?_eq_getElem hj
          have hrj := lst.lr _ (List.getElem_mem hj)
          obtain ⟨pu, us, rfl, hpu, hul, hua⟩ := sqv_acc (RowV.kt (haccL.2 j x _ hxj gl) (Kt.of sm2))
          have gu : us[i]? = some (us[i]'(by omega)) := List.getElem?_eq_getElem _
          have gl2 : left[j][i]? = some (left[j][i]'(by omega)) := List.getElem?_eq_getElem _
          have hnum := hua.2 i _ _ gu gl2
          have hga : ga left[j] i = left[j][i]'(by omega) := ga_at (by omega)
          have hlz : zs.length ≤ j := by
            rw [hz2.1]
            refine Nat.le_trans (List.length_filter_le _ _) ?_
            rw [List.length_take]
            omega
          walk_at "go"
          refine ⟨rfl, ?_⟩
          walk_at "go"
          refine w_ixT hpu (by rw [show (0 : Int) + (i : Int) = (i : Int) by omega]; exact atI_nat gu) ?_
          walk_at "go"
          refine w_new (by simp) fun p3 H5 hp3 s5 h5 => ?_
          refine w_neNum (b := (0, 1)) (hnum.kt (Kt.of s5)) ⟨p3, rfl, h5⟩ ?_
          have hx5 : RowV H5 (.ref pu) left[j] := RowV.kt (acc_sqv hpu hua) (Kt.of s5)
          by_cases e : left[j][i]'(by omega) = (0, 1)
          · rw [decide_eq_true e, Bool.not_true]
            walk_at "go"
            refine ⟨sm2.trans s5, zs, s5 _ _ hD', ?_⟩
            rw [List.take_add_one, gl, Option.toList_some, List.filter_append, List.filter_cons, if_neg (by rw [decide_eq_false (fun z => z (hga.trans e))]; exact Bool.false_ne_true), List.filter_nil, List.append_nil]
            exact hz2.mono fun x a h => RowV.kt h (Kt.of s5)
          · rw [decide_eq_false e, Bool.not_false]
            walk_at "go"
            have h5D := s5 _ _ hD'
            have kt : Kt H'' (upd H5 D (.lst (zs ++ [V.ref pu]))) := (Kt.of s5).trans (Kt.updL h5D)
            refine ⟨zs, h5D, small1000 (by omega), Same.updD (sm2.trans s5) hD, _, upd_same, ?_⟩
            rw [List.take_add_one, gl, Option.toList_some, List.filter_append, List.filter_cons, if_pos (decide_eq_true (by rw [hga]; exact e)), List.filter_nil]
            exact acc_cat (hz2.mono fun x a h => RowV.kt h kt) (acc_one (RowV.kt hx5 (Kt.updL h5D)))
        · obtain ⟨sm4, zs, hD4, hz4⟩ := hP
          rw [List.take_of_length_le (by rw [haccL.1]; exact Nat.le_refl _)] at hz4
          walk_at "go"
          refine w_new (by simp) fun N1 H5 hN1 s5 hN5 => ?_
          refine w_neNil (s5 _ _ hD4) hN5 (fun x h => by
            obtain ⟨j, hj⟩ := List.getElem?_of_mem h
            have hjl := (List.getElem?_eq_some_iff.mp hj).1
            exact RowV.dat (RowV.kt (hz4.2 j x _ hj (List.getElem?_eq_getElem (by rw [← hz4.1]; exact hjl))) (Kt.of s5))) (by decide) ?_
          have s45 := sm4.trans s5
          have s05 := sm.trans s45
          have hLv5 := s45 _ _ hLv
          have hFv5 := s45 _ _ hFv
          have haccL5 : Acc RowV H5 xl left left.length := haccL.mono fun x a h => RowV.kt h (Kt.of s45)
          have haccF5 : Acc RowV H5 xf found found.length := haccF.mono fun x a h => RowV.kt h (Kt.of s45)
          walk_at "go"
          refine w_iteN (fun hne2 => ?_) (fun hne2 => ?_)
          · have hz5 : Acc RowV H5 zs (left.filter fun r => decide (ga r i ≠ (0, 1))) (left.filter fun r => decide (ga r i ≠ (0, 1))).length := hz4.mono fun x a h => RowV.kt h (Kt.of s5)
            have hzl : 0 < zs.length := List.length_pos_iff.mpr hne2
            have gz : zs[0]? = some (zs[0]'hzl) := List.getElem?_eq_getElem _
            have gf : (left.filter fun r => decide (ga r i ≠ (0, 1)))[0]? = some ((left.filter fun r => decide (ga r i ≠ (0, 1)))[0]'(by rw [← hz5.1]; exact hzl)) := List.getElem?_eq_getElem _
            have hv0 := List.mem_filter.mp (List.mem_of_getElem? gf)
            have hrow0 := hz5.2 0 _ _ gz gf
            generalize (left.filter fun r => decide (ga r i ≠ (0, 1)))[0]'(by rw [← hz5.1]; exact hzl) = v0 at hv0 hrow0
            obtain ⟨hv0m, hv0d⟩ := hv0
            have hv0n : ga v0 i ≠ (0, 1) := of_decide_eq_true hv0d
            have hv0r := lst.lr v0 hv0m
            obtain ⟨hHt, lst', hsz'⟩ := lst.step hg (by omega) hk4 hsz hB hv0m hv0n
            obtain ⟨_, _, hHl, _⟩ := lhead_er (V := W) hg hv0r (by omega) hk4 hv0n
            obtain ⟨pu, us, e0', hpu, hul, hua⟩ := sqv_acc hrow0
            rw [e0'] at gz
            have gu : us[i]? = some (us[i]'(by omega)) := List.getElem?_eq_getElem _
            have gl2 : v0[i]? = some (v0[i]'(by omega)) := List.getElem?_eq_getElem _
            have hnum := hua.2 i _ _ gu gl2
            have hga : ga v0 i = v0[i]'(by omega) := ga_at (by omega)
            rw [← hga] at hnum
            have hD5 := s5 _ _ hD4
            walk_at "go"
            refine w_ixL hD5 (atI_nat (j := 0) gz) ?_
            walk_at "go"
            refine w_new (by simp) fun o6 H6 ho6 s6 h6 => ?_
            walk_at "go"
            refine w_ixL (s6 _ _ hD5) (atI_nat (j := 0) gz) ?_
            walk_at "go"
            refine w_ixT (s6 _ _ hpu) (by rw [show (0 : Int) + (i : Int) = (i : Int) by omega]; exact atI_nat gu) ?_
            walk_at "go"
            have ta : TN g k (ga v0 i) := by rw [hga]; exact hv0r.2 _ (List.getElem_mem _)
            have h1 : (ga v0 i).1 ≠ 0 := fun z => hv0n (W.inj hg ta (tn_zero hg) (by rw [W.zero]; exact (e_zero hg ta).mpr z))
            refine ⟨g, .ref o6, _, (1, 1), ga v0 i, rfl, hg0, hg13, ⟨o6, rfl, h6⟩, hnum.kt (Kt.of s6), (tn_one hg).bd (by decide), ta.bd (by omega), h1, fun p7 H7 hp7 s7 h7 => ?_⟩
            have to := tn_ovr hg (tn_one hg) ta (Nat.le_refl 4) h1
            walk_at "go"
            have s67 := s6.trans s7
            refine ⟨g, .ref pu, .ref p7, v0, _, rfl, hg0, hg13, RowV.kt (acc_sqv hpu hua) (Kt.of s67), ⟨p7, rfl, h7⟩, by omega, fun a ha => (hv0r.2 a ha).bd (by omega), to.bd (by omega), fun hv8 H8 s8 h8 => ?_⟩
            have hhd : RowV H8 hv8 (lheadF g i v0) := h8
            have s58 := s67.trans s8
            -- one list of rows cleared
            have clear : ∀ (Ha : Hp) (x hv : V) (r : List (Int × Int)) (Q' : VK), RowV Ha x r → RowV Ha hv (lheadF g i v0) → (r.length = n ∧ ∀ a ∈ r, TN g k a) → ∀ (us : List V) (pu : Addr), Ha pu = some (.tup us) → x = .ref pu → (∀ (y : V) (Hb : Hp), Same Ha Hb → RowV Hb y (lclrF g i (lheadF g i v0) r) → Q' y Hb) → ∃ uy, us[i]? = some uy ∧ ∃ (g' : Int) (x' : V) (a : Int × Int), [V.int g, uy] = [.int g', x'] ∧ 0 ≤ g' ∧ g' ≤ 13 ∧ NumV Ha x' a ∧ a.2.natAbs < 2 ^ 8000 ∧ a.2 ≠ 0 ∧ ∀ (pm : Addr) (Hm : Hp), Ha pm = none → Same Ha Hm → Hm pm = some (.tup [.int (minusF g' a).1, .int (minusF g' a).2]) →
                sp__law_scaled K [.int g, hv, .ref pm] Hm (fun y Hs => sp__law_added K [.int g, x, y] Hs Q' E0) E0 := fun Ha x hv r Q' hx hh hr' us pu hpu ex qq => by
              obtain ⟨pu', us', e1, hpu', hul', hua'⟩ := sqv_acc hx
              rw [ex] at e1
              cases e1
              cases HO.tup.inj (Option.some.inj (hpu'.symm.trans hpu))
              have gu' : us[i]? = some (us[i]'(by omega)) := List.getElem?_eq_getElem _
              have gr' : r[i]? = some (r[i]'(by omega)) := List.getElem?_eq_getElem _
              have hn' := hua'.2 i _ _ gu' gr'
              have tr := hr'.2 _ (List.getElem_mem (show i < r.length by omega))
              refine ⟨_, gu', g, _, _, rfl, hg0, hg13, hn', b8 tr, by have := tr.pos; omega, fun pm Hm hpm sm' hm => ?_⟩
              have hga' : ga r i = r[i]'(by omega) := ga_at (by omega)
              have tm := tn_minus hg tr hk4
              refine ⟨g, hv, .ref pm, lheadF g i v0, _, rfl, hg0, hg13, RowV.kt hh (Kt.of sm'), ⟨pm, rfl, hm⟩, by omega, fun a ha => (hHt a ha).bd (by omega), tm.bd (by omega), fun vs Hs ss hs => ?_⟩
              refine ⟨g, x, vs, r, _, rfl, hg0, hg13, RowV.kt hx (Kt.of (sm'.trans ss)), hs, by rw [List.length_map, hHl]; exact hr'.1, by omega, fun a ha => (hr'.2 a ha).bd (by omega), fun a ha => ?_, fun va Hz sz hz' => ?_⟩
              · obtain ⟨c, hc, rfl⟩ := List.mem_map.mp ha
                exact (tn_times hg (hHt c hc) tm hk4).bd (by omega)
              · refine qq va Hz (sm'.trans (ss.trans sz)) ?_
                unfold lclrF
                rw [hga']
                exact hz'
            walk_at "go"
            refine ⟨Lv, rfl, ⟨xl, SqL.of (s58 _ _ hLv5)⟩, fun D2 hD2 => ?_⟩
            refine lc_list (xs := xl) (fun j H'' => Same H8 H'' ∧ ∃ zs, H'' D2 = some (.lst zs) ∧ Acc RowV H'' zs (left.map (lclrF g i (lheadF g i v0))) j) ⟨Same.updD (Same.refl H8) hD2, [], upd_same, Acc.nil⟩ (fun j H'' _ hP => SqL.of (hP.1 _ _ (s58 _ _ hLv5))) (fun j x H'' hxj hP => ?_) (fun H9 hP => ?_)
            · obtain ⟨sm9, zs2, hD9, hz9⟩ := hP
              have hj := (List.getElem?_eq_some_iff.mp hxj).1
              rw [haccL.1] at hj
              have gl : left[j]? = some left[j] := List.getElem?_eq_getElem hj
              have hx9 := RowV.kt (haccL5.2 j x _ hxj gl) (Kt.of (s58.trans sm9))
              obtain ⟨pw, ws, ew, hpw, hwl, hwa⟩ := sqv_acc hx9
              have fin : ∀ (y : V) (Hb : Hp), Same H'' Hb → RowV Hb y (lclrF g i (lheadF g i v0) left[j]) → ∃ acc, Hb D2 = some (.lst acc) ∧ acc.length < sizeLine ∧ Same H8 (upd Hb D2 (.lst (acc ++ [y]))) ∧ ∃ zs, (upd Hb D2 (.lst (acc ++ [y]))) D2 = some (.lst zs) ∧ Acc RowV (upd Hb D2 (.lst (acc ++ [y]))) zs (left.map (lclrF g i (lheadF g i v0))) (j + 1) := fun y Hb sb hyb => by
                have hbD := sb _ _ hD9
                have kt : Kt H'' (upd Hb D2 (.lst (zs2 ++ [y]))) := (Kt.of sb).trans (Kt.updL hbD)
                refine ⟨zs2, hbD, small1000 (by rw [hz9.1]; omega), Same.updD (sm9.trans sb) hD2, _, upd_same, ?_⟩
                exact (hz9.mono fun x a h => RowV.kt h kt).snoc (a := lclrF g i (lheadF g i v0) left[j]) (by rw [List.getElem?_map, gl]; rfl) (RowV.kt hyb (Kt.updL hbD))
              obtain ⟨uy, huy, g', x', a, e1, e2, e3, e4, e5, e6, e7⟩ := clear H'' x hv8 left[j] _ hx9 (RowV.kt hhd (Kt.of sm9)) (lst.lr _ (List.getElem_mem hj)) ws pw hpw ew fin
              subst ew
              walk_at "go"
              refine ⟨rfl, ?_⟩
              walk_at "go"
              refine w_ixT hpw (by rw [show (0 : Int) + (i : Int) = (i : Int) by omega]; exact atI_nat huy) ?_
              walk_at "go"
              exact ⟨g', x', a, e1, e2, e3, e4, e5, e6, e7⟩
            · obtain ⟨sm9, zs2, hD9, hz9⟩ := hP
              rw [haccL.1] at hz9
              have s89 := s58.trans sm9
              walk_at "go"
              refine ⟨Fv, rfl, ⟨xf, SqL.of (s89 _ _ hFv5)⟩, fun D3 hD3 => ?_⟩
              refine lc_list (xs := xf) (fun j H'' => Same H9 H'' ∧ ∃ zs, H'' D3 = some (.lst zs) ∧ Acc RowV H'' zs (found.map (lclrF g i (lheadF g i v0))) j) ⟨Same.updD (Same.refl H9) hD3, [], upd_same, Acc.nil⟩ (fun j H'' _ hP => SqL.of (hP.1 _ _ (s89 _ _ hFv5))) (fun j x H'' hxj hP => ?_) (fun H10 hP => ?_)
              · obtain ⟨sm10, zs3, hD10, hz10⟩ := hP
                have hj := (List.getElem?_eq_some_iff.mp hxj).1
                rw [haccF.1] at hj
                have gl : found[j]? = some found[j] := List.getElem?_eq_getElem hj
                have hx10 := RowV.kt (haccF5.2 j x _ hxj gl) (Kt.of (s89.trans sm10))
                obtain ⟨pw, ws, ew, hpw, hwl, hwa⟩ := sqv_acc hx10
                have fin : ∀ (y : V) (Hb : Hp), Same H'' Hb → RowV Hb y (lclrF g i (lheadF g i v0) found[j]) → ∃ acc, Hb D3 = some (.lst acc) ∧ acc.length < sizeLine ∧ Same H9 (upd Hb D3 (.lst (acc ++ [y]))) ∧ ∃ zs, (upd Hb D3 (.lst (acc ++ [y]))) D3 = some (.lst zs) ∧ Acc RowV (upd Hb D3 (.lst (acc ++ [y]))) zs (found.map (lclrF g i (lheadF g i v0))) (j + 1) := fun y Hb sb hyb => by
                  have hbD := sb _ _ hD10
                  have kt : Kt H'' (upd Hb D3 (.lst (zs3 ++ [y]))) := (Kt.of sb).trans (Kt.updL hbD)
                  refine ⟨zs3, hbD, small1000 (by rw [hz10.1]; omega), Same.updD (sm10.trans sb) hD3, _, upd_same, ?_⟩
                  exact (hz10.mono fun x a h => RowV.kt h kt).snoc (a := lclrF g i (lheadF g i v0) found[j]) (by rw [List.getElem?_map, gl]; rfl) (RowV.kt hyb (Kt.updL hbD))
                obtain ⟨uy, huy, g', x', a, e1, e2, e3, e4, e5, e6, e7⟩ := clear H'' x hv8 found[j] _ hx10 (RowV.kt hhd (Kt.of (sm9.trans sm10))) (lst.fr _ (List.getElem_mem hj)) ws pw hpw ew fin
                subst ew
                walk_at "go"
                refine ⟨rfl, ?_⟩
                walk_at "go"
                refine w_ixT hpw (by rw [show (0 : Int) + (i : Int) = (i : Int) by omega]; exact atI_nat huy) ?_
                walk_at "go"
                exact ⟨g', x', a, e1, e2, e3, e4, e5, e6, e7⟩
              · obtain ⟨sm10, zs3, hD10, hz10⟩ := hP
                rw [haccF.1] at hz10
                walk_at "go"
                refine w_new (by simp) fun N2 H11 hN2 s11 hN11 => ?_
                refine w_cat (s11 _ _ hD10) hN11 (by rw [hz10.1]; show _ + 1 ≤ _; omega) ?_
                refine w_newO fun q12 H12 hq12 s12 h12 => ?_
                walk_at "go"
                have s1012 := s11.trans s12
                have s912 := sm10.trans s1012
                refine ⟨D2, q12, zs2, _, _, _, h ++ [i], ⟨_, _, _, _, rfl⟩, s05.trans (s89.trans s912), s912 _ _ hD9, ?_, h12, ?_, lst', by rw [List.length_map]; exact hll, hsz'⟩
                · rw [List.length_map]
                  exact hz9.mono fun x a h => RowV.kt h (Kt.of s912)
                · have a1 : Acc RowV H12 zs3 (found.map (lclrF g i (lheadF g i v0))) (found.map (lclrF g i (lheadF g i v0))).length := by
                    rw [List.length_map]
                    exact hz10.mono fun x a h => RowV.kt h (Kt.of s1012)
                  exact acc_cat a1 (acc_one (RowV.kt hhd (Kt.of (sm9.trans s912))))
          · walk_at "go"
            have hnil : left.filter (fun r => decide (ga r i ≠ (0, 1))) = [] := by
              have := hz4.1
              rw [hne2] at this
              exact List.length_eq_zero_iff.mp this.symm
            refine ⟨Lv, Fv, xl, xf, left, found, h, ⟨_, _, _, _, rfl⟩, s05, hLv5, haccL5, hFv5, haccF5, lst.skip hg fun r hr => ?_, hll, hsz⟩
            have := List.filter_eq_nil_iff.mp hnil r hr
            exact Decidable.byContradiction fun z => this (decide_eq_true z)
      · obtain ⟨Lv, Fv, xl, xf, left, found, h, ⟨y5, y6, y7, y8, rfl⟩, sm, hLv, haccL, hFv, haccF, lst, hll, hsz⟩ := hP
        walk_at "go"
        refine ⟨_, _, rfl, .inl ⟨SqL.of hFv, fun l hl => ?_⟩⟩
        exact q _ _ found (sm.trans (same_upd hl)) (acc_sqv upd_same (haccF.mono fun x a h => RowV.kt h (Kt.of (same_upd hl)))) lst.done
    · have ht0 : t = [] := List.length_eq_zero_iff.mp (by rw [← hlx, hne]; rfl)
      subst ht0
      walk_at "go"
      refine ⟨by decide, by decide, ?_⟩
      refine for_range (fun i σ H' => H' = H3 ∧ ∃ y5 y6 y7 y8, σ = [some (.int g), some (.ref p), some (.ref L), some (.ref Fd0), some (.int 0), y5, y6, y7, y8]) ⟨rfl, _, _, _, _, rfl⟩ (fun i σ H' hi hP => absurd hi (Nat.not_lt_zero _)) (fun σ H' hP => ?_)
      obtain ⟨rfl, y5, y6, y7, y8, rfl⟩ := hP
      walk_at "go"
      refine ⟨_, _, rfl, .inl ⟨SqL.of (s3 _ _ hF2), fun l hl => ?_⟩⟩
      exact q _ _ [] (s03.trans (same_upd hl)) (acc_sqv upd_same Acc.nil) ⟨fun r hr => (by cases hr), ⟨[], rr_nil, fun p hp => (by cases hp)⟩, fun r hr => (by cases hr), fun r hr => (by cases hr)⟩
theorem ok__law_through {f : Addr} {fd : FuncData} (F : FnP K "_law_through" s__law_through f fd)
    {f__law_added : Addr} {fd__law_added : FuncData} (F__law_added : FnP K "_law_added" s__law_added f__law_added fd__law_added) (b__law_added : Binds K fd__law_added ["_law_g", "_law_row_here", "_law_other"] []) (g__law_added : mg "_law_added" = some (.ref f__law_added)) (G__law_added : FnOk P w K mg base CX0 4 f__law_added fd__law_added ["_law_g", "_law_row_here", "_law_other"] (sp__law_added K))
    {f__law_scaled : Addr} {fd__law_scaled : FuncData} (F__law_scaled : FnP K "_law_scaled" s__law_scaled f__law_scaled fd__law_scaled) (b__law_scaled : Binds K fd__law_scaled ["_law_g", "_law_row_here", "_law_x"] []) (g__law_scaled : mg "_law_scaled" = some (.ref f__law_scaled)) (G__law_scaled : FnOk P w K mg base CX0 4 f__law_scaled fd__law_scaled ["_law_g", "_law_row_here", "_law_x"] (sp__law_scaled K)) (m_tuple : mg "tuple" = none) (m_zip : mg "zip" = none) (m_len : mg "len" = none) :
    FnOk P w K mg base CX0 5 f fd ["_law_g", "_law_row_here", "_law_table"] (sp__law_through K) := by
  refine F.ok sc__law_through (fun vs H Q E h => ?_) (fun cdv A outer s H vs Q E hr h => ?_)
  · obtain ⟨g, x, y, r, t, n, k, l, F', R, W, rfl, hg, hx, hy, hrt, hne, htl, hn, htr, ht, hk4, hl4, hk, hl, hsz, q⟩ := h
    rfl
  · obtain ⟨g, x, y, r, t, n, k, l, F', R, W, rfl, hg, hx, hy, hrt, hne, htl, hn, htr, ht, hk4, hl4, hk, hl, hsz, q⟩ := h
    refine ⟨_, PSs.nox (pss_cons (ps_set (i := 3) sc__law_through.nd rfl (.inl rfl) (pe_callTy call_tuple_of (by rfl) m_tuple (by decide +kernel) (pa_cons (pe_op op_rep (pe_lst (pa_cons (pe_tup (pa_cons pe_int (pa_cons pe_int pa_nil))) pa_nil)) (pe_callB call_len_seq (by rfl) m_len (by decide +kernel) (pa_cons (pe_ix ix_tup (pv 2) pe_int (fun _ _ => rfl)) pa_nil))) pa_nil)))
        (pss_cons (ps_for PassesOwn.never rfl (RZ.pi_zipA (by rfl) m_zip (pa_cons (pv 1) (pa_cons (pv 2) pa_nil))) (pg_tup rfl (pgs_cons (pg_name (i := 4) sc__law_through.nd rfl (.inl rfl)) (pgs_cons (pg_name (i := 5) sc__law_through.nd rfl (.inl rfl)) pgs_nil))) (pss_one (ps_set (i := 3) sc__law_through.nd rfl (.inl rfl) (pe_call G__law_added hr (by rfl) g__law_added F__law_added.kp b__law_added .nil pass0 (pa_cons (pv 0) (pa_cons (pv 3) (pa_cons (pe_call G__law_scaled hr (by rfl) g__law_scaled F__law_scaled.kp b__law_scaled .nil pass0 (pa_cons (pv 0) (pa_cons (pv 5) (pa_cons (pv 4) pa_nil)))) pa_nil)))))))
        (pss_one (ps_ret (pv 3))))), ?_⟩
    have ⟨hg0, hg13⟩ := grb hg
    have hpos : 0 < t.length := List.length_pos_iff.mpr hne
    obtain ⟨px, xs, rfl, hpx, hlx, hxs⟩ := hx
    obtain ⟨py, ys, rfl, hpy, hly, hys⟩ := hy
    have gt0 : t[0]? = some t[0] := List.getElem?_eq_getElem hpos
    have gy0 : ys[0]? = some (ys[0]'(by omega)) := List.getElem?_eq_getElem _
    obtain ⟨p0, xs0, e0, hp0, hl0, _⟩ := hys 0 _ _ gy0 gt0
    have hr0 := (ht _ (List.getElem_mem hpos)).1
    rw [e0] at gy0
    walk_at "go"
    refine w_new (by simp) fun u H1 hu s1 h1 => ?_
    walk_at "go"
    refine w_new (by simp) fun l1 H2 hl1 s2 h2 => ?_
    walk_at "go"
    refine w_ixT (s2 _ _ (s1 _ _ hpy)) (atI_nat (j := 0) gy0) ?_
    walk_at "go"
    refine ⟨p0, xs0, rfl, .inr (SqT.of (s2 _ _ (s1 _ _ hp0))), ?_⟩
    rw [show xs0.length = n by omega]
    walk_at "go"
    refine w_rep h2 (by omega) (by omega) (by simp) ?_
    refine w_newO fun l3 H3 hl3 s3 h3 => ?_
    walk_at "go"
    refine ⟨_, _, rfl, .inl ⟨SqL.of h3, fun l4 hl4' => ?_⟩⟩
    rw [Int.toNat_natCast]
    have s4 := same_upd (o := HO.tup (List.replicate n [V.ref u]).flatten) hl4'
    have h4 : (upd H3 l4 (.tup (List.replicate n [V.ref u]).flatten)) l4 = some (.tup (List.replicate n [V.ref u]).flatten) := upd_same
    generalize upd H3 l4 (.tup (List.replicate n [V.ref u]).flatten) = H4 at s4 h4 ⊢
    have s04 := s1.trans (s2.trans (s3.trans s4))
    have hz4 := row_zeros (s4 _ _ (s3 _ _ (s2 _ _ h1))) h4
    walk_at "go"
    refine ⟨px, py, xs, ys, rfl, .inr ⟨SqT.of (s04 _ _ hpx), SqT.of (s04 _ _ hpy), ?_⟩⟩
    refine for_it (walk_zipT (xs := xs) (ys := ys) (n := t.length) (by omega)) (fun i σ H' => ∃ (fv : V) (w : List (Int × Int)), (∃ y4 y5, σ = [some (.int g), some (.ref px), some (.ref py), some fv, y4, y5]) ∧ Same H H' ∧ RowV H' fv w ∧ w.length = n ∧ (∀ a ∈ w, TN g (4 + i * (l + k + 1)) a) ∧ ∀ j, j < n → er W w j = lin ((r.take i).map W.e) ((t.take i).map (er W)) j) ⟨_, _, ⟨_, _, rfl⟩, s04, hz4, List.length_replicate, fun a ha => ?_, fun j hj => ?_⟩ (fun i σ H' _ hP => ?_) (fun i v σ Ha Hb hi hP hY => ?_) (fun σ H' hP => ?_)
    · rw [List.eq_of_mem_replicate ha]
      exact (tn_zero hg).mono (by omega)
    · have e : ga (List.replicate n ((0 : Int), (1 : Int))) j = (0, 1) := by
        rw [ga_at (by rw [List.length_replicate]; exact hj), List.getElem_replicate]
      rw [er_ga, e, W.zero]
      rfl
    · obtain ⟨fv, w, _, sm, _⟩ := hP
      exact ⟨SqT.of (sm _ _ hpx), SqT.of (sm _ _ hpy)⟩
    · obtain ⟨fv, w, ⟨y4, y5, rfl⟩, sm, hw, hwl, htw, her⟩ := hP
      obtain ⟨T, u1, v', rfl, hT, rfl, hu1, hv1⟩ := hY
      have sT : Same Ha (upd Ha T (.tup [u1, v'])) := same_upd hT
      have hTT : (upd Ha T (.tup [u1, v'])) T = some (.tup [u1, v']) := upd_same
      generalize upd Ha T (.tup [u1, v']) = H5 at sT hTT ⊢
      have s05 := sm.trans sT
      have gr : r[i]? = some (r[i]'(by omega)) := List.getElem?_eq_getElem _
      have gt1 : t[i]? = some t[i] := List.getElem?_eq_getElem hi
      have tr := htr _ (List.getElem_mem (show i < r.length by omega))
      have tt := ht _ (List.getElem_mem hi)
      have hmul : i * (l + k + 1) ≤ (t.length - 1) * (l + k + 1) := Nat.mul_le_mul_right _ (by omega)
      walk_at "go"
      refine ⟨g, v', u1, t[i], _, rfl, hg0, hg13, RowV.kt (hys i v' _ hv1 gt1) (Kt.of s05), (hxs i u1 _ hu1 gr).kt (Kt.of s05), by omega, fun a ha => (tt.2 a ha).bd (by omega), tr.bd (by omega), fun v6 H6 s6 h6 => ?_⟩
      have hsc : ∀ a ∈ (t[i].map fun a => timesF g a (r[i]'(by omega))), TN g (l + k) a := fun a ha => by
        obtain ⟨c, hc, rfl⟩ := List.mem_map.mp ha
        exact tn_times hg (tt.2 c hc) tr hl4
      refine ⟨g, fv, v6, w, _, rfl, hg0, hg13, RowV.kt hw (Kt.of (sT.trans s6)), h6, by rw [List.length_map, hwl, tt.1], by omega, fun a ha => (htw a ha).bd (by omega), fun a ha => (hsc a ha).bd (by omega), fun v7 H7 s7 h7 => ?_⟩
      walk_at "go"
      refine ⟨v7, _, ⟨_, _, rfl⟩, s05.trans (s6.trans s7), h7, by rw [List.length_zipWith, List.length_map, hwl, tt.1]; omega, fun a ha => ?_, fun j hj => ?_⟩
      · obtain ⟨x, hx', rfl⟩ := List.mem_iff_getElem.mp ha
        rw [List.length_zipWith] at hx'
        rw [List.getElem_zipWith]
        refine (tn_plus hg (htw _ (List.getElem_mem _)) (hsc _ (List.getElem_mem _)) (by omega)).mono ?_
        rw [Nat.succ_mul]
        omega
      · have hj1 : j < w.length := by omega
        have hj2 : j < t[i].length := by omega
        have hj3 : j < (List.zipWith (plusF g) w (t[i].map fun a => timesF g a (r[i]'(by omega)))).length := by rw [List.length_zipWith, List.length_map]; omega
        rw [er_at hj3, List.getElem_zipWith, List.getElem_map, W.plus hg (htw _ (List.getElem_mem hj1)) (tn_times hg (tt.2 _ (List.getElem_mem hj2)) tr hl4), W.times hg (tt.2 _ (List.getElem_mem hj2)) tr, ← er_at hj1, her j hj, ← er_at hj2]
        have e1 : (r.take (i + 1)).map W.e = (r.take i).map W.e ++ [W.e (r[i]'(by omega))] := by rw [List.take_add_one, gr, List.map_append]; rfl
        have e2 : (t.take (i + 1)).map (er W) = (t.take i).map (er W) ++ [er W t[i]] := by rw [List.take_add_one, gt1, List.map_append]; rfl
        rw [e1, e2, lin_snoc _ _ (by rw [List.length_map, List.length_map, List.length_take, List.length_take]; omega)]
        grind
    · obtain ⟨fv, w, ⟨y4, y5, rfl⟩, sm, hw, hwl, htw, her⟩ := hP
      rw [List.take_of_length_le (show r.length ≤ t.length by omega), List.take_of_length_le (Nat.le_refl _)] at her
      walk_at "go"
      exact q _ _ w sm hw hwl htw her
theorem ok__law_rows {f : Addr} {fd : FuncData} (F : FnP K "_law_rows" s__law_rows f fd)
    {f__law_row : Addr} {fd__law_row : FuncData} (F__law_row : FnP K "_law_row" s__law_row f__law_row fd__law_row) (b__law_row : Binds K fd__law_row ["_law_bag_here", "_law_g", "_law_many"] []) (g__law_row : mg "_law_row" = some (.ref f__law_row)) (G__law_row : FnOk P w K mg base CX0 4 f__law_row fd__law_row ["_law_bag_here", "_law_g", "_law_many"] (sp__law_row K))
    {f__law_take : Addr} {fd__law_take : FuncData} (F__law_take : FnP K "_law_take" s__law_take f__law_take fd__law_take) (b__law_take : Binds K fd__law_take ["_law_bag_here", "_law_many"] []) (g__law_take : mg "_law_take" = some (.ref f__law_take)) (G__law_take : FnOk P w K mg base CX0 1 f__law_take fd__law_take ["_law_bag_here", "_law_many"] (sp__law_take K))
    {f__law_added : Addr} {fd__law_added : FuncData} (F__law_added : FnP K "_law_added" s__law_added f__law_added fd__law_added) (b__law_added : Binds K fd__law_added ["_law_g", "_law_row_here", "_law_other"] []) (g__law_added : mg "_law_added" = some (.ref f__law_added)) (G__law_added : FnOk P w K mg base CX0 4 f__law_added fd__law_added ["_law_g", "_law_row_here", "_law_other"] (sp__law_added K)) (m_range : mg "range" = none) (m_tuple : mg "tuple" = none) (m_len : mg "len" = none) :
    FnOk P w K mg base CX0 5 f fd ["_law_bag_here", "_law_g", "_law_high", "_law_wide"] (sp__law_rows K) := by
  refine F.ok sc__law_rows (fun vs H Q E h => ?_) (fun cdv A outer s H vs Q E hr h => ?_)
  · obtain ⟨b, g, hi, wi, rfl, hgr, hh0, hh, hw0, hw, hb, q⟩ := h
    rfl
  · obtain ⟨b, g, hi, wi, rfl, hgr, hh0, hh, hw0, hw, hb, q⟩ := h
    refine ⟨_, PSs.nox (pss_cons (ps_set (i := 4) sc__law_rows.nd rfl (.inl rfl) (pe_lst pa_nil))
        (pss_cons (ps_for PassesOwn.never rfl (pi_range1 (by rfl) m_range (pa_cons (pv 2) pa_nil)) (pg_name (i := 5) sc__law_rows.nd rfl (.inl rfl)) (pss_cons (ps_set (i := 6) sc__law_rows.nd rfl (.inl rfl) (pe_call G__law_row hr (by rfl) g__law_row F__law_row.kp b__law_row .nil pass0 (pa_cons (pv 0) (pa_cons (pv 1) (pa_cons (pv 3) pa_nil)))))
        (pss_cons (ps_set (i := 7) sc__law_rows.nd rfl (.inl rfl) (pe_call G__law_take (hr.mono (by decide)) (by rfl) g__law_take F__law_take.kp b__law_take .nil pass0 (pa_cons (pv 0) (pa_cons pe_int pa_nil))))
        (pss_cons (ps_if (pt_cmpR op_eq (pv 7) pe_int (nomark _)) (pss_one (ps_set (i := 6) sc__law_rows.nd rfl (.inl rfl) (pe_callTy call_tuple_of (by rfl) m_tuple (by decide +kernel) (pa_cons (pe_op op_rep (pe_lst (pa_cons (pe_tup (pa_cons pe_int (pa_cons pe_int pa_nil))) pa_nil)) (pv 3)) pa_nil)))) pss_nil)
        (pss_cons (ps_if (PW.pt (pw_and (pt_cmpR op_eq (pv 7) pe_int (nomark _)) (pw_and1 (pt_cmpR (op_neD hr.units) (pv 4) (pe_lst pa_nil) (nomark _))))) (pss_one (ps_set (i := 6) sc__law_rows.nd rfl (.inl rfl) (pe_call G__law_added hr (by rfl) g__law_added F__law_added.kp b__law_added .nil pass0 (pa_cons (pv 1) (pa_cons (pe_ix ix_list (pv 4) (pe_call G__law_take (hr.mono (by decide)) (by rfl) g__law_take F__law_take.kp b__law_take .nil pass0 (pa_cons (pv 0) (pa_cons (pe_callB call_len_seq (by rfl) m_len (by decide +kernel) (pa_cons (pv 4) pa_nil)) pa_nil))) (fun _ _ => rfl)) (pa_cons (pe_ix ix_list (pv 4) (pe_un un_neg pe_int) (fun _ _ => rfl)) pa_nil)))))) pss_nil)
        (pss_one (ps_expr (pe_bm PySem.F.plainAttrs_list PySem.F.slot_list_append PySem.F.type_list_append mt_append (pv 4) (pa_cons (pv 6) pa_nil)))))))))
        (pss_one (ps_ret (pe_callTy call_tuple_of (by rfl) m_tuple (by decide +kernel) (pa_cons (pv 4) pa_nil)))))), ?_⟩
    have hg' := hgr.three
    have hg2 := hgr.two
    have ⟨hg0, hg13⟩ := hgr.bd
    walk_at "go"
    refine w_new (by simp) fun F H1 hF0 s1 hF1 => ?_
    walk_at "go"
    refine ⟨by omega, by omega, ?_⟩
    have nF := bag_ne hb hF0
    refine for_range (fun i σ H' => (∃ y5 y6 y7, σ = [some (.ref b), some (.int g), some (.int hi), some (.int wi), some (.ref F), y5, y6, y7]) ∧ Mv b H H' ∧ Bag H' b ∧ ∃ (xs : List V) (t : List (List (Int × Int))), H' F = some (.lst xs) ∧ t.length = i ∧ Acc RowV H' xs t i ∧ ∀ r ∈ t, r.length = wi.toNat ∧ ∀ a ∈ r, NG g i a ∧ TN g 40 a) ⟨⟨_, _, _, rfl⟩, Mv.same s1, hb.same s1, [], [], hF1, rfl, Acc.nil, fun x hx => nomatch hx⟩ (fun i σ H' hi' hP => ?_) (fun σ H' hP => ?_)
    · obtain ⟨⟨y5, y6, y7, rfl⟩, mv, hbi, xs, t, hxs, hl, hx, hrow⟩ := hP
      have fin : ∀ (Hn : Hp) (rv : V) (r : List (Int × Int)), Mv b H' Hn → Bag Hn b → Kt H' Hn → Hn F = some (.lst xs) → RowV Hn rv r → r.length = wi.toNat → (∀ a ∈ r, NG g (i + 1) a ∧ TN g 40 a) → Mv b H (upd Hn F (.lst (xs ++ [rv]))) ∧ Bag (upd Hn F (.lst (xs ++ [rv]))) b ∧ ∃ (xs' : List V) (t' : List (List (Int × Int))), (upd Hn F (.lst (xs ++ [rv]))) F = some (.lst xs') ∧ t'.length = i + 1 ∧ Acc RowV (upd Hn F (.lst (xs ++ [rv]))) xs' t' (i + 1) ∧ ∀ r ∈ t', r.length = wi.toNat ∧ ∀ a ∈ r, NG g (i + 1) a ∧ TN g 40 a := fun Hn rv r m hbn kt hF hr hrl hra => by
        refine ⟨(mv.trans m).updD hF0, hbn.upd nF, xs ++ [rv], t ++ [r], upd_same, by rw [List.length_append, hl]; rfl, acc_app (hx.mono fun x a h => RowV.kt (RowV.kt h kt) (Kt.updL hF)) hl (RowV.kt hr (Kt.updL hF)), fun r' hr' => ?_⟩
        rcases List.mem_append.mp hr' with z | z
        · exact ⟨(hrow r' z).1, fun a ha => ⟨((hrow r' z).2 a ha).1.mono (by omega), ((hrow r' z).2 a ha).2⟩⟩
        · rw [List.mem_singleton.mp z]
          exact ⟨hrl, hra⟩
      walk_at "go"
      refine ⟨b, g, wi, rfl, hgr, by omega, by omega, hbi, fun H2 rw2 r2 hr2 hl2 hn2 m2 hb2 => ?_⟩
      walk_at "go"
      refine ⟨b, 5, rfl, by decide, by decide, hb2, fun H3 wy h30 h31 m3 hb3 => ?_⟩
      walk_at "go"
      have mv3 := m2.trans m3
      have kt3 : Kt H' H3 := (m2.kt hbi).trans (m3.kt hb2)
      have hF3 : H3 F = some (.lst xs) := m3 _ _ nF (m2 _ _ nF hxs)
      have hr3 : RowV H3 rw2 r2 := RowV.kt hr2 (m3.kt hb2)
      have hn3 : ∀ a ∈ r2, NG g (i + 1) a ∧ TN g 40 a := fun a ha => ⟨(hn2 a ha).1.mono (Nat.zero_le _), (hn2 a ha).2.mono (by decide)⟩
      have hlx : xs.length = i := hx.1
      refine w_ite (fun hc => ?_) (fun hc => ?_)
      · walk_at "go"
        refine w_new (by simp) fun u H4 hu s4 h4 => ?_
        walk_at "go"
        refine w_new (by simp) fun l H5 hl5 s5 h5 => ?_
        walk_at "go"
        refine w_rep h5 (by omega) (by omega) (by simp) ?_
        refine w_newO fun l6 H6 hl6 s6 h6 => ?_
        walk_at "go"
        refine ⟨_, _, rfl, .inl ⟨SqL.of h6, fun l7 hl7 => ?_⟩⟩
        have s7 := same_upd (o := .tup (List.replicate wi.toNat [V.ref u]).flatten) hl7
        have h7 : (upd H6 l7 (.tup (List.replicate wi.toNat [V.ref u]).flatten)) l7 = some (.tup (List.replicate wi.toNat [V.ref u]).flatten) := upd_same
        generalize upd H6 l7 (.tup (List.replicate wi.toNat [V.ref u]).flatten) = H7 at s7 h7 ⊢
        walk_at "go"
        have s37 := s4.trans (s5.trans (s6.trans s7))
        refine w_iteN' ?_ (show ¬ wy = 1 by omega)
        walk_at "go"
        refine ⟨.inl ⟨rfl, _, SqL.of (s37 _ _ hF3)⟩, ?_⟩
        walk_at "go"
        refine w_append (s37 _ _ hF3) (by omega) ?_
        exact ⟨⟨_, _, _, rfl⟩, fin _ _ _ (mv3.trans (Mv.same s37)) (hb3.same s37) (kt3.trans (Kt.of s37)) (s37 _ _ hF3) (row_zeros (s7 _ _ (s6 _ _ (s5 _ _ h4))) h7) List.length_replicate fun a ha => by rw [List.eq_of_mem_replicate ha]; exact nt_zero hg' hg2⟩
      · walk_at "go"
        refine w_ite (fun hc1 => ?_) (fun hc1 => ?_)
        · walk_at "go"
          refine w_new (by simp) fun u H4 hu s4 h4 => ?_
          walk_at "go"
          refine w_neNil (s4 _ _ hF3) h4 (fun x h => by
            obtain ⟨j, hj⟩ := List.getElem?_of_mem h
            have hjl := (List.getElem?_eq_some_iff.mp hj).1
            exact RowV.dat (RowV.kt (RowV.kt (hx.2 j x _ hj (List.getElem?_eq_getElem (by omega))) kt3) (Kt.of s4))) (by decide) ?_
          walk_at "go"
          refine w_iteN (fun hne => ?_) (fun hne => ?_)
          · walk_at "go"
            have hF4 := s4 _ _ hF3
            have hlen : 0 < xs.length := List.length_pos_iff.mpr hne
            refine ⟨F, xs, rfl, .inl (SqL.of hF4), ?_⟩
            walk_at "go"
            refine ⟨b, xs.length, rfl, by omega, by omega, hb3.same s4, fun H5 d h50 h51 m5 hb5 => ?_⟩
            have hF5 := m5 _ _ nF hF4
            have kt5 : Kt H3 H5 := (Kt.of s4).trans (m5.kt (hb3.same s4))
            obtain ⟨x1, hx1⟩ : ∃ x1, xs[d.toNat]? = some x1 := ⟨_, List.getElem?_eq_getElem (by omega)⟩
            have e1 : atI xs d = some x1 := by
              have := atI_nat hx1
              rw [show ((d.toNat : Nat) : Int) = d by omega] at this
              exact this
            refine w_ixL hF5 e1 ?_
            walk_at "go"
            obtain ⟨x2, hx2⟩ : ∃ x2, xs[xs.length - 1]? = some x2 := ⟨_, List.getElem?_eq_getElem (by omega)⟩
            have e2 : atI xs (-1) = some x2 := by
              have hx3 : xs.getLast? = some x2 := by rw [List.getLast?_eq_getElem?]; exact hx2
              obtain ⟨ys, rfl⟩ := List.getLast?_eq_some_iff.mp hx3
              exact atI_last _ _
            refine w_ixL hF5 e2 ?_
            walk_at "go"
            have g1 : t[d.toNat]? = some (t[d.toNat]'(by omega)) := List.getElem?_eq_getElem _
            have g2 : t[xs.length - 1]? = some (t[xs.length - 1]'(by omega)) := List.getElem?_eq_getElem _
            have r1 := hrow _ (List.mem_of_getElem? g1)
            have r2' := hrow _ (List.mem_of_getElem? g2)
            refine ⟨g, x1, x2, _, _, rfl, hg0, hg13, RowV.kt (RowV.kt (hx.2 _ x1 _ hx1 g1) kt3) kt5, RowV.kt (RowV.kt (hx.2 _ x2 _ hx2 g2) kt3) kt5, by rw [r1.1, r2'.1], by rw [r1.1]; omega, fun a ha => (r1.2 a ha).2.bd (by decide), fun a ha => (r2'.2 a ha).2.bd (by decide), fun r6 H6 s6 hr6 => ?_⟩
            walk_at "go"
            have hF6 := s6 _ _ hF5
            refine ⟨.inl ⟨rfl, _, SqL.of hF6⟩, ?_⟩
            walk_at "go"
            refine w_append hF6 (by omega) ?_
            refine ⟨⟨_, _, _, rfl⟩, fin _ _ _ (mv3.trans ((Mv.same s4).trans (m5.trans (Mv.same s6)))) (hb5.same s6) (kt3.trans (kt5.trans (Kt.of s6))) hF6 hr6 (by rw [List.length_zipWith, r1.1, r2'.1]; omega) fun a ha => ?_⟩
            obtain ⟨x, hx', rfl⟩ := List.mem_iff_getElem.mp ha
            rw [List.length_zipWith] at hx'
            rw [List.getElem_zipWith]
            exact nt_plus hg2 (by omega) (r1.2 _ (List.getElem_mem _)) (r2'.2 _ (List.getElem_mem _))
          · walk_at "go"
            refine ⟨.inl ⟨rfl, _, SqL.of (s4 _ _ hF3)⟩, ?_⟩
            walk_at "go"
            refine w_append (s4 _ _ hF3) (by omega) ?_
            exact ⟨⟨_, _, _, rfl⟩, fin _ _ _ (mv3.trans (Mv.same s4)) (hb3.same s4) (kt3.trans (Kt.of s4)) (s4 _ _ hF3) (RowV.kt hr3 (Kt.of s4)) hl2 hn3⟩
        · walk_at "go"
          refine ⟨.inl ⟨rfl, _, SqL.of hF3⟩, ?_⟩
          walk_at "go"
          refine w_append hF3 (by omega) ?_
          exact ⟨⟨_, _, _, rfl⟩, fin _ _ _ mv3 hb3 kt3 hF3 hr3 hl2 hn3⟩
    · obtain ⟨⟨y5, y6, y7, rfl⟩, mv, hbi, xs, t, hxs, hl, hx, hrow⟩ := hP
      walk_at "go"
      refine ⟨_, _, rfl, .inl ⟨SqL.of hxs, fun l hl2 => ?_⟩⟩
      have s2 := same_upd (o := .tup xs) hl2
      have h2 : (upd H' l (.tup xs)) l = some (.tup xs) := upd_same
      refine q _ _ t ((hx.mono fun x a h => RowV.kt h (Kt.of s2)).sq hl.symm h2) hl (fun r hr => ⟨(hrow r hr).1, fun a ha => ⟨((hrow r hr).2 a ha).1.mono (by omega), ((hrow r hr).2 a ha).2⟩⟩) (mv.trans (Mv.same s2)) (hbi.same s2)
theorem ok_beside_ones {f : Addr} {fd : FuncData} (F : FnP K "beside_ones" s_beside_ones f fd)
    {f_table_of_ones : Addr} {fd_table_of_ones : FuncData} (F_table_of_ones : FnP K "table_of_ones" s_table_of_ones f_table_of_ones fd_table_of_ones) (b_table_of_ones : Binds K fd_table_of_ones ["many"] []) (g_table_of_ones : mg "table_of_ones" = some (.ref f_table_of_ones)) (G_table_of_ones : FnOk P w K mg base CX0 1 f_table_of_ones fd_table_of_ones ["many"] (sp_table_of_ones K))
    {f_least_rows : Addr} {fd_least_rows : FuncData} (F_least_rows : FnP K "least_rows" s_least_rows f_least_rows fd_least_rows) (b_least_rows : Binds K fd_least_rows ["ground", "rows"] []) (g_least_rows : mg "least_rows" = some (.ref f_least_rows)) (G_least_rows : FnOk P w K mg base CX0 5 f_least_rows fd_least_rows ["ground", "rows"] (sp_least_rows K)) (m_len : mg "len" = none) (m_tuple : mg "tuple" = none) (m_zip : mg "zip" = none) :
    FnOk P w K mg base CX0 6 f fd ["ground", "table"] (sp_beside_ones K) := by
  refine F.ok sc_beside_ones (fun vs H Q E h => ?_) (fun cdv A outer s H vs Q E hr h => ?_)
  · obtain ⟨g, v, t, n, k, kb, A, F', R, W, rfl, hg, hv, ht, hkb0, hkb, hn, hz, hk4, hk, q⟩ := h
    rfl
  · obtain ⟨g, v, t, n, k, kb, A, F', R, W, rfl, hg, hv, ht, hkb0, hkb, hn, hz, hk4, hk, q⟩ := h
    refine ⟨_, PSs.nox (pss_cons (ps_set (i := 2) sc_beside_ones.nd rfl (.inl rfl) (pe_call G_table_of_ones (hr.mono (by decide)) (by rfl) g_table_of_ones F_table_of_ones.kp b_table_of_ones .nil pass0 (pa_cons (pe_callB call_len_seq (by rfl) m_len (by decide +kernel) (pa_cons (pv 1) pa_nil)) pa_nil)))
        (pss_one (ps_ret (pe_call G_least_rows hr (by rfl) g_least_rows F_least_rows.kp b_least_rows .nil pass0 (pa_cons (pv 0) (pa_cons (pe_callTy call_tuple_of (by rfl) m_tuple (by decide +kernel) (pa_cons (pe_lc (own := [("row", 3), ("one", 4)]) (g := gTup K 2 (gCons (gName 3) (gCons (gName 4) (gNil)))) (tt := tYes) (by rfl) sc_beside_ones.nd (RZ.pi_zipA (by rfl) m_zip (pa_cons (pv 1) (pa_cons (pv 2) pa_nil))) (blkOk_by (own := [("row", 3), ("one", 4)]) (N := ["ground", "table", "ones", "row", "one"]) (sc := defScope s_beside_ones) (by decide +kernel)) (fun _ _ _ _ _ => (pg_tup rfl (pgs_cons (pg_name (i := 3) sc_beside_ones.nd rfl (.inl rfl)) (pgs_cons (pg_name (i := 4) sc_beside_ones.nd rfl (.inl rfl)) pgs_nil)))) (fun _ _ _ _ _ => pts_nil) (fun _ _ _ _ _ => (pe_op (r := rCatA K) op_catA (pv 3) (pv 4)))) pa_nil)) pa_nil)))))), ?_⟩
    obtain ⟨p, xs, rfl, hp, hlx, hxs⟩ := hv
    walk_at "go"
    refine ⟨p, xs, rfl, .inr (SqT.of hp), ?_⟩
    walk_at "go"
    refine ⟨xs.length, rfl, by omega, fun vo H1 s1 ho => ?_⟩
    rw [hlx] at ho
    obtain ⟨po, ys, rfl, hpo, hly, hys⟩ := ho
    have hol : (onesF t.length).length = t.length := by unfold onesF; rw [List.length_map, List.length_range]
    walk_at "go"
    refine ⟨p, po, xs, ys, rfl, .inr ⟨SqT.of (s1 _ _ hp), SqT.of hpo, fun D hD => ?_⟩⟩
    refine lc_it (walk_zipT (xs := xs) (ys := ys) (n := t.length) (by omega)) (fun i H' => Same H1 H' ∧ ∃ zs, H' D = some (.lst zs) ∧ Acc RowV H' zs (besF t) i) ⟨Same.updD (Same.refl H1) hD, [], upd_same, Acc.nil⟩ (fun i H' _ hP => ⟨SqT.of (hP.1 _ _ (s1 _ _ hp)), SqT.of (hP.1 _ _ hpo)⟩) (fun i v Ha Hb hi hP hY => ?_) (fun H' hP => ?_)
    · obtain ⟨sm, zs, hD', hacc⟩ := hP
      obtain ⟨T, u, v', rfl, hT, rfl, hu, hv⟩ := hY
      have s2 : Same Ha (upd Ha T (.tup [u, v'])) := same_upd hT
      have hTT : (upd Ha T (.tup [u, v'])) T = some (.tup [u, v']) := upd_same
      generalize upd Ha T (.tup [u, v']) = H2 at s2 hTT ⊢
      have gt1 : t[i]? = some t[i] := List.getElem?_eq_getElem hi
      have go1 := ones_get hi
      obtain ⟨pu, us, rfl, hpu, hul, hua⟩ := sqv_acc (RowV.kt (hxs i u _ hu gt1) (Kt.of (s1.trans (sm.trans s2))))
      obtain ⟨pv, vs, rfl, hpv, hvl, hva⟩ := sqv_acc (RowV.kt (hys i v' _ hv go1) (Kt.of (sm.trans s2)))
      have hrl := (ht _ (List.getElem_mem hi)).1
      walk_at "go"
      refine ⟨rfl, ?_⟩
      walk_at "go"
      refine w_catX hpu hpv (by rw [hul, hvl, List.length_map, List.length_range]; omega) fun q3 H3 s3 h3 => ?_
      have h3D := s3 _ _ (s2 _ _ hD')
      have kt : Kt Ha (upd H3 D (.lst (zs ++ [V.ref q3]))) := (Kt.of (s2.trans s3)).trans (Kt.updL h3D)
      refine ⟨zs, h3D, small1000 (by rw [hacc.1]; omega), Same.updD (sm.trans (s2.trans s3)) hD, _, upd_same, ?_⟩
      refine (hacc.mono fun x a h => RowV.kt h kt).snoc (bes_get gt1) (RowV.kt (acc_sqv h3 (acc_cat (hua.mono fun x a h => NumV.kt h (Kt.of s3)) (hva.mono fun x a h => NumV.kt h (Kt.of s3)))) (Kt.updL h3D))
    · obtain ⟨sm, zs, hD', hacc⟩ := hP
      walk_at "go"
      refine ⟨_, _, rfl, .inl ⟨SqL.of hD', fun l hl => ?_⟩⟩
      have s2 := same_upd (o := HO.tup zs) hl
      refine ⟨g, .ref l, besF t, n + t.length, k, kb, A, F', R, W, rfl, hg, (hacc.mono fun x a h => RowV.kt h (Kt.of s2)).sq (bes_len t).symm upd_same, bes_ok hg hkb0 ht, by omega, hkb, hn, by rw [bes_len]; omega, fun e => ?_, hk4, hk, fun v2 H2 T s3 h3 hL _ => ?_⟩
      · rw [bes_len]
        exact hz e
      · exact q v2 H2 T (s1.trans (sm.trans (s2.trans s3))) h3 hL
theorem ok_nought_rows {f : Addr} {fd : FuncData} (F : FnP K "nought_rows" s_nought_rows f fd)
    {f_beside_ones : Addr} {fd_beside_ones : FuncData} (F_beside_ones : FnP K "beside_ones" s_beside_ones f_beside_ones fd_beside_ones) (b_beside_ones : Binds K fd_beside_ones ["ground", "table"] []) (g_beside_ones : mg "beside_ones" = some (.ref f_beside_ones)) (G_beside_ones : FnOk P w K mg base CX0 6 f_beside_ones fd_beside_ones ["ground", "table"] (sp_beside_ones K))
    {f_is_all_nought : Addr} {fd_is_all_nought : FuncData} (F_is_all_nought : FnP K "is_all_nought" s_is_all_nought f_is_all_nought fd_is_all_nought) (b_is_all_nought : Binds K fd_is_all_nought ["row"] []) (g_is_all_nought : mg "is_all_nought" = some (.ref f_is_all_nought)) (G_is_all_nought : FnOk P w K mg base CX0 1 f_is_all_nought fd_is_all_nought ["row"] (sp_is_all_nought K)) (m_len : mg "len" = none) (m_tuple : mg "tuple" = none) :
    FnOk P w K mg base CX0 7 f fd ["ground", "table"] (sp_nought_rows K) := by
  refine F.ok sc_nought_rows (fun vs H Q E h => ?_) (fun cdv A outer s H vs Q E hr h => ?_)
  · obtain ⟨g, v, t, n, k, kb, A, F', R, W, rfl, hg, hv, ht, hne, hkb0, hkb, hn, hz, hk4, hk, q⟩ := h
    rfl
  · obtain ⟨g, v, t, n, k, kb, A, F', R, W, rfl, hg, hv, ht, hne, hkb0, hkb, hn, hz, hk4, hk, q⟩ := h
    refine ⟨_, PSs.nox (pss_cons (ps_set (i := 2) sc_nought_rows.nd rfl (.inr rfl) (pe_callB call_len_seq (by rfl) m_len (by decide +kernel) (pa_cons (pe_ix ix_tup (pv 1) pe_int (fun _ _ => rfl)) pa_nil)))
        (pss_cons (ps_set (i := 3) sc_nought_rows.nd rfl (.inl rfl) (pe_call G_beside_ones hr (by rfl) g_beside_ones F_beside_ones.kp b_beside_ones .nil pass0 (pa_cons (pv 0) (pa_cons (pv 1) pa_nil))))
        (pss_one (ps_ret (pe_callTy call_tuple_of (by rfl) m_tuple (by decide +kernel) (pa_cons (pe_lc (own := [("row", 4)]) (g := gName 4) (by rfl) sc_nought_rows.nd (pi_tup (pv 3)) (blkOk_by (own := [("row", 4)]) (N := ["ground", "table", "wide", "rows", "row"]) (sc := defScope s_nought_rows) (by decide +kernel)) (fun _ _ _ _ _ => (pg_name (i := 4) sc_nought_rows.nd rfl (.inl rfl))) (fun _ _ _ _ _ => (pts_one (pt_val (pe_call G_is_all_nought (hr.mono (by decide)) (by rfl) g_is_all_nought F_is_all_nought.kp b_is_all_nought .nil pass0 (pa_cons (pe_slice (r := rSlA K) sl_tupA (pv 4) po_none (po_some (pv 2))) pa_nil))))) (fun _ _ _ _ _ => (pe_slice (r := rSlA K) sl_tupA (pv 4) (po_some (pv 2)) po_none))) pa_nil)))))), ?_⟩
    have hv0 := hv
    obtain ⟨p, xs, rfl, hp, hlx, hxs⟩ := hv
    have hpos : 0 < t.length := List.length_pos_iff.mpr hne
    have gt0 : t[0]? = some t[0] := List.getElem?_eq_getElem hpos
    have gx0 : xs[0]? = some (xs[0]'(by omega)) := List.getElem?_eq_getElem _
    obtain ⟨p0, xs0, e0, hp0, hl0, _⟩ := hxs 0 _ _ gx0 gt0
    have hr0 := (ht _ (List.getElem_mem hpos)).1
    rw [e0] at gx0
    walk_at "go"
    refine w_ixT hp (atI_nat (j := 0) gx0) ?_
    walk_at "go"
    refine ⟨p0, xs0, rfl, .inr (SqT.of hp0), ?_⟩
    rw [show xs0.length = n by omega]
    walk_at "go"
    refine ⟨g, .ref p, t, n, k, kb, A, F', R, W, rfl, hg, hv0, ht, hkb0, hkb, hn, hz, hk4, hk, fun v1 H1 T s1 h1 hL => ?_⟩
    obtain ⟨hTl, s, hs, hiff, hB, hZ, hlin⟩ := bes_least hg (fun r hr => (ht r hr).1) hL
    have hf : T.filter (fun r => nghtR (r.take n)) = T.drop s := filter_drop fun i r e => by
      have hr := hL.row r (List.mem_of_getElem? e)
      rw [nght_iff (V := W) hg hr.1 hr.2]
      exact (hiff i r e).symm
    obtain ⟨p1, xs1, rfl, hp1, hlx1, hxs1⟩ := h1
    walk_at "go"
    refine ⟨p1, rfl, ⟨xs1, SqT.of hp1⟩, fun D hD => ?_⟩
    refine lc_tup (xs := xs1) (fun i H' => Same H1 H' ∧ ∃ ys, H' D = some (.lst ys) ∧ Acc RowV H' ys (((T.take i).filter fun r => nghtR (r.take n)).map fun r => r.drop n) (((T.take i).filter fun r => nghtR (r.take n)).map fun r => r.drop n).length) ⟨Same.updD (Same.refl H1) hD, [], upd_same, Acc.nil⟩ (fun i H' _ hP => SqT.of (hP.1 _ _ hp1)) (fun i x H' hxi hP => ?_) (fun H' hP => ?_)
    · obtain ⟨sm, ys, hD', hacc⟩ := hP
      have hi : i < T.length := by
        have := (List.getElem?_eq_some_iff.mp hxi).1
        omega
      have gti : T[i]? = some T[i] := List.getElem?_eq_getElem hi
      have hri := hL.row _ (List.getElem_mem hi)
      obtain ⟨pu, us, rfl, hpu, hul, hua⟩ := sqv_acc (RowV.kt (hxs1 i x _ hxi gti) (Kt.of sm))
      have hlz : ys.length ≤ i := by
        rw [hacc.1, List.length_map]
        refine Nat.le_trans (List.length_filter_le _ _) ?_
        rw [List.length_take]
        omega
      walk_at "go"
      refine ⟨rfl, ?_⟩
      walk_at "go"
      refine w_slX hpu fun q2 H2 s2 h2 => ?_
      rw [cut_take] at h2
      walk_at "go"
      refine ⟨.ref q2, T[i].take n, rfl, acc_sqv h2 ((acc_take hua rfl).mono fun x a h => NumV.kt h (Kt.of s2)), by rw [List.length_take]; omega, fun H3 s3 => ?_⟩
      have s23 := s2.trans s3
      walk_at "go"
      refine w_iteB (fun hc => ?_) (fun hc => ?_)
      · walk_at "go"
        refine w_slX (s23 _ _ hpu) fun q4 H4 s4 h4 => ?_
        rw [cut_drop] at h4
        have h4D := s4 _ _ (s23 _ _ hD')
        have kt : Kt H' (upd H4 D (.lst (ys ++ [V.ref q4]))) := (Kt.of (s23.trans s4)).trans (Kt.updL h4D)
        refine ⟨ys, h4D, small1000 (by omega), Same.updD (sm.trans (s23.trans s4)) hD, _, upd_same, ?_⟩
        rw [List.take_add_one, gti, Option.toList_some, List.filter_append, List.filter_cons, if_pos hc, List.filter_nil, List.map_append]
        exact acc_cat (hacc.mono fun x a h => RowV.kt h kt) (acc_one (RowV.kt (acc_sqv h4 ((acc_drop hua rfl).mono fun x a h => NumV.kt h (Kt.of (s23.trans s4)))) (Kt.updL h4D)))
      · refine ⟨sm.trans s23, ys, s23 _ _ hD', ?_⟩
        rw [List.take_add_one, gti, Option.toList_some, List.filter_append, List.filter_cons, if_neg (by rw [hc]; exact Bool.false_ne_true), List.filter_nil, List.append_nil]
        exact hacc.mono fun x a h => RowV.kt h (Kt.of s23)
    · obtain ⟨sm, ys, hD', hacc⟩ := hP
      rw [List.take_of_length_le (show T.length ≤ xs1.length by omega), hf] at hacc
      walk_at "go"
      refine ⟨_, _, rfl, .inl ⟨SqL.of hD', fun l hl => ?_⟩⟩
      refine q _ _ _ _ (s1.trans (sm.trans (same_upd hl))) (acc_sqv upd_same (hacc.mono fun x a h => RowV.kt h (Kt.of (same_upd hl)))) hZ hB ?_ hlin
      rw [List.length_map, List.length_map, List.length_take, List.length_drop]
      omega
theorem ok__law_is_told {f : Addr} {fd : FuncData} (F : FnP K "_law_is_told" s__law_is_told f fd)
    {f_least_rows : Addr} {fd_least_rows : FuncData} (F_least_rows : FnP K "least_rows" s_least_rows f_least_rows fd_least_rows) (b_least_rows : Binds K fd_least_rows ["ground", "rows"] []) (g_least_rows : mg "least_rows" = some (.ref f_least_rows)) (G_least_rows : FnOk P w K mg base CX0 5 f_least_rows fd_least_rows ["ground", "rows"] (sp_least_rows K))
    {f_nought_rows : Addr} {fd_nought_rows : FuncData} (F_nought_rows : FnP K "nought_rows" s_nought_rows f_nought_rows fd_nought_rows) (b_nought_rows : Binds K fd_nought_rows ["ground", "table"] []) (g_nought_rows : mg "nought_rows" = some (.ref f_nought_rows)) (G_nought_rows : FnOk P w K mg base CX0 7 f_nought_rows fd_nought_rows ["ground", "table"] (sp_nought_rows K))
    {f__law_are_least : Addr} {fd__law_are_least : FuncData} (F__law_are_least : FnP K "_law_are_least" s__law_are_least f__law_are_least fd__law_are_least) (b__law_are_least : Binds K fd__law_are_least ["_law_g", "_law_rows_here", "_law_wide"] []) (g__law_are_least : mg "_law_are_least" = some (.ref f__law_are_least)) (G__law_are_least : FnOk P w K mg base CX0 4 f__law_are_least fd__law_are_least ["_law_g", "_law_rows_here", "_law_wide"] (sp__law_are_least K))
    {f__law_least : Addr} {fd__law_least : FuncData} (F__law_least : FnP K "_law_least" s__law_least f__law_least fd__law_least) (b__law_least : Binds K fd__law_least ["_law_g", "_law_rows_here"] []) (g__law_least : mg "_law_least" = some (.ref f__law_least)) (G__law_least : FnOk P w K mg base CX0 5 f__law_least fd__law_least ["_law_g", "_law_rows_here"] (sp__law_least K))
    {f__law_through : Addr} {fd__law_through : FuncData} (F__law_through : FnP K "_law_through" s__law_through f__law_through fd__law_through) (b__law_through : Binds K fd__law_through ["_law_g", "_law_row_here", "_law_table"] []) (g__law_through : mg "_law_through" = some (.ref f__law_through)) (G__law_through : FnOk P w K mg base CX0 5 f__law_through fd__law_through ["_law_g", "_law_row_here", "_law_table"] (sp__law_through K)) (m_all : mg "all" = none) (m_len : mg "len" = none) (m_tuple : mg "tuple" = none) :
    FnOk P w K mg base CX0 8 f fd ["_law_g", "_law_rows_here", "_law_wide"] (sp__law_is_told K) := by
  refine F.ok sc__law_is_told (fun vs H Q E h => ?_) (fun cdv A outer s H vs Q E hr h => ?_)
  · obtain ⟨g, v, t, n, rfl, hgr, hv, ht, hn, htl, q⟩ := h
    rfl
  · obtain ⟨g, v, t, n, rfl, hgr, hv, ht, hn, htl, q⟩ := h
    refine ⟨_, PSs.nox (pss_cons (ps_set (i := 3) sc__law_is_told.nd rfl (.inl rfl) (pe_call G_least_rows (hr.mono (by decide)) (by rfl) g_least_rows F_least_rows.kp b_least_rows .nil pass0 (pa_cons (pv 0) (pa_cons (pv 1) pa_nil))))
        (pss_cons (ps_if (PW.pt (pw_or (pt_not (pt_val (pe_call G__law_are_least (hr.mono (by decide)) (by rfl) g__law_are_least F__law_are_least.kp b__law_are_least .nil pass0 (pa_cons (pv 0) (pa_cons (pv 3) (pa_cons (pv 2) pa_nil)))))) (pw_or1 (pt_cmpR (op_neD hr.units) (pv 3) (pe_call G__law_least (hr.mono (by decide)) (by rfl) g__law_least F__law_least.kp b__law_least .nil pass0 (pa_cons (pv 0) (pa_cons (pv 1) pa_nil))) (nomark _))))) (pss_one (ps_ret pe_bl)) pss_nil)
        (pss_cons (ps_if (pt_cmpR (op_eqD hr.units) (pv 1) (pe_tup pa_nil) (nomark _)) (pss_one (ps_ret (pe_cmpR (op_eqD hr.units) (pv 3) (pe_tup pa_nil) (nomark _)))) pss_nil)
        (pss_cons (ps_set (i := 4) sc__law_is_told.nd rfl (.inl rfl) (pe_call G_nought_rows hr (by rfl) g_nought_rows F_nought_rows.kp b_nought_rows .nil pass0 (pa_cons (pv 0) (pa_cons (pv 1) pa_nil))))
        (pss_cons (ps_if (PW.pt (pw_or (pt_not (pt_val (pe_call G__law_are_least (hr.mono (by decide)) (by rfl) g__law_are_least F__law_are_least.kp b__law_are_least .nil pass0 (pa_cons (pv 0) (pa_cons (pv 4) (pa_cons (pe_callB call_len_seq (by rfl) m_len (by decide +kernel) (pa_cons (pv 1) pa_nil)) pa_nil)))))) (pw_or1 (pt_cmpR op_ne (pe_callB call_len_seq (by rfl) m_len (by decide +kernel) (pa_cons (pv 4) pa_nil)) (pe_op op_sub (pe_callB call_len_seq (by rfl) m_len (by decide +kernel) (pa_cons (pv 1) pa_nil)) (pe_callB call_len_seq (by rfl) m_len (by decide +kernel) (pa_cons (pv 3) pa_nil))) (nomark _))))) (pss_one (ps_ret pe_bl)) pss_nil)
        (pss_one (ps_ret (pe_callB (cr_all rfl) (by rfl) m_all (by decide +kernel) (pa_cons (pe_lc (own := [("_law_row_here", 5)]) (g := gName 5) (tt := tYes) (by rfl) sc__law_is_told.nd (pi_tup (pv 4)) (blkOk_by (own := [("_law_row_here", 5)]) (N := ["_law_g", "_law_rows_here", "_law_wide", "_law_told", "_law_left", "_law_row_here"]) (sc := defScope s__law_is_told) (by decide +kernel)) (fun _ _ _ _ _ => (pg_name (i := 5) sc__law_is_told.nd rfl (.inl rfl))) (fun _ _ _ _ _ => pts_nil) (fun _ _ _ _ _ => (pe_cmpR (r := rEqD K) (op_eqD hr.units) (pe_call G__law_through (hr.mono (by decide)) (by rfl) g__law_through F__law_through.kp b__law_through .nil pass0 (pa_cons (pv 0) (pa_cons (pv 5) (pa_cons (pv 1) pa_nil)))) (pe_callTy (r := rTupOf K) call_tupOf (by rfl) m_tuple (by decide +kernel) (pa_cons (pe_op op_rep (pe_lst (pa_cons (pe_tup (pa_cons pe_int (pa_cons pe_int pa_nil))) pa_nil)) (pv 2)) pa_nil)) (nomark _)))) pa_nil))))))))), ?_⟩
    have hg := hgr.two
    have ⟨hg0, hg13⟩ := hgr.bd
    obtain ⟨F', R, ⟨W⟩⟩ := gv_any hg
    have ht40 : ∀ r ∈ t, r.length = n ∧ ∀ a ∈ r, TN g 40 a := fun r hr => ⟨(ht r hr).1, fun a ha => ((ht r hr).2 a ha).2⟩
    have hng : g = 0 → ∀ r ∈ t, ∀ a ∈ r, NG 0 9 a := fun e r hr a ha => by
      subst e
      exact ((ht r hr).2 a ha).1
    walk_at "go"
    refine ⟨g, v, t, n, 300, 40, AA, F', R, W, rfl, hg, hv, ht40, by decide, by decide, by omega, by omega, fun e => ⟨fun r hr => (ng_wr (hng e r hr)).2, by decide, aa_rows htl⟩, by decide, by decide, fun v1 H1 T s1 h1 hL1 _ => ?_⟩
    walk_at "go"
    refine ⟨g, v1, T, n, 300, F', R, W, rfl, hg, h1, hL1.ls, by decide, by omega, fun H2 s2 => ?_⟩
    have s02 := s1.trans s2
    walk_at "go"
    refine iteF ?_
    walk_at "go"
    refine ⟨g, v, t, n, 400, AA, F', R, W, rfl, hg, TabV.kt hv (Kt.of s02), fun r hr => ⟨(ht40 r hr).1, fun a ha => ((ht40 r hr).2 a ha).mono (by decide)⟩, by omega, by omega, fun e => ⟨fun r hr => ng_wr (hng e r hr), by decide, aa_law hn⟩, by decide, by decide, fun v3 H3 T3 s3 h3 hL3 => ?_⟩
    have h13 := TabV.kt h1 (Kt.of (s2.trans s3))
    have eT : T = T3 := hL1.uniq hg hL3 (fun r hr => InS.mem (List.mem_map.mpr ⟨r, hr, rfl⟩)) (fun r hr => InS.mem (List.mem_map.mpr ⟨r, hr, rfl⟩))
    refine w_neTab h13 h3 eT ?_
    walk_at "go"
    refine w_new (by simp) fun p4 H4 hp4 s4 h4 => ?_
    have s04 := s02.trans (s3.trans s4)
    have hv4 := TabV.kt hv (Kt.of s04)
    have h14 := TabV.kt h13 (Kt.of s4)
    have hnil : ∀ {H : Hp} {p : Addr}, H p = some (.tup []) → TabV H (.ref p) [] := fun h => acc_sqv h Acc.nil
    refine w_eqTabNil hv4 (hnil h4) ?_
    walk_at "go"
    refine w_ite (fun hc => ?_) (fun hc => ?_)
    · subst hc
      walk_at "go"
      refine w_new (by simp) fun p5 H5 hp5 s5 h5 => ?_
      have eT0 : T = [] := hL1.uniq hg (least_nil W n 4) (fun r hr => (by cases hr)) (fun r hr => (by cases hr))
      refine w_eqTabNil (TabV.kt h14 (Kt.of s5)) (hnil h5) ?_
      rw [decide_eq_true eT0]
      exact q _ (s04.trans s5)
    · walk_at "go"
      refine ⟨g, v, t, n, 300, 40, AA, F', R, W, rfl, hg, hv4, ht40, hc, by decide, by decide, by omega, fun e => ⟨ng_bes (hng e), by decide, aa_rows htl⟩, by decide, by decide, fun v5 H5 Z B s5 h5 hZ hB hBZ hlin => ?_⟩
      have eB : B = T := hB.uniq hg hL1 (fun r hr => InS.mem (List.mem_map.mpr ⟨r, hr, rfl⟩)) (fun r hr => InS.mem (List.mem_map.mpr ⟨r, hr, rfl⟩))
      subst eB
      have hv5 := TabV.kt hv4 (Kt.of s5)
      have h15 := TabV.kt h14 (Kt.of s5)
      obtain ⟨pv, xv, ev, hpv, hlv, hav⟩ := sqv_acc hv5
      obtain ⟨p1, x1, e1, hp1, hl1, ha1⟩ := sqv_acc h15
      obtain ⟨p5, x5, e5, hp5, hl5, ha5⟩ := sqv_acc h5
      subst ev e1 e5
      walk_at "go"
      refine ⟨pv, xv, rfl, .inr (SqT.of hpv), ?_⟩
      walk_at "go"
      refine ⟨g, .ref p5, Z, t.length, 300, F', R, W, by rw [hlv]; rfl, hg, h5, hZ, by decide, by omega, fun H6 s6 => ?_⟩
      walk_at "go"
      refine iteF ?_
      walk_at "go"
      refine ⟨p5, x5, rfl, .inr (SqT.of (s6 _ _ hp5)), ?_⟩
      walk_at "go"
      refine ⟨pv, xv, rfl, .inr (SqT.of (s6 _ _ hpv)), ?_⟩
      walk_at "go"
      refine ⟨p1, x1, rfl, .inr (SqT.of (s6 _ _ hp1)), ?_⟩
      walk_at "go"
      refine w_iteN (fun hc => absurd (show (x5.length : Int) = (xv.length : Int) - (x1.length : Int) by omega) hc) (fun _ => ?_)
      walk_at "go"
      refine ⟨p5, rfl, ⟨_, SqT.of (s6 _ _ hp5)⟩, fun D hD => ?_⟩
      refine lc_tup (xs := x5) (fun i H' => Same H6 H' ∧ H' D = some (.lst ((List.replicate i true).map V.bl))) ⟨Same.updD (Same.refl H6) hD, upd_same⟩ (fun i H' _ hP => SqT.of (hP.1 _ _ (s6 _ _ hp5))) (fun i x H' hxi hP => ?_) (fun H7 hP => ?_)
      · obtain ⟨sm, hD'⟩ := hP
        have hi : i < Z.length := by
          have := (List.getElem?_eq_some_iff.mp hxi).1
          omega
        have gz : Z[i]? = some Z[i] := List.getElem?_eq_getElem hi
        have hr := hZ.1 _ (List.getElem_mem hi)
        have hZl : Z.length ≤ 10 := by omega
        have hx1 := RowV.kt (ha5.2 i x _ hxi gz) (Kt.of (s6.trans sm))
        walk_at "go"
        refine ⟨rfl, ?_⟩
        walk_at "go"
        refine ⟨g, x, .ref pv, Z[i], t, n, 300, 27, F', R, W, rfl, hg, hx1, TabV.kt hv5 (Kt.of (s6.trans sm)), hr.1, hc, by omega, by omega, hr.2, fun r hr => ⟨(ht r hr).1, fun a ha => ng_tn hg ((ht r hr).2 a ha).1 ((ht r hr).2 a ha).2⟩, by decide, by decide, by decide, by decide, by omega, fun v8 H8 w s8 h8 hwl htw her => ?_⟩
        have ew : w = List.replicate n (0, 1) := by
          refine List.ext_getElem (by rw [hwl, List.length_replicate]) fun j h1 h2 => ?_
          rw [List.getElem_replicate]
          refine W.inj hg (htw _ (List.getElem_mem h1)) (tn_zero hg) ?_
          rw [← er_at h1, her j (by omega), W.zero]
          exact hlin _ (List.getElem_mem hi) j (by omega)
        walk_at "go"
        refine w_new (by simp) fun u H9 hu s9 h9 => ?_
        walk_at "go"
        refine w_new (by simp) fun l H10 hl10 s10 h10 => ?_
        walk_at "go"
        refine w_rep h10 (by omega) (by omega) (by simp) ?_
        refine w_newO fun l6 H11 hl11 s11 h11 => ?_
        walk_at "go"
        refine ⟨_, _, rfl, .inl ⟨SqL.of h11, fun l7 hl7 => ?_⟩⟩
        rw [Int.toNat_natCast]
        have s12 := same_upd (o := HO.tup (List.replicate n [V.ref u]).flatten) hl7
        have h12 : (upd H11 l7 (.tup (List.replicate n [V.ref u]).flatten)) l7 = some (.tup (List.replicate n [V.ref u]).flatten) := upd_same
        generalize upd H11 l7 (.tup (List.replicate n [V.ref u]).flatten) = H12 at s12 h12 ⊢
        have s912 := s9.trans (s10.trans (s11.trans s12))
        have h8' := RowV.kt h8 (Kt.of s912)
        rw [ew] at h8'
        refine w_eqRow h8' (row_zeros (s12 _ _ (s11 _ _ (s10 _ _ h9))) h12) ?_
        have s8b := s8.trans s912
        refine ⟨_, s8b _ _ hD', ?_, Same.updD (sm.trans s8b) hD, ?_⟩
        · rw [List.length_map, List.length_replicate]
          exact small1000 (by omega)
        · rw [upd_same, List.replicate_succ', List.map_append]
          rfl
      · obtain ⟨sm, hD'⟩ := hP
        walk_at "go"
        refine ⟨D, List.replicate x5.length true, rfl, SqL.of hD', ?_⟩
        have ea2 : (List.replicate x5.length true).all id = true := by
          rw [List.all_eq_true]
          intro x hx
          rw [List.eq_of_mem_replicate hx]
          rfl
        rw [ea2]
        exact q _ (s04.trans (s5.trans (s6.trans sm)))
theorem ok_law {f : Addr} {fd : FuncData} (F : FnP K "law" s_law f fd)
    {f__law_bag : Addr} {fd__law_bag : FuncData} (F__law_bag : FnP K "_law_bag" s__law_bag f__law_bag fd__law_bag) (b__law_bag : Binds K fd__law_bag ["_law_script", "_law_at"] []) (g__law_bag : mg "_law_bag" = some (.ref f__law_bag)) (G__law_bag : FnOk P w K mg base CX0 1 f__law_bag fd__law_bag ["_law_script", "_law_at"] (sp__law_bag K))
    {f__law_ground : Addr} {fd__law_ground : FuncData} (F__law_ground : FnP K "_law_ground" s__law_ground f__law_ground fd__law_ground) (b__law_ground : Binds K fd__law_ground ["_law_bag_here"] []) (g__law_ground : mg "_law_ground" = some (.ref f__law_ground)) (G__law_ground : FnOk P w K mg base CX0 2 f__law_ground fd__law_ground ["_law_bag_here"] (sp__law_ground K))
    {f__law_rows : Addr} {fd__law_rows : FuncData} (F__law_rows : FnP K "_law_rows" s__law_rows f__law_rows fd__law_rows) (b__law_rows : Binds K fd__law_rows ["_law_bag_here", "_law_g", "_law_high", "_law_wide"] []) (g__law_rows : mg "_law_rows" = some (.ref f__law_rows)) (G__law_rows : FnOk P w K mg base CX0 5 f__law_rows fd__law_rows ["_law_bag_here", "_law_g", "_law_high", "_law_wide"] (sp__law_rows K))
    {f_least_rows : Addr} {fd_least_rows : FuncData} (F_least_rows : FnP K "least_rows" s_least_rows f_least_rows fd_least_rows) (b_least_rows : Binds K fd_least_rows ["ground", "rows"] []) (g_least_rows : mg "least_rows" = some (.ref f_least_rows)) (G_least_rows : FnOk P w K mg base CX0 5 f_least_rows fd_least_rows ["ground", "rows"] (sp_least_rows K))
    {f_nought_rows : Addr} {fd_nought_rows : FuncData} (F_nought_rows : FnP K "nought_rows" s_nought_rows f_nought_rows fd_nought_rows) (b_nought_rows : Binds K fd_nought_rows ["ground", "table"] []) (g_nought_rows : mg "nought_rows" = some (.ref f_nought_rows)) (G_nought_rows : FnOk P w K mg base CX0 7 f_nought_rows fd_nought_rows ["ground", "table"] (sp_nought_rows K))
    {f__law_take : Addr} {fd__law_take : FuncData} (F__law_take : FnP K "_law_take" s__law_take f__law_take fd__law_take) (b__law_take : Binds K fd__law_take ["_law_bag_here", "_law_many"] []) (g__law_take : mg "_law_take" = some (.ref f__law_take)) (G__law_take : FnOk P w K mg base CX0 1 f__law_take fd__law_take ["_law_bag_here", "_law_many"] (sp__law_take K))
    {f__law_mixed : Addr} {fd__law_mixed : FuncData} (F__law_mixed : FnP K "_law_mixed" s__law_mixed f__law_mixed fd__law_mixed) (b__law_mixed : Binds K fd__law_mixed ["_law_bag_here", "_law_row_here"] []) (g__law_mixed : mg "_law_mixed" = some (.ref f__law_mixed)) (G__law_mixed : FnOk P w K mg base CX0 2 f__law_mixed fd__law_mixed ["_law_bag_here", "_law_row_here"] (sp__law_mixed K))
    {f__law_is_told : Addr} {fd__law_is_told : FuncData} (F__law_is_told : FnP K "_law_is_told" s__law_is_told f__law_is_told fd__law_is_told) (b__law_is_told : Binds K fd__law_is_told ["_law_g", "_law_rows_here", "_law_wide"] []) (g__law_is_told : mg "_law_is_told" = some (.ref f__law_is_told)) (G__law_is_told : FnOk P w K mg base CX0 8 f__law_is_told fd__law_is_told ["_law_g", "_law_rows_here", "_law_wide"] (sp__law_is_told K)) (m_range : mg "range" = none) (m_max : mg "max" = none) (m_tuple : mg "tuple" = none) (m_min : mg "min" = none) (m_len : mg "len" = none) (m_list : mg "list" = none) :
    FnOk P w K mg base CX0 9 f fd ["_law_script"] (sp_law K) := by
  refine F.ok sc_law (fun vs H Q E h => ?_) (fun cdv A outer s H vs Q E hr h => ?_)
  · obtain ⟨a, ns, rfl, hA, q⟩ := h
    rfl
  · obtain ⟨a, ns, rfl, hA, q⟩ := h
    refine ⟨_, PSs.nox (pss_cons (ps_for PassesOwn.never rfl (pi_range1 (by rfl) m_range (pa_cons (pe_callB (call_max2 rfl) (by rfl) m_max (by decide +kernel) (pa_cons pe_int (pa_cons (pe_callB (call_min2 rfl) (by rfl) m_min (by decide +kernel) (pa_cons pe_int (pa_cons (pe_callB call_len_seq (by rfl) m_len (by decide +kernel) (pa_cons (pv 0) pa_nil)) pa_nil))) pa_nil))) pa_nil)) (pg_name (i := 1) sc_law.nd rfl (.inl rfl)) (pss_cons (ps_set (i := 2) sc_law.nd rfl (.inl rfl) (pe_call G__law_bag (hr.mono (by decide)) (by rfl) g__law_bag F__law_bag.kp b__law_bag .nil pass0 (pa_cons (pv 0) (pa_cons (pv 1) pa_nil))))
        (pss_cons (ps_set (i := 3) sc_law.nd rfl (.inl rfl) (pe_call G__law_ground (hr.mono (by decide)) (by rfl) g__law_ground F__law_ground.kp b__law_ground .nil pass0 (pa_cons (pv 2) pa_nil)))
        (pss_cons (ps_set (i := 4) sc_law.nd rfl (.inl rfl) (pe_ix ix_list (pe_lst (pa_cons pe_int (pa_cons pe_int pa_nil))) (pe_op op_fdivZ (pe_call G__law_take (hr.mono (by decide)) (by rfl) g__law_take F__law_take.kp b__law_take .nil pass0 (pa_cons (pv 2) (pa_cons pe_int pa_nil))) pe_int) (fun _ _ => rfl)))
        (pss_cons (ps_set (i := 5) sc_law.nd rfl (.inl rfl) (pe_op op_add pe_int (pe_call G__law_take (hr.mono (by decide)) (by rfl) g__law_take F__law_take.kp b__law_take .nil pass0 (pa_cons (pv 2) (pa_cons (pv 4) pa_nil)))))
        (pss_cons (ps_set (i := 6) sc_law.nd rfl (.inl rfl) (pe_call G__law_rows (hr.mono (by decide)) (by rfl) g__law_rows F__law_rows.kp b__law_rows .nil pass0 (pa_cons (pv 2) (pa_cons (pv 3) (pa_cons (pe_op op_add pe_int (pe_call G__law_take (hr.mono (by decide)) (by rfl) g__law_take F__law_take.kp b__law_take .nil pass0 (pa_cons (pv 2) (pa_cons (pv 4) pa_nil)))) (pa_cons (pv 5) pa_nil))))))
        (pss_cons (ps_set (i := 7) sc_law.nd rfl (.inl rfl) (pe_callTy call_tuple_of (by rfl) m_tuple (by decide +kernel) (pa_cons (pe_call G__law_mixed (hr.mono (by decide)) (by rfl) g__law_mixed F__law_mixed.kp b__law_mixed .nil pass0 (pa_cons (pv 2) (pa_cons (pe_callTy call_list_of (by rfl) m_list (by decide +kernel) (pa_cons (pe_op op_catA (pv 6) (pe_slice sl_tupA (pv 6) po_none (po_some pe_int))) pa_nil)) pa_nil))) pa_nil)))
        (pss_cons (ps_if (PW.pt (pw_or (pt_not (pt_val (pe_call G__law_is_told hr (by rfl) g__law_is_told F__law_is_told.kp b__law_is_told .nil pass0 (pa_cons (pv 3) (pa_cons (pv 6) (pa_cons (pv 5) pa_nil)))))) (pw_or (pt_not (pt_val (pe_call G__law_is_told hr (by rfl) g__law_is_told F__law_is_told.kp b__law_is_told .nil pass0 (pa_cons (pv 3) (pa_cons (pv 7) (pa_cons (pv 5) pa_nil)))))) (pw_or1 (pt_not (pt_val (pe_call G__law_is_told hr (by rfl) g__law_is_told F__law_is_told.kp b__law_is_told .nil pass0 (pa_cons (pv 3) (pa_cons (pe_tup pa_nil) (pa_cons (pv 5) pa_nil)))))))))) (pss_one (ps_ret pe_bl)) pss_nil)
        (pss_cons (ps_set (i := 8) sc_law.nd rfl (.inl rfl) (pe_call G_least_rows (hr.mono (by decide)) (by rfl) g_least_rows F_least_rows.kp b_least_rows .nil pass0 (pa_cons (pv 3) (pa_cons (pv 6) pa_nil))))
        (pss_one (ps_if (PW.pt (pw_or (pt_cmpR (op_neD hr.units) (pv 8) (pe_call G_least_rows (hr.mono (by decide)) (by rfl) g_least_rows F_least_rows.kp b_least_rows .nil pass0 (pa_cons (pv 3) (pa_cons (pv 7) pa_nil))) (nomark _)) (pw_or1 (pt_cmpR (op_neD hr.units) (pv 8) (pe_call G_least_rows (hr.mono (by decide)) (by rfl) g_least_rows F_least_rows.kp b_least_rows .nil pass0 (pa_cons (pv 3) (pa_cons (pv 8) pa_nil))) (nomark _))))) (pss_one (ps_ret pe_bl)) pss_nil)))))))))))
        (pss_one (ps_ret (pe_cmpR (op_eqD hr.units) (pe_call G_nought_rows (hr.mono (by decide)) (by rfl) g_nought_rows F_nought_rows.kp b_nought_rows .nil pass0 (pa_cons pe_int (pa_cons (pe_tup (pa_cons (pe_tup (pa_cons (pe_tup (pa_cons pe_int (pa_cons pe_int pa_nil))) pa_nil)) (pa_cons (pe_tup (pa_cons (pe_tup (pa_cons pe_int (pa_cons pe_int pa_nil))) pa_nil)) pa_nil))) pa_nil))) (pe_tup (pa_cons (pe_tup (pa_cons (pe_tup (pa_cons pe_int (pa_cons pe_int pa_nil))) (pa_cons (pe_tup (pa_cons (pe_un un_neg pe_int) (pa_cons pe_int pa_nil))) pa_nil))) pa_nil)) (nomark _))))), ?_⟩
    walk_at "go"
    refine ⟨a, _, rfl, .inl hA, ?_⟩
    walk_at "go"
    refine ⟨by split <;> (try split) <;> omega, by split <;> (try split) <;> omega, ?_⟩
    refine for_range (fun i σ H' => (∃ y1 y2 y3 y4 y5 y6 y7 y8, σ = [some (.ref a), y1, y2, y3, y4, y5, y6, y7, y8]) ∧ Same H H') ⟨⟨_, _, _, _, _, _, _, _, rfl⟩, Same.refl H⟩ (fun i σ H' hi hP => ?_) (fun σ H' hP => ?_)
    · have hi6 : i < 6 := by
        revert hi
        split <;> (try split) <;> omega
      clear hi
      obtain ⟨⟨y1, y2, y3, y4, y5, y6, y7, y8, rfl⟩, sm⟩ := hP
      walk_at "go"
      refine ⟨a, ns, 0 + i, rfl, sm.seq hA, by omega, by omega, fun b H2 hb0 s2 hb2 => ?_⟩
      have hb00 : H b = none := sm.free hb0
      walk_at "go"
      refine ⟨b, rfl, hb2, fun H3 g hgr m3 hb3 => ?_⟩
      have hg := hgr.two
      have sm3 : Same H H3 := Same.mv (sm.trans s2) hb00 m3
      walk_at "go"
      refine w_new (by simp) fun p4 H4 hp4 s4 h4 => ?_
      walk_at "go"
      refine ⟨b, 8, rfl, by decide, by decide, hb3.same s4, fun H5 d5 h50 h51 m5 hb5 => ?_⟩
      walk_at "go"
      refine w_I (divZ_small (by decide) (by decide)) ?_
      obtain ⟨sz, esz, hsz0, hsz1⟩ := pick59 (i := d5.fdiv 7) (by rw [fdiv_pos _ (by decide)]; omega)
      refine w_ixL (m5 _ _ (bag_ne hb3 hp4) h4) esz ?_
      have sm5 : Same H H5 := Same.mv (sm3.trans s4) hb00 m5
      walk_at "go"
      refine ⟨b, sz, rfl, by omega, by omega, hb5, fun H6 d6 h60 h61 m6 hb6 => ?_⟩
      walk_at "go"
      refine ⟨b, sz, rfl, by omega, by omega, hb6, fun H7 d7 h70 h71 m7 hb7 => ?_⟩
      have sm7 : Same H H7 := Same.mv (Same.mv sm5 hb00 m6) hb00 m7
      walk_at "go"
      obtain ⟨n, en⟩ : ∃ n : Nat, 1 + d6 = (n : Int) := ⟨(1 + d6).toNat, by omega⟩
      rw [en]
      refine ⟨b, g, 1 + d7, (n : Int), rfl, hgr, by omega, by omega, by omega, by omega, hb7, fun H8 v8 t h8 ht8 hr8 m8 hb8 => ?_⟩
      rw [Int.toNat_natCast] at hr8
      have sm8 : Same H H8 := Same.mv sm7 hb00 m8
      have htl : t.length ≤ 9 := by omega
      have htp : 0 < t.length := by omega
      obtain ⟨pv, xv, rfl, hpv, hlv, hav⟩ := sqv_acc h8
      walk_at "go"
      refine w_slX hpv fun q9 H9 s9 h9 => ?_
      rw [show (1 : Int) = ((1 : Nat) : Int) from rfl, cut_take] at h9
      walk_at "go"
      refine w_catX (s9 _ _ hpv) h9 (by rw [List.length_take]; omega) fun q10 H10 s10 h10 => ?_
      walk_at "go"
      refine ⟨_, _, rfl, .inr (SqT.of h10), fun L11 hL11 => ?_⟩
      have s11 := same_upd (o := HO.lst (xv ++ xv.take 1)) hL11
      have h11 : (upd H10 L11 (.lst (xv ++ xv.take 1))) L11 = some (.lst (xv ++ xv.take 1)) := upd_same
      generalize upd H10 L11 (.lst (xv ++ xv.take 1)) = H11 at s11 h11 ⊢
      have s811 := s9.trans (s10.trans s11)
      have hb11 := hb8.same s811
      have nL : L11 ≠ b := bag_ne (hb8.same (s9.trans s10)) hL11
      have sm11 := sm8.trans s811
      walk_at "go"
      refine ⟨b, L11, _, rfl, hb11, h11, nL, by rw [List.length_append, List.length_take]; omega, fun q12 H12 ys m12 hb12 h12 hq12 hyl hym => ?_⟩
      have sm12 : Same H H12 := Same.mv sm11 hb00 m12
      walk_at "go"
      refine ⟨_, _, rfl, .inl ⟨SqL.of h12, fun q13 hq13 => ?_⟩⟩
      have s13 := same_upd (o := HO.tup ys) hq13
      have h13 : (upd H12 q13 (.tup ys)) q13 = some (.tup ys) := upd_same
      generalize upd H12 q13 (.tup ys) = H13 at s13 h13 ⊢
      have kt813 : Kt H8 H13 := (Kt.of s811).trans ((m12.kt hb11).trans (Kt.of s13))
      have sm13 := sm12.trans s13
      have hav13 : Acc RowV H13 xv t t.length := hav.mono fun x a h => RowV.kt h kt813
      have hym' : ∀ y ∈ ys, y ∈ xv := fun y hy => by
        rcases List.mem_append.mp ((hym y).mp hy) with z | z
        · exact z
        · exact List.mem_of_mem_take z
      obtain ⟨u, hu1, hu2, hu3, hu4⟩ := tab_mem hav13 hym'
      have hu5 : ∀ r ∈ t, r ∈ u := fun r hr => by
        obtain ⟨j, hj⟩ := List.getElem?_of_mem hr
        have hjl := (List.getElem?_eq_some_iff.mp hj).1
        have gx : xv[j]? = some (xv[j]'(by omega)) := List.getElem?_eq_getElem _
        exact hu4 _ r ((hym _).mpr (List.mem_append_left _ (List.mem_of_getElem? gx))) (hav13.2 j _ _ gx hj)
      have hul : u.length ≤ 10 := by
        rw [hu2, hyl, List.length_append, List.length_take]
        omega
      have hru : ∀ r ∈ u, r.length = n ∧ ∀ a ∈ r, NG g 9 a ∧ TN g 40 a := fun r hr => hr8 r (hu3 r hr)
      have htv13 : TabV H13 (.ref pv) t := acc_sqv (kt813 _ _ hpv) hav13
      have htu13 : TabV H13 (.ref q13) u := acc_sqv h13 hu1
      walk_at "go"
      refine ⟨g, .ref pv, t, n, rfl, hgr, htv13, hr8, by omega, by omega, fun H14 s14 => ?_⟩
      walk_at "go"
      refine iteF ?_
      walk_at "go"
      refine ⟨g, .ref q13, u, n, rfl, hgr, TabV.kt htu13 (Kt.of s14), hru, by omega, hul, fun H15 s15 => ?_⟩
      walk_at "go"
      refine iteF ?_
      walk_at "go"
      refine w_new (by simp) fun p16 H16 hp16 s16 h16 => ?_
      walk_at "go"
      refine ⟨g, .ref p16, [], n, rfl, hgr, acc_sqv h16 Acc.nil, fun r hr => (by cases hr), by omega, by decide, fun H17 s17 => ?_⟩
      walk_at "go"
      refine iteF ?_
      obtain ⟨F', R, ⟨W⟩⟩ := gv_any hg
      have s1317 := s14.trans (s15.trans (s16.trans s17))
      have hng : g = 0 → ∀ r ∈ t, ∀ a ∈ r, NG 0 9 a := fun e r hr a ha => by
        subst e
        exact ((hr8 r hr).2 a ha).1
      have hT40 : ∀ r ∈ t, r.length = n ∧ ∀ a ∈ r, TN g 40 a := fun r hr => ⟨(hr8 r hr).1, fun a ha => ((hr8 r hr).2 a ha).2⟩
      walk_at "go"
      refine ⟨g, .ref pv, t, n, 300, 40, AA, F', R, W, rfl, hg, TabV.kt htv13 (Kt.of s1317), hT40, by decide, by decide, by omega, by omega, fun e => ⟨fun r hr => (ng_wr (hng e r hr)).2, by decide, aa_rows (by omega)⟩, by decide, by decide, fun v18 H18 T s18 h18 hL18 hw18 => ?_⟩
      have s1318 := s1317.trans s18
      obtain ⟨hh, hN⟩ := hL18.ls.num hg (by decide)
      have hTn := hN.le
      walk_at "go"
      refine ⟨g, .ref q13, u, n, 300, 40, AA, F', R, W, rfl, hg, TabV.kt htu13 (Kt.of s1318), fun r hr => hT40 r (hu3 r hr), by decide, by decide, by omega, by omega, fun e => ⟨fun r hr => (ng_wr (hng e r (hu3 r hr))).2, by decide, aa_rows hul⟩, by decide, by decide, fun v19 H19 T19 s19 h19 hL19 _ => ?_⟩
      have e19 : T = T19 := hL18.uniq hg hL19 (fun r hr => InS.mem (List.mem_map.mpr ⟨r, hu5 r hr, rfl⟩)) (fun r hr => InS.mem (List.mem_map.mpr ⟨r, hu3 r hr, rfl⟩))
      refine w_neTab (TabV.kt h18 (Kt.of s19)) h19 e19 ?_
      walk_at "go"
      refine ⟨g, v18, T, n, 2800, 300, 2 ^ 300, F', R, W, rfl, hg, TabV.kt h18 (Kt.of s19), hL18.row, by decide, by decide, by omega, by omega, fun e => ⟨hw18 e, by decide +kernel, aa_due (by omega)⟩, by decide, by decide, fun v20 H20 T20 s20 h20 hL20 _ => ?_⟩
      have e20 : T = T20 := hL18.uniq hg hL20 hL18.s2 hL18.s1
      refine w_neTab (TabV.kt h18 (Kt.of (s19.trans s20))) h20 e20 ?_
      walk_at "go"
      exact ⟨⟨_, _, _, _, _, _, _, _, rfl⟩, sm13.trans (s1318.trans (s19.trans s20))⟩
    · obtain ⟨⟨y1, y2, y3, y4, y5, y6, y7, y8, rfl⟩, sm⟩ := hP
      walk_at "go"
      refine w_new (by simp) fun a1 H1 ha1 s1 h1 => ?_
      walk_at "go"
      refine w_new (by simp) fun a2 H2 ha2 s2 h2 => ?_
      walk_at "go"
      refine w_new (by simp) fun a3 H3 ha3 s3 h3 => ?_
      walk_at "go"
      refine w_new (by simp) fun a4 H4 ha4 s4 h4 => ?_
      walk_at "go"
      refine w_new (by simp) fun a5 H5 ha5 s5 h5 => ?_
      walk_at "go"
      have n1 : NumV H5 (.ref a1) (1, 1) := ⟨a1, rfl, s5 _ _ (s4 _ _ (s3 _ _ (s2 _ _ h1)))⟩
      have n3 : NumV H5 (.ref a3) (2, 1) := ⟨a3, rfl, s5 _ _ (s4 _ _ h3)⟩
      have r2 : RowV H5 (.ref a2) [(1, 1)] := acc_sqv (s5 _ _ (s4 _ _ (s3 _ _ h2))) (acc_one n1)
      have r4 : RowV H5 (.ref a4) [(2, 1)] := acc_sqv (s5 _ _ h4) (acc_one n3)
      have t5 : TabV H5 (.ref a5) [[(1, 1)], [(2, 1)]] := acc_sqv h5 (acc_cat (acc_one r2) (acc_one r4))
      refine ⟨0, .ref a5, [[(1, 1)], [(2, 1)]], 1, 300, 40, AA, Rat, _, gvQ, rfl, .inl rfl, t5, fun r hr => ?_, by simp, by decide, by decide, by decide, fun _ => ⟨ng_bes fun r hr a ha => ?_, by decide, aa_rows (by decide)⟩, by decide, by decide, fun v6 H6 Z B s6 h6 hZ hB hBZ hlin => ?_⟩
      · rcases List.mem_cons.mp hr with rfl | hr
        · exact ⟨rfl, fun a ha => by rw [List.mem_singleton.mp ha]; exact (tn_one (.inl rfl)).mono (by decide)⟩
        · rw [List.mem_singleton.mp hr]
          exact ⟨rfl, fun a ha => by rw [List.mem_singleton.mp ha]; exact red2.mono (by decide)⟩
      · rcases List.mem_cons.mp hr with rfl | hr
        · rw [List.mem_singleton.mp ha]
          exact ⟨by decide, by decide, by decide, .inl rfl⟩
        · rw [List.mem_singleton.mp hr] at ha
          rw [List.mem_singleton.mp ha]
          exact ⟨by decide, by decide, by decide, .inl rfl⟩
      · have eZ := two_noughts (by decide) hZ hB hBZ hlin
        walk_at "go"
        refine w_new (by simp) fun b1 H7 hb1 s7 h7 => ?_
        walk_at "go"
        refine w_new (by simp) fun b2 H8 hb2 s8 h8 => ?_
        walk_at "go"
        refine w_new (by simp) fun b3 H9 hb3 s9 h9 => ?_
        walk_at "go"
        refine w_new (by simp) fun b4 H10 hb4 s10 h10 => ?_
        have m1 : NumV H10 (.ref b1) (1, 1) := ⟨b1, rfl, s10 _ _ (s9 _ _ (s8 _ _ h7))⟩
        have m2 : NumV H10 (.ref b2) (-1, 2) := ⟨b2, rfl, s10 _ _ (s9 _ _ h8)⟩
        have r3 : RowV H10 (.ref b3) [(1, 1), (-1, 2)] := acc_sqv (s10 _ _ h9) (acc_cat (acc_one m1) (acc_one m2))
        have t4 : TabV H10 (.ref b4) [[(1, 1), (-1, 2)]] := acc_sqv h10 (acc_one r3)
        refine w_eqTab (TabV.kt h6 (Kt.of (s7.trans (s8.trans (s9.trans s10))))) t4 eZ ?_
        exact q _

def d_common_divisor : He.DefD := ⟨("common_divisor", none), "common_divisor", "common_divisor", defArgs (topS 1), defBody (topS 1), defScope (topS 1), [], []⟩
def d_lowest : He.DefD := ⟨("lowest", none), "lowest", "lowest", defArgs (topS 3), defBody (topS 3), defScope (topS 3), [], []⟩
def d_wheel_back : He.DefD := ⟨("wheel_back", none), "wheel_back", "wheel_back", defArgs (topS 4), defBody (topS 4), defScope (topS 4), [], []⟩
def d_whole_row : He.DefD := ⟨("whole_row", none), "whole_row", "whole_row", defArgs (topS 6), defBody (topS 6), defScope (topS 6), [], []⟩
def d_head_place : He.DefD := ⟨("head_place", none), "head_place", "head_place", defArgs (topS 7), defBody (topS 7), defScope (topS 7), [], []⟩
def d_nought_rows : He.DefD := ⟨("nought_rows", none), "nought_rows", "nought_rows", defArgs (topS 8), defBody (topS 8), defScope (topS 8), [], []⟩
def d_beside_ones : He.DefD := ⟨("beside_ones", none), "beside_ones", "beside_ones", defArgs (topS 9), defBody (topS 9), defScope (topS 9), [], []⟩
def d_table_of_ones : He.DefD := ⟨("table_of_ones", none), "table_of_ones", "table_of_ones", defArgs (topS 10), defBody (topS 10), defScope (topS 10), [], []⟩
def d_is_all_nought : He.DefD := ⟨("is_all_nought", none), "is_all_nought", "is_all_nought", defArgs (topS 11), defBody (topS 11), defScope (topS 11), [], []⟩
def d_least_rows : He.DefD := ⟨("least_rows", none), "least_rows", "least_rows", defArgs (topS 12), defBody (topS 12), defScope (topS 12), [], []⟩
def d_least_wholes : He.DefD := ⟨("least_wholes", none), "least_wholes", "least_wholes", defArgs (topS 13), defBody (topS 13), defScope (topS 13), [], []⟩
def d_cleared : He.DefD := ⟨("cleared", none), "cleared", "cleared", defArgs (topS 14), defBody (topS 14), defScope (topS 14), [], []⟩
def d_plain : He.DefD := ⟨("plain", none), "plain", "plain", defArgs (topS 15), defBody (topS 15), defScope (topS 15), [], []⟩
def d_headed : He.DefD := ⟨("headed", none), "headed", "headed", defArgs (topS 16), defBody (topS 16), defScope (topS 16), [], []⟩
def d__law_is_row : He.DefD := ⟨("_law_is_row", none), "_law_is_row", "_law_is_row", defArgs (topS 18), defBody (topS 18), defScope (topS 18), [], []⟩
def d__law_is_number : He.DefD := ⟨("_law_is_number", none), "_law_is_number", "_law_is_number", defArgs (topS 19), defBody (topS 19), defScope (topS 19), [], []⟩
def d__law_is_whole : He.DefD := ⟨("_law_is_whole", none), "_law_is_whole", "_law_is_whole", defArgs (topS 20), defBody (topS 20), defScope (topS 20), [], []⟩
def d__law_shared : He.DefD := ⟨("_law_shared", none), "_law_shared", "_law_shared", defArgs (topS 21), defBody (topS 21), defScope (topS 21), [], []⟩
def d__law_least : He.DefD := ⟨("_law_least", none), "_law_least", "_law_least", defArgs (topS 22), defBody (topS 22), defScope (topS 22), [], []⟩
def d__law_scaled : He.DefD := ⟨("_law_scaled", none), "_law_scaled", "_law_scaled", defArgs (topS 23), defBody (topS 23), defScope (topS 23), [], []⟩
def d__law_times : He.DefD := ⟨("_law_times", none), "_law_times", "_law_times", defArgs (topS 24), defBody (topS 24), defScope (topS 24), [], []⟩
def d__law_low : He.DefD := ⟨("_law_low", none), "_law_low", "_law_low", defArgs (topS 25), defBody (topS 25), defScope (topS 25), [], []⟩
def d__law_over : He.DefD := ⟨("_law_over", none), "_law_over", "_law_over", defArgs (topS 26), defBody (topS 26), defScope (topS 26), [], []⟩
def d__law_added : He.DefD := ⟨("_law_added", none), "_law_added", "_law_added", defArgs (topS 27), defBody (topS 27), defScope (topS 27), [], []⟩
def d__law_plus : He.DefD := ⟨("_law_plus", none), "_law_plus", "_law_plus", defArgs (topS 28), defBody (topS 28), defScope (topS 28), [], []⟩
def d__law_minus : He.DefD := ⟨("_law_minus", none), "_law_minus", "_law_minus", defArgs (topS 29), defBody (topS 29), defScope (topS 29), [], []⟩
def d__law_through : He.DefD := ⟨("_law_through", none), "_law_through", "_law_through", defArgs (topS 30), defBody (topS 30), defScope (topS 30), [], []⟩
def d__law_bag : He.DefD := ⟨("_law_bag", none), "_law_bag", "_law_bag", defArgs (topS 31), defBody (topS 31), defScope (topS 31), [], []⟩
def d__law_ground : He.DefD := ⟨("_law_ground", none), "_law_ground", "_law_ground", defArgs (topS 32), defBody (topS 32), defScope (topS 32), [], []⟩
def d__law_take : He.DefD := ⟨("_law_take", none), "_law_take", "_law_take", defArgs (topS 33), defBody (topS 33), defScope (topS 33), [], []⟩
def d__law_rows : He.DefD := ⟨("_law_rows", none), "_law_rows", "_law_rows", defArgs (topS 34), defBody (topS 34), defScope (topS 34), [], []⟩
def d__law_row : He.DefD := ⟨("_law_row", none), "_law_row", "_law_row", defArgs (topS 35), defBody (topS 35), defScope (topS 35), [], []⟩
def d__law_number : He.DefD := ⟨("_law_number", none), "_law_number", "_law_number", defArgs (topS 36), defBody (topS 36), defScope (topS 36), [], []⟩
def d__law_mixed : He.DefD := ⟨("_law_mixed", none), "_law_mixed", "_law_mixed", defArgs (topS 37), defBody (topS 37), defScope (topS 37), [], []⟩
def d__law_head : He.DefD := ⟨("_law_head", none), "_law_head", "_law_head", defArgs (topS 38), defBody (topS 38), defScope (topS 38), [], []⟩
def d__law_are_least : He.DefD := ⟨("_law_are_least", none), "_law_are_least", "_law_are_least", defArgs (topS 39), defBody (topS 39), defScope (topS 39), [], []⟩
def d__law_is_told : He.DefD := ⟨("_law_is_told", none), "_law_is_told", "_law_is_told", defArgs (topS 40), defBody (topS 40), defScope (topS 40), [], []⟩
def d_law : He.DefD := ⟨("law", none), "law", "law", defArgs (topS 41), defBody (topS 41), defScope (topS 41), [], []⟩
def fn : List He.DefD := [d_common_divisor, d_lowest, d_wheel_back, d_whole_row, d_head_place, d_nought_rows, d_beside_ones, d_table_of_ones, d_is_all_nought, d_least_rows, d_least_wholes, d_cleared, d_plain, d_headed, d__law_is_row, d__law_is_number, d__law_is_whole, d__law_shared, d__law_least, d__law_scaled, d__law_times, d__law_low, d__law_over, d__law_added, d__law_plus, d__law_minus, d__law_through, d__law_bag, d__law_ground, d__law_take, d__law_rows, d__law_row, d__law_number, d__law_mixed, d__law_head, d__law_are_least, d__law_is_told, d_law]
def fa : List He.Fa := [.glo "common_divisor", .glo "lowest", .glo "wheel_back", .glo "whole_row", .glo "head_place", .glo "nought_rows", .glo "beside_ones", .glo "table_of_ones", .glo "is_all_nought", .glo "least_rows", .glo "least_wholes", .glo "cleared", .glo "plain", .glo "headed", .glo "_law_is_row", .glo "_law_is_number", .glo "_law_is_whole", .glo "_law_shared", .glo "_law_least", .glo "_law_scaled", .glo "_law_times", .glo "_law_low", .glo "_law_over", .glo "_law_added", .glo "_law_plus", .glo "_law_minus", .glo "_law_through", .glo "_law_bag", .glo "_law_ground", .glo "_law_take", .glo "_law_rows", .glo "_law_row", .glo "_law_number", .glo "_law_mixed", .glo "_law_head", .glo "_law_are_least", .glo "_law_is_told", .glo "law", .free "abs", .free "range", .free "len", .free "tuple", .free "zip", .free "all", .free "isinstance", .free "int", .free "bool", .free "list", .free "enumerate", .free "sorted", .free "set", .free "max", .free "min"]
def more (M : PySem.W.Frag) : Bool := true
abbrev R : PySem.W.OpenRow := PySem.W.OpenLaw.row PySem.Challenge.rw_fewmirrors_k06_least_rows
def seen (M : PySem.W.Frag) : He.AlD × Bool := (He.obsD fa fn M, more M)
def seenG (gt : Addr → Option Obj) : He.AlD × Bool := seen (He.frG gt (He.asD gt 4))
def hk : PySem.W.Hook where
  α := He.AlD × Bool
  obs := fun sh => seenG sh.heap.get?
  val := fun _ => (He.valD fn, true)
  says := fun _ hp => ∃ M : PySem.W.Frag, M.In hp ∧ seen M = (He.valD fn, true)
  of := fun _ _ eq => ⟨_, He.frG_in, eq⟩
  keeps := fun _ _ _ ⟨M, inM, eq⟩ kp => ⟨M, PySem.W.Frag.In.keeps inM kp, eq⟩
def ob (s : PySem.W.SharedT) : He.AlD × Bool := seenG (HandSHeadRun.getT s)
theorem ob_eq (s : PySem.W.SharedT) : ob s = hk.obs s.abs := by
  have eq : HandSHeadRun.getT s = s.abs.heap.get? := funext (HandSHeadRun.getT_eq s)
  unfold ob
  rw [eq]
  rfl
def loose : List PySem.Str := (["common_divisor", "lowest", "wheel_back", "whole_row", "head_place", "nought_rows", "beside_ones", "table_of_ones", "is_all_nought", "least_rows", "least_wholes", "cleared", "plain", "headed", "_law_is_row", "_law_is_number", "_law_is_whole", "_law_shared", "_law_least", "_law_scaled"] : List PySem.Str) ++ (["_law_times", "_law_low", "_law_over", "_law_added", "_law_plus", "_law_minus", "_law_through", "_law_bag", "_law_ground", "_law_take", "_law_rows", "_law_row", "_law_number", "_law_mixed", "_law_head", "_law_are_least", "_law_is_told"] : List PySem.Str)
theorem run (w : World) : HandSHeadRun.RunEq R (PySem.W.view R.prog [41]) hk ob 6000 loose w := by
  intro os
  kernel_rfl
theorem facts {P : Program} {w : World} {K : PySem.W.Frag} {h : Heap} {mg : Str → Option Value} {f : Addr} (X : K.In h) (G : h.Ns mainGlobals mg) (hfa : mg ("law" : Str) = some (.ref f)) (c2 : seen K = (He.valD fn, true)) :
    ∃ fd : FuncData, (∀ (s : Shared) (v : Value), BindsTo s fd ⟨[v], []⟩ [("_law_script", v)]) ∧ ∀ base : Heap, K.In base → base.Ns mainGlobals mg → FnOk P w K mg base CX0 9 f fd ["_law_script"] (sp_law K) := by
  have c : He.SaysD fa fn K := congrArg (fun z : He.AlD × Bool => z.1) c2
  have cm : more K = true := congrArg (fun z : He.AlD × Bool => z.2) c2
  obtain ⟨fd_common_divisor, F_common_divisor⟩ := c.def_ 0 (d := d_common_divisor) rfl
  have g_common_divisor := He.glo_ok X G (c.fact 0 (f := .glo "common_divisor") rfl)
  have b_common_divisor : Binds K fd_common_divisor ["a", "b"] [] := FunD.bindsN (ps := ["a", "b"]) F_common_divisor fun _ _ _ _ _ _ us hl => match us, hl with | [_, _], _ => rfl
  obtain ⟨fd_lowest, F_lowest⟩ := c.def_ 1 (d := d_lowest) rfl
  have g_lowest := He.glo_ok X G (c.fact 1 (f := .glo "lowest") rfl)
  have b_lowest : Binds K fd_lowest ["ground", "top", "bottom"] [] := FunD.bindsN (ps := ["ground", "top", "bottom"]) F_lowest fun _ _ _ _ _ _ us hl => match us, hl with | [_, _, _], _ => rfl
  obtain ⟨fd_wheel_back, F_wheel_back⟩ := c.def_ 2 (d := d_wheel_back) rfl
  have g_wheel_back := He.glo_ok X G (c.fact 2 (f := .glo "wheel_back") rfl)
  have b_wheel_back : Binds K fd_wheel_back ["wheel", "whole"] [] := FunD.bindsN (ps := ["wheel", "whole"]) F_wheel_back fun _ _ _ _ _ _ us hl => match us, hl with | [_, _], _ => rfl
  obtain ⟨fd_whole_row, F_whole_row⟩ := c.def_ 3 (d := d_whole_row) rfl
  have g_whole_row := He.glo_ok X G (c.fact 3 (f := .glo "whole_row") rfl)
  have b_whole_row : Binds K fd_whole_row ["row"] [] := FunD.bindsN (ps := ["row"]) F_whole_row fun _ _ _ _ _ _ us hl => match us, hl with | [_], _ => rfl
  obtain ⟨fd_head_place, F_head_place⟩ := c.def_ 4 (d := d_head_place) rfl
  have g_head_place := He.glo_ok X G (c.fact 4 (f := .glo "head_place") rfl)
  have b_head_place : Binds K fd_head_place ["rows", "begin", "at"] [] := FunD.bindsN (ps := ["rows", "begin", "at"]) F_head_place fun _ _ _ _ _ _ us hl => match us, hl with | [_, _, _], _ => rfl
  obtain ⟨fd_nought_rows, F_nought_rows⟩ := c.def_ 5 (d := d_nought_rows) rfl
  have g_nought_rows := He.glo_ok X G (c.fact 5 (f := .glo "nought_rows") rfl)
  have b_nought_rows : Binds K fd_nought_rows ["ground", "table"] [] := FunD.bindsN (ps := ["ground", "table"]) F_nought_rows fun _ _ _ _ _ _ us hl => match us, hl with | [_, _], _ => rfl
  obtain ⟨fd_beside_ones, F_beside_ones⟩ := c.def_ 6 (d := d_beside_ones) rfl
  have g_beside_ones := He.glo_ok X G (c.fact 6 (f := .glo "beside_ones") rfl)
  have b_beside_ones : Binds K fd_beside_ones ["ground", "table"] [] := FunD.bindsN (ps := ["ground", "table"]) F_beside_ones fun _ _ _ _ _ _ us hl => match us, hl with | [_, _], _ => rfl
  obtain ⟨fd_table_of_ones, F_table_of_ones⟩ := c.def_ 7 (d := d_table_of_ones) rfl
  have g_table_of_ones := He.glo_ok X G (c.fact 7 (f := .glo "table_of_ones") rfl)
  have b_table_of_ones : Binds K fd_table_of_ones ["many"] [] := FunD.bindsN (ps := ["many"]) F_table_of_ones fun _ _ _ _ _ _ us hl => match us, hl with | [_], _ => rfl
  obtain ⟨fd_is_all_nought, F_is_all_nought⟩ := c.def_ 8 (d := d_is_all_nought) rfl
  have g_is_all_nought := He.glo_ok X G (c.fact 8 (f := .glo "is_all_nought") rfl)
  have b_is_all_nought : Binds K fd_is_all_nought ["row"] [] := FunD.bindsN (ps := ["row"]) F_is_all_nought fun _ _ _ _ _ _ us hl => match us, hl with | [_], _ => rfl
  obtain ⟨fd_least_rows, F_least_rows⟩ := c.def_ 9 (d := d_least_rows) rfl
  have g_least_rows := He.glo_ok X G (c.fact 9 (f := .glo "least_rows") rfl)
  have b_least_rows : Binds K fd_least_rows ["ground", "rows"] [] := FunD.bindsN (ps := ["ground", "rows"]) F_least_rows fun _ _ _ _ _ _ us hl => match us, hl with | [_, _], _ => rfl
  obtain ⟨fd_least_wholes, F_least_wholes⟩ := c.def_ 10 (d := d_least_wholes) rfl
  have g_least_wholes := He.glo_ok X G (c.fact 10 (f := .glo "least_wholes") rfl)
  have b_least_wholes : Binds K fd_least_wholes ["ground", "rows"] [] := FunD.bindsN (ps := ["ground", "rows"]) F_least_wholes fun _ _ _ _ _ _ us hl => match us, hl with | [_, _], _ => rfl
  obtain ⟨fd_cleared, F_cleared⟩ := c.def_ 11 (d := d_cleared) rfl
  have g_cleared := He.glo_ok X G (c.fact 11 (f := .glo "cleared") rfl)
  have b_cleared : Binds K fd_cleared ["ground", "row", "head", "at"] [] := FunD.bindsN (ps := ["ground", "row", "head", "at"]) F_cleared fun _ _ _ _ _ _ us hl => match us, hl with | [_, _, _, _], _ => rfl
  obtain ⟨fd_plain, F_plain⟩ := c.def_ 12 (d := d_plain) rfl
  have g_plain := He.glo_ok X G (c.fact 12 (f := .glo "plain") rfl)
  have b_plain : Binds K fd_plain ["ground", "row"] [] := FunD.bindsN (ps := ["ground", "row"]) F_plain fun _ _ _ _ _ _ us hl => match us, hl with | [_, _], _ => rfl
  obtain ⟨fd_headed, F_headed⟩ := c.def_ 13 (d := d_headed) rfl
  have g_headed := He.glo_ok X G (c.fact 13 (f := .glo "headed") rfl)
  have b_headed : Binds K fd_headed ["ground", "row"] [] := FunD.bindsN (ps := ["ground", "row"]) F_headed fun _ _ _ _ _ _ us hl => match us, hl with | [_, _], _ => rfl
  obtain ⟨fd__law_is_row, F__law_is_row⟩ := c.def_ 14 (d := d__law_is_row) rfl
  have g__law_is_row := He.glo_ok X G (c.fact 14 (f := .glo "_law_is_row") rfl)
  have b__law_is_row : Binds K fd__law_is_row ["_law_g", "_law_thing", "_law_many"] [] := FunD.bindsN (ps := ["_law_g", "_law_thing", "_law_many"]) F__law_is_row fun _ _ _ _ _ _ us hl => match us, hl with | [_, _, _], _ => rfl
  obtain ⟨fd__law_is_number, F__law_is_number⟩ := c.def_ 15 (d := d__law_is_number) rfl
  have g__law_is_number := He.glo_ok X G (c.fact 15 (f := .glo "_law_is_number") rfl)
  have b__law_is_number : Binds K fd__law_is_number ["_law_g", "_law_thing"] [] := FunD.bindsN (ps := ["_law_g", "_law_thing"]) F__law_is_number fun _ _ _ _ _ _ us hl => match us, hl with | [_, _], _ => rfl
  obtain ⟨fd__law_is_whole, F__law_is_whole⟩ := c.def_ 16 (d := d__law_is_whole) rfl
  have g__law_is_whole := He.glo_ok X G (c.fact 16 (f := .glo "_law_is_whole") rfl)
  have b__law_is_whole : Binds K fd__law_is_whole ["_law_thing"] [] := FunD.bindsN (ps := ["_law_thing"]) F__law_is_whole fun _ _ _ _ _ _ us hl => match us, hl with | [_], _ => rfl
  obtain ⟨fd__law_shared, F__law_shared⟩ := c.def_ 17 (d := d__law_shared) rfl
  have g__law_shared := He.glo_ok X G (c.fact 17 (f := .glo "_law_shared") rfl)
  have b__law_shared : Binds K fd__law_shared ["_law_one", "_law_other"] [] := FunD.bindsN (ps := ["_law_one", "_law_other"]) F__law_shared fun _ _ _ _ _ _ us hl => match us, hl with | [_, _], _ => rfl
  obtain ⟨fd__law_least, F__law_least⟩ := c.def_ 18 (d := d__law_least) rfl
  have g__law_least := He.glo_ok X G (c.fact 18 (f := .glo "_law_least") rfl)
  have b__law_least : Binds K fd__law_least ["_law_g", "_law_rows_here"] [] := FunD.bindsN (ps := ["_law_g", "_law_rows_here"]) F__law_least fun _ _ _ _ _ _ us hl => match us, hl with | [_, _], _ => rfl
  obtain ⟨fd__law_scaled, F__law_scaled⟩ := c.def_ 19 (d := d__law_scaled) rfl
  have g__law_scaled := He.glo_ok X G (c.fact 19 (f := .glo "_law_scaled") rfl)
  have b__law_scaled : Binds K fd__law_scaled ["_law_g", "_law_row_here", "_law_x"] [] := FunD.bindsN (ps := ["_law_g", "_law_row_here", "_law_x"]) F__law_scaled fun _ _ _ _ _ _ us hl => match us, hl with | [_, _, _], _ => rfl
  obtain ⟨fd__law_times, F__law_times⟩ := c.def_ 20 (d := d__law_times) rfl
  have g__law_times := He.glo_ok X G (c.fact 20 (f := .glo "_law_times") rfl)
  have b__law_times : Binds K fd__law_times ["_law_g", "_law_x", "_law_y"] [] := FunD.bindsN (ps := ["_law_g", "_law_x", "_law_y"]) F__law_times fun _ _ _ _ _ _ us hl => match us, hl with | [_, _, _], _ => rfl
  obtain ⟨fd__law_low, F__law_low⟩ := c.def_ 21 (d := d__law_low) rfl
  have g__law_low := He.glo_ok X G (c.fact 21 (f := .glo "_law_low") rfl)
  have b__law_low : Binds K fd__law_low ["_law_g", "_law_up", "_law_down"] [] := FunD.bindsN (ps := ["_law_g", "_law_up", "_law_down"]) F__law_low fun _ _ _ _ _ _ us hl => match us, hl with | [_, _, _], _ => rfl
  obtain ⟨fd__law_over, F__law_over⟩ := c.def_ 22 (d := d__law_over) rfl
  have g__law_over := He.glo_ok X G (c.fact 22 (f := .glo "_law_over") rfl)
  have b__law_over : Binds K fd__law_over ["_law_g", "_law_x", "_law_y"] [] := FunD.bindsN (ps := ["_law_g", "_law_x", "_law_y"]) F__law_over fun _ _ _ _ _ _ us hl => match us, hl with | [_, _, _], _ => rfl
  obtain ⟨fd__law_added, F__law_added⟩ := c.def_ 23 (d := d__law_added) rfl
  have g__law_added := He.glo_ok X G (c.fact 23 (f := .glo "_law_added") rfl)
  have b__law_added : Binds K fd__law_added ["_law_g", "_law_row_here", "_law_other"] [] := FunD.bindsN (ps := ["_law_g", "_law_row_here", "_law_other"]) F__law_added fun _ _ _ _ _ _ us hl => match us, hl with | [_, _, _], _ => rfl
  obtain ⟨fd__law_plus, F__law_plus⟩ := c.def_ 24 (d := d__law_plus) rfl
  have g__law_plus := He.glo_ok X G (c.fact 24 (f := .glo "_law_plus") rfl)
  have b__law_plus : Binds K fd__law_plus ["_law_g", "_law_x", "_law_y"] [] := FunD.bindsN (ps := ["_law_g", "_law_x", "_law_y"]) F__law_plus fun _ _ _ _ _ _ us hl => match us, hl with | [_, _, _], _ => rfl
  obtain ⟨fd__law_minus, F__law_minus⟩ := c.def_ 25 (d := d__law_minus) rfl
  have g__law_minus := He.glo_ok X G (c.fact 25 (f := .glo "_law_minus") rfl)
  have b__law_minus : Binds K fd__law_minus ["_law_g", "_law_x"] [] := FunD.bindsN (ps := ["_law_g", "_law_x"]) F__law_minus fun _ _ _ _ _ _ us hl => match us, hl with | [_, _], _ => rfl
  obtain ⟨fd__law_through, F__law_through⟩ := c.def_ 26 (d := d__law_through) rfl
  have g__law_through := He.glo_ok X G (c.fact 26 (f := .glo "_law_through") rfl)
  have b__law_through : Binds K fd__law_through ["_law_g", "_law_row_here", "_law_table"] [] := FunD.bindsN (ps := ["_law_g", "_law_row_here", "_law_table"]) F__law_through fun _ _ _ _ _ _ us hl => match us, hl with | [_, _, _], _ => rfl
  obtain ⟨fd__law_bag, F__law_bag⟩ := c.def_ 27 (d := d__law_bag) rfl
  have g__law_bag := He.glo_ok X G (c.fact 27 (f := .glo "_law_bag") rfl)
  have b__law_bag : Binds K fd__law_bag ["_law_script", "_law_at"] [] := FunD.bindsN (ps := ["_law_script", "_law_at"]) F__law_bag fun _ _ _ _ _ _ us hl => match us, hl with | [_, _], _ => rfl
  obtain ⟨fd__law_ground, F__law_ground⟩ := c.def_ 28 (d := d__law_ground) rfl
  have g__law_ground := He.glo_ok X G (c.fact 28 (f := .glo "_law_ground") rfl)
  have b__law_ground : Binds K fd__law_ground ["_law_bag_here"] [] := FunD.bindsN (ps := ["_law_bag_here"]) F__law_ground fun _ _ _ _ _ _ us hl => match us, hl with | [_], _ => rfl
  obtain ⟨fd__law_take, F__law_take⟩ := c.def_ 29 (d := d__law_take) rfl
  have g__law_take := He.glo_ok X G (c.fact 29 (f := .glo "_law_take") rfl)
  have b__law_take : Binds K fd__law_take ["_law_bag_here", "_law_many"] [] := FunD.bindsN (ps := ["_law_bag_here", "_law_many"]) F__law_take fun _ _ _ _ _ _ us hl => match us, hl with | [_, _], _ => rfl
  obtain ⟨fd__law_rows, F__law_rows⟩ := c.def_ 30 (d := d__law_rows) rfl
  have g__law_rows := He.glo_ok X G (c.fact 30 (f := .glo "_law_rows") rfl)
  have b__law_rows : Binds K fd__law_rows ["_law_bag_here", "_law_g", "_law_high", "_law_wide"] [] := FunD.bindsN (ps := ["_law_bag_here", "_law_g", "_law_high", "_law_wide"]) F__law_rows fun _ _ _ _ _ _ us hl => match us, hl with | [_, _, _, _], _ => rfl
  obtain ⟨fd__law_row, F__law_row⟩ := c.def_ 31 (d := d__law_row) rfl
  have g__law_row := He.glo_ok X G (c.fact 31 (f := .glo "_law_row") rfl)
  have b__law_row : Binds K fd__law_row ["_law_bag_here", "_law_g", "_law_many"] [] := FunD.bindsN (ps := ["_law_bag_here", "_law_g", "_law_many"]) F__law_row fun _ _ _ _ _ _ us hl => match us, hl with | [_, _, _], _ => rfl
  obtain ⟨fd__law_number, F__law_number⟩ := c.def_ 32 (d := d__law_number) rfl
  have g__law_number := He.glo_ok X G (c.fact 32 (f := .glo "_law_number") rfl)
  have b__law_number : Binds K fd__law_number ["_law_bag_here", "_law_g"] [] := FunD.bindsN (ps := ["_law_bag_here", "_law_g"]) F__law_number fun _ _ _ _ _ _ us hl => match us, hl with | [_, _], _ => rfl
  obtain ⟨fd__law_mixed, F__law_mixed⟩ := c.def_ 33 (d := d__law_mixed) rfl
  have g__law_mixed := He.glo_ok X G (c.fact 33 (f := .glo "_law_mixed") rfl)
  have b__law_mixed : Binds K fd__law_mixed ["_law_bag_here", "_law_row_here"] [] := FunD.bindsN (ps := ["_law_bag_here", "_law_row_here"]) F__law_mixed fun _ _ _ _ _ _ us hl => match us, hl with | [_, _], _ => rfl
  obtain ⟨fd__law_head, F__law_head⟩ := c.def_ 34 (d := d__law_head) rfl
  have g__law_head := He.glo_ok X G (c.fact 34 (f := .glo "_law_head") rfl)
  have b__law_head : Binds K fd__law_head ["_law_row_here"] [] := FunD.bindsN (ps := ["_law_row_here"]) F__law_head fun _ _ _ _ _ _ us hl => match us, hl with | [_], _ => rfl
  obtain ⟨fd__law_are_least, F__law_are_least⟩ := c.def_ 35 (d := d__law_are_least) rfl
  have g__law_are_least := He.glo_ok X G (c.fact 35 (f := .glo "_law_are_least") rfl)
  have b__law_are_least : Binds K fd__law_are_least ["_law_g", "_law_rows_here", "_law_wide"] [] := FunD.bindsN (ps := ["_law_g", "_law_rows_here", "_law_wide"]) F__law_are_least fun _ _ _ _ _ _ us hl => match us, hl with | [_, _, _], _ => rfl
  obtain ⟨fd__law_is_told, F__law_is_told⟩ := c.def_ 36 (d := d__law_is_told) rfl
  have g__law_is_told := He.glo_ok X G (c.fact 36 (f := .glo "_law_is_told") rfl)
  have b__law_is_told : Binds K fd__law_is_told ["_law_g", "_law_rows_here", "_law_wide"] [] := FunD.bindsN (ps := ["_law_g", "_law_rows_here", "_law_wide"]) F__law_is_told fun _ _ _ _ _ _ us hl => match us, hl with | [_, _, _], _ => rfl
  obtain ⟨fd_law, F_law⟩ := c.def_ 37 (d := d_law) rfl
  have g_law := He.glo_ok X G (c.fact 37 (f := .glo "law") rfl)
  have m_abs := He.free_ok X G (c.fact 38 (f := .free "abs") rfl)
  have m_range := He.free_ok X G (c.fact 39 (f := .free "range") rfl)
  have m_len := He.free_ok X G (c.fact 40 (f := .free "len") rfl)
  have m_tuple := He.free_ok X G (c.fact 41 (f := .free "tuple") rfl)
  have m_zip := He.free_ok X G (c.fact 42 (f := .free "zip") rfl)
  have m_all := He.free_ok X G (c.fact 43 (f := .free "all") rfl)
  have m_isinstance := He.free_ok X G (c.fact 44 (f := .free "isinstance") rfl)
  have m_int := He.free_ok X G (c.fact 45 (f := .free "int") rfl)
  have m_bool := He.free_ok X G (c.fact 46 (f := .free "bool") rfl)
  have m_list := He.free_ok X G (c.fact 47 (f := .free "list") rfl)
  have m_enumerate := He.free_ok X G (c.fact 48 (f := .free "enumerate") rfl)
  have m_sorted := He.free_ok X G (c.fact 49 (f := .free "sorted") rfl)
  have m_set := He.free_ok X G (c.fact 50 (f := .free "set") rfl)
  have m_max := He.free_ok X G (c.fact 51 (f := .free "max") rfl)
  have m_min := He.free_ok X G (c.fact 52 (f := .free "min") rfl)
  have e := hfa.symm.trans g_law
  cases e
  have b := FunD.bindsA (ps := ["_law_script"]) F_law fun _ _ _ _ _ _ us hl => match us, hl with | [_], _ => rfl
  refine ⟨fd_law, fun s v => b s [v] rfl, fun base _ _ => ?_⟩
  have G_common_divisor : FnOk P w K mg base CX0 1 _ fd_common_divisor ["a", "b"] (sp_common_divisor K) := ok_common_divisor F_common_divisor m_abs
  have G_wheel_back : FnOk P w K mg base CX0 1 _ fd_wheel_back ["wheel", "whole"] (sp_wheel_back K) := ok_wheel_back F_wheel_back
  have G_head_place : FnOk P w K mg base CX0 1 _ fd_head_place ["rows", "begin", "at"] (sp_head_place K) := ok_head_place F_head_place m_range m_len
  have G_table_of_ones : FnOk P w K mg base CX0 1 _ fd_table_of_ones ["many"] (sp_table_of_ones K) := ok_table_of_ones F_table_of_ones m_tuple m_range
  have G_is_all_nought : FnOk P w K mg base CX0 1 _ fd_is_all_nought ["row"] (sp_is_all_nought K) := ok_is_all_nought F_is_all_nought m_all
  have G__law_is_whole : FnOk P w K mg base CX0 1 _ fd__law_is_whole ["_law_thing"] (sp__law_is_whole K) := ok__law_is_whole F__law_is_whole m_isinstance m_int m_bool
  have G__law_shared : FnOk P w K mg base CX0 1 _ fd__law_shared ["_law_one", "_law_other"] (sp__law_shared K) := ok__law_shared F__law_shared m_abs
  have G__law_bag : FnOk P w K mg base CX0 1 _ fd__law_bag ["_law_script", "_law_at"] (sp__law_bag K) := ok__law_bag F__law_bag m_len m_abs
  have G__law_take : FnOk P w K mg base CX0 1 _ fd__law_take ["_law_bag_here", "_law_many"] (sp__law_take K) := ok__law_take F__law_take
  have G__law_head : FnOk P w K mg base CX0 1 _ fd__law_head ["_law_row_here"] (sp__law_head K) := ok__law_head F__law_head m_len
  have G_lowest : FnOk P w K mg base CX0 2 _ fd_lowest ["ground", "top", "bottom"] (sp_lowest K) := ok_lowest F_lowest F_common_divisor b_common_divisor g_common_divisor G_common_divisor F_wheel_back b_wheel_back g_wheel_back G_wheel_back
  have G_whole_row : FnOk P w K mg base CX0 2 _ fd_whole_row ["row"] (sp_whole_row K) := ok_whole_row F_whole_row F_common_divisor b_common_divisor g_common_divisor G_common_divisor
  have G_plain : FnOk P w K mg base CX0 2 _ fd_plain ["ground", "row"] (sp_plain K) := ok_plain F_plain F_common_divisor b_common_divisor g_common_divisor G_common_divisor
  have G__law_is_number : FnOk P w K mg base CX0 2 _ fd__law_is_number ["_law_g", "_law_thing"] (sp__law_is_number K) := ok__law_is_number F__law_is_number F__law_shared b__law_shared g__law_shared G__law_shared F__law_is_whole b__law_is_whole g__law_is_whole G__law_is_whole m_isinstance m_tuple m_len m_all
  have G__law_low : FnOk P w K mg base CX0 2 _ fd__law_low ["_law_g", "_law_up", "_law_down"] (sp__law_low K) := ok__law_low F__law_low F__law_shared b__law_shared g__law_shared G__law_shared m_range m_int
  have G__law_ground : FnOk P w K mg base CX0 2 _ fd__law_ground ["_law_bag_here"] (sp__law_ground K) := ok__law_ground F__law_ground F__law_take b__law_take g__law_take G__law_take
  have G__law_mixed : FnOk P w K mg base CX0 2 _ fd__law_mixed ["_law_bag_here", "_law_row_here"] (sp__law_mixed K) := ok__law_mixed F__law_mixed F__law_take b__law_take g__law_take G__law_take m_list m_len
  have G_cleared : FnOk P w K mg base CX0 3 _ fd_cleared ["ground", "row", "head", "at"] (sp_cleared K) := ok_cleared F_cleared F_plain b_plain g_plain G_plain m_zip
  have G_headed : FnOk P w K mg base CX0 3 _ fd_headed ["ground", "row"] (sp_headed K) := ok_headed F_headed F_lowest b_lowest g_lowest G_lowest m_tuple
  have G__law_is_row : FnOk P w K mg base CX0 3 _ fd__law_is_row ["_law_g", "_law_thing", "_law_many"] (sp__law_is_row K) := ok__law_is_row F__law_is_row F__law_is_number b__law_is_number g__law_is_number G__law_is_number m_isinstance m_tuple m_all m_len
  have G__law_times : FnOk P w K mg base CX0 3 _ fd__law_times ["_law_g", "_law_x", "_law_y"] (sp__law_times K) := ok__law_times F__law_times F__law_low b__law_low g__law_low G__law_low
  have G__law_over : FnOk P w K mg base CX0 3 _ fd__law_over ["_law_g", "_law_x", "_law_y"] (sp__law_over K) := ok__law_over F__law_over F__law_low b__law_low g__law_low G__law_low
  have G__law_plus : FnOk P w K mg base CX0 3 _ fd__law_plus ["_law_g", "_law_x", "_law_y"] (sp__law_plus K) := ok__law_plus F__law_plus F__law_low b__law_low g__law_low G__law_low
  have G__law_minus : FnOk P w K mg base CX0 3 _ fd__law_minus ["_law_g", "_law_x"] (sp__law_minus K) := ok__law_minus F__law_minus F__law_low b__law_low g__law_low G__law_low
  have G__law_number : FnOk P w K mg base CX0 3 _ fd__law_number ["_law_bag_here", "_law_g"] (sp__law_number K) := ok__law_number F__law_number F__law_low b__law_low g__law_low G__law_low F__law_take b__law_take g__law_take G__law_take
  have G_least_wholes : FnOk P w K mg base CX0 4 _ fd_least_wholes ["ground", "rows"] (sp_least_wholes K) := ok_least_wholes F_least_wholes F_head_place b_head_place g_head_place G_head_place F_cleared b_cleared g_cleared G_cleared m_range m_len
  have G__law_scaled : FnOk P w K mg base CX0 4 _ fd__law_scaled ["_law_g", "_law_row_here", "_law_x"] (sp__law_scaled K) := ok__law_scaled F__law_scaled F__law_times b__law_times g__law_times G__law_times m_tuple
  have G__law_added : FnOk P w K mg base CX0 4 _ fd__law_added ["_law_g", "_law_row_here", "_law_other"] (sp__law_added K) := ok__law_added F__law_added F__law_plus b__law_plus g__law_plus G__law_plus m_tuple m_zip
  have G__law_row : FnOk P w K mg base CX0 4 _ fd__law_row ["_law_bag_here", "_law_g", "_law_many"] (sp__law_row K) := ok__law_row F__law_row F__law_number b__law_number g__law_number G__law_number m_tuple m_range
  have G__law_are_least : FnOk P w K mg base CX0 4 _ fd__law_are_least ["_law_g", "_law_rows_here", "_law_wide"] (sp__law_are_least K) := ok__law_are_least F__law_are_least F__law_head b__law_head g__law_head G__law_head F__law_is_row b__law_is_row g__law_is_row G__law_is_row m_enumerate m_isinstance m_tuple m_all m_sorted m_len m_set
  have G_least_rows : FnOk P w K mg base CX0 5 _ fd_least_rows ["ground", "rows"] (sp_least_rows K) := ok_least_rows F_least_rows F_plain b_plain g_plain G_plain F_headed b_headed g_headed G_headed F_whole_row b_whole_row g_whole_row G_whole_row F_least_wholes b_least_wholes g_least_wholes G_least_wholes m_tuple
  have G__law_least : FnOk P w K mg base CX0 5 _ fd__law_least ["_law_g", "_law_rows_here"] (sp__law_least K) := ok__law_least F__law_least F__law_scaled b__law_scaled g__law_scaled G__law_scaled F__law_over b__law_over g__law_over G__law_over F__law_added b__law_added g__law_added G__law_added F__law_minus b__law_minus g__law_minus G__law_minus m_range m_tuple m_len
  have G__law_through : FnOk P w K mg base CX0 5 _ fd__law_through ["_law_g", "_law_row_here", "_law_table"] (sp__law_through K) := ok__law_through F__law_through F__law_added b__law_added g__law_added G__law_added F__law_scaled b__law_scaled g__law_scaled G__law_scaled m_tuple m_zip m_len
  have G__law_rows : FnOk P w K mg base CX0 5 _ fd__law_rows ["_law_bag_here", "_law_g", "_law_high", "_law_wide"] (sp__law_rows K) := ok__law_rows F__law_rows F__law_row b__law_row g__law_row G__law_row F__law_take b__law_take g__law_take G__law_take F__law_added b__law_added g__law_added G__law_added m_range m_tuple m_len
  have G_beside_ones : FnOk P w K mg base CX0 6 _ fd_beside_ones ["ground", "table"] (sp_beside_ones K) := ok_beside_ones F_beside_ones F_table_of_ones b_table_of_ones g_table_of_ones G_table_of_ones F_least_rows b_least_rows g_least_rows G_least_rows m_len m_tuple m_zip
  have G_nought_rows : FnOk P w K mg base CX0 7 _ fd_nought_rows ["ground", "table"] (sp_nought_rows K) := ok_nought_rows F_nought_rows F_beside_ones b_beside_ones g_beside_ones G_beside_ones F_is_all_nought b_is_all_nought g_is_all_nought G_is_all_nought m_len m_tuple
  have G__law_is_told : FnOk P w K mg base CX0 8 _ fd__law_is_told ["_law_g", "_law_rows_here", "_law_wide"] (sp__law_is_told K) := ok__law_is_told F__law_is_told F_least_rows b_least_rows g_least_rows G_least_rows F_nought_rows b_nought_rows g_nought_rows G_nought_rows F__law_are_least b__law_are_least g__law_are_least G__law_are_least F__law_least b__law_least g__law_least G__law_least F__law_through b__law_through g__law_through G__law_through m_all m_len m_tuple
  exact ok_law F_law F__law_bag b__law_bag g__law_bag G__law_bag F__law_ground b__law_ground g__law_ground G__law_ground F__law_rows b__law_rows g__law_rows G__law_rows F_least_rows b_least_rows g_least_rows G_least_rows F_nought_rows b_nought_rows g_nought_rows G_nought_rows F__law_take b__law_take g__law_take G__law_take F__law_mixed b__law_mixed g__law_mixed G__law_mixed F__law_is_told b__law_is_told g__law_is_told G__law_is_told m_range m_max m_tuple m_min m_len m_list

end Fm
open PySem PySem.W PySem.Calls PyProof.Rows
set_option maxHeartbeats 0 in
theorem PySem.Challenge.cw_fewmirrors_k06_least_rows_holds : PySem.Challenge.rw_fewmirrors_k06_least_rows.Holds := by
  w_on; o_law
  refine HandSHeadRun.head_any (r := OpenLaw.row PySem.Challenge.rw_fewmirrors_k06_least_rows) (q := view (OpenLaw.row PySem.Challenge.rw_fewmirrors_k06_least_rows).prog [41]) (H := Fm.hk) (ob := Fm.ob) (M := 6000) (loose := Fm.loose) (d := HandSHeadRun.topDef (OpenLaw.row PySem.Challenge.rw_fewmirrors_k06_least_rows).prog 41) (kwd := []) Fm.ob_eq
    (by kernel_rfl) (fun s => by kernel_rfl) Fm.run (by kernel_rfl) (by kernel_rfl) (by kernel_rfl) (by rfl) (by first | assumption | decide +kernel) (by decide +kernel) ⟨rfl, rfl, rfl, rfl, rfl, by decide +kernel⟩ ?hw ?hc
  case hw => w_witness2
  case hc =>
    refine L2.walk_ofE (l := PySem.Challenge.rw_fewmirrors_k06_least_rows) (n := 63) (k := 9) (x := "_law_script") (CX := L2.CX0) rfl (by decide) (by kernel_rfl) ⟨rfl, by decide, by decide⟩ ?F (fun _ _ _ _ z => z)
    intro w mg fa h Y G hmg0
    obtain ⟨K, KX, c⟩ := Y
    have hmg : mg ("law" : PySem.Str) = some (.ref fa) := by
      have e : (HandSHeadRun.topDef (OpenLaw.row PySem.Challenge.rw_fewmirrors_k06_least_rows).prog 41).name = ("law" : PySem.Str) := by kernel_rfl
      rw [← e]
      exact hmg0
    obtain ⟨fd, hb, hF⟩ := Fm.facts (P := (PySem.Challenge.rw_fewmirrors_k06_least_rows).prog) (w := w) KX G hmg c
    exact ⟨K, fd, Fm.sp_law K, KX, hb, fun H a ns hl _ hS => ⟨a, ns, rfl, hS, fun _ => rfl⟩, hF⟩
